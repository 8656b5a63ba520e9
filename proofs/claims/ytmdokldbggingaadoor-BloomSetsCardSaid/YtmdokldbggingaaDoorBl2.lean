/-
  The program's number, Clone and bitsOf: by contracts.
-/
import Derived.Test.YtmdokldbggingaaDoorBl1
import Derived.Test.YtmdokldbggingaaDoorBlmL
import Derived.Test.YtmdokldbggingaaDoorTops
namespace Go.Proofs.YtmdokldbggingaaDoor
open Go.RowKit

theorem getL_of {l : List UInt8} {k : Nat} (h : k < l.length) : ∃ x, l[k]? = some x := ⟨_, List.getElem?_eq_getElem h⟩
theorem numL_app : ∀ a b : List UInt8, numL (a ++ b) = numL a + 256 ^ a.length * numL b
  | [], b => by simp [numL]
  | x :: a, b => by
    rw [List.cons_append, numL, numL, numL_app a b, List.length_cons, Nat.pow_succ, Nat.mul_add, ← Nat.mul_assoc, Nat.mul_comm 256 (256 ^ a.length)]
    omega
theorem numL_snoc {l : List UInt8} {k : Nat} {x : UInt8} (h : l[k]? = some x) : numL (l.take (k + 1)) = numL (l.take k) + x.toNat * 2 ^ (8 * k) := by
  have hk := (List.getElem?_eq_some_iff.1 h).1
  rw [List.take_add_one, h, numL_app]
  simp only [Option.toList, numL, Nat.mul_zero, Nat.add_zero]
  rw [List.length_take, Nat.min_eq_left (by omega), Nat.pow_mul, Nat.mul_comm]
theorem u64_or (x c : Nat) (hx : x < 2 ^ 64) (hc : c < 2 ^ 64) : bits .or .u64 (x : Int) (c : Int) = ((x ||| c : Nat) : Int) := by
  unfold bits
  show IntKind.u64.wrap ((BitVec.ofInt 64 _ ||| BitVec.ofInt 64 _).toNat : Int) = _
  rw [BitVec.toNat_or, BitVec.toNat_ofInt, BitVec.toNat_ofInt, IntKind.wrap_u64]
  have e1 : ((x : Int) % ((2 ^ 64 : Nat) : Int)).toNat = x := by omega
  have e2 : ((c : Int) % ((2 ^ 64 : Nat) : Int)).toNat = c := by omega
  rw [e1, e2]
  have := Nat.or_lt_two_pow hx hc
  omega
theorem or_step (N x k : Nat) (hN : N < 2 ^ (8 * k)) (hx : x < 256) (hk : k < 8) : bits .or .u64 (N : Int) (IntKind.u64.wrap (IntKind.u64.wrap (x : Int) * 2 ^ (8 * k))) = ((N + x * 2 ^ (8 * k) : Nat) : Int) := by
  have hp : 2 ^ (8 * k) ≤ 2 ^ 56 := Nat.pow_le_pow_right (by decide) (by omega)
  have h8 : x * 2 ^ (8 * k) < 2 ^ 64 := by
    calc x * 2 ^ (8 * k) < 256 * 2 ^ (8 * k) := Nat.mul_lt_mul_of_pos_right hx (Nat.two_pow_pos _)
      _ ≤ 256 * 2 ^ 56 := Nat.mul_le_mul_left _ hp
      _ = 2 ^ 64 := by decide
  have e0 : IntKind.u64.wrap (x : Int) = (x : Int) := by rw [IntKind.wrap_u64]; omega
  have e1 : (x : Int) * 2 ^ (8 * k) = ((x * 2 ^ (8 * k) : Nat) : Int) := by push_cast; rfl
  have e2 : IntKind.u64.wrap ((x * 2 ^ (8 * k) : Nat) : Int) = ((x * 2 ^ (8 * k) : Nat) : Int) := by rw [IntKind.wrap_u64]; omega
  rw [e0, e1, e2, u64_or _ _ (by omega) h8]
  congr 1
  rw [Nat.or_comm, Nat.mul_comm, ← Nat.two_pow_add_eq_or_of_lt hN, Nat.add_comm]
theorem numL_lt2 (l : List UInt8) (k : Nat) : numL (l.take k) < 2 ^ (8 * k) := by
  have h := numL_lt (l.take k)
  rw [Nat.pow_mul]
  exact Nat.lt_of_lt_of_le h (Nat.pow_le_pow_right (by decide) (List.length_take_le _ _))
set_option maxRecDepth 20000 in
set_option maxHeartbeats 1000000 in
theorem number_any (A : Option Addr) (n cap : Nat) (l : List UInt8) (w : World) (hn : n = 8) (hl : l.length = 8) (hs : Shows w w.heap.size A l) :
    Calls Tryd.prog 43 #[.slice A n cap] w fun e w' => e = .returned (.int .u64 (numL l : Nat)) ∧ w' = w := by
  subst hn
  have HS := Li hs
  have HL := Li hl
  clear hs hl
  go_enter Tryd.func43, Tryd.ntmps43
  go_wp2
  go_loop [3, 8] (fun s i => ∃ k : Nat, k ≤ 8 ∧ i = .int .i64 k ∧ s = .int .u64 (numL (l.take k) : Nat)) (fun _ i => 8 - (intOf i).toNat)
  case atStart => exact ⟨0, by omega, rfl, rfl⟩
  case round =>
    obtain ⟨k, hk, rfl, rfl⟩ := hrel
    by_cases hlt : k < 8
    · have i1 : (k : Int) < 8 := by omega
      have i0 : (0 : Int) ≤ (k : Int) := by omega
      obtain ⟨x, hx⟩ := getL_of (l := l) (k := k) (by rw [HL.out]; exact hlt)
      obtain ⟨b, off, rfl, hb, hc⟩ := HS.out (by rw [HL.out]; decide)
      have c0 := hc k x hx
      have HX := Li (or_step (numL (l.take k)) x.toNat k (numL_lt2 l k) x.toNat_lt hlt)
      have HY := Li (numL_snoc hx)
      clear hc hx
      go_wp2
      go_round
      case rel => exact ⟨k + 1, by omega, by go_num, by rw [HX.out, HY.out]⟩
      case measure => simp [intOf]; omega
    · obtain rfl : k = 8 := by omega
      go_wp2
      go_ret
      exact ⟨by rw [List.take_of_length_le (by rw [HL.out]; exact Nat.le_refl _)]; rfl, rfl⟩
theorem owns_empty8 (w : World) (c : Array Value) (hc : c = #[]) : Owns (w.alloc (.cells c 5)) w.heap.size (.slice (some ⟨w.heap.size, 0, none⟩) 0 0) [] := by
  subst hc
  exact ⟨rfl, .inr ⟨w.heap.size, 0, #[], rfl, Nat.le_refl _, heap_alloc_new w _, Nat.le_refl _, by simp [maxLen], rfl, rfl⟩⟩
theorem run_isnil (n c : Nat) (w : World) : (binOp .eql 22 (.slice none n c) (.slice none 0 0)).run Tryd.prog w = .ok (.bool true) w := by kernel_rfl
theorem run_notnil (a : Addr) (n c : Nat) (w : World) : (binOp .eql 22 (.slice (some a) n c) (.slice none 0 0)).run Tryd.prog w = .ok (.bool false) w := by kernel_rfl
set_option maxRecDepth 20000 in
theorem clone_any (A : Option Addr) (n cap : Nat) (l : List UInt8) (w : World) (hn : n = l.length) (hs : Shows w w.heap.size A l) (hl : l.length ≤ 140737488351232) :
    Calls Tryd.prog 33 #[.slice A n cap] w fun e w' => (∃ A' c', e = .returned (.slice A' n c') ∧ Owns w' w.heap.size (.slice A' n c') l) ∧ Below w.heap.size w w' := by
  subst hn
  cases A with
  | none =>
    have h0 : l = [] := by
      rcases Nat.eq_zero_or_pos l.length with h | h
      · exact List.eq_nil_of_length_eq_zero h
      · obtain ⟨b, off, e, _⟩ := hs h; cases e
    subst h0
    have q1 := run_isnil 0 cap
    go_enter Tryd.func33, Tryd.ntmps33
    go_wp2
    go_ret
    exact ⟨⟨none, 0, rfl, ⟨rfl, .inl ⟨rfl, rfl⟩⟩⟩, Below.refl _ _⟩
  | some ad =>
    have HS := Li hs
    have HO := Li (owns_empty8 w #[] rfl)
    have q1 := run_notnil ad l.length cap
    clear hs
    go_enter Tryd.func33, Tryd.ntmps33
    go_wp2_with (at_builtin; refine wpList_growM rfl (.tmp 5) (.tmp 6) _ rfl Tryd.underlying22 info5 w.heap.size (.slice (some ⟨w.heap.size, 0, none⟩) 0 0) [] (some ad) l.length l cap w.heap.size l.length rfl rfl rfl rfl HO.out (HS.out.below (below_alloc _)) (by simp; omega) (by simp) ?_; intro A2 c2 w2 ho2 hg2)
    go_ret
    exact ⟨⟨A2, c2, rfl, ho2.out⟩, (below_alloc _).grown hg2.out (by simp) (fun k hk => by have := own_at hk; omega)⟩
theorem bitsOf_any (A : Option Addr) (n c : Nat) (K : Int) (F : Option Addr) (m d : Nat) (w : World) :
    Calls Tryd.prog 34 #[.slice A n c, .agg #[.int .i64 K, .slice F m d]] w fun e w' => e = .returned (.func (.func 41) #[] #[.pointer (some ⟨w.heap.size + 1, 0, none⟩), .pointer (some ⟨w.heap.size, 0, none⟩)]) ∧ w' = (w.alloc (.cells #[.slice A n c] 22)).alloc (.cells #[.int .i64 K, .slice F m d] 24) := by
  go_enter Tryd.func34, Tryd.ntmps34
  go_wp2
  go_ret
  exact ⟨rfl, rfl⟩
end Go.Proofs.YtmdokldbggingaaDoor
