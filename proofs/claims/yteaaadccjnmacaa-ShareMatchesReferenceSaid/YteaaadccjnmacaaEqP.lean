/-
  bytes.Equal and bytes.Clone, by contracts.
-/
import Derived.Test.YteaaadccjnmacaaFieldP
import Derived.WalkSpells
import Derived.BigGuardPart
import Derived.Lib.SliceRun
namespace Go.Proofs.Yteaaadccjnmacaa
open Go.RowKit

/-- string(b): the bytes that the slice shows. -/
theorem run_string_shows {P : Program} (w : World) (src dst : TypeId) (hs : P.underlying src = some (.slice 5)) (he : P.underlying 5 = some (.int .u8)) (hd : P.underlying dst = some .string)
    {B : Nat} {A : Option Addr} {n c : Nat} {l : List UInt8} (hn : n = l.length) (h : Shows w B A l) : (convert src dst (.slice A n c)).run P w = .ok (.string ⟨l.toArray⟩) w := by
  subst hn
  cases A with
  | none =>
    have h0 : l = [] := by
      rcases Nat.eq_zero_or_pos l.length with h0 | h0
      · exact List.eq_nil_of_length_eq_zero h0
      · obtain ⟨b, off, h, _⟩ := h h0
        cases h
    subst h0
    exact run_convert_bytes_nil w src 5 hs he _ c dst hd
  | some ad =>
    have hl : (loadCells ad l.length).run P w = .ok ((l.map fun c => (c.toNat : Int)).map (Value.int .u8)).toArray w := by
      have e : (l.map fun c => (c.toNat : Int)).map (Value.int .u8) = cb l := by simp [cb]
      rw [e]
      have := run_loadCells_list (P := P) w ad (cb l) (fun j v hj => by
        obtain ⟨x, hx, rfl⟩ := cb_get hj
        obtain ⟨b, off, h, _, hc⟩ := h (by have := (List.getElem?_eq_some_iff.1 hx).1; omega)
        injection h with h
        subst h
        simpa [Addr.add_lit] using hc j x hx)
      simpa [cb_len] using this
    rw [run_convert_bytes_string w src dst 5 _ _ c hs he hd, run_bytesToString w ad l.length c _ hl, foldl_push_bytes]
    congr 2
    apply ByteArray.ext
    apply Array.toList_inj.1
    simp [Function.comp_def]

theorem str_eq (l p : List UInt8) : (⟨l.toArray⟩ : ByteArray) = ⟨p.toArray⟩ ↔ l = p := by
  constructor
  · intro h
    have := congrArg (fun b : ByteArray => b.data.toList) h
    simpa using this
  · rintro rfl
    rfl

set_option maxHeartbeats 1000000 in
theorem bytesEqual_any (A : Option Addr) (cap n : Nat) (l : List UInt8) (C : Option Addr) (d m : Nat) (p : List UInt8) (w : World) (hs : Shows w w.heap.size A l) (hp : Shows w w.heap.size C p) (hn : n = l.length) (hm : m = p.length) :
    Calls Try.prog 25 #[.slice A n cap, .slice C m d] w fun e w' => e = .returned (.bool (decide (l = p))) ∧ w' = w := by
  have h1 := run_string_shows (P := Try.prog) w 22 9 Try.underlying22 Try.underlying5 Try.underlying9 (n := n) (c := cap) hn hs
  have h2 := run_string_shows (P := Try.prog) w 22 9 Try.underlying22 Try.underlying5 Try.underlying9 (n := m) (c := d) hm hp
  clear hs hp hn hm
  go_enter Try.func25, Try.ntmps25
  go_wp2
  go_ret
  exact ⟨(show Ending.returned (.bool (l == p)) = Ending.returned (.bool (decide (l = p))) from by congr 2; by_cases h : l = p <;> simp [h]), rfl⟩

set_option maxHeartbeats 1000000 in
theorem clone_any (A : Option Addr) (cap : Nat) (l : List UInt8) (w : World) (hs : Shows w w.heap.size A l) (hl : l.length ≤ 140737488351232) :
    Calls Try.prog 34 #[.slice A l.length cap] w fun e w' => ∃ A' c', e = .returned (.slice A' l.length c') ∧ Owns w' w.heap.size (.slice A' l.length c') l ∧ Below w.heap.size w w' := by
  have HS := Lib.hid hs
  have qT : ∀ (w : World) (a : Option Addr) (n c : Nat), (binOp .eql 22 (.slice a n c) (.slice none 0 0)).run Try.prog w = .ok (.bool a.isNone) w := fun w a n c => Lib.run_eql_slice_nil w _ _ a n c 0 0 Try.underlying22
  obtain ⟨N, hN⟩ : ∃ N, N = l.length := ⟨_, rfl⟩
  have HN := Lib.hid hN
  rw [← hN] at hl ⊢
  clear hs hN
  cases A with
  | none =>
    go_enter Try.func34, Try.ntmps34
    go_wp2
    go_ret
    have h0 : l = [] := by
      rcases Nat.eq_zero_or_pos l.length with h0 | h0
      · exact List.eq_nil_of_length_eq_zero h0
      · obtain ⟨b, off, h, _⟩ := HS.out h0
        cases h
    subst h0
    have e : N = 0 := HN.out
    subst e
    exact ⟨none, 0, rfl, World.ownsRow_nil _ _ _ _, Below.refl _ _⟩
  | some ad =>
    go_enter Try.func34, Try.ntmps34
    go_wp2_with (at_builtin; refine wpList_growB rfl (.tmp 5) (.tmp 6) _ rfl Try.underlying22 info5 w.heap.size _ [] (some ad) l cap w.heap.size rfl (by rw [← HN.out]; rfl) (owns_empty w _ rfl) (HS.out.below (below_alloc _)) (by simp; have := HN.out; omega) (by simp) ?_; intro A' c' w2 ho2 hg2)
    go_ret
    have e : ([] ++ l).length = N := HN.out.symm
    rw [e, List.nil_append] at ho2
    refine ⟨A', c', ?_, ho2, ?_⟩
    · rw [HN.out]
      rfl
    · exact (below_alloc _).grown hg2 (by simp) (fun k hk => by have hk' : some w.heap.size = some k := hk; injection hk' with hk'; omega)
end Go.Proofs.Yteaaadccjnmacaa
