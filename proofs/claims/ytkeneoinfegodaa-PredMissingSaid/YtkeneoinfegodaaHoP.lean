/-
  Go's slices.Index and slices.Contains over values, the program's holds, by contracts.
-/
import Derived.Test.YtkeneoinfegodaaEvP
import Derived.Test.YtkeneoinfegodaaLays
import Derived.Deep.QuietTactic
import Derived.BigQuiet
namespace Go.Proofs.Ytkeneoinfegodaa
open Go.RowKit

def idxG (v : Va) : Nat → List Va → Int
  | _, [] => -1
  | k, y :: l => if eqVa v y = true then (k : Int) else idxG v (k + 1) l
theorem idxG_any (v : Va) : ∀ (l : List Va) (k : Nat), decide (0 ≤ idxG v k l) = l.any (fun y => eqVa v y)
  | [], _ => by simp [idxG]
  | y :: l, k => by
    unfold idxG
    by_cases h : eqVa v y = true
    · simp [h]
    · rw [if_neg h, idxG_any v l (k + 1)]
      simp [h]
theorem idxG_lt (v : Va) : ∀ (l : List Va) (k : Nat), -1 ≤ idxG v k l ∧ idxG v k l ≤ k + l.length
  | [], k => by simp only [idxG, List.length_nil]; omega
  | y :: l, k => by
    unfold idxG
    split
    · simp only [List.length_cons]; omega
    · have := idxG_lt v l (k + 1)
      simp only [List.length_cons]
      omega
theorem getV_of {l : List Va} {k : Nat} (h : k < l.length) : ∃ f, l[k]? = some f := ⟨l[k], List.getElem?_eq_getElem h⟩
attribute [local go_sem high] run_eq_va in
set_option maxHeartbeats 4000000 in
set_option maxRecDepth 20000 in
theorem IndexV_any (A : Option Addr) (n c : Nat) (l : List Va) (v : Va) (w : World) (hn : n = l.length) (hs : Vas w w.heap.size A l) (hl : n ≤ 9223372036854775807) :
    Calls Try.prog 76 #[.slice A n c, .agg #[.bool v.b, .int .i64 v.n, .string v.s]] w fun e w' => e = .returned (.int .i64 (idxG v 0 l)) ∧ Below w.heap.size w w' := by
  have HN := Lib.hid hn
  have HS := Lib.hid hs
  obtain ⟨z, hz⟩ : ∃ z, idxG v 0 l = z := ⟨_, rfl⟩
  rw [hz]
  have HZ := Lib.hid hz
  clear hn hs hz
  have T0 := Lib.hid (CB.new w 37 [.bool v.b, .int .i64 v.n, .string v.s])
  have B0 := Lib.hid (al1 w (.cells #[.bool v.b, .int .i64 v.n, .string v.s] 37))
  go_enter Try.func76, Try.ntmps76
  go_wp2
  go_loopw [5, 8] (fun _ j wr => ∃ k : Nat, k ≤ n ∧ j = .int .i64 k ∧ Hid (CB wr w.heap.size 37 [.bool v.b, .int .i64 v.n, .string v.s]) ∧ Hid (Below w.heap.size w wr) ∧ Hid (idxG v k (l.drop k) = z)) (fun _ j _ => n - (intOf j).toNat)
  case atStart => exact ⟨0, by omega, rfl, T0, B0, HZ⟩
  case round =>
    obtain ⟨k, hk, rfl, T1, B1, HG⟩ := hrel
    have zT := T1.out.lt
    have t0 := T1.out.cell 0 rfl
    have t1 := T1.out.cell 1 rfl
    have t2 := T1.out.cell 2 rfl
    by_cases hlt : k < n
    · have i1 : (k : Int) < (n : Int) := by omega
      have i0 : (0 : Int) ≤ (k : Int) := by omega
      obtain ⟨f, hf⟩ := getV_of (l := l) (k := k) (by rw [← HN.out]; exact hlt)
      obtain ⟨b, off, rfl, hb, c0, c1, c2⟩ := (show Vas wr w.heap.size A l from RowAt.below HS.out B1.out).one hf
      have HD := Lib.hid (drop_cons hf)
      have zb : b < wr.heap.size := Nat.lt_of_lt_of_le hb B1.out.size
      clear hf
      obtain ⟨q, hq⟩ : ∃ q, eqVa v f = q := ⟨_, rfl⟩
      have hq' : eqVa ⟨v.b, v.n, v.s⟩ ⟨f.b, f.n, f.s⟩ = q := hq
      cases q with
      | true =>
        have HV := Lib.hid (show z = (k : Int) by rw [← HG.out, HD.out, idxG, if_pos hq])
        clear hq
        go_wp2
        go_quiet (fail)
        go_wp2
        go_ret
        exact ⟨by rw [HV.out]; rfl, below_drewN B1.out _⟩
      | false =>
        have HG2 := Lib.hid (show idxG v (k + 1) (l.drop (k + 1)) = z by rw [← HG.out, HD.out, idxG, if_neg (by rw [hq]; decide)])
        clear hq
        go_wp2
        go_quiet (fail)
        go_wp2
        go_roundw
        case rel => exact ⟨k + 1, by omega, by go_num, Lib.hid T1.out, below_drewN B1.out _, HG2⟩
        case measure => simp [intOf]; omega
    · have i1 : ¬ (k : Int) < (n : Int) := by omega
      have HV := Lib.hid (show z = -1 by rw [← HG.out, List.drop_eq_nil_of_le (by rw [← HN.out]; omega)]; rfl)
      go_wp2
      go_ret
      exact ⟨by rw [HV.out]; rfl, B1.out⟩
theorem ContainsV_any (A : Option Addr) (n c : Nat) (l : List Va) (v : Va) (w : World) (hn : n = l.length) (hs : Vas w w.heap.size A l) (hl : n ≤ 9223372036854775807) :
    Calls Try.prog 43 #[.slice A n c, .agg #[.bool v.b, .int .i64 v.n, .string v.s]] w fun e w' => e = .returned (.bool (l.any fun y => eqVa v y)) ∧ Below w.heap.size w w' := by
  have hi := idxG_any v l 0
  have HI := Lib.hid hi
  have HN := Lib.hid hn
  have HS := Lib.hid hs
  have B0 := Lib.hid (al1 w (.cells #[.bool v.b, .int .i64 v.n, .string v.s] 37))
  clear hi hn hs
  go_enter Try.func43, Try.ntmps43
  go_wp2_with (go_at_call 76; refine (IndexV_any A n c l v _ HN.out (RowAt.up HS.out B0.out) hl).mono ?_; rintro e w1 ⟨rfl, hb1⟩; have B1 := Lib.hid (below_step B0.out B0.out.size hb1); clear hb1)
  go_ret
  exact ⟨by rw [← HI.out]; rfl, B1.out⟩
set_option maxHeartbeats 4000000 in
set_option maxRecDepth 20000 in
theorem holds_any (op id lo hi : Int) (S : Option Addr) (m sc : Nat) (set : List Va) (tx : ByteArray) (K : Option Addr) (d kc : Nat) (v : Va) (w : World) (hm : m = set.length) (hs : Vas w w.heap.size S set) (hml : m ≤ 9223372036854775807) :
    Calls Try.prog 31 #[.agg #[.int .i64 op, .int .i64 id, .int .i64 lo, .int .i64 hi, .slice S m sc, .string tx, .slice K d kc], .agg #[.bool v.b, .int .i64 v.n, .string v.s]] w fun e w' => e = .returned (.bool (holdB op lo hi set tx v)) ∧ Below w.heap.size w w' := by
  have HM := Lib.hid hm
  have HS := Lib.hid hs
  have B0 := Lib.hid (al2 w (.cells #[.int .i64 op, .int .i64 id, .int .i64 lo, .int .i64 hi, .slice S m sc, .string tx, .slice K d kc] 25) (.cells #[.bool v.b, .int .i64 v.n, .string v.s] 37))
  obtain ⟨z, hz⟩ : ∃ z, holdB op lo hi set tx v = z := ⟨_, rfl⟩
  rw [hz]
  unfold holdB at hz
  clear hm hs
  by_cases h1 : op = 1
  · subst h1
    rw [if_pos rfl] at hz
    have HZ := Lib.hid hz
    by_cases h2 : lo ≤ v.n
    · have e2 : decide (lo ≤ v.n) = true := decide_eq_true h2
      rw [e2, Bool.true_and] at hz
      subst hz
      clear h2 HZ
      go_enter Try.func31, Try.ntmps31
      go_wp2
      go_ret
      exact ⟨rfl, B0.out⟩
    · have e2 : decide (lo ≤ v.n) = false := decide_eq_false h2
      rw [e2, Bool.false_and] at hz
      subst hz
      clear h2 HZ
      go_enter Try.func31, Try.ntmps31
      go_wp2
      go_ret
      exact ⟨rfl, B0.out⟩
  · rw [if_neg h1] at hz
    have e1 : (op == 1) = false := by simpa using h1
    clear h1
    by_cases h2 : op = 2
    · subst h2
      rw [if_pos rfl] at hz
      have HZ := Lib.hid hz
      clear hz
      go_enter Try.func31, Try.ntmps31
      go_wp2_with (go_at_call 43; refine (ContainsV_any S m sc set v _ HM.out (RowAt.up HS.out B0.out) hml).mono ?_; rintro e w1 ⟨rfl, hb1⟩; rw [HZ.out]; have B1 := Lib.hid (below_step B0.out B0.out.size hb1); clear hb1)
      go_ret
      exact ⟨rfl, B1.out⟩
    · rw [if_neg h2] at hz
      have e2 : (op == 2) = false := by simpa using h2
      have HZ := Lib.hid hz
      clear h2 hz
      go_enter Try.func31, Try.ntmps31
      go_wp2_with (go_at_call 44; refine (Try.strings_HasPrefix v.s tx _).mono ?_; rintro e w1 ⟨rfl, rfl⟩; rw [HZ.out])
      go_ret
      exact ⟨rfl, B0.out⟩
/-- the junction's closure: what it captures -/
theorem junction_any (d : Int) (w : World) : Calls Try.prog 32 #[.int .i64 d] w fun e w' => e = .returned (.func (.func 45) #[] #[.pointer (some ⟨w.heap.size, 0, none⟩)]) ∧ w' = w.alloc (.cells #[.int .i64 d] 3) := by
  go_enter Try.func32, Try.ntmps32
  go_wp2
  go_ret
  exact ⟨rfl, rfl⟩
end Go.Proofs.Ytkeneoinfegodaa
