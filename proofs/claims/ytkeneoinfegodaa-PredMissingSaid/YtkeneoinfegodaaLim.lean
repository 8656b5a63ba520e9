/-
  The program's isLimited and isWellFormed, by contracts.
-/
import Derived.Test.YtkeneoinfegodaaCon
namespace Go.Proofs.Ytkeneoinfegodaa
open Go.RowKit Go.Shelf

theorem lim1_any (b : Bool) (x : Int) (s : ByteArray) (w : World) : Calls Try.prog 78 #[.agg #[.bool b, .int .i64 x, .string s]] w fun e w' => e = .returned (.bool (decide ((200 : Int) < s.size))) ∧ Below w.heap.size w w' := by
  go_enter Try.func78, Try.ntmps78
  go_wp2
  go_ret
  exact ⟨rfl, al1 _ _⟩
def idxL : Nat → List Va → Int
  | _, [] => -1
  | k, v :: l => if decide ((200 : Int) < v.s.size) = true then (k : Int) else idxL (k + 1) l
theorem idxL_any : ∀ (l : List Va) (k : Nat), decide (0 ≤ idxL k l) = l.any (fun v => decide ((200 : Int) < v.s.size))
  | [], _ => by simp [idxL]
  | y :: l, k => by
    unfold idxL
    by_cases h : decide ((200 : Int) < y.s.size) = true
    · rw [if_pos h, List.any_cons, h, Bool.true_or]
      exact decide_eq_true (by omega)
    · rw [if_neg h, idxL_any l (k + 1), List.any_cons, Bool.eq_false_iff.2 h, Bool.false_or]
set_option maxHeartbeats 4000000 in
set_option maxRecDepth 20000 in
theorem IndexF_any (A : Option Addr) (n c : Nat) (l : List Va) (w : World) (hn : n = l.length) (hs : Vas w w.heap.size A l) (hl : n ≤ 9223372036854775807) :
    Calls Try.prog 99 #[.slice A n c, .func (.func 78) #[] #[]] w fun e w' => e = .returned (.int .i64 (idxL 0 l)) ∧ Below w.heap.size w w' := by
  have HN := Li hn
  have HS := Li hs
  obtain ⟨z, hz⟩ : ∃ z, idxL 0 l = z := ⟨_, rfl⟩
  rw [hz]
  have HZ := Li hz
  have B0 := Li (Below.refl w.heap.size w)
  clear hn hs hz
  go_enter Try.func99, Try.ntmps99
  go_wp2
  go_loopw [5, 8] (fun _ j wr => ∃ k : Nat, k ≤ n ∧ j = .int .i64 k ∧ Hid (Below w.heap.size w wr) ∧ Hid (idxL k (l.drop k) = z)) (fun _ j _ => n - (intOf j).toNat)
  case atStart => exact ⟨0, by omega, rfl, B0, HZ⟩
  case round =>
    obtain ⟨k, hk, rfl, B1, HG⟩ := hrel
    by_cases hlt : k < n
    · have i1 : (k : Int) < (n : Int) := by omega
      have i0 : (0 : Int) ≤ (k : Int) := by omega
      obtain ⟨f, hf⟩ := getV_of (l := l) (k := k) (by rw [← HN.out]; exact hlt)
      obtain ⟨b, off, rfl, hb, c0, c1, c2⟩ := (show Vas wr w.heap.size A l from RowAt.below HS.out B1.out).one hf
      have HD := Li (drop_cons hf)
      have zb : b < wr.heap.size := Nat.lt_of_lt_of_le hb B1.out.size
      clear hf
      obtain ⟨q, hq⟩ : ∃ q, decide ((200 : Int) < f.s.size) = q := ⟨_, rfl⟩
      have HQ := Li hq
      cases q with
      | true =>
        have HV := Li (show z = (k : Int) by rw [← HG.out, HD.out, idxL, if_pos hq])
        clear hq
        go_wp2_with (go_at_call 78; refine (lim1_any f.b f.n f.s _).mono ?_; rintro e w5 ⟨rfl, hb5⟩; rw [HQ.out]; have B5 := Li (below_step B1.out B1.out.size hb5); clear hb5)
        go_ret
        exact ⟨by rw [HV.out]; rfl, B5.out⟩
      | false =>
        have HG2 := Li (show idxL (k + 1) (l.drop (k + 1)) = z by rw [← HG.out, HD.out, idxL, if_neg (by rw [hq]; decide)])
        clear hq
        go_wp2_with (go_at_call 78; refine (lim1_any f.b f.n f.s _).mono ?_; rintro e w5 ⟨rfl, hb5⟩; rw [HQ.out]; have B5 := Li (below_step B1.out B1.out.size hb5); clear hb5)
        go_roundw
        case rel => exact ⟨k + 1, by omega, by go_num, B5, HG2⟩
        case measure => simp [intOf]; omega
    · have i1 : ¬ (k : Int) < (n : Int) := by omega
      have HV := Li (show z = -1 by rw [← HG.out, List.drop_eq_nil_of_le (by rw [← HN.out]; omega)]; rfl)
      go_wp2
      go_ret
      exact ⟨by rw [HV.out]; rfl, B1.out⟩
theorem ContainsF_any (A : Option Addr) (n c : Nat) (l : List Va) (w : World) (hn : n = l.length) (hs : Vas w w.heap.size A l) (hl : n ≤ 9223372036854775807) :
    Calls Try.prog 79 #[.slice A n c, .func (.func 78) #[] #[]] w fun e w' => e = .returned (.bool (l.any fun v => decide ((200 : Int) < v.s.size))) ∧ Below w.heap.size w w' := by
  have HI := Li (idxL_any l 0)
  have HN := Li hn
  have HS := Li hs
  clear hn hs
  go_enter Try.func79, Try.ntmps79
  go_wp2_with (go_at_call 99; refine (IndexF_any A n c l _ HN.out HS.out hl).mono ?_; rintro e w1 ⟨rfl, hb1⟩; have B1 := Li hb1; clear hb1)
  go_ret
  exact ⟨by rw [← HI.out]; rfl, B1.out⟩
/-- as many Kids and elements, and texts as long, as there may be -/
def limG (op : Int) (n : Nat) (set : List Va) (tx : ByteArray) (m : Nat) : Bool :=
  decide ((m : Int) ≤ 16) && ((!(op == 7) || ((m : Int) == 1)) && (decide ((n : Int) ≤ 16) && (!(set.any fun v => decide ((200 : Int) < v.s.size)) && decide ((tx.size : Int) ≤ 200))))
set_option maxHeartbeats 8000000 in
set_option maxRecDepth 20000 in
theorem lim_any (op id lo hi : Int) (S : Option Addr) (n sc : Nat) (set : List Va) (tx : ByteArray) (K : Option Addr) (m kc : Nat) (w : World) (hn : n = set.length) (hs : Vas w w.heap.size S set) (hl : n ≤ 9223372036854775807) :
    Calls Try.prog 47 #[.agg #[.int .i64 op, .int .i64 id, .int .i64 lo, .int .i64 hi, .slice S n sc, .string tx, .slice K m kc]] w fun e w' => e = .returned (.bool (limG op n set tx m)) ∧ Below w.heap.size w w' := by
  obtain ⟨z, hz⟩ : ∃ z, limG op n set tx m = z := ⟨_, rfl⟩
  rw [hz]
  unfold limG at hz
  have HN := Li hn
  have HS := Li hs
  have B0 := Li (al1 w (.cells #[.int .i64 op, .int .i64 id, .int .i64 lo, .int .i64 hi, .slice S n sc, .string tx, .slice K m kc] 25))
  have P0 := Li (CB.new w 25 [.int .i64 op, .int .i64 id, .int .i64 lo, .int .i64 hi, .slice S n sc, .string tx, .slice K m kc])
  obtain ⟨ay, hay⟩ : ∃ a, (set.any fun v => decide ((200 : Int) < v.s.size)) = a := ⟨_, rfl⟩
  rw [hay] at hz
  have HA := Li hay
  clear hn hs hay
  cases em : decide ((m : Int) ≤ 16) with
  | false =>
    simp only [em, Bool.false_and, Bool.true_and, Bool.false_or, Bool.true_or, Bool.not_true, Bool.not_false] at hz
    subst hz
    go_enter Try.func47, Try.ntmps47
    go_wp2
    go_ret
    exact ⟨rfl, B0.out⟩
  | true =>
    simp only [em, Bool.false_and, Bool.true_and, Bool.false_or, Bool.true_or, Bool.not_true, Bool.not_false] at hz
    cases eo : (op == 7) with
    | false =>
      simp only [eo, Bool.false_and, Bool.true_and, Bool.false_or, Bool.true_or, Bool.not_true, Bool.not_false] at hz
      have eo2 : (op != 7) = true := by simp [bne, eo]
      cases en : decide ((n : Int) ≤ 16) with
      | false =>
        simp only [en, Bool.false_and, Bool.true_and, Bool.false_or, Bool.true_or, Bool.not_true, Bool.not_false] at hz
        subst hz
        go_enter Try.func47, Try.ntmps47
        go_wp2
        go_ret
        exact ⟨rfl, B0.out⟩
      | true =>
        simp only [en, Bool.false_and, Bool.true_and, Bool.false_or, Bool.true_or, Bool.not_true, Bool.not_false] at hz
        cases ay with
        | true =>
          simp only [Bool.false_and, Bool.true_and, Bool.false_or, Bool.true_or, Bool.not_true, Bool.not_false] at hz
          subst hz
          go_enter Try.func47, Try.ntmps47
          go_wp2_with (go_at_call 79; refine (ContainsF_any S n sc set _ HN.out (RowAt.up HS.out B0.out) hl).mono ?_; rintro e w1 ⟨rfl, hb1⟩; rw [HA.out]; have B1 := Li (below_step B0.out B0.out.size hb1); have P1 := Li (P0.out.up hb1); have p1 := P1.out.c7; have zp1 := P1.out.lt; clear hb1)
          go_ret
          exact ⟨rfl, B1.out⟩
        | false =>
          simp only [Bool.false_and, Bool.true_and, Bool.false_or, Bool.true_or, Bool.not_true, Bool.not_false] at hz
          subst hz
          go_enter Try.func47, Try.ntmps47
          go_wp2_with (go_at_call 79; refine (ContainsF_any S n sc set _ HN.out (RowAt.up HS.out B0.out) hl).mono ?_; rintro e w1 ⟨rfl, hb1⟩; rw [HA.out]; have B1 := Li (below_step B0.out B0.out.size hb1); have P1 := Li (P0.out.up hb1); have p1 := P1.out.c7; have zp1 := P1.out.lt; clear hb1)
          go_ret
          exact ⟨rfl, B1.out⟩
    | true =>
      simp only [eo, Bool.false_and, Bool.true_and, Bool.false_or, Bool.true_or, Bool.not_true, Bool.not_false] at hz
      obtain rfl : op = 7 := by simpa using eo
      clear eo
      cases ek : ((m : Int) == 1) with
      | false =>
        simp only [ek, Bool.false_and, Bool.true_and, Bool.false_or, Bool.true_or, Bool.not_true, Bool.not_false] at hz
        subst hz
        go_enter Try.func47, Try.ntmps47
        go_wp2
        go_ret
        exact ⟨rfl, B0.out⟩
      | true =>
        simp only [ek, Bool.false_and, Bool.true_and, Bool.false_or, Bool.true_or, Bool.not_true, Bool.not_false] at hz
        cases en : decide ((n : Int) ≤ 16) with
        | false =>
          simp only [en, Bool.false_and, Bool.true_and, Bool.false_or, Bool.true_or, Bool.not_true, Bool.not_false] at hz
          subst hz
          go_enter Try.func47, Try.ntmps47
          go_wp2
          go_ret
          exact ⟨rfl, B0.out⟩
        | true =>
          simp only [en, Bool.false_and, Bool.true_and, Bool.false_or, Bool.true_or, Bool.not_true, Bool.not_false] at hz
          cases ay with
          | true =>
            simp only [Bool.false_and, Bool.true_and, Bool.false_or, Bool.true_or, Bool.not_true, Bool.not_false] at hz
            subst hz
            go_enter Try.func47, Try.ntmps47
            go_wp2_with (go_at_call 79; refine (ContainsF_any S n sc set _ HN.out (RowAt.up HS.out B0.out) hl).mono ?_; rintro e w1 ⟨rfl, hb1⟩; rw [HA.out]; have B1 := Li (below_step B0.out B0.out.size hb1); have P1 := Li (P0.out.up hb1); have p1 := P1.out.c7; have zp1 := P1.out.lt; clear hb1)
            go_ret
            exact ⟨rfl, B1.out⟩
          | false =>
            simp only [Bool.false_and, Bool.true_and, Bool.false_or, Bool.true_or, Bool.not_true, Bool.not_false] at hz
            subst hz
            go_enter Try.func47, Try.ntmps47
            go_wp2_with (go_at_call 79; refine (ContainsF_any S n sc set _ HN.out (RowAt.up HS.out B0.out) hl).mono ?_; rintro e w1 ⟨rfl, hb1⟩; rw [HA.out]; have B1 := Li (below_step B0.out B0.out.size hb1); have P1 := Li (P0.out.up hb1); have p1 := P1.out.c7; have zp1 := P1.out.lt; clear hb1)
            go_ret
            exact ⟨rfl, B1.out⟩
end Go.Proofs.Ytkeneoinfegodaa
