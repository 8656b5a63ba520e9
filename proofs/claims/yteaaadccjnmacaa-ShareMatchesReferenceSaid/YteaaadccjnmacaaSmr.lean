/-
  P4.1: Split, Combine and Refresh return what the reference returns. For every input that the row lets in; no further condition.
-/
import Derived.Test.YteaaadccjnmacaaCmbR
import Derived.Test.YteaaadccjnmacaaRfrR
import Derived.Test.YteaaadccjnmacaaSaneW
import Derived.Test.YteaaadccjnmacaaDeal
import Derived.Test.YteaaadccjnmacaaOpenS
namespace Go.Proofs.Yteaaadccjnmacaa.smr
open Go.ChangeShapes Go.WideShapes Go.ChangeAt Go.RowKit

def ShPost (L : List Sh) (E : Int) (w1 : World) (e : Ending) (w' : World) : Prop := ∃ A n c, e = .returned (.tuple #[.slice A n c, .int .i64 E]) ∧ n = L.length ∧ ShL w' w'.heap.size A L ∧ Below w1.heap.size w1 w'
def ByPost (l : List UInt8) (E : Int) (w1 : World) (e : Ending) (w' : World) : Prop := ∃ A n c, e = .returned (.tuple #[.slice A n c, .int .i64 E]) ∧ n = l.length ∧ Shows w' w'.heap.size A l ∧ Below w1.heap.size w1 w'

theorem split_both (A : Option Addr) (ca : Nat) (sl : List UInt8) (B : Option Addr) (cb_ : Nat) (rl : List UInt8) (a b : Int) (w : World) (h1 : sl.length ≤ 24) (h2 : rl.length ≤ 2000)
    (hsA : Shows w w.heap.size A sl) (hcA : sl.length ≤ ca) (hmA : ca ≤ 140737488351232) (hsB : Shows w w.heap.size B rl) (hcB : rl.length ≤ cb_) (hmB : cb_ ≤ 140737488351232) :
    ∃ (L : List Sh) (E : Int), L.length ≤ 255 ∧
      (∀ w1, Below w.heap.size w w1 → Calls Try.prog 7 #[.slice A sl.length ca, .slice B rl.length cb_, .agg #[.int .i64 a, .int .i64 b]] w1 (ShPost L E w1)) ∧
      (∀ w1, Below w.heap.size w w1 → Calls Try.prog 8 #[.slice A sl.length ca, .slice B rl.length cb_, .agg #[.int .i64 a, .int .i64 b]] w1 (ShPost L E w1)) := by
  by_cases hok : 1 ≤ a ∧ a ≤ b ∧ b ≤ 255
  · obtain ⟨P, rfl⟩ := Int.eq_ofNat_of_zero_le (show 0 ≤ a by omega)
    obtain ⟨T, rfl⟩ := Int.eq_ofNat_of_zero_le (show 0 ≤ b by omega)
    refine ⟨splitL sl rl P T, 0, by rw [splitL_len]; omega, fun w1 hb => ?_, fun w1 hb => ?_⟩
    · refine (split_any A ca sl B cb_ rl (P : Int) (T : Int) w1 (hsA.up hb) (by omega) ⟨hcA, by omega⟩ (hsB.up hb) (by omega) ⟨hcB, by omega⟩ hok).mono ?_
      rintro e w' ⟨g, rfl, h3, h4⟩
      rw [Int.toNat_natCast, Int.toNat_natCast] at h3
      exact ⟨_, _, _, rfl, by rw [splitL_len, Int.toNat_natCast], h3, h4⟩
    · refine (RSplit_any A sl.length ca sl B rl.length cb_ rl P (P - 1) T w1 rfl rfl (hsA.up hb) (hsB.up hb) (by omega) (by omega) (by omega) (by omega) (by omega)).mono ?_
      rintro e w' ⟨A', c', rfl, h3, h4⟩
      exact ⟨_, _, _, rfl, by rw [splitL_len], h3, h4⟩
  · refine ⟨[], 1, by simp, fun w1 hb => ?_, fun w1 hb => ?_⟩
    · refine (split_bad _ _ a b w1 hok).mono ?_
      rintro e w' ⟨rfl, h4⟩
      exact ⟨_, _, _, rfl, rfl, ShL.nil, h4⟩
    · refine (RSplit_bad _ _ a b w1 hok).mono ?_
      rintro e w' ⟨rfl, h4⟩
      exact ⟨_, _, _, rfl, rfl, ShL.nil, h4⟩

theorem combine_both (A : Option Addr) (N cap : Nat) (l : List Sh) (a : Int) (w : World) (hN : N = l.length) (hs : ShL w w.heap.size A l) (hl : N ≤ 300) (hc : N ≤ cap ∧ cap ≤ 9223372036854775807) (hn : ∀ s ∈ l, s.2.length ≤ 24) :
    ∃ (bs : List UInt8) (E : Int), bs.length ≤ 24 ∧
      (∀ w1, Below w.heap.size w w1 → Calls Try.prog 9 #[.slice A N cap, .int .i64 a] w1 (ByPost bs E w1)) ∧
      (∀ w1, Below w.heap.size w w1 → Calls Try.prog 10 #[.slice A N cap, .int .i64 a] w1 (ByPost bs E w1)) := by
  by_cases hok : 1 ≤ a ∧ a ≤ 255
  · by_cases hw : wfB l = false ∨ (N : Int) < a
    · refine ⟨[], 40, by simp, fun w1 hb => ?_, fun w1 hb => ?_⟩
      · refine (combine_wf A N cap l a w1 hN (hs.up hb) (by omega) (fun s h => by have := hn s h; omega) hok.1 hok.2 hw).mono ?_
        rintro e w' ⟨rfl, h4⟩
        exact ⟨_, _, _, rfl, rfl, Shows.nil, h4⟩
      · refine (RComb_wf A N cap l a w1 hN (hs.up hb) (by omega) (fun s h => by have := hn s h; omega) hok.1 hok.2 hw).mono ?_
        rintro e w' ⟨rfl, h4⟩
        exact ⟨_, _, _, rfl, rfl, Shows.nil, h4⟩
    · have hwf : wfB l = true := by
        cases h : wfB l with
        | true => rfl
        | false => exact absurd (Or.inl h) hw
      have hle : ¬ (N : Int) < a := fun h => hw (Or.inr h)
      obtain ⟨need, rfl⟩ := Int.eq_ofNat_of_zero_le (show 0 ≤ a by omega)
      have hnn : ∀ s ∈ l, s.2.length = lenOf l := ((wfB_iff l).1 hwf).ln
      have hn0 : lenOf l ≤ 24 := by
        cases l with
        | nil => simp [lenOf]
        | cons s r => exact hn s (by simp)
      by_cases hf : Fits l need (lenOf l)
      · refine ⟨interpB (l.take need) 0 (lenOf l), 0, by rw [interp_len]; exact hn0, fun w1 hb => ?_, fun w1 hb => ?_⟩
        · refine (combine_ok A N cap l need (lenOf l) w1 hN (hs.up hb) (by omega) hc hnn (by omega) (by omega) (by omega) hwf (by omega) hf).mono ?_
          rintro e w' ⟨g, rfl, h3, _, h4⟩
          exact ⟨_, _, _, rfl, by rw [interp_len], h3.shows, h4⟩
        · refine (RComb_any A N cap l need (lenOf l) w1 hN (hs.up hb) (by omega) hnn (by omega) (by omega) (by omega) hwf (by omega)).mono ?_
          rintro e w' ⟨⟨_, A', c', rfl, h3⟩ | ⟨h3, _⟩, h4⟩
          · exact ⟨_, _, _, rfl, by rw [interp_len], h3, h4⟩
          · exact absurd hf h3
      · refine ⟨[], 40, by simp, fun w1 hb => ?_, fun w1 hb => ?_⟩
        · refine (combine_no A N cap l need (lenOf l) w1 hN (hs.up hb) (by omega) hc hnn (by omega) (by omega) (by omega) hwf (by omega) hf).mono ?_
          rintro e w' ⟨rfl, h4⟩
          exact ⟨_, _, _, rfl, rfl, Shows.nil, h4⟩
        · refine (RComb_any A N cap l need (lenOf l) w1 hN (hs.up hb) (by omega) hnn (by omega) (by omega) (by omega) hwf (by omega)).mono ?_
          rintro e w' ⟨⟨h3, _⟩ | ⟨_, rfl⟩, h4⟩
          · exact absurd h3 hf
          · exact ⟨_, _, _, rfl, rfl, Shows.nil, h4⟩
  · refine ⟨[], 1, by simp, fun w1 hb => ?_, fun w1 hb => ?_⟩
    · refine (combine_bad _ a w1 hok).mono ?_
      rintro e w' ⟨rfl, rfl⟩
      exact ⟨_, _, _, rfl, rfl, Shows.nil, Below.refl _ _⟩
    · refine (RComb_bad _ a w1 hok).mono ?_
      rintro e w' ⟨rfl, rfl⟩
      exact ⟨_, _, _, rfl, rfl, Shows.nil, Below.refl _ _⟩

theorem refresh_both (A : Option Addr) (N cap : Nat) (l : List Sh) (B : Option Addr) (cb_ : Nat) (rl : List UInt8) (a : Int) (w : World) (hN : N = l.length) (hs : ShL w w.heap.size A l) (hl : N ≤ 300) (hn : ∀ s ∈ l, s.2.length ≤ 24)
    (h2 : rl.length ≤ 2000) (hsB : Shows w w.heap.size B rl) (hcB : rl.length ≤ cb_) (hmB : cb_ ≤ 140737488351232) :
    ∃ (L : List Sh) (E : Int), L.length ≤ 300 ∧
      (∀ w1, Below w.heap.size w w1 → Calls Try.prog 11 #[.slice A N cap, .slice B rl.length cb_, .int .i64 a] w1 (ShPost L E w1)) ∧
      (∀ w1, Below w.heap.size w w1 → Calls Try.prog 12 #[.slice A N cap, .slice B rl.length cb_, .int .i64 a] w1 (ShPost L E w1)) := by
  by_cases hok : 1 ≤ a ∧ a ≤ 255
  · cases hwf : wfB l with
    | false =>
      refine ⟨[], 40, by simp, fun w1 hb => ?_, fun w1 hb => ?_⟩
      · refine (refresh_wf A N cap l _ a w1 hN (hs.up hb) (by omega) (fun s h => by have := hn s h; omega) hok.1 hok.2 hwf).mono ?_
        rintro e w' ⟨rfl, h4⟩
        exact ⟨_, _, _, rfl, rfl, ShL.nil, h4⟩
      · refine (RRefr_wf A N cap l _ a w1 hN (hs.up hb) (by omega) (fun s h => by have := hn s h; omega) hok.1 hok.2 hwf).mono ?_
        rintro e w' ⟨rfl, h4⟩
        exact ⟨_, _, _, rfl, rfl, ShL.nil, h4⟩
    | true =>
      obtain ⟨P, rfl⟩ := Int.eq_ofNat_of_zero_le (show 0 ≤ a by omega)
      refine ⟨masks (P - 1) rl l, 0, by rw [masks_len]; omega, fun w1 hb => ?_, fun w1 hb => ?_⟩
      · refine (refresh_any A N cap l B rl.length cb_ rl (P : Int) w1 hN rfl (hs.up hb) (by omega) (fun s h => by have := hn s h; omega) (hsB.up hb) (by omega) ⟨hcB, by omega⟩ hok.1 hok.2 hwf).mono ?_
        rintro e w' ⟨g, rfl, h3, h4⟩
        rw [Int.toNat_natCast] at h3
        exact ⟨_, _, _, rfl, by rw [masks_len]; exact hN, h3, h4⟩
      · refine (RRefr_any A N cap l B rl.length cb_ rl P (P - 1) w1 hN rfl (hs.up hb) (hsB.up hb) (by omega) (fun s h => by have := hn s h; omega) (by omega) (by omega) (by omega) hwf).mono ?_
        rintro e w' ⟨A', c', rfl, h3, h4⟩
        exact ⟨_, _, _, rfl, by rw [masks_len]; exact hN, h3, h4⟩
  · refine ⟨[], 1, by simp, fun w1 hb => ?_, fun w1 hb => ?_⟩
    · refine (refresh_bad _ _ a w1 hok).mono ?_
      rintro e w' ⟨rfl, rfl⟩
      exact ⟨_, _, _, rfl, rfl, ShL.nil, Below.refl _ _⟩
    · refine (RRefr_bad _ _ a w1 hok).mono ?_
      rintro e w' ⟨rfl, rfl⟩
      exact ⟨_, _, _, rfl, rfl, ShL.nil, Below.refl _ _⟩

theorem SSame_is (A C : Option Addr) (n m c d : Nat) (L : List Sh) (w : World) (h1 : n = L.length) (h2 : m = L.length) (hs : ShL w w.heap.size A L) (hp : ShL w w.heap.size C L) (hl : L.length ≤ 1000) :
    Calls Try.prog 13 #[.slice A n c, .slice C m d] w fun e w' => e = .returned (.bool true) ∧ Below w.heap.size w w' := by
  refine (SameShares_any A n c L C m d L w hs hp h1 h2 (by omega) (by omega)).mono ?_
  rintro e w' ⟨rfl, k, rfl⟩
  exact ⟨by simp, below_drewN (Below.refl _ _) k⟩
theorem BSame_is (A C : Option Addr) (n m c d : Nat) (l : List UInt8) (w : World) (h1 : n = l.length) (h2 : m = l.length) (hs : Shows w w.heap.size A l) (hp : Shows w w.heap.size C l) (hl : l.length ≤ 1000) :
    Calls Try.prog 14 #[.slice A n c, .slice C m d] w fun e w' => e = .returned (.bool true) ∧ Below w.heap.size w w' := by
  refine (Same_any A n c l C m d l w hs hp h1 h2 (by omega) (by omega)).mono ?_
  rintro e w' ⟨rfl, k, rfl⟩
  exact ⟨by simp, below_drewN (Below.refl _ _) k⟩

/-- the law's two boxes -/
structure BZ (w : World) (D F : Nat) (va vb : Value) (a b : Int) : Prop where
  d0 : w.cell? ⟨D, 0, none⟩ = some va
  d1 : w.cell? ⟨D, 1, none⟩ = some vb
  f0 : w.cell? ⟨F, 0, none⟩ = some (.int .i64 a)
  f1 : w.cell? ⟨F, 1, none⟩ = some (.int .i64 b)
  lD : D < w.heap.size
  lF : F < w.heap.size
theorem BZ.up {w w' : World} {D F : Nat} {va vb : Value} {a b : Int} (h : BZ w D F va vb a b) (hb : Below w.heap.size w w') : BZ w' D F va vb a b :=
  ⟨(hb.cell (p := ⟨D, 0, none⟩) h.lD).trans h.d0, (hb.cell (p := ⟨D, 1, none⟩) h.lD).trans h.d1, (hb.cell (p := ⟨F, 0, none⟩) h.lF).trans h.f0, (hb.cell (p := ⟨F, 1, none⟩) h.lF).trans h.f1, Nat.lt_of_lt_of_le h.lD hb.size, Nat.lt_of_lt_of_le h.lF hb.size⟩
theorem sane_z (w : World) (va vb vc vd : Value) (a b : Int) : Calls Try.prog 6 #[] ((w.alloc (.cells #[va, vb, vc, vd] 24)).alloc (.cells #[.int .i64 a, .int .i64 b] 25)) fun e w' => e = .returned (.bool true) ∧
    BZ w' w.heap.size (w.heap.size + 1) va vb a b ∧ Below w.heap.size w w' := by
  refine (sanity_any _).mono ?_
  rintro e w' ⟨h1, hb⟩
  obtain ⟨w0, hw0⟩ : ∃ w0, w0 = w.alloc (.cells #[va, vb, vc, vd] 24) := ⟨_, rfl⟩
  have hn := heap_alloc_new w (.cells #[va, vb, vc, vd] 24)
  rw [← hw0] at hb hn
  have hs : w0.heap.size = w.heap.size + 1 := by rw [hw0, hz]
  have hn2 := heap_alloc_new w0 (.cells #[.int .i64 a, .int .i64 b] 25)
  have hb1 := ba1 w0 (.cells #[.int .i64 a, .int .i64 b] 25)
  rw [hs] at hn2
  have l1 : w.heap.size < w0.heap.size := by omega
  have X : BZ (w0.alloc (.cells #[.int .i64 a, .int .i64 b] 25)) w.heap.size (w.heap.size + 1) va vb a b :=
    ⟨(hb1.cell (p := ⟨w.heap.size, 0, none⟩) l1).trans (cell_of_row _ w.heap.size 0 _ _ (0, 0) hn), (hb1.cell (p := ⟨w.heap.size, 1, none⟩) l1).trans (cell_of_row _ w.heap.size 1 _ _ (0, 0) hn),
      cell_of_row _ (w.heap.size + 1) 0 _ _ (0, 0) hn2, cell_of_row _ (w.heap.size + 1) 1 _ _ (0, 0) hn2, by rw [hz]; omega, by rw [hz]; omega⟩
  refine ⟨h1, X.up hb, step_al (step_al ?_ hb1) hb⟩
  rw [hw0]
  exact ba1 w _

attribute [local irreducible] splitL interpB wfB masks
set_option maxHeartbeats 2000000 in
set_option maxRecDepth 20000 in
/-- The deal is too great, or the list is too long: nothing is asked. -/
theorem walk_big (A : Option Addr) (ca : Nat) (sl : List UInt8) (B : Option Addr) (cb_ : Nat) (rl : List UInt8) (x y : UInt8) (a b : Int) (C : Option Addr) (cc : Nat) (l : List Sh) (w : World) (hsl : sl.length ≤ 9223372036854775807) (hrl : rl.length ≤ 9223372036854775807) (hl : l.length ≤ 9223372036854775807)
    (hbig : ¬ (sl.length ≤ 24 ∧ rl.length ≤ 2000 ∧ l.length ≤ 300)) :
    Calls Try.prog 3 #[.agg #[.slice A sl.length ca, .slice B rl.length cb_, .int .u8 (x.toNat : Int), .int .u8 (y.toNat : Int)], .agg #[.int .i64 a, .int .i64 b], .slice C l.length cc] w fun e w' => e = .returned (.bool true) ∧ Below w.heap.size w w' := by
  generalize sl.length = N at *
  generalize rl.length = R at *
  generalize l.length = M at *
  by_cases i1 : 24 < (N : Int)
  · clear hbig
    go_enter Try.func3, Try.ntmps3
    go_wp2_with (first
      | ((with_reducible show Calls _ 6 _ _ _); refine (sane_z w _ _ _ _ a b).mono ?_; rintro e w1 ⟨rfl, hx1, hb1⟩; have HB1 := Lib.hid hb1; have X1 := Lib.hid hx1; have c0 := hx1.d0; have c1 := hx1.d1; have c2 := hx1.f0; have c3 := hx1.f1; clear hb1 hx1))
    go_ret
    exact ⟨rfl, HB1.out⟩
  · by_cases i2 : 2000 < (R : Int)
    · clear hbig
      go_enter Try.func3, Try.ntmps3
      go_wp2_with (first
        | ((with_reducible show Calls _ 6 _ _ _); refine (sane_z w _ _ _ _ a b).mono ?_; rintro e w1 ⟨rfl, hx1, hb1⟩; have HB1 := Lib.hid hb1; have X1 := Lib.hid hx1; have c0 := hx1.d0; have c1 := hx1.d1; have c2 := hx1.f0; have c3 := hx1.f1; clear hb1 hx1))
      go_ret
      exact ⟨rfl, HB1.out⟩
    · have i3 : 300 < (M : Int) := by omega
      clear hbig
      go_enter Try.func3, Try.ntmps3
      go_wp2_with (first
        | ((with_reducible show Calls _ 6 _ _ _); refine (sane_z w _ _ _ _ a b).mono ?_; rintro e w1 ⟨rfl, hx1, hb1⟩; have HB1 := Lib.hid hb1; have X1 := Lib.hid hx1; have c0 := hx1.d0; have c1 := hx1.d1; have c2 := hx1.f0; have c3 := hx1.f1; clear hb1 hx1))
      go_ret
      exact ⟨rfl, HB1.out⟩

set_option maxHeartbeats 8000000 in
set_option maxRecDepth 100000 in
theorem walk_small (A : Option Addr) (ca : Nat) (sl : List UInt8) (B : Option Addr) (cb_ : Nat) (rl : List UInt8) (x y : UInt8) (a b : Int) (C : Option Addr) (cc : Nat) (l : List Sh) (w : World) (h1 : sl.length ≤ 24) (h2 : rl.length ≤ 2000) (h3 : l.length ≤ 300)
    (hsA : Shows w w.heap.size A sl) (hcA : sl.length ≤ ca) (hmA : ca ≤ 140737488351232) (hsB : Shows w w.heap.size B rl) (hcB : rl.length ≤ cb_) (hmB : cb_ ≤ 140737488351232) (hsC : ShL w w.heap.size C l) (hcC : l.length ≤ cc) (hmC : cc ≤ 9223372036854775807) :
    Calls Try.prog 3 #[.agg #[.slice A sl.length ca, .slice B rl.length cb_, .int .u8 (x.toNat : Int), .int .u8 (y.toNat : Int)], .agg #[.int .i64 a, .int .i64 b], .slice C l.length cc] w fun e w' => e = .returned (.bool true) ∧ Below w.heap.size w w' := by
  obtain ⟨L1, E1, hl1, hp1, hr1⟩ := split_both A ca sl B cb_ rl a b w h1 h2 hsA hcA hmA hsB hcB hmB
  have HC2 : Hid ((∀ s ∈ l, s.2.length ≤ 24) → ∃ (bs : List UInt8) (E : Int), bs.length ≤ 24 ∧
      (∀ w1, Below w.heap.size w w1 → Calls Try.prog 9 #[.slice C l.length cc, .int .i64 a] w1 (ByPost bs E w1)) ∧
      (∀ w1, Below w.heap.size w w1 → Calls Try.prog 10 #[.slice C l.length cc, .int .i64 a] w1 (ByPost bs E w1))) := fun hn =>
    combine_both C l.length cc l a w rfl hsC h3 ⟨hcC, hmC⟩ hn
  have HR2 : Hid ((∀ s ∈ l, s.2.length ≤ 24) → ∃ (L : List Sh) (E : Int), L.length ≤ 300 ∧
      (∀ w1, Below w.heap.size w w1 → Calls Try.prog 11 #[.slice C l.length cc, .slice B rl.length cb_, .int .i64 a] w1 (ShPost L E w1)) ∧
      (∀ w1, Below w.heap.size w w1 → Calls Try.prog 12 #[.slice C l.length cc, .slice B rl.length cb_, .int .i64 a] w1 (ShPost L E w1))) := fun hn =>
    refresh_both C l.length cc l B cb_ rl a w rfl hsC h3 hn h2 hsB hcB hmB
  have HP1 := Lib.hid hp1
  have HR1 := Lib.hid hr1
  have HS := Lib.hid hsC
  obtain ⟨N, hN⟩ : ∃ N, N = sl.length := ⟨_, rfl⟩
  obtain ⟨R, hR⟩ : ∃ N, N = rl.length := ⟨_, rfl⟩
  obtain ⟨M, hM⟩ : ∃ N, N = l.length := ⟨_, rfl⟩
  have HM := Lib.hid hM
  rw [← hN] at h1 HP1 HR1
  rw [← hR] at h2 HP1 HR1 HR2
  rw [← hM] at h3 HC2 HR2
  rw [← hN, ← hR, ← hM]
  clear hsA hcA hmA hsB hcB hmB hsC hcC hmC hp1 hr1 hN hR hM
  have i1 : (N : Int) ≤ 24 := by omega
  have i2 : (R : Int) ≤ 2000 := by omega
  have i3 : (M : Int) ≤ 300 := by omega
  go_enter Try.func3, Try.ntmps3
  go_wp2_with (first
    | ((with_reducible show Calls _ 6 _ _ _); refine (sane_z w _ _ _ _ a b).mono ?_; rintro e w1 ⟨rfl, hx1, hb1⟩; have HB1 := Lib.hid hb1; have X1 := Lib.hid hx1; have c0 := hx1.d0; have c1 := hx1.d1; have c2 := hx1.f0; have c3 := hx1.f1; clear hb1 hx1))
  all_goals try (exfalso; omega)
  clear c0 c1 c2 c3
  have hlen0 : Hid (∀ j s, j < 0 → l[j]? = some s → s.2.length ≤ 24) := fun j s hj => absurd hj (Nat.not_lt_zero _)
  go_loopw [8] (fun i wr => ∃ k : Nat, k ≤ M ∧ i = .int .i64 k ∧ Hid (∀ j s, j < k → l[j]? = some s → s.2.length ≤ 24) ∧ Hid (wr = w1)) (fun i _ => M - (intOf i).toNat)
  case atStart => exact ⟨0, Nat.zero_le _, rfl, hlen0, rfl⟩
  case round =>
    clear hlen0
    obtain ⟨k, hk, rfl, hle, hw⟩ := hrel
    obtain ⟨wo, hwo⟩ : ∃ wo : World, wo = wr := ⟨_, rfl⟩
    subst hwo
    by_cases hlt : k < M
    · have j1 : (k : Int) < (M : Int) := by omega
      obtain ⟨s, hs⟩ : ∃ s, l[k]? = some s := ⟨l[k]'(by rw [← HM.out]; exact hlt), by simp⟩
      have HSB : Hid (ShL wo w.heap.size C l) := by show ShL _ _ _ _; rw [hw.out]; exact HS.out.below HB1.out
      obtain ⟨b1, off1, rfl, hbB, e1, A1, n1, e2, hsh1, hle1, hmx1⟩ := HSB.out.one hs
      obtain ⟨n, hn⟩ : ∃ n, n = s.2.length := ⟨_, rfl⟩
      have HNN := Lib.hid hn
      rw [← hn] at e2 hle1
      have hn9 : n ≤ 9223372036854775807 := by omega
      have HSS := Lib.hid hs
      clear hn hs hsh1 e1
      by_cases hbig : 24 < n
      · have j2 : 24 < (n : Int) := by omega
        go_wp2
        go_ret
        exact ⟨rfl, by rw [hw.out]; exact HB1.out⟩
      · have j2 : ¬ 24 < (n : Int) := by omega
        have HL2 : Hid (∀ j s, j < k + 1 → l[j]? = some s → s.2.length ≤ 24) := fun j t hj ht => by
          by_cases hjk : j < k
          · exact hle.out j t hjk ht
          · have : j = k := by omega
            subst this
            obtain rfl : t = s := Option.some.inj (ht.symm.trans HSS.out)
            rw [← HNN.out]
            omega
        go_wp2
        go_roundw
        case rel => exact ⟨k + 1, by omega, by go_num, HL2, hw⟩
        case measure => simp [intOf]; omega
    · have hkM : k = M := by omega
      have j1 : ¬ (k : Int) < (M : Int) := by omega
      have hall : ∀ s ∈ l, s.2.length ≤ 24 := fun s hs => by
        obtain ⟨j, hj⟩ := List.mem_iff_getElem?.1 hs
        exact hle.out j s (by rw [hkM, HM.out]; exact (List.getElem?_eq_some_iff.1 hj).1) hj
      obtain ⟨bs, E2, hbs, hp2, hr2⟩ := HC2.out hall
      obtain ⟨L3, E3, hl3, hp3, hr3⟩ := HR2.out hall
      have HP2 := Lib.hid hp2
      have HR4 := Lib.hid hr2
      have HP3 := Lib.hid hp3
      have HR5 := Lib.hid hr3
      have HL1 := Lib.hid (show L1.length ≤ 1000 by omega)
      have HL3 := Lib.hid (show L3.length ≤ 1000 by omega)
      have HLB := Lib.hid (show bs.length ≤ 1000 by omega)
      have hww : wo = w1 := hw.out
      subst hww
      have c0 := X1.out.d0
      have c1 := X1.out.d1
      have c2 := X1.out.f0
      have c3 := X1.out.f1
      clear hall hp2 hr2 hp3 hr3 hbs hl3 hl1 HC2 HR2 hle
      go_wp2_with (first
        | ((with_reducible show Calls _ 7 _ _ _); refine (HP1.out _ HB1.out).mono ?_; rintro e w2 ⟨A2, n2, k2, rfl, hn2, hs2, hb2⟩; have HN2 := Lib.hid hn2; have HS2 := Lib.hid hs2; have HB2 := Lib.hid (step_al HB1.out hb2); have X2 := Lib.hid (X1.out.up hb2); have d0 := X2.out.d0; have d1 := X2.out.d1; have d2 := X2.out.f0; have d3 := X2.out.f1; clear hn2 hs2 hb2)
        | ((with_reducible show Calls _ 8 _ _ _); refine (HR1.out _ HB2.out).mono ?_; rintro e w3 ⟨A3, n3, k3, rfl, hn3, hs3, hb3⟩; have HN3 := Lib.hid hn3; have HS3 := Lib.hid hs3; have HT3 := Lib.hid (HS2.out.up hb3); have HB3 := Lib.hid (step_al HB2.out hb3); have X3 := Lib.hid (X2.out.up hb3); have u0 := X3.out.d0; have u1 := X3.out.d1; have u2 := X3.out.f0; have u3 := X3.out.f1; clear hn3 hs3 hb3)
        | ((with_reducible show Calls _ 9 _ _ _); refine (HP2.out _ HB3.out).mono ?_; rintro e w4 ⟨A4, n4, k4, rfl, hn4, hs4, hb4⟩; have HN4 := Lib.hid hn4; have HS4 := Lib.hid hs4; have HT4 := Lib.hid (HT3.out.up hb4); have HU4 := Lib.hid (HS3.out.up hb4); have HB4 := Lib.hid (step_al HB3.out hb4); have X4 := Lib.hid (X3.out.up hb4); have v0 := X4.out.d0; have v1 := X4.out.d1; have v2 := X4.out.f0; have v3 := X4.out.f1; clear hn4 hs4 hb4)
        | ((with_reducible show Calls _ 10 _ _ _); refine (HR4.out _ HB4.out).mono ?_; rintro e w5 ⟨A5, n5, k5, rfl, hn5, hs5, hb5⟩; have HN5 := Lib.hid hn5; have HS5 := Lib.hid hs5; have HT5 := Lib.hid (HT4.out.up hb5); have HU5 := Lib.hid (HU4.out.up hb5); have HV5 := Lib.hid (HS4.out.up hb5); have HB5 := Lib.hid (step_al HB4.out hb5); have X5 := Lib.hid (X4.out.up hb5); have p0 := X5.out.d0; have p1 := X5.out.d1; have p2 := X5.out.f0; have p3 := X5.out.f1; clear hn5 hs5 hb5)
        | ((with_reducible show Calls _ 11 _ _ _); refine (HP3.out _ HB5.out).mono ?_; rintro e w6 ⟨A6, n6, k6, rfl, hn6, hs6, hb6⟩; have HN6 := Lib.hid hn6; have HS6 := Lib.hid hs6; have HT6 := Lib.hid (HT5.out.up hb6); have HU6 := Lib.hid (HU5.out.up hb6); have HV6 := Lib.hid (HV5.out.up hb6); have HW6 := Lib.hid (HS5.out.up hb6); have HB6 := Lib.hid (step_al HB5.out hb6); have X6 := Lib.hid (X5.out.up hb6); have q0 := X6.out.d0; have q1 := X6.out.d1; have q2 := X6.out.f0; have q3 := X6.out.f1; clear hn6 hs6 hb6)
        | ((with_reducible show Calls _ 12 _ _ _); refine (HR5.out _ HB6.out).mono ?_; rintro e w7 ⟨A7, n7, k7, rfl, hn7, hs7, hb7⟩; have HN7 := Lib.hid hn7; have HS7 := Lib.hid hs7; have HT7 := Lib.hid (HT6.out.up hb7); have HU7 := Lib.hid (HU6.out.up hb7); have HV7 := Lib.hid (HV6.out.up hb7); have HW7 := Lib.hid (HW6.out.up hb7); have HY7 := Lib.hid (HS6.out.up hb7); have HB7 := Lib.hid (step_al HB6.out hb7); clear hn7 hs7 hb7)
        | ((with_reducible show Calls _ 13 #[.slice A2 _ _, .slice A3 _ _] w7 _); refine (SSame_is A2 A3 n2 n3 k2 k3 L1 w7 HN2.out HN3.out HT7.out HU7.out HL1.out).mono ?_; rintro e w8 ⟨rfl, hb8⟩; have HB78 := Lib.hid hb8; have HB8 := Lib.hid (step_al HB7.out hb8); clear hb8)
        | ((with_reducible show Calls _ 14 _ _ _); refine (BSame_is A4 A5 n4 n5 k4 k5 bs w8 HN4.out HN5.out (HV7.out.up HB78.out) (HW7.out.up HB78.out) HLB.out).mono ?_; rintro e w9 ⟨rfl, hb9⟩; have HB79 := Lib.hid (step_al HB78.out hb9); have HB9 := Lib.hid (step_al HB8.out hb9); clear hb9)
        | ((with_reducible show Calls _ 13 _ _ _); refine (SSame_is A6 A7 n6 n7 k6 k7 L3 w9 HN6.out HN7.out (HY7.out.up HB79.out) (HS7.out.up HB79.out) HL3.out).mono ?_; rintro e w10 ⟨rfl, hb10⟩; have HB10 := Lib.hid (step_al HB9.out hb10); clear hb10))
      go_ret
      exact ⟨rfl, HB10.out⟩

theorem walk (A : Option Addr) (ca : Nat) (sl : List UInt8) (B : Option Addr) (cb_ : Nat) (rl : List UInt8) (x y : UInt8) (a b : Int) (C : Option Addr) (cc : Nat) (l : List Sh) (w : World)
    (hsA : Shows w w.heap.size A sl) (hcA : sl.length ≤ ca) (hmA : ca ≤ 140737488351232) (hsB : Shows w w.heap.size B rl) (hcB : rl.length ≤ cb_) (hmB : cb_ ≤ 140737488351232) (hsC : ShL w w.heap.size C l) (hcC : l.length ≤ cc) (hmC : cc ≤ 9223372036854775807) :
    Calls Try.prog 3 #[.agg #[.slice A sl.length ca, .slice B rl.length cb_, .int .u8 (x.toNat : Int), .int .u8 (y.toNat : Int)], .agg #[.int .i64 a, .int .i64 b], .slice C l.length cc] w fun e w' => e = .returned (.bool true) ∧ Below w.heap.size w w' := by
  by_cases h : sl.length ≤ 24 ∧ rl.length ≤ 2000 ∧ l.length ≤ 300
  · exact walk_small A ca sl B cb_ rl x y a b C cc l w h.1 h.2.1 h.2.2 hsA hcA hmA hsB hcB hmB hsC hcC hmC
  · exact walk_big A ca sl B cb_ rl x y a b C cc l w (by omega) (by omega) (by omega) h

set_option maxRecDepth 100000 in
theorem contract (H : Type) (enc : TypeId × Value → H) (W : World) (base : Nat) (args : Array Value) (ds gs : List (DataW H)) (before : List MemPlace)
    (hval : ∀ (j : Nat) t v, Try.f3.params[j]? = some t → args[j]? = some v → Value.okWide Try.prog W .any base t v)
    (hW : DataW.Whole enc Try.prog Try.f3.params.toList Rows.shareMatchesReferenceSpec.vars false W args.toList ds gs before)
    (hsz : (DataW.weightsEach Try.prog (Try.f3.params.toList ++ Rows.shareMatchesReferenceSpec.plain.varTypes Try.prog) (ds ++ gs)).all (· ≤ reachBytes) = true) :
    Calls Try.prog 3 args W fun e W' => ∃ v, e = .returned v ∧ Rows.shareMatchesReferenceSpec.post enc Try.prog Try.f3 false true false false W args v W' := by
  have hW' := hW
  obtain ⟨p, q, hA0, hV, rfl, _, _⟩ := hW
  have hA : DataW.TrodAll enc Try.prog W 0 (fun _ => true) true Try.f3.params.toList args.toList ds p := hA0
  rw [Try.params3] at hA hval hsz
  obtain ⟨v0, vs0, d0, ds0, p0, q0, hargs, rfl, rfl, h0, r0⟩ := trodAll_cons hA
  obtain ⟨v1, vs1, d1, ds1, p1, q1, rfl, rfl, rfl, h1, r1⟩ := trodAll_cons r0
  obtain ⟨v2, vs2, d2, ds2, p2, q2, rfl, rfl, rfl, h2, r2⟩ := trodAll_cons r1
  obtain ⟨rfl, rfl, rfl⟩ := trodAll_nil r2
  obtain rfl : args = #[v0, v1, v2] := by cases args; simp_all
  obtain ⟨rfl, rfl⟩ := trodVars_none hV
  have k0 := h0
  have lt0 : ∀ x ∈ p0, x.block < W.heap.size := by obtain ⟨m, hm⟩ := k0; exact DataW.trod_lt m _ _ _ hm
  have S0 : ∀ n ∈ d0.weights Try.prog 24, n ≤ 140737488351232 := weights_le hsz (j := 0) rfl rfl
  have k1 := h1
  have lt1 : ∀ x ∈ p1, x.block < W.heap.size := by obtain ⟨m, hm⟩ := k1; exact DataW.trod_lt m _ _ _ hm
  have S1 : ∀ n ∈ d1.weights Try.prog 25, n ≤ 140737488351232 := weights_le hsz (j := 1) rfl rfl
  have k2 := h2
  have lt2 : ∀ x ∈ p2, x.block < W.heap.size := by obtain ⟨m, hm⟩ := k2; exact DataW.trod_lt m _ _ _ hm
  have S2 : ∀ n ∈ d2.weights Try.prog 26, n ≤ 140737488351232 := weights_le hsz (j := 2) rfl rfl
  obtain ⟨A0, ca0, sl0, B0, cb0, rl0, x0, y0, rfl, hsA0, hcA0, hsB0, hcB0, Y0⟩ := open_deal (hval 0 24 v0 rfl rfl) h0
  have Z0 := Y0 S0
  obtain ⟨x1, y1, rfl, _, _, _, _⟩ := open_i2 (hval 1 25 v1 rfl rfl) h1
  obtain ⟨a2, len2, cap2, rfl⟩ := okWide_slice Try.underlying26 (hval 2 26 v2 rfl rfl)
  obtain ⟨fu2, hf2⟩ := h2
  obtain ⟨L2, rfl, hlc2, hcm2, hE2⟩ := open_shares hf2
  refine (walk A0 ca0 sl0 B0 cb0 rl0 x0 y0 x1 y1 a2 cap2 L2 W hsA0 hcA0 Z0.1 hsB0 hcB0 Z0.2 hE2 hlc2 hcm2).mono fun e W' ⟨he, bel⟩ => ?_
  subst he
  exact ⟨_, rfl, _, _, _, [], _, [], hW', trodAll_mk1 (shut_bool Try.underlying4 _), (trodAll_cons_mk (Below.trod laidOut (by kernel_rfl) (of_decide_eq_true (by kernel_rfl)) k0 bel lt0) (trodAll_cons_mk (Below.trod laidOut (by kernel_rfl) (of_decide_eq_true (by kernel_rfl)) k1 bel lt1) (trodAll_cons_mk (Below.trod laidOut (by kernel_rfl) (of_decide_eq_true (by kernel_rfl)) k2 bel lt2) trodAll_mk0))), rfl, bel.frame _, fun h => by cases h⟩

set_option maxRecDepth 100000 in
theorem lifted (os : Os) (started : os.Started) (H : Type) (enc : TypeId × Value → H) :
    ReturnsInHanded {} Try.checked os 3 .any (Rows.shareMatchesReferenceSpec.pre6 enc Try.prog Try.f3 Rows.shareMatchesReferenceRow.domain false) (Rows.shareMatchesReferenceSpec.post enc Try.prog Try.f3 false true false false) := by
  refine returnsInHanded_of_change_sized (C := Try.checked) own started (by kernel_rfl) Try.func3
    (ChangeSpec.witness6 (enc := enc) (C := Try.checked) false ⟨#[], #[.agg #[.slice none 0 0, .slice none 0 0, .int .u8 0, .int .u8 0], .agg #[.int .i64 0, .int .i64 0], .slice none 0 0], []⟩ 8 (by kernel_rfl) (by kernel_rfl) (by kernel_rfl) (by kernel_rfl)) ?_
  intro W base args ds gs before hval hW _ hsz _
  exact contract H enc W base args ds gs before hval hW hsz

/-- The statement. -/
theorem proved : Rows.ShareMatchesReferenceSaid :=
  OpenClaim.holds_of_wide 3 Try.f3 rfl rfl rfl rfl rfl rfl rfl ⟨rfl, rfl, rfl, rfl, rfl⟩ rfl rfl rfl rfl rfl (by kernel_rfl) Try.func3 (by kernel_rfl)
    (of_decide_eq_true (by kernel_rfl)) (by unfold Func.isWrapper; rw [if_neg (of_decide_eq_false (by kernel_rfl))]; exact ⟨rfl, rfl⟩)
    (fun os started H enc _ => lifted os started H enc)
end Go.Proofs.Yteaaadccjnmacaa.smr
