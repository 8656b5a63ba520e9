/-
  The reference's calendar: leap years, months, dates, by contracts.
-/
import Derived.Test.YteaaadccjnmacaaGreatDoorValP
import Derived.Test.YteaaadccjnmacaaGreatDoorDayS
namespace Go.Proofs.YteaaadccjnmacaaGreatDoor
open Go.RowKit

/-- a leap year -/
def lpB (y : Int) : Bool := decide (y % 4 = 0 ∧ (¬ y % 100 = 0 ∨ y % 400 = 0))
theorem tm0 (y k : Int) : y % k = 0 ↔ y.tmod k = 0 := by rw [← Int.dvd_iff_tmod_eq_zero, Int.dvd_iff_emod_eq_zero]
theorem lpB_eq (y : Int) : lpB y = (y.tmod 4 == 0 && (!(y.tmod 100 == 0) || y.tmod 400 == 0)) := by
  have a := tm0 y 4
  have b := tm0 y 100
  have c := tm0 y 400
  unfold lpB
  by_cases h4 : y.tmod 4 = 0 <;> by_cases h100 : y.tmod 100 = 0 <;> by_cases h400 : y.tmod 400 = 0 <;> simp [a, b, c, h4, h100, h400]
theorem Rleap_any (y : Int) (w : World) (h0 : -1000000 ≤ y) (h1 : y ≤ 1000000) (z : Bool) (hz : lpB y = z) : Calls Tryz.prog 74 #[.int .i64 y] w fun e w' => e = .returned (.bool z) ∧ w' = w := by
  subst hz
  go_enter Tryz.func74, Tryz.ntmps74
  go_wp2
  all_goals go_ret
  all_goals refine ⟨?_, rfl⟩
  all_goals rw [lpB_eq]
  all_goals simp [*]
/-- the days of a year -/
theorem Rlength_any (y : Int) (w : World) (h0 : -1000000 ≤ y) (h1 : y ≤ 1000000) : Calls Tryz.prog 52 #[.int .i64 y] w fun e w' => e = .returned (.int .i64 (if lpB y = true then 366 else 365)) ∧ w' = w := by
  cases hz : lpB y with
  | true =>
    have HL := Lib.hid (fun w1 => Rleap_any y w1 h0 h1 true hz)
    go_enter Tryz.func52, Tryz.ntmps52
    go_wp2_with (go_at_call 74; refine (HL.out _).mono ?_; rintro e w1 ⟨rfl, rfl⟩)
    go_ret
    exact ⟨by simp, rfl⟩
  | false =>
    have HL := Lib.hid (fun w1 => Rleap_any y w1 h0 h1 false hz)
    go_enter Tryz.func52, Tryz.ntmps52
    go_wp2_with (go_at_call 74; refine (HL.out _).mono ?_; rintro e w1 ⟨rfl, rfl⟩)
    go_ret
    exact ⟨by simp, rfl⟩
end Go.Proofs.YteaaadccjnmacaaGreatDoor
namespace Go.Proofs.YteaaadccjnmacaaGreatDoor
open Go.RowKit

def monT : List Int := [31, 28, 31, 30, 31, 30, 31, 31, 30, 31, 30, 31]
/-- the days of month m (1 to 12) of year y -/
def mdays (y : Int) (m : Nat) : Int := if m = 2 ∧ lpB y = true then 29 else monT.getD (m - 1) 0
theorem month_feb (y : Int) (w : World) (h0 : -1000000 ≤ y) (h1 : y ≤ 1000000) : Calls Tryz.prog 53 #[.int .i64 y, .int .i64 2] w fun e w' => e = .returned (.int .i64 (mdays y 2)) ∧ Below w.heap.size w w' := by
  cases hz : lpB y with
  | true =>
    have HL := Lib.hid (fun w1 => Rleap_any y w1 h0 h1 true hz)
    have e : mdays y 2 = 29 := by simp [mdays, hz]
    rw [e]
    clear hz e
    go_enter Tryz.func53, Tryz.ntmps53
    go_wp2_with (go_at_call 74; refine (HL.out _).mono ?_; rintro e w1 ⟨rfl, rfl⟩)
    go_ret
    exact ⟨rfl, val_al _ _⟩
  | false =>
    have HL := Lib.hid (fun w1 => Rleap_any y w1 h0 h1 false hz)
    have e : mdays y 2 = 28 := by simp [mdays, hz, monT]
    rw [e]
    clear hz e
    go_enter Tryz.func53, Tryz.ntmps53
    go_wp2_with (go_at_call 74; refine (HL.out _).mono ?_; rintro e w1 ⟨rfl, rfl⟩)
    go_ret
    exact ⟨rfl, val_al _ _⟩
theorem mdays_other (y : Int) (m : Nat) (d : Int) (hm : ¬ m = 2) (hd : monT.getD (m - 1) 0 = d) : mdays y m = d := by
  unfold mdays
  rw [if_neg (fun h => hm h.1), hd]
theorem month_1 (y : Int) (w : World) : Calls Tryz.prog 53 #[.int .i64 y, .int .i64 1] w fun e w' => e = .returned (.int .i64 (mdays y 1)) ∧ Below w.heap.size w w' := by
  rw [mdays_other y 1 31 (by decide) (by decide)]
  go_enter Tryz.func53, Tryz.ntmps53
  go_wp2
  go_ret
  exact ⟨rfl, val_al _ _⟩
theorem month_3 (y : Int) (w : World) : Calls Tryz.prog 53 #[.int .i64 y, .int .i64 3] w fun e w' => e = .returned (.int .i64 (mdays y 3)) ∧ Below w.heap.size w w' := by
  rw [mdays_other y 3 31 (by decide) (by decide)]
  go_enter Tryz.func53, Tryz.ntmps53
  go_wp2
  go_ret
  exact ⟨rfl, val_al _ _⟩
theorem month_4 (y : Int) (w : World) : Calls Tryz.prog 53 #[.int .i64 y, .int .i64 4] w fun e w' => e = .returned (.int .i64 (mdays y 4)) ∧ Below w.heap.size w w' := by
  rw [mdays_other y 4 30 (by decide) (by decide)]
  go_enter Tryz.func53, Tryz.ntmps53
  go_wp2
  go_ret
  exact ⟨rfl, val_al _ _⟩
theorem month_5 (y : Int) (w : World) : Calls Tryz.prog 53 #[.int .i64 y, .int .i64 5] w fun e w' => e = .returned (.int .i64 (mdays y 5)) ∧ Below w.heap.size w w' := by
  rw [mdays_other y 5 31 (by decide) (by decide)]
  go_enter Tryz.func53, Tryz.ntmps53
  go_wp2
  go_ret
  exact ⟨rfl, val_al _ _⟩
theorem month_6 (y : Int) (w : World) : Calls Tryz.prog 53 #[.int .i64 y, .int .i64 6] w fun e w' => e = .returned (.int .i64 (mdays y 6)) ∧ Below w.heap.size w w' := by
  rw [mdays_other y 6 30 (by decide) (by decide)]
  go_enter Tryz.func53, Tryz.ntmps53
  go_wp2
  go_ret
  exact ⟨rfl, val_al _ _⟩
theorem month_7 (y : Int) (w : World) : Calls Tryz.prog 53 #[.int .i64 y, .int .i64 7] w fun e w' => e = .returned (.int .i64 (mdays y 7)) ∧ Below w.heap.size w w' := by
  rw [mdays_other y 7 31 (by decide) (by decide)]
  go_enter Tryz.func53, Tryz.ntmps53
  go_wp2
  go_ret
  exact ⟨rfl, val_al _ _⟩
theorem month_8 (y : Int) (w : World) : Calls Tryz.prog 53 #[.int .i64 y, .int .i64 8] w fun e w' => e = .returned (.int .i64 (mdays y 8)) ∧ Below w.heap.size w w' := by
  rw [mdays_other y 8 31 (by decide) (by decide)]
  go_enter Tryz.func53, Tryz.ntmps53
  go_wp2
  go_ret
  exact ⟨rfl, val_al _ _⟩
theorem month_9 (y : Int) (w : World) : Calls Tryz.prog 53 #[.int .i64 y, .int .i64 9] w fun e w' => e = .returned (.int .i64 (mdays y 9)) ∧ Below w.heap.size w w' := by
  rw [mdays_other y 9 30 (by decide) (by decide)]
  go_enter Tryz.func53, Tryz.ntmps53
  go_wp2
  go_ret
  exact ⟨rfl, val_al _ _⟩
theorem month_10 (y : Int) (w : World) : Calls Tryz.prog 53 #[.int .i64 y, .int .i64 10] w fun e w' => e = .returned (.int .i64 (mdays y 10)) ∧ Below w.heap.size w w' := by
  rw [mdays_other y 10 31 (by decide) (by decide)]
  go_enter Tryz.func53, Tryz.ntmps53
  go_wp2
  go_ret
  exact ⟨rfl, val_al _ _⟩
theorem month_11 (y : Int) (w : World) : Calls Tryz.prog 53 #[.int .i64 y, .int .i64 11] w fun e w' => e = .returned (.int .i64 (mdays y 11)) ∧ Below w.heap.size w w' := by
  rw [mdays_other y 11 30 (by decide) (by decide)]
  go_enter Tryz.func53, Tryz.ntmps53
  go_wp2
  go_ret
  exact ⟨rfl, val_al _ _⟩
theorem month_12 (y : Int) (w : World) : Calls Tryz.prog 53 #[.int .i64 y, .int .i64 12] w fun e w' => e = .returned (.int .i64 (mdays y 12)) ∧ Below w.heap.size w w' := by
  rw [mdays_other y 12 31 (by decide) (by decide)]
  go_enter Tryz.func53, Tryz.ntmps53
  go_wp2
  go_ret
  exact ⟨rfl, val_al _ _⟩
/-- the days of a month -/
theorem Rmonth_any (y : Int) (m : Nat) (w : World) (h0 : -1000000 ≤ y) (h1 : y ≤ 1000000) (hm : 1 ≤ m) (hM : m ≤ 12) : Calls Tryz.prog 53 #[.int .i64 y, .int .i64 (m : Int)] w fun e w' => e = .returned (.int .i64 (mdays y m)) ∧ Below w.heap.size w w' := by
  rcases (by omega : m = 1 ∨ m = 2 ∨ m = 3 ∨ m = 4 ∨ m = 5 ∨ m = 6 ∨ m = 7 ∨ m = 8 ∨ m = 9 ∨ m = 10 ∨ m = 11 ∨ m = 12) with rfl | rfl | rfl | rfl | rfl | rfl | rfl | rfl | rfl | rfl | rfl | rfl
  · exact month_1 y w
  · exact month_feb y w h0 h1
  · exact month_3 y w
  · exact month_4 y w
  · exact month_5 y w
  · exact month_6 y w
  · exact month_7 y w
  · exact month_8 y w
  · exact month_9 y w
  · exact month_10 y w
  · exact month_11 y w
  · exact month_12 y w
end Go.Proofs.YteaaadccjnmacaaGreatDoor
namespace Go.Proofs.YteaaadccjnmacaaGreatDoor

theorem lpY_lp (q : Int) : lpY (q + 1) - lpY q = if lpB (q - 799) = true then 1 else 0 := by
  unfold lpY lpB
  by_cases h : (q - 799) % 4 = 0 ∧ (¬ (q - 799) % 100 = 0 ∨ (q - 799) % 400 = 0)
  · rw [decide_eq_true h, if_pos rfl]
    omega
  · rw [decide_eq_false h, if_neg (by decide)]
    omega
/-- the month after this one starts that many days later -/
theorem mStart_next (q k : Nat) (hk : k < 12) : mStart (12 * q + k + 1) = mStart (12 * q + k) + mdays ((q : Int) - 799) (k + 1) := by
  have hs := lpY_lp (q : Int)
  have ed : (12 * q + k) / 12 = q := by omega
  have em : (12 * q + k) % 12 = k := by omega
  unfold mStart mdays
  rw [ed, em]
  by_cases h11 : k = 11
  · subst h11
    have e1 : (12 * q + 11 + 1) % 12 = 0 := by omega
    have e2 : (12 * q + 11 + 1) / 12 = q + 1 := by omega
    rw [e1, e2]
    simp [bef, befT, monT, List.getD]
    omega
  · have e1 : (12 * q + k + 1) % 12 = k + 1 := by omega
    have e2 : (12 * q + k + 1) / 12 = q := by omega
    rw [e1, e2]
    cases hz : lpB ((q : Int) - 799) <;> rw [hz] at hs <;> rcases lt12 hk with rfl | rfl | rfl | rfl | rfl | rfl | rfl | rfl | rfl | rfl | rfl | rfl <;> (first | exact absurd rfl h11 | skip) <;> simp [bef, befT, monT, List.getD] at hs ⊢ <;> omega
/-- the year after this one starts that many days later -/
theorem yStart_next (q : Nat) : mStart (12 * (q + 1)) = mStart (12 * q) + (if lpB ((q : Int) - 799) = true then 366 else 365) := by
  have hs := lpY_lp (q : Int)
  have ed : (12 * q) / 12 = q := by omega
  have em : (12 * q) % 12 = 0 := by omega
  have ed' : (12 * (q + 1)) / 12 = q + 1 := by omega
  have em' : (12 * (q + 1)) % 12 = 0 := by omega
  unfold mStart
  rw [ed, em, ed', em']
  cases hz : lpB ((q : Int) - 799) <;> rw [hz] at hs <;> simp [bef, befT, List.getD] at hs ⊢ <;> omega
/-- 1970 starts at day 0 -/
theorem yStart_1970 : mStart (12 * 2769) = 0 := by decide
end Go.Proofs.YteaaadccjnmacaaGreatDoor
namespace Go.Proofs.YteaaadccjnmacaaGreatDoor
open Go.RowKit

set_option maxHeartbeats 2000000 in
theorem Rdate_any (d : Int) (m : Nat) (w : World) (h0 : -1000000 ≤ d) (h1 : d ≤ 1000000) (hm : mStart m ≤ d) (hM : d < mStart (m + 1)) (hmm : m ≤ 80000) : Calls Tryz.prog 31 #[.int .i64 d] w fun e w' => e = .returned (.tuple #[.int .i64 (((m / 12 : Nat) : Int) - 799), .int .i64 ((m % 12 : Nat) + 1 : Int), .int .i64 (d - mStart m + 1)]) ∧ Below w.heap.size w w' := by
  have HLEN : Hid (∀ (q : Nat) (Y : Int), q ≤ 10000 → Y = (q : Int) - 799 → ∃ L : Int, L = mStart (12 * (q + 1)) - mStart (12 * q) ∧ 365 ≤ L ∧ L ≤ 366 ∧ ∀ (w1 : World), Calls Tryz.prog 52 #[.int .i64 Y] w1 fun e w' => e = .returned (.int .i64 L) ∧ w' = w1) := fun q Y hq hY => by
    subst hY
    have h := fun w1 => Rlength_any ((q : Int) - 799) w1 (by omega) (by omega)
    have hn := yStart_next q
    refine ⟨_, rfl, ?_, ?_, ?_⟩
    · rw [hn]; split <;> omega
    · rw [hn]; split <;> omega
    · intro w1
      rw [show mStart (12 * (q + 1)) - mStart (12 * q) = (if lpB ((q : Int) - 799) = true then 366 else 365) by omega]
      exact h w1
  have HMON : Hid (∀ (p k : Nat) (Y V : Int), p ≤ 6000 → k < 12 → Y = (p : Int) - 799 → V = (k : Int) + 1 → ∃ D : Int, D = mStart (12 * p + k + 1) - mStart (12 * p + k) ∧ 28 ≤ D ∧ D ≤ 31 ∧ ∀ (w1 : World), Calls Tryz.prog 53 #[.int .i64 Y, .int .i64 V] w1 fun e w' => e = .returned (.int .i64 D) ∧ Below w1.heap.size w1 w') := fun p k Y V hp hk hY hV => by
    subst hY
    subst hV
    have h := fun w1 => Rmonth_any ((p : Int) - 799) (k + 1) w1 (by omega) (by omega) (by omega) (by omega)
    have hn := mStart_next p k hk
    have hs := mStart_step (12 * p + k)
    refine ⟨_, rfl, by omega, by omega, fun w1 => ?_⟩
    rw [show mStart (12 * p + k + 1) - mStart (12 * p + k) = mdays ((p : Int) - 799) (k + 1) by omega]
    exact h w1
  have hmono := Lib.hid mStart_mono
  have hbot : Hid (mStart 0 = -1011356) := by show _ = _; decide
  go_enter Tryz.func31, Tryz.ntmps31
  go_wp2
  go_loop [0, 5] (fun z y => ∃ (q : Nat) (Y Z : Int), y = .int .i64 Y ∧ z = .int .i64 Z ∧ Hid (Y = (q : Int) - 799) ∧ q ≤ 2769 ∧ Hid (Z = d - mStart (12 * q)) ∧ -1000000 ≤ Z ∧ Z ≤ 1000366)
    (fun _ y => (intOf y + 799).toNat)
  case atStart => exact ⟨2769, 1970, d, rfl, rfl, rfl, Nat.le_refl _, (by show _ = _; rw [yStart_1970]; omega), by omega, by omega⟩
  case round =>
    obtain ⟨q, Y, Z, rfl, rfl, hY, hq, hZ, hz0, hz1⟩ := hrel
    have hYl : -799 ≤ Y ∧ Y ≤ 1970 := by have := hY.out; omega
    by_cases hneg : Z < 0
    · have hpos : 1 ≤ q := by
        rcases Nat.eq_zero_or_pos q with rfl | h
        · have a := hZ.out
          have b := hbot.out
          simp at a
          omega
        · exact h
      obtain ⟨p, rfl⟩ : ∃ p, q = p + 1 := ⟨q - 1, by omega⟩
      obtain ⟨L, hL, hl0, hl1, HC⟩ := HLEN.out p (Y - 1) (by omega) (by have := hY.out; omega)
      have HL := Lib.hid hL
      have HCC := Lib.hid HC
      clear hL HC
      go_wp2_with (go_at_call 52; refine (HCC.out _).mono ?_; rintro e w1 ⟨rfl, rfl⟩)
      go_round
      case rel => exact ⟨p, Y - 1, Z + L, rfl, rfl, (by show _ = _; have := hY.out; omega), by omega, (by show _ = _; have := hZ.out; have := HL.out; omega), by omega, by omega⟩
      case measure => have := hY.out; simp [intOf]; omega
    · go_wp2
      have hq0 : Z = d - mStart (12 * q) := hZ.out
      have hqd : Hid (mStart (12 * q) ≤ d) := by show _ ≤ _; omega
      clear hq0
      go_loop [0, 5] (fun z y => ∃ (p : Nat) (Y2 Z2 : Int), y = .int .i64 Y2 ∧ z = .int .i64 Z2 ∧ Hid (Y2 = (p : Int) - 799) ∧ p ≤ 6000 ∧ Hid (Z2 = d - mStart (12 * p)) ∧ 0 ≤ Z2 ∧ Z2 ≤ 1000366)
        (fun z _ => (intOf z).toNat)
      case atStart => exact ⟨q, Y, Z, rfl, rfl, hY, by omega, hZ, by omega, by omega⟩
      case round =>
        clear hYl hqd hZ hY hq hz0 hz1 hneg
        obtain ⟨p, Y2, Z2, rfl, rfl, hY2, hp, hZ2, hz20, hz21⟩ := hrel
        have hYl : -799 ≤ Y2 ∧ Y2 ≤ 10000 := by have := hY2.out; omega
        obtain ⟨L, hL, hl0, hl1, HC⟩ := HLEN.out p Y2 (by omega) hY2.out
        have HL := Lib.hid hL
        have HCC := Lib.hid HC
        clear hL HC
        by_cases hge : L ≤ Z2
        · go_wp2_with (go_at_call 52; refine (HCC.out _).mono ?_; rintro e w1 ⟨rfl, rfl⟩)
          go_round
          case rel =>
            have hlt : p < 5999 := by
              have a := hmono.out 0 (12 * p) (by omega)
              have b := hbot.out
              have c := hZ2.out
              omega
            exact ⟨p + 1, Y2 + 1, Z2 - L, rfl, rfl, (by show _ = _; have := hY2.out; omega), by omega, (by show _ = _; have := hZ2.out; have := HL.out; omega), by omega, by omega⟩
          case measure => simp [intOf]; omega
        · have hd2 : Hid (mStart (12 * p) ≤ d ∧ d < mStart (12 * (p + 1))) := by
            show _ ∧ _
            have a := hZ2.out
            have b := HL.out
            omega
          go_wp2_with (go_at_call 52; refine (HCC.out _).mono ?_; rintro e w1 ⟨rfl, rfl⟩)
          go_loopw [0, 6] (fun z v wr => ∃ (k : Nat) (V Z3 : Int), v = .int .i64 V ∧ z = .int .i64 Z3 ∧ Hid (V = (k : Int) + 1) ∧ k < 12 ∧ Hid (Z3 = d - mStart (12 * p + k)) ∧ 0 ≤ Z3 ∧ Z3 ≤ 1000366 ∧ Hid (Below w1.heap.size w1 wr))
            (fun z _ _ => (intOf z).toNat)
          case atStart => exact ⟨0, 1, Z2, rfl, rfl, rfl, by omega, hZ2, hz20, hz21, Below.refl _ _⟩
          case round =>
            clear HL HCC hl0 hl1 hge hZ2 hz20 hz21
            obtain ⟨k, V, Z3, rfl, rfl, hV, hk, hZ3, hz30, hz31, HB⟩ := hrel
            have hVl : 1 ≤ V ∧ V ≤ 12 := by have := hV.out; omega
            obtain ⟨D, hD, hD0, hD1, HC⟩ := HMON.out p k Y2 V hp hk hY2.out hV.out
            have HD := Lib.hid hD
            have HCC := Lib.hid HC
            clear hD HC
            by_cases hge : D ≤ Z3
            · go_wp2_with (go_at_call 53; refine (HCC.out _).mono ?_; rintro e w2 ⟨rfl, hb2⟩; have HB := Lib.hid (HB.out.trans (hb2.mono HB.out.size)); clear hb2)
              go_roundw
              case rel =>
                have hlt : k < 11 := by
                  have a := hZ3.out
                  have b := HD.out
                  have c := hd2.out.2
                  rcases (by omega : k < 11 ∨ k = 11) with h | h
                  · exact h
                  · subst h
                    rw [show 12 * (p + 1) = 12 * p + 11 + 1 by omega] at c
                    omega
                exact ⟨k + 1, V + 1, Z3 - D, rfl, rfl, (by show _ = _; have := hV.out; omega), by omega, (by show _ = _; have a := hZ3.out; have b := HD.out; rw [← Nat.add_assoc]; omega), by omega, by omega, HB⟩
              case measure => simp [intOf]; omega
            · have hmk : m = 12 * p + k := by
                have a := hZ3.out
                have b := HD.out
                rcases (by omega : m < 12 * p + k ∨ m = 12 * p + k ∨ 12 * p + k < m) with h | h | h
                · have c := hmono.out (m + 1) (12 * p + k) (by omega)
                  omega
                · exact h
                · have c := hmono.out (12 * p + k + 1) m (by omega)
                  omega
              go_wp2_with (go_at_call 53; refine (HCC.out _).mono ?_; rintro e w2 ⟨rfl, hb2⟩; have HB := Lib.hid (HB.out.trans (hb2.mono HB.out.size)); clear hb2)
              have e1 : ((m / 12 : Nat) : Int) - 799 = Y2 := by have := hY2.out; omega
              have e2 : ((m % 12 : Nat) : Int) + 1 = V := by have := hV.out; omega
              have e3 : d - mStart m = Z3 := by rw [hmk]; exact hZ3.out.symm
              rw [e1, e2, e3]
              clear e1 e2 e3
              refine bodyPost_ret (v := .tuple #[.int .i64 Y2, .int .i64 V, .int .i64 (Z3 + 1)]) (by simp [results, Tryz.results31, go_sem]) rfl ?_
              exact ⟨rfl, HB.out⟩
end Go.Proofs.YteaaadccjnmacaaGreatDoor
