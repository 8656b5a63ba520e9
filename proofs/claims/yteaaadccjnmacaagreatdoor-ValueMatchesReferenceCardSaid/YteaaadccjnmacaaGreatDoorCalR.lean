/-
  The reference's calendar: leap and length of a year, by contracts.
-/
import Derived.Test.YteaaadccjnmacaaGreatDoorValP
namespace Go.Proofs.YteaaadccjnmacaaGreatDoor
open Go.RowKit

/-- a leap year -/
def lpB (y : Int) : Bool := decide (y % 4 = 0 ∧ (¬ y % 100 = 0 ∨ y % 400 = 0))
theorem tm0 (y k : Int) : y % k = 0 ↔ y.tmod k = 0 := by rw [← Int.dvd_iff_tmod_eq_zero, Int.dvd_iff_emod_eq_zero]
theorem lpB_eq (y : Int) : lpB y = (y.tmod 4 == 0 && (!(y.tmod 100 == 0) || y.tmod 400 == 0)) := by
  have a := tm0 y 4
  have b := tm0 y 100
  have c := tm0 y 400
  unfold lpB
  by_cases h4 : y.tmod 4 = 0 <;> by_cases h100 : y.tmod 100 = 0 <;> by_cases h400 : y.tmod 400 = 0 <;> simp [a, b, c, h4, h100, h400]
theorem Rleap_any (y : Int) (w : World) (h0 : -1000000 ≤ y) (h1 : y ≤ 1000000) (z : Bool) (hz : lpB y = z) : Calls Tryz.prog 74 #[.int .i64 y] w fun e w' => e = .returned (.bool z) ∧ w' = w := by
  subst hz
  go_enter Tryz.func74, Tryz.ntmps74
  go_wp2
  all_goals go_ret
  all_goals refine ⟨?_, rfl⟩
  all_goals rw [lpB_eq]
  all_goals simp [*]
/-- the days of a year -/
theorem Rlength_any (y : Int) (w : World) (h0 : -1000000 ≤ y) (h1 : y ≤ 1000000) : Calls Tryz.prog 52 #[.int .i64 y] w fun e w' => e = .returned (.int .i64 (if lpB y = true then 366 else 365)) ∧ w' = w := by
  cases hz : lpB y with
  | true =>
    have HL := Lib.hid (fun w1 => Rleap_any y w1 h0 h1 true hz)
    go_enter Tryz.func52, Tryz.ntmps52
    go_wp2_with (go_at_call 74; refine (HL.out _).mono ?_; rintro e w1 ⟨rfl, rfl⟩)
    go_ret
    exact ⟨by simp, rfl⟩
  | false =>
    have HL := Lib.hid (fun w1 => Rleap_any y w1 h0 h1 false hz)
    go_enter Tryz.func52, Tryz.ntmps52
    go_wp2_with (go_at_call 74; refine (HL.out _).mono ?_; rintro e w1 ⟨rfl, rfl⟩)
    go_ret
    exact ⟨by simp, rfl⟩
end Go.Proofs.YteaaadccjnmacaaGreatDoor
