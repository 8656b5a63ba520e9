/-
  The reference's calendar: the days of a month, by a contract.
-/
import Derived.Test.YteaaadccjnmacaaGreatDoorCalR
namespace Go.Proofs.YteaaadccjnmacaaGreatDoor
open Go.RowKit

def monT : List Int := [31, 28, 31, 30, 31, 30, 31, 31, 30, 31, 30, 31]
/-- the days of month m (1 to 12) of year y -/
def mdays (y : Int) (m : Nat) : Int := if m = 2 ∧ lpB y = true then 29 else monT.getD (m - 1) 0
theorem month_feb (y : Int) (w : World) (h0 : -1000000 ≤ y) (h1 : y ≤ 1000000) : Calls Tryz.prog 53 #[.int .i64 y, .int .i64 2] w fun e w' => e = .returned (.int .i64 (mdays y 2)) ∧ Below w.heap.size w w' := by
  cases hz : lpB y with
  | true =>
    have HL := Lib.hid (fun w1 => Rleap_any y w1 h0 h1 true hz)
    have e : mdays y 2 = 29 := by simp [mdays, hz]
    rw [e]
    clear hz e
    go_enter Tryz.func53, Tryz.ntmps53
    go_wp2_with (go_at_call 74; refine (HL.out _).mono ?_; rintro e w1 ⟨rfl, rfl⟩)
    go_ret
    exact ⟨rfl, val_al _ _⟩
  | false =>
    have HL := Lib.hid (fun w1 => Rleap_any y w1 h0 h1 false hz)
    have e : mdays y 2 = 28 := by simp [mdays, hz, monT]
    rw [e]
    clear hz e
    go_enter Tryz.func53, Tryz.ntmps53
    go_wp2_with (go_at_call 74; refine (HL.out _).mono ?_; rintro e w1 ⟨rfl, rfl⟩)
    go_ret
    exact ⟨rfl, val_al _ _⟩
theorem mdays_other (y : Int) (m : Nat) (d : Int) (hm : ¬ m = 2) (hd : monT.getD (m - 1) 0 = d) : mdays y m = d := by
  unfold mdays
  rw [if_neg (fun h => hm h.1), hd]
theorem month_1 (y : Int) (w : World) : Calls Tryz.prog 53 #[.int .i64 y, .int .i64 1] w fun e w' => e = .returned (.int .i64 (mdays y 1)) ∧ Below w.heap.size w w' := by
  rw [mdays_other y 1 31 (by decide) (by decide)]
  go_enter Tryz.func53, Tryz.ntmps53
  go_wp2
  go_ret
  exact ⟨rfl, val_al _ _⟩
theorem month_3 (y : Int) (w : World) : Calls Tryz.prog 53 #[.int .i64 y, .int .i64 3] w fun e w' => e = .returned (.int .i64 (mdays y 3)) ∧ Below w.heap.size w w' := by
  rw [mdays_other y 3 31 (by decide) (by decide)]
  go_enter Tryz.func53, Tryz.ntmps53
  go_wp2
  go_ret
  exact ⟨rfl, val_al _ _⟩
theorem month_4 (y : Int) (w : World) : Calls Tryz.prog 53 #[.int .i64 y, .int .i64 4] w fun e w' => e = .returned (.int .i64 (mdays y 4)) ∧ Below w.heap.size w w' := by
  rw [mdays_other y 4 30 (by decide) (by decide)]
  go_enter Tryz.func53, Tryz.ntmps53
  go_wp2
  go_ret
  exact ⟨rfl, val_al _ _⟩
theorem month_5 (y : Int) (w : World) : Calls Tryz.prog 53 #[.int .i64 y, .int .i64 5] w fun e w' => e = .returned (.int .i64 (mdays y 5)) ∧ Below w.heap.size w w' := by
  rw [mdays_other y 5 31 (by decide) (by decide)]
  go_enter Tryz.func53, Tryz.ntmps53
  go_wp2
  go_ret
  exact ⟨rfl, val_al _ _⟩
theorem month_6 (y : Int) (w : World) : Calls Tryz.prog 53 #[.int .i64 y, .int .i64 6] w fun e w' => e = .returned (.int .i64 (mdays y 6)) ∧ Below w.heap.size w w' := by
  rw [mdays_other y 6 30 (by decide) (by decide)]
  go_enter Tryz.func53, Tryz.ntmps53
  go_wp2
  go_ret
  exact ⟨rfl, val_al _ _⟩
theorem month_7 (y : Int) (w : World) : Calls Tryz.prog 53 #[.int .i64 y, .int .i64 7] w fun e w' => e = .returned (.int .i64 (mdays y 7)) ∧ Below w.heap.size w w' := by
  rw [mdays_other y 7 31 (by decide) (by decide)]
  go_enter Tryz.func53, Tryz.ntmps53
  go_wp2
  go_ret
  exact ⟨rfl, val_al _ _⟩
theorem month_8 (y : Int) (w : World) : Calls Tryz.prog 53 #[.int .i64 y, .int .i64 8] w fun e w' => e = .returned (.int .i64 (mdays y 8)) ∧ Below w.heap.size w w' := by
  rw [mdays_other y 8 31 (by decide) (by decide)]
  go_enter Tryz.func53, Tryz.ntmps53
  go_wp2
  go_ret
  exact ⟨rfl, val_al _ _⟩
theorem month_9 (y : Int) (w : World) : Calls Tryz.prog 53 #[.int .i64 y, .int .i64 9] w fun e w' => e = .returned (.int .i64 (mdays y 9)) ∧ Below w.heap.size w w' := by
  rw [mdays_other y 9 30 (by decide) (by decide)]
  go_enter Tryz.func53, Tryz.ntmps53
  go_wp2
  go_ret
  exact ⟨rfl, val_al _ _⟩
theorem month_10 (y : Int) (w : World) : Calls Tryz.prog 53 #[.int .i64 y, .int .i64 10] w fun e w' => e = .returned (.int .i64 (mdays y 10)) ∧ Below w.heap.size w w' := by
  rw [mdays_other y 10 31 (by decide) (by decide)]
  go_enter Tryz.func53, Tryz.ntmps53
  go_wp2
  go_ret
  exact ⟨rfl, val_al _ _⟩
theorem month_11 (y : Int) (w : World) : Calls Tryz.prog 53 #[.int .i64 y, .int .i64 11] w fun e w' => e = .returned (.int .i64 (mdays y 11)) ∧ Below w.heap.size w w' := by
  rw [mdays_other y 11 30 (by decide) (by decide)]
  go_enter Tryz.func53, Tryz.ntmps53
  go_wp2
  go_ret
  exact ⟨rfl, val_al _ _⟩
theorem month_12 (y : Int) (w : World) : Calls Tryz.prog 53 #[.int .i64 y, .int .i64 12] w fun e w' => e = .returned (.int .i64 (mdays y 12)) ∧ Below w.heap.size w w' := by
  rw [mdays_other y 12 31 (by decide) (by decide)]
  go_enter Tryz.func53, Tryz.ntmps53
  go_wp2
  go_ret
  exact ⟨rfl, val_al _ _⟩
/-- the days of a month -/
theorem Rmonth_any (y : Int) (m : Nat) (w : World) (h0 : -1000000 ≤ y) (h1 : y ≤ 1000000) (hm : 1 ≤ m) (hM : m ≤ 12) : Calls Tryz.prog 53 #[.int .i64 y, .int .i64 (m : Int)] w fun e w' => e = .returned (.int .i64 (mdays y m)) ∧ Below w.heap.size w w' := by
  rcases (by omega : m = 1 ∨ m = 2 ∨ m = 3 ∨ m = 4 ∨ m = 5 ∨ m = 6 ∨ m = 7 ∨ m = 8 ∨ m = 9 ∨ m = 10 ∨ m = 11 ∨ m = 12) with rfl | rfl | rfl | rfl | rfl | rfl | rfl | rfl | rfl | rfl | rfl | rfl
  · exact month_1 y w
  · exact month_feb y w h0 h1
  · exact month_3 y w
  · exact month_4 y w
  · exact month_5 y w
  · exact month_6 y w
  · exact month_7 y w
  · exact month_8 y w
  · exact month_9 y w
  · exact month_10 y w
  · exact month_11 y w
  · exact month_12 y w
end Go.Proofs.YteaaadccjnmacaaGreatDoor
