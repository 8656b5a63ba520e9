/-
  The reference's calendar against the program's: the first days of months step by the days of the month, those of years by the days of the year.
-/
import Derived.Test.YteaaadccjnmacaaGreatDoorMonR
import Derived.Test.YteaaadccjnmacaaGreatDoorDayS
namespace Go.Proofs.YteaaadccjnmacaaGreatDoor

theorem lpY_lp (q : Int) : lpY (q + 1) - lpY q = if lpB (q - 799) = true then 1 else 0 := by
  unfold lpY lpB
  by_cases h : (q - 799) % 4 = 0 ∧ (¬ (q - 799) % 100 = 0 ∨ (q - 799) % 400 = 0)
  · rw [decide_eq_true h, if_pos rfl]
    omega
  · rw [decide_eq_false h, if_neg (by decide)]
    omega
/-- the month after this one starts that many days later -/
theorem mStart_next (q k : Nat) (hk : k < 12) : mStart (12 * q + k + 1) = mStart (12 * q + k) + mdays ((q : Int) - 799) (k + 1) := by
  have hs := lpY_lp (q : Int)
  have ed : (12 * q + k) / 12 = q := by omega
  have em : (12 * q + k) % 12 = k := by omega
  unfold mStart mdays
  rw [ed, em]
  by_cases h11 : k = 11
  · subst h11
    have e1 : (12 * q + 11 + 1) % 12 = 0 := by omega
    have e2 : (12 * q + 11 + 1) / 12 = q + 1 := by omega
    rw [e1, e2]
    simp [bef, befT, monT, List.getD]
    omega
  · have e1 : (12 * q + k + 1) % 12 = k + 1 := by omega
    have e2 : (12 * q + k + 1) / 12 = q := by omega
    rw [e1, e2]
    cases hz : lpB ((q : Int) - 799) <;> rw [hz] at hs <;> rcases lt12 hk with rfl | rfl | rfl | rfl | rfl | rfl | rfl | rfl | rfl | rfl | rfl | rfl <;> (first | exact absurd rfl h11 | skip) <;> simp [bef, befT, monT, List.getD] at hs ⊢ <;> omega
/-- the year after this one starts that many days later -/
theorem yStart_next (q : Nat) : mStart (12 * (q + 1)) = mStart (12 * q) + (if lpB ((q : Int) - 799) = true then 366 else 365) := by
  have hs := lpY_lp (q : Int)
  have ed : (12 * q) / 12 = q := by omega
  have em : (12 * q) % 12 = 0 := by omega
  have ed' : (12 * (q + 1)) / 12 = q + 1 := by omega
  have em' : (12 * (q + 1)) % 12 = 0 := by omega
  unfold mStart
  rw [ed, em, ed', em']
  cases hz : lpB ((q : Int) - 799) <;> rw [hz] at hs <;> simp [bef, befT, List.getD] at hs ⊢ <;> omega
/-- 1970 starts at day 0 -/
theorem yStart_1970 : mStart (12 * 2769) = 0 := by decide
end Go.Proofs.YteaaadccjnmacaaGreatDoor
