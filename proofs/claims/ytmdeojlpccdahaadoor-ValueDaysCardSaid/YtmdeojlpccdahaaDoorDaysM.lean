/-
  The calendar: what follows a day. Plain, nothing of the program's text.
-/
import Derived.Test.YtmdeojlpccdahaaDoorSanL
namespace Go.Proofs.YtmdeojlpccdahaaDoor
open Go.Lib

/-- the year's part of a notation -/
def yrL (m : Nat) : List UInt8 := (if ((m / 12 : Nat) : Int) - 799 < 0 then [45] else []) ++ padL (((m / 12 : Nat) : Int) - 799).natAbs 4
theorem yr_num (m : Nat) (h : m < 67188) : atoiN (yrL m) = ((m / 12 : Nat) : Int) - 799 := by
  unfold yrL
  split
  · rw [List.cons_append, List.nil_append, atoi_neg (pad_digs _ _) (pad_ne _ _) (by rw [pad_val]; omega), pad_val]
    omega
  · rw [List.nil_append, atoi_digs (pad_digs _ _) (pad_ne _ _) (by rw [pad_val]; omega), pad_val]
    omega
theorem yr_len (m : Nat) (h : m < 67188) : 4 ≤ (yrL m).length ∧ (yrL m).length ≤ 5 := by
  have l0 := padL_len (((m / 12 : Nat) : Int) - 799).natAbs 4 (dd_len 3 _ (by omega))
  unfold yrL
  split <;> simp only [List.length_append, List.length_cons, List.length_nil, l0] <;> omega
theorem date_yr (d : Int) : dateL d = yrL (monOf d) ++ ([45] ++ padL (monOf d % 12 + 1) 2 ++ [45] ++ padL (d - mStart (monOf d) + 1).toNat 2) := by
  unfold dateL yrL
  simp
/-- the lengths of months -/
theorem mStart_len (m : Nat) : (m % 12 = 1 ∨ mStart m + 30 ≤ mStart (m + 1)) ∧ (m % 12 = 11 → mStart (m + 1) = mStart m + 31) := by
  have hk := lt12 (Nat.mod_lt m (by omega : 0 < 12))
  obtain ⟨q, hq⟩ : ∃ q, m / 12 = q := ⟨_, rfl⟩
  have hs := lpY_step (q : Int)
  unfold mStart
  by_cases h11 : m % 12 = 11
  · have e1 : (m + 1) % 12 = 0 := by omega
    have e2 : (m + 1) / 12 = q + 1 := by omega
    rw [e1, e2, h11, hq]
    simp [bef, befT, List.getD]
    omega
  · have e1 : (m + 1) % 12 = m % 12 + 1 := by omega
    have e2 : (m + 1) / 12 = q := by omega
    rw [e1, e2, hq]
    rcases hk with h | h | h | h | h | h | h | h | h | h | h | h <;> (first | exact absurd h h11 | skip) <;> rw [h] <;> simp [bef, befT, List.getD] <;> omega
theorem next_mon (d : Int) (h0 : -1000000 ≤ d) (h1 : d + 1 ≤ 1000000) : monOf (d + 1) = monOf d ∨ (monOf (d + 1) = monOf d + 1 ∧ d + 1 = mStart (monOf d + 1)) := by
  obtain ⟨k1, k2, k3⟩ := monOf_at d h0 (by omega)
  have hs := mStart_step (monOf d + 1)
  by_cases h : d + 1 < mStart (monOf d + 1)
  · exact .inl (monOf_eq (by omega) h1 (by omega) h)
  · exact .inr ⟨monOf_eq (by omega) h1 (by omega) (by omega), by omega⟩
/-- a day and the next one -/
theorem days_fact (d : Int) (h0 : -1000000 ≤ d) (h1 : d + 1 ≤ 1000000) : ∃ (Y Y' : List UInt8) (M M' D D' : Nat),
    dateL d = Y ++ ([45] ++ padL M 2 ++ [45] ++ padL D 2) ∧ dateL (d + 1) = Y' ++ ([45] ++ padL M' 2 ++ [45] ++ padL D' 2) ∧ (1 ≤ M ∧ M ≤ 12) ∧ (1 ≤ M' ∧ M' ≤ 12) ∧ (1 ≤ D ∧ D ≤ 31) ∧ (1 ≤ D' ∧ D' ≤ 31) ∧
    (4 ≤ Y.length ∧ Y.length ≤ 5) ∧ (4 ≤ Y'.length ∧ Y'.length ≤ 5) ∧
    ((D' = D + 1 ∧ M' = M ∧ Y = Y') ∨ (D' = 1 ∧ 28 ≤ D ∧ ((M = 12 ∧ M' = 1 ∧ D = 31 ∧ Y ≠ Y') ∨ (M ≠ 12 ∧ M' = M + 1 ∧ Y = Y' ∧ (M = 2 ∨ 30 ≤ D))))) := by
  obtain ⟨k1, k2, k3⟩ := monOf_at d h0 (by omega)
  obtain ⟨j1, j2, j3⟩ := monOf_at (d + 1) (by omega) h1
  have hs := mStart_step (monOf d)
  have hs' := mStart_step (monOf (d + 1))
  have hl := mStart_len (monOf d)
  refine ⟨yrL (monOf d), yrL (monOf (d + 1)), monOf d % 12 + 1, monOf (d + 1) % 12 + 1, (d - mStart (monOf d) + 1).toNat, (d + 1 - mStart (monOf (d + 1)) + 1).toNat, date_yr d, date_yr (d + 1),
    by omega, by omega, by omega, by omega, yr_len _ k3, yr_len _ j3, ?_⟩
  rcases next_mon d h0 h1 with e | ⟨e, he⟩
  · rw [e]
    exact .inl ⟨by omega, rfl, rfl⟩
  · rw [e] at j1 j2 j3 ⊢
    refine .inr ⟨by omega, by omega, ?_⟩
    by_cases h11 : monOf d % 12 = 11
    · refine .inl ⟨by omega, by omega, by have := hl.2 h11; omega, fun hy => ?_⟩
      have a1 := yr_num _ k3
      have a2 := yr_num _ j3
      rw [hy, a2] at a1
      omega
    · refine .inr ⟨by omega, by omega, ?_, ?_⟩
      · unfold yrL
        rw [show (monOf d + 1) / 12 = monOf d / 12 by omega]
      · rcases hl.1 with h | h
        · exact .inl (by omega)
        · exact .inr (by omega)
end Go.Proofs.YtmdeojlpccdahaaDoor
