/-
  Decimal digits from the last one on, padded with zeros in front. Nothing of the program.
-/
import Derived.Test.YteaaadccjnmacaaGreatDoorDateP
namespace Go.Proofs.YteaaadccjnmacaaGreatDoor

/-- what still stands in front of the digits that are written: n is left, j places are asked -/
def preL (n j : Nat) : List UInt8 := if n = 0 then List.replicate j 48 else padL n j
theorem rep_one (k : Nat) : Lib.repeatL [(48 : UInt8)] k = List.replicate k 48 := by
  induction k with
  | zero => rfl
  | succ k ih => rw [List.replicate_succ, ← ih]; rfl
theorem preL_step (n j : Nat) (h : 0 < n ∨ 0 < j) : preL n j = preL (n / 10) (j - 1) ++ [UInt8.ofNat (48 + n % 10)] := by
  unfold preL padL
  rw [rep_one, rep_one]
  by_cases h0 : n = 0
  · subst h0
    obtain ⟨i, rfl⟩ : ∃ i, j = i + 1 := ⟨j - 1, by omega⟩
    simp [List.replicate_succ']
  · by_cases h10 : n < 10
    · have e : n / 10 = 0 := by omega
      have e2 : n % 10 = n := by omega
      rw [Lib.decDigits_one h10, e, e2]
      simp [h0]
    · have e : ¬ n / 10 = 0 := by omega
      rw [if_neg h0, if_neg e, Lib.decDigits, dif_neg h10]
      simp only [List.length_append, List.length_cons, List.length_nil]
      rw [show j - ((Lib.decDigits (n / 10)).length + (0 + 1)) = j - 1 - (Lib.decDigits (n / 10)).length by omega, List.append_assoc]
theorem preL_end : preL 0 0 = [] := rfl
theorem preL_start (n j : Nat) (hj : 1 ≤ j) : preL n j = padL n j := by
  unfold preL
  split
  · rename_i h
    subst h
    unfold padL
    rw [rep_one, Lib.decDigits_one (by omega)]
    obtain ⟨i, rfl⟩ : ∃ i, j = i + 1 := ⟨j - 1, by omega⟩
    simp [List.replicate_succ']
  · rfl
end Go.Proofs.YteaaadccjnmacaaGreatDoor
