/-
  The order of values, plain: antisymmetric, transitive, zero just for equal values. Nothing of the program's text.
-/
import Derived.Test.YtmdeojlpccdahaaDoorCmpP
namespace Go.Proofs.YtmdeojlpccdahaaDoor
open Go.Lib

theorem cb_sym : ∀ (a b : List UInt8), compareBytes b a = - compareBytes a b
  | [], [] => rfl
  | [], _ :: _ => rfl
  | _ :: _, [] => rfl
  | a :: la, b :: lb => by
    unfold compareBytes
    have := cb_sym la lb
    by_cases h1 : a < b
    · have h2 : ¬ b < a := fun h => absurd (UInt8.lt_trans h1 h) (by simp)
      simp [h1, h2]
    · by_cases h2 : b < a
      · simp [h1, h2]
      · simp [h1, h2, this]
theorem cb_rng : ∀ (a b : List UInt8), -1 ≤ compareBytes a b ∧ compareBytes a b ≤ 1
  | [], [] => by decide
  | [], _ :: _ => by unfold compareBytes; decide
  | _ :: _, [] => by unfold compareBytes; decide
  | a :: la, b :: lb => by
    unfold compareBytes
    have := cb_rng la lb
    split
    · decide
    · split
      · decide
      · exact this
theorem u8_eq {a b : UInt8} (h1 : ¬ a < b) (h2 : ¬ b < a) : a = b := by
  apply UInt8.toNat_inj.1
  rw [UInt8.lt_iff_toNat_lt] at h1 h2
  omega
theorem cb_zero : ∀ (a b : List UInt8), compareBytes a b = 0 ↔ a = b
  | [], [] => by simp [compareBytes]
  | [], _ :: _ => by simp [compareBytes]
  | _ :: _, [] => by simp [compareBytes]
  | a :: la, b :: lb => by
    unfold compareBytes
    have ih := cb_zero la lb
    by_cases h1 : a < b
    · rw [if_pos h1]
      constructor
      · intro h; cases h
      · intro h; injection h with h _; subst h; exact absurd h1 (UInt8.lt_irrefl _)
    · rw [if_neg h1]
      by_cases h2 : b < a
      · rw [if_pos h2]
        constructor
        · intro h; cases h
        · intro h; injection h with h _; subst h; exact absurd h2 (UInt8.lt_irrefl _)
      · rw [if_neg h2, ih, u8_eq h1 h2]
        simp
theorem cb_tr : ∀ (a b c : List UInt8), compareBytes a b ≤ 0 → compareBytes b c ≤ 0 → compareBytes a c ≤ 0
  | [], _, [] => by intros; decide
  | [], _, _ :: _ => by intros; unfold compareBytes; decide
  | _ :: _, [], _ => by intro h; unfold compareBytes at h; exact absurd h (by decide)
  | _ :: _, _ :: _, [] => by intro _ h; unfold compareBytes at h; exact absurd h (by decide)
  | a :: la, b :: lb, c :: lc => by
    intro h1 h2
    unfold compareBytes at h1 h2 ⊢
    have ih := cb_tr la lb lc
    simp only [UInt8.lt_iff_toNat_lt] at h1 h2 ⊢
    split at h1
    · split at h2
      · rw [if_pos (by omega)]; decide
      · split at h2
        · exact absurd h2 (by decide)
        · rw [if_pos (by omega)]; decide
    · split at h1
      · exact absurd h1 (by decide)
      · split at h2
        · rw [if_pos (by omega)]; decide
        · split at h2
          · exact absurd h2 (by decide)
          · rw [if_neg (by omega), if_neg (by omega)]; exact ih h1 h2
theorem ba_eq {s t : ByteArray} : s.data.toList = t.data.toList ↔ s = t := by
  constructor
  · intro h
    cases s; cases t
    congr 1
    exact Array.ext' h
  · rintro rfl; rfl
theorem cmp_sym (a b : Va) : cmpV b a = - cmpV a b := by
  obtain ⟨x, m, s⟩ := a
  obtain ⟨y, n, t⟩ := b
  have := cb_sym s.data.toList t.data.toList
  unfold cmpV cmpI
  cases x <;> cases y <;> simp
  all_goals
    rcases Int.lt_trichotomy m n with h | h | h
    · simp [show ¬ n = m by omega, show ¬ m = n by omega, h, show ¬ n < m by omega]
    · simp [h, this]
    · simp [show ¬ n = m by omega, show ¬ m = n by omega, h, show ¬ m < n by omega]
theorem cmp_rng (a b : Va) : -1 ≤ cmpV a b ∧ cmpV a b ≤ 1 := by
  have := cb_rng a.s.data.toList b.s.data.toList
  unfold cmpV cmpI
  repeat' split
  all_goals first | decide | exact this
theorem cmp_zero (a b : Va) : cmpV a b = 0 ↔ a = b := by
  obtain ⟨x, m, s⟩ := a
  obtain ⟨y, n, t⟩ := b
  have h0 := cb_zero s.data.toList t.data.toList
  rw [ba_eq] at h0
  unfold cmpV cmpI
  cases x <;> cases y <;> simp
  all_goals
    rcases Int.lt_trichotomy m n with h | h | h
    · simp [show ¬ m = n by omega, h]
    · simp [h, h0]
    · simp [show ¬ m = n by omega, h, show ¬ m < n by omega]
theorem cmp_tr (a b c : Va) (h1 : cmpV a b ≤ 0) (h2 : cmpV b c ≤ 0) : cmpV a c ≤ 0 := by
  obtain ⟨x, m, s⟩ := a
  obtain ⟨y, n, t⟩ := b
  obtain ⟨z, k, u⟩ := c
  have h0 := cb_tr s.data.toList t.data.toList u.data.toList
  unfold cmpV cmpI at *
  cases x <;> cases y <;> cases z <;> simp at h1 h2 ⊢
  all_goals
    rcases Int.lt_trichotomy m n with h | h | h <;> rcases Int.lt_trichotomy n k with g | g | g
    · simp [show ¬ m = k by omega, show m < k by omega]
    · subst g; simp [show ¬ m = n by omega, h]
    · simp [show ¬ n = k by omega, show ¬ n < k by omega, g] at h2
    · subst h; simp [show ¬ m = k by omega, g]
    · subst h; subst g; simp at h1 h2 ⊢; exact h0 h1 h2
    · simp [show ¬ n = k by omega, show ¬ n < k by omega, g] at h2
    · simp [show ¬ m = n by omega, show ¬ m < n by omega, h] at h1
    · simp [show ¬ m = n by omega, show ¬ m < n by omega, h] at h1
    · simp [show ¬ m = n by omega, show ¬ m < n by omega, h] at h1
theorem cmp_null (a b : Va) (h1 : a.b = true) (h2 : b.b = false) : cmpV a b = -1 := by
  unfold cmpV
  rw [if_pos ⟨h1, h2⟩]
end Go.Proofs.YtmdeojlpccdahaaDoor
