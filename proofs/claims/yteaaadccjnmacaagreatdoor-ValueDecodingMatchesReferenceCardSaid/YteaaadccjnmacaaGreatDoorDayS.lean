/-
  The calendar by plain functions: months counted from January of the year -799; days from January 1, 1970. Nothing of the program.
-/
namespace Go.Proofs.YteaaadccjnmacaaGreatDoor

def befT : List Int := [0, 31, 59, 90, 120, 151, 181, 212, 243, 273, 304, 334]
def bef (k : Nat) : Int := befT.getD k 0
def lpY (y : Int) : Int := y / 4 - y / 100 + y / 400
/-- the first day of a month -/
def mStart (m : Nat) : Int := 365 * ((m / 12 : Nat) : Int) + lpY (((m / 12 : Nat) : Int) + (if 1 < m % 12 then 1 else 0)) + bef (m % 12) - 1011356
theorem lpY_step (y : Int) : lpY y ≤ lpY (y + 1) ∧ lpY (y + 1) ≤ lpY y + 1 := by unfold lpY; omega
theorem bef_le (k : Nat) : 0 ≤ bef k ∧ bef k ≤ 334 := by
  unfold bef befT
  match k with
  | 0 | 1 | 2 | 3 | 4 | 5 | 6 | 7 | 8 | 9 | 10 | 11 => simp [List.getD]
  | k + 12 => simp [List.getD]
theorem lt12 {k : Nat} (h : k < 12) : k = 0 ∨ k = 1 ∨ k = 2 ∨ k = 3 ∨ k = 4 ∨ k = 5 ∨ k = 6 ∨ k = 7 ∨ k = 8 ∨ k = 9 ∨ k = 10 ∨ k = 11 := by omega
/-- a month has 28 to 31 days -/
theorem mStart_step (m : Nat) : mStart m + 28 ≤ mStart (m + 1) ∧ mStart (m + 1) ≤ mStart m + 31 := by
  have hk := lt12 (Nat.mod_lt m (by omega : 0 < 12))
  obtain ⟨q, hq⟩ : ∃ q, m / 12 = q := ⟨_, rfl⟩
  have hs := lpY_step (q : Int)
  unfold mStart
  by_cases h11 : m % 12 = 11
  · have e1 : (m + 1) % 12 = 0 := by omega
    have e2 : (m + 1) / 12 = q + 1 := by omega
    rw [e1, e2, h11, hq]
    simp [bef, befT, List.getD]
    omega
  · have e1 : (m + 1) % 12 = m % 12 + 1 := by omega
    have e2 : (m + 1) / 12 = q := by omega
    rw [e1, e2, hq]
    rcases hk with h | h | h | h | h | h | h | h | h | h | h | h <;> (first | exact absurd h h11 | skip) <;> rw [h] <;> simp [bef, befT, List.getD] <;> omega
theorem mStart_mono (a b : Nat) (h : a ≤ b) : mStart a + 28 * ((b : Int) - a) ≤ mStart b := by
  obtain ⟨d, rfl⟩ := Nat.exists_eq_add_of_le h
  induction d with
  | zero => simp
  | succ d ih =>
    have h1 := ih (by omega)
    have h2 := (mStart_step (a + d)).1
    rw [show a + (d + 1) = a + d + 1 by omega]
    omega
theorem mStart_0 : mStart 0 = -1011356 := by simp [mStart, lpY, bef, befT]
theorem mStart_end : mStart 67188 = 1033636 := by simp [mStart, lpY, bef, befT]

theorem count_least (p : Nat → Bool) (n : Nat) (hm : ∀ a b, a ≤ b → b < n → p a = true → p b = true) :
    (∀ i, i < (List.range n).countP (fun i => !p i) → p i = false) ∧ (∀ i, (List.range n).countP (fun i => !p i) ≤ i → i < n → p i = true) ∧ (List.range n).countP (fun i => !p i) ≤ n := by
  induction n with
  | zero => exact ⟨fun i h => by simp at h, fun i _ h => absurd h (by omega), by simp⟩
  | succ n ih =>
    obtain ⟨h1, h2, h3⟩ := ih (fun a b hab hb => hm a b hab (by omega))
    rw [List.range_succ, List.countP_append]
    cases hp : p n with
    | true =>
      have e : List.countP (fun i => !p i) [n] = 0 := by simp [hp]
      rw [e, Nat.add_zero]
      refine ⟨h1, fun i hi hin => ?_, by omega⟩
      by_cases h : i = n
      · rw [h, hp]
      · exact h2 i hi (by omega)
    | false =>
      have e : List.countP (fun i => !p i) [n] = 1 := by simp [hp]
      have hc : (List.range n).countP (fun i => !p i) = n := by
        by_cases h : (List.range n).countP (fun i => !p i) = n
        · exact h
        · have hx := h2 _ (Nat.le_refl _) (by omega)
          have := hm _ n h3 (by omega) hx
          rw [hp] at this
          cases this
      rw [e, hc]
      rw [hc] at h1
      refine ⟨fun i hi => ?_, fun i hi hin => absurd hi (by omega), Nat.le_refl _⟩
      by_cases h : i = n
      · rw [h, hp]
      · exact h1 i (by omega)
/-- the month of a day -/
def monOf (d : Int) : Nat := (List.range 67188).countP (fun i => !decide (mStart (i + 1) > d))
theorem gt_mono (d : Int) (a b : Nat) (h : a ≤ b) (k : decide (mStart (a + 1) > d) = true) : decide (mStart (b + 1) > d) = true := by
  have := mStart_mono (a + 1) (b + 1) (by omega)
  simp only [decide_eq_true_eq] at k ⊢
  omega
theorem monOf_at (d : Int) (h0 : -1000000 ≤ d) (h1 : d ≤ 1000000) : mStart (monOf d) ≤ d ∧ d < mStart (monOf d + 1) ∧ monOf d < 67188 := by
  obtain ⟨g1, g2, g3⟩ := count_least (fun i => decide (mStart (i + 1) > d)) 67188 (fun a b hab _ hk => gt_mono d a b hab hk)
  have hlt : monOf d < 67188 := by
    rcases Nat.lt_or_ge (monOf d) 67188 with h | h
    · exact h
    · have e := g1 67187 (by show 67187 < monOf d; omega)
      simp only [decide_eq_false_iff_not] at e
      rw [show 67187 + 1 = 67188 from rfl, mStart_end] at e
      omega
  refine ⟨?_, ?_, hlt⟩
  · by_cases h : monOf d = 0
    · rw [h, mStart_0]; omega
    · have e := g1 (monOf d - 1) (by show monOf d - 1 < monOf d; omega)
      simp only [decide_eq_false_iff_not] at e
      rw [show monOf d - 1 + 1 = monOf d by omega] at e
      omega
  · have e := g2 (monOf d) (Nat.le_refl _) hlt
    simpa using e
theorem monOf_eq {d : Int} {m : Nat} (h0 : -1000000 ≤ d) (h1 : d ≤ 1000000) (ha : mStart m ≤ d) (hb : d < mStart (m + 1)) : monOf d = m := by
  obtain ⟨k1, k2, _⟩ := monOf_at d h0 h1
  rcases Nat.lt_trichotomy (monOf d) m with h | h | h
  · have := mStart_mono (monOf d + 1) m (by omega)
    omega
  · exact h
  · have := mStart_mono (m + 1) (monOf d) (by omega)
    omega
end Go.Proofs.YteaaadccjnmacaaGreatDoor
