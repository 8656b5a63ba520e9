/-
  Hilbert curves on numbers: the index and the point, that they undo each other, neighbours, squares. Plain theorems; no function of the dump.
-/
import Derived.WalkKit
namespace Go.Proofs.Ytlndpclgljfloaa
namespace Hb
def hI : Nat → Nat → Nat → Nat
  | 0, _, _ => 0
  | k + 1, x, y =>
    if x < 2 ^ k then (if y < 2 ^ k then hI k y x else 2 ^ k * 2 ^ k + hI k x (y - 2 ^ k))
    else if 2 ^ k ≤ y then 2 * (2 ^ k * 2 ^ k) + hI k (x - 2 ^ k) (y - 2 ^ k)
    else 3 * (2 ^ k * 2 ^ k) + hI k (2 ^ k - 1 - y) (2 * 2 ^ k - 1 - x)
/-- the way back from a quadrant -/
def lv (s q : Nat) (p : Nat × Nat) : Nat × Nat :=
  if q = 0 then (p.2, p.1) else if q = 1 then (p.1, p.2 + s) else if q = 2 then (p.1 + s, p.2 + s) else (2 * s - 1 - p.2, s - 1 - p.1)
def hP : Nat → Nat → Nat × Nat
  | 0, _ => (0, 0)
  | k + 1, i => lv (2 ^ k) (i / (2 ^ k * 2 ^ k)) (hP k (i % (2 ^ k * 2 ^ k)))
theorem sq (k : Nat) : 2 ^ (k + 1) * 2 ^ (k + 1) = 4 * (2 ^ k * 2 ^ k) := by
  rw [Nat.pow_succ]
  generalize 2 ^ k = s
  rw [show s * 2 * (s * 2) = 4 * (s * s) by rw [Nat.mul_mul_mul_comm]; omega]
theorem pow4 (k : Nat) : 4 ^ k = 2 ^ k * 2 ^ k := by
  rw [← Nat.pow_add, show (4 : Nat) = 2 ^ 2 by rfl, ← Nat.pow_mul]; congr 1; omega
theorem hI_lt : ∀ (k x y : Nat), x < 2 ^ k → y < 2 ^ k → hI k x y < 2 ^ k * 2 ^ k
  | 0, _, _, _, _ => by simp [hI]
  | k + 1, x, y, hx, hy => by
    rw [sq]
    rw [Nat.pow_succ] at hx hy
    have ih := hI_lt k
    unfold hI
    split
    · split
      · have := ih y x ‹_› ‹_›; omega
      · have := ih x (y - 2 ^ k) ‹_› (by omega); omega
    · split
      · have := ih (x - 2 ^ k) (y - 2 ^ k) (by omega) (by omega); omega
      · have := ih (2 ^ k - 1 - y) (2 * 2 ^ k - 1 - x) (by omega) (by omega); omega
theorem hP_lt : ∀ (k i : Nat), i < 2 ^ k * 2 ^ k → (hP k i).1 < 2 ^ k ∧ (hP k i).2 < 2 ^ k
  | 0, _, _ => by simp [hP]
  | k + 1, i, hi => by
    rw [sq] at hi
    have hs : 0 < 2 ^ k := Nat.two_pow_pos k
    have hss : 0 < 2 ^ k * 2 ^ k := Nat.mul_pos hs hs
    have ih := hP_lt k (i % (2 ^ k * 2 ^ k)) (Nat.mod_lt _ hss)
    have hq : i / (2 ^ k * 2 ^ k) < 4 := by rw [Nat.div_lt_iff_lt_mul hss]; exact hi
    unfold hP
    rw [Nat.pow_succ]
    generalize i / (2 ^ k * 2 ^ k) = q at *
    generalize hP k (i % (2 ^ k * 2 ^ k)) = p at *
    unfold lv
    split
    · simp; omega
    · split
      · simp; omega
      · split
        · simp; omega
        · simp; omega
/-- index of a point given quadrant -/
theorem hI_lv (k q : Nat) (p : Nat × Nat) (hq : q < 4) (h1 : p.1 < 2 ^ k) (h2 : p.2 < 2 ^ k) :
    hI (k + 1) (lv (2 ^ k) q p).1 (lv (2 ^ k) q p).2 = q * (2 ^ k * 2 ^ k) + hI k p.1 p.2 := by
  obtain ⟨x, y⟩ := p
  simp only at h1 h2
  have hq' : q = 0 ∨ q = 1 ∨ q = 2 ∨ q = 3 := by omega
  rw [hI]
  generalize hI k = F
  generalize 2 ^ k = s at *
  rcases hq' with rfl | rfl | rfl | rfl
  · simp [lv]; rw [if_pos h2, if_pos h1]
  · simp [lv]; rw [if_pos h1, if_neg (by omega)]
  · simp [lv]; intro h; omega
  · simp only [lv]
    simp only [show ¬ (3 : Nat) = 0 by decide, show ¬ (3 : Nat) = 1 by decide, show ¬ (3 : Nat) = 2 by decide, if_false]
    rw [if_neg (by omega), if_neg (by omega)]
    rw [show s - 1 - (s - 1 - x) = x by omega, show 2 * s - 1 - (2 * s - 1 - y) = y by omega]
theorem hI_hP : ∀ (k i : Nat), i < 2 ^ k * 2 ^ k → hI k (hP k i).1 (hP k i).2 = i
  | 0, i, hi => by simp [hI]; simp at hi; exact hi.symm
  | k + 1, i, hi => by
    rw [sq] at hi
    have hs : 0 < 2 ^ k := Nat.two_pow_pos k
    have hss : 0 < 2 ^ k * 2 ^ k := Nat.mul_pos hs hs
    have hm := Nat.mod_lt i hss
    have hq : i / (2 ^ k * 2 ^ k) < 4 := by rw [Nat.div_lt_iff_lt_mul hss]; exact hi
    have hl := hP_lt k _ hm
    unfold hP
    rw [hI_lv k _ _ hq hl.1 hl.2, hI_hP k _ hm, Nat.mul_comm, Nat.div_add_mod]
theorem hP_hI : ∀ (k x y : Nat), x < 2 ^ k → y < 2 ^ k → hP k (hI k x y) = (x, y)
  | 0, x, y, hx, hy => by simp at hx hy; subst hx hy; rfl
  | k + 1, x, y, hx, hy => by
    rw [Nat.pow_succ] at hx hy
    have hs : 0 < 2 ^ k := Nat.two_pow_pos k
    have hss : 0 < 2 ^ k * 2 ^ k := Nat.mul_pos hs hs
    have key : ∀ q r, q < 4 → r < 2 ^ k * 2 ^ k → hP (k + 1) (q * (2 ^ k * 2 ^ k) + r) = lv (2 ^ k) q (hP k r) := by
      intro q r hq hr
      show lv (2 ^ k) ((q * (2 ^ k * 2 ^ k) + r) / (2 ^ k * 2 ^ k)) (hP k ((q * (2 ^ k * 2 ^ k) + r) % (2 ^ k * 2 ^ k))) = _
      rw [Nat.mul_comm q, Nat.mul_add_div hss, Nat.mul_add_mod, Nat.mod_eq_of_lt hr, Nat.div_eq_of_lt hr, Nat.add_zero]
    unfold hI
    split
    · split
      · have h := key 0 (hI k y x) (by decide) (hI_lt k y x ‹_› ‹_›)
        rw [Nat.zero_mul, Nat.zero_add] at h
        rw [h, hP_hI k y x ‹_› ‹_›]; rfl
      · have h := key 1 (hI k x (y - 2 ^ k)) (by decide) (hI_lt k _ _ ‹_› (by omega))
        rw [Nat.one_mul] at h
        rw [h, hP_hI k _ _ ‹_› (by omega)]
        show (x, y - 2 ^ k + 2 ^ k) = _
        rw [Nat.sub_add_cancel (by omega)]
    · split
      · have h := key 2 (hI k (x - 2 ^ k) (y - 2 ^ k)) (by decide) (hI_lt k _ _ (by omega) (by omega))
        rw [h, hP_hI k _ _ (by omega) (by omega)]
        show (x - 2 ^ k + 2 ^ k, y - 2 ^ k + 2 ^ k) = _
        rw [Nat.sub_add_cancel (by omega), Nat.sub_add_cancel (by omega)]
      · have h := key 3 (hI k (2 ^ k - 1 - y) (2 * 2 ^ k - 1 - x)) (by decide) (hI_lt k _ _ (by omega) (by omega))
        rw [h, hP_hI k _ _ (by omega) (by omega)]
        show (2 * 2 ^ k - 1 - (2 * 2 ^ k - 1 - x), 2 ^ k - 1 - (2 ^ k - 1 - y)) = _
        rw [show 2 * 2 ^ k - 1 - (2 * 2 ^ k - 1 - x) = x by omega, show 2 ^ k - 1 - (2 ^ k - 1 - y) = y by omega]
theorem hP_step (k q r : Nat) (hr : r < 2 ^ k * 2 ^ k) : hP (k + 1) (q * (2 ^ k * 2 ^ k) + r) = lv (2 ^ k) q (hP k r) := by
  have hs : 0 < 2 ^ k := Nat.two_pow_pos k
  have hss : 0 < 2 ^ k * 2 ^ k := Nat.mul_pos hs hs
  show lv (2 ^ k) ((q * (2 ^ k * 2 ^ k) + r) / (2 ^ k * 2 ^ k)) (hP k ((q * (2 ^ k * 2 ^ k) + r) % (2 ^ k * 2 ^ k))) = _
  rw [Nat.mul_comm q, Nat.mul_add_div hss, Nat.mul_add_mod, Nat.mod_eq_of_lt hr, Nat.div_eq_of_lt hr, Nat.add_zero]
theorem hP_first : ∀ k, hP k 0 = (0, 0)
  | 0 => rfl
  | k + 1 => by
    have h := hP_step k 0 0 (Nat.mul_pos (Nat.two_pow_pos k) (Nat.two_pow_pos k))
    rw [Nat.zero_mul] at h
    rw [h, hP_first k]; rfl
theorem hP_last : ∀ k, hP k (2 ^ k * 2 ^ k - 1) = (2 ^ k - 1, 0)
  | 0 => rfl
  | k + 1 => by
    have hs := Nat.two_pow_pos k
    have hss := Nat.mul_pos hs hs
    have h := hP_step k 3 (2 ^ k * 2 ^ k - 1) (by omega)
    rw [sq, show 4 * (2 ^ k * 2 ^ k) - 1 = 3 * (2 ^ k * 2 ^ k) + (2 ^ k * 2 ^ k - 1) by omega, h, hP_last k, Nat.pow_succ]
    show (2 * 2 ^ k - 1 - 0, 2 ^ k - 1 - (2 ^ k - 1)) = _
    rw [show 2 * 2 ^ k - 1 - 0 = 2 ^ k * 2 - 1 by omega, Nat.sub_self]
def adj (p q : Nat × Nat) : Prop := (p.1 = q.1 ∧ (p.2 + 1 = q.2 ∨ q.2 + 1 = p.2)) ∨ (p.2 = q.2 ∧ (p.1 + 1 = q.1 ∨ q.1 + 1 = p.1))
theorem adj_lv (s q : Nat) (a b : Nat × Nat) (h : adj a b) (a1 : a.1 < s) (a2 : a.2 < s) (b1 : b.1 < s) (b2 : b.2 < s) : adj (lv s q a) (lv s q b) := by
  unfold adj at *
  unfold lv
  split
  · simp; omega
  · split
    · simp; omega
    · split
      · simp; omega
      · simp; omega
theorem hP_adj : ∀ (k i : Nat), i + 1 < 2 ^ k * 2 ^ k → adj (hP k i) (hP k (i + 1))
  | 0, i, hi => by simp at hi
  | k + 1, i, hi => by
    rw [sq] at hi
    have hs := Nat.two_pow_pos k
    have hss := Nat.mul_pos hs hs
    obtain ⟨q, r, hr, rfl⟩ : ∃ q r, r < 2 ^ k * 2 ^ k ∧ i = q * (2 ^ k * 2 ^ k) + r := ⟨i / (2 ^ k * 2 ^ k), i % (2 ^ k * 2 ^ k), Nat.mod_lt _ hss, by rw [Nat.mul_comm, Nat.div_add_mod]⟩
    have hq : q < 4 := by
      refine Nat.lt_of_not_le fun h => ?_
      have := Nat.mul_le_mul_right (2 ^ k * 2 ^ k) h
      omega
    rw [hP_step k q r hr]
    by_cases hn : r + 1 < 2 ^ k * 2 ^ k
    · rw [show q * (2 ^ k * 2 ^ k) + r + 1 = q * (2 ^ k * 2 ^ k) + (r + 1) by omega, hP_step k q (r + 1) hn]
      have l1 := hP_lt k r hr
      have l2 := hP_lt k (r + 1) hn
      exact adj_lv _ _ _ _ (hP_adj k r hn) l1.1 l1.2 l2.1 l2.2
    · obtain rfl : r = 2 ^ k * 2 ^ k - 1 := by omega
      rw [show q * (2 ^ k * 2 ^ k) + (2 ^ k * 2 ^ k - 1) + 1 = (q + 1) * (2 ^ k * 2 ^ k) + 0 by rw [Nat.add_mul]; omega, hP_step k (q + 1) 0 hss, hP_first, hP_last]
      have hq3 : q = 0 ∨ q = 1 ∨ q = 2 := by
        have : q ≠ 3 := fun e => by subst e; omega
        omega
      rcases hq3 with rfl | rfl | rfl <;> simp [lv, adj] <;> omega
theorem hI_inj {k x y u v : Nat} (hx : x < 2 ^ k) (hy : y < 2 ^ k) (hu : u < 2 ^ k) (hv : v < 2 ^ k) (h : hI k x y = hI k u v) : x = u ∧ y = v := by
  have a := hP_hI k x y hx hy
  rw [h, hP_hI k u v hu hv] at a
  injection a with a b
  exact ⟨a.symm, b.symm⟩
theorem sub_div_pow (a s j : Nat) (h : s * 2 ^ j ≤ a) : (a - s * 2 ^ j) / 2 ^ j = a / 2 ^ j - s := by
  rw [Nat.mul_comm] at *
  exact Nat.sub_mul_div_of_le _ _ _ h
theorem rev_div_pow (a s j : Nat) (h : a < s * 2 ^ j) : (s * 2 ^ j - 1 - a) / 2 ^ j = s - 1 - a / 2 ^ j := by
  have hj := Nat.two_pow_pos j
  have e := Nat.div_add_mod a (2 ^ j)
  have m := Nat.mod_lt a hj
  have hq : a / 2 ^ j < s := by rw [Nat.div_lt_iff_lt_mul hj]; exact h
  generalize a / 2 ^ j = q at *
  generalize a % 2 ^ j = r at *
  subst e
  rw [Nat.div_eq_iff hj]
  obtain ⟨d, rfl⟩ : ∃ d, s = q + 1 + d := ⟨s - (q + 1), by omega⟩
  rw [show q + 1 + d - 1 - q = d by omega, Nat.add_mul, Nat.add_mul, Nat.mul_comm q (2 ^ j)]
  generalize 2 ^ j * q = A at *
  generalize d * 2 ^ j = B at *
  omega
theorem hI_div : ∀ (j k x y : Nat), x < 2 ^ (k + j) → y < 2 ^ (k + j) → hI (k + j) x y / (2 ^ j * 2 ^ j) = hI k (x / 2 ^ j) (y / 2 ^ j)
  | j, 0, x, y, hx, hy => by
    rw [Nat.zero_add] at *
    rw [Nat.div_eq_of_lt (hI_lt j x y hx hy)]; rfl
  | j, k + 1, x, y, hx, hy => by
    have hj := Nat.two_pow_pos j
    have hjj := Nat.mul_pos hj hj
    have ih := hI_div j k
    have e1 : k + 1 + j = (k + j) + 1 := by omega
    rw [e1] at hx hy ⊢
    rw [Nat.pow_succ] at hx hy
    have es : 2 ^ (k + j) = 2 ^ k * 2 ^ j := Nat.pow_add 2 k j
    have hc : ∀ a, (a / 2 ^ j < 2 ^ k) = (a < 2 ^ (k + j)) := fun a => by rw [es]; exact propext (Nat.div_lt_iff_lt_mul hj)
    have hc2 : ∀ a, (2 ^ k ≤ a / 2 ^ j) = (2 ^ (k + j) ≤ a) := fun a => by rw [es]; exact propext (Nat.le_div_iff_mul_le hj)
    have hd : ∀ c r, (c * (2 ^ (k + j) * 2 ^ (k + j)) + r) / (2 ^ j * 2 ^ j) = c * (2 ^ k * 2 ^ k) + r / (2 ^ j * 2 ^ j) := fun c r => by
      rw [es, show c * (2 ^ k * 2 ^ j * (2 ^ k * 2 ^ j)) = (2 ^ j * 2 ^ j) * (c * (2 ^ k * 2 ^ k)) by
        rw [Nat.mul_mul_mul_comm, ← Nat.mul_assoc, Nat.mul_comm (2 ^ j * 2 ^ j)], Nat.mul_add_div hjj]
    unfold hI
    simp only [hc, hc2]
    split
    · split
      · exact ih y x ‹_› ‹_›
      · have hd1 := hd 1
        simp only [Nat.one_mul] at hd1
        rw [hd1, ih x (y - 2 ^ (k + j)) ‹_› (by omega), es, sub_div_pow _ _ _ (by omega)]
    · split
      · rw [hd, ih _ _ (by omega) (by omega), es, sub_div_pow _ _ _ (by omega), sub_div_pow _ _ _ (by omega)]
      · rw [hd, ih _ _ (by omega) (by omega), es, rev_div_pow _ _ _ (by omega), show 2 * (2 ^ k * 2 ^ j) = (2 * 2 ^ k) * 2 ^ j by rw [Nat.mul_assoc], rev_div_pow _ _ _ (by rw [Nat.mul_assoc]; omega)]
end Hb
end Go.Proofs.Ytlndpclgljfloaa
