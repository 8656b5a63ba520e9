/-
  Ranges of indices of a window of the curve, on numbers. Plain theorems; no function of the dump.
-/
import Derived.Test.YtlndpclgljfloaaHbL
namespace Go.Proofs.Ytlndpclgljfloaa
namespace Hb
/-- a range behind others, joined to the last one if nothing lies between -/
def joinL (acc : List (Nat × Nat)) (a b : Nat) : List (Nat × Nat) :=
  match acc.getLast? with
  | none => [(a, b)]
  | some p => if p.2 + 1 = a then acc.dropLast ++ [(p.1, b)] else acc ++ [(a, b)]
theorem joinL_nil (a b : Nat) : joinL [] a b = [(a, b)] := rfl
theorem joinL_snoc (l : List (Nat × Nat)) (p q a b : Nat) : joinL (l ++ [(p, q)]) a b = if q + 1 = a then l ++ [(p, b)] else l ++ [(p, q)] ++ [(a, b)] := by
  unfold joinL
  rw [List.getLast?_concat]
  simp only [List.dropLast_concat]
theorem joinL_ends (acc : List (Nat × Nat)) (a b : Nat) : ∃ l p, joinL acc a b = l ++ [(p, b)] := by
  unfold joinL
  split
  · exact ⟨[], a, rfl⟩
  · split
    · exact ⟨_, _, rfl⟩
    · exact ⟨acc, a, rfl⟩
theorem joinL_more (acc : List (Nat × Nat)) (a b : Nat) : joinL (joinL acc a b) (b + 1) (b + 1) = joinL acc a (b + 1) := by
  rcases List.eq_nil_or_concat acc with rfl | ⟨l, ⟨p, q⟩, rfl⟩
  · rw [joinL_nil, joinL_nil]
    have := joinL_snoc [] a b (b + 1) (b + 1)
    simpa using this
  · rw [List.concat_eq_append, joinL_snoc, joinL_snoc]
    split
    · rw [joinL_snoc, if_pos rfl]
    · rw [joinL_snoc, if_pos rfl]
theorem joinL_len (acc : List (Nat × Nat)) (a b : Nat) : (joinL acc a b).length ≤ acc.length + 1 := by
  rcases List.eq_nil_or_concat acc with rfl | ⟨l, ⟨p, q⟩, rfl⟩
  · rw [joinL_nil]; simp
  · rw [List.concat_eq_append, joinL_snoc]
    split <;> simp
/-- the indices from a on, one after the other -/
def scan (f : Nat → Bool) : Nat → Nat → List (Nat × Nat) → List (Nat × Nat)
  | _, 0, acc => acc
  | a, n + 1, acc => scan f (a + 1) n (if f a = true then joinL acc a a else acc)
theorem scan_app (f : Nat → Bool) : ∀ (n m a : Nat) (acc : List (Nat × Nat)), scan f a (n + m) acc = scan f (a + n) m (scan f a n acc)
  | 0, m, a, acc => by rw [Nat.zero_add]; rfl
  | n + 1, m, a, acc => by
    rw [show n + 1 + m = (n + m) + 1 by omega, scan, scan, scan_app f n m (a + 1), show a + 1 + n = a + (n + 1) by omega]
theorem scan_congr {f g : Nat → Bool} : ∀ (n a : Nat) (acc : List (Nat × Nat)), (∀ i, a ≤ i → i < a + n → f i = g i) → scan f a n acc = scan g a n acc
  | 0, _, _, _ => rfl
  | n + 1, a, acc, h => by
    rw [scan, scan, h a (Nat.le_refl _) (by omega), scan_congr n (a + 1) _ (fun i h1 h2 => h i (by omega) (by omega))]
theorem scan_none {f : Nat → Bool} : ∀ (n a : Nat) (acc : List (Nat × Nat)), (∀ i, a ≤ i → i < a + n → f i = false) → scan f a n acc = acc
  | 0, _, _, _ => rfl
  | n + 1, a, acc, h => by
    rw [scan, h a (Nat.le_refl _) (by omega), if_neg (by decide)]
    exact scan_none n (a + 1) acc fun i h1 h2 => h i (by omega) (by omega)
theorem scan_last (f : Nat → Bool) (n a : Nat) (acc : List (Nat × Nat)) : scan f a (n + 1) acc = if f (a + n) = true then joinL (scan f a n acc) (a + n) (a + n) else scan f a n acc := by
  rw [scan_app f n 1 a acc]; rfl
theorem scan_all {f : Nat → Bool} (n a : Nat) (acc : List (Nat × Nat)) (h : ∀ i, a ≤ i → i < a + (n + 1) → f i = true) : scan f a (n + 1) acc = joinL acc a (a + n) := by
  induction n with
  | zero => rw [scan, h a (Nat.le_refl _) (by omega), if_pos rfl]; rfl
  | succ n ih =>
    rw [scan_last, ih (fun i h1 h2 => h i h1 (by omega)), if_pos (h _ (by omega) (by omega))]
    exact joinL_more acc a (a + n)
/-- a window: its least x and y, its greatest ones -/
structure Wd where
  x : Nat
  y : Nat
  u : Nat
  v : Nat
deriving DecidableEq
def inW (w : Wd) (p : Nat × Nat) : Bool := decide (w.x ≤ p.1) && decide (p.1 ≤ w.u) && decide (w.y ≤ p.2) && decide (p.2 ≤ w.v)
def Wd.ok (w : Wd) (s : Nat) : Prop := w.x ≤ w.u ∧ w.y ≤ w.v ∧ w.u < s ∧ w.v < s
def whole (s : Nat) : Wd := ⟨0, 0, s - 1, s - 1⟩
def colQ (q : Nat) : Nat := if q = 2 ∨ q = 3 then 1 else 0
def rowQ (q : Nat) : Nat := if q = 1 ∨ q = 2 then 1 else 0
def en (s q x y : Nat) : Nat × Nat := if q = 0 then (y, x) else if q = 1 then (x, y - s) else if q = 2 then (x - s, y - s) else (s - 1 - y, 2 * s - 1 - x)
/-- the part of a window in a quadrant, as it lies on the quadrant's own curve -/
def clipO (w : Wd) (s q : Nat) : Wd := ⟨max w.x (colQ q * s), max w.y (rowQ q * s), min w.u (colQ q * s + s - 1), min w.v (rowQ q * s + s - 1)⟩
def clipB (w : Wd) (s q : Nat) : Bool := decide ((clipO w s q).x ≤ (clipO w s q).u) && decide ((clipO w s q).y ≤ (clipO w s q).v)
def clipI (w : Wd) (s q : Nat) : Wd :=
  let o := clipO w s q
  let a := en s q o.x o.y
  let b := en s q o.u o.v
  ⟨min a.1 b.1, min a.2 b.2, max a.1 b.1, max a.2 b.2⟩
theorem clip_ok {w : Wd} {s q : Nat} (hq : q < 4) (h : w.ok (2 * s)) (hb : clipB w s q = true) : (clipI w s q).ok s := by
  obtain ⟨x, y, u, v⟩ := w
  unfold clipB clipO at hb
  unfold Wd.ok at *
  unfold clipI clipO
  have hq' : q = 0 ∨ q = 1 ∨ q = 2 ∨ q = 3 := by omega
  rcases hq' with rfl | rfl | rfl | rfl <;> simp [colQ, rowQ, en] at hb h ⊢ <;> omega
theorem clip_in {w : Wd} {s q : Nat} (hq : q < 4) (h : w.ok (2 * s)) {p : Nat × Nat} (h1 : p.1 < s) (h2 : p.2 < s) : inW w (lv s q p) = (clipB w s q && inW (clipI w s q) p) := by
  obtain ⟨x, y, u, v⟩ := w
  obtain ⟨a, b⟩ := p
  unfold clipB clipI inW clipO
  unfold Wd.ok at h
  have hq' : q = 0 ∨ q = 1 ∨ q = 2 ∨ q = 3 := by omega
  rw [Bool.eq_iff_iff]
  rcases hq' with rfl | rfl | rfl | rfl <;> simp [colQ, rowQ, en, lv] at h h1 h2 ⊢ <;> omega
/-- the visit of a square of the curve -/
def vis : Nat → Wd → Nat → List (Nat × Nat) → List (Nat × Nat)
  | 0, _, first, acc => joinL acc first first
  | k + 1, w, first, acc =>
    if w = whole (2 ^ (k + 1)) then joinL acc first (first + (2 ^ (k + 1) * 2 ^ (k + 1) - 1))
    else
      let st := fun (acc : List (Nat × Nat)) (q : Nat) => if clipB w (2 ^ k) q = true then vis k (clipI w (2 ^ k) q) (first + q * (2 ^ k * 2 ^ k)) acc else acc
      st (st (st (st acc 0) 1) 2) 3
theorem inW_whole {s : Nat} {p : Nat × Nat} (h1 : p.1 < s) (h2 : p.2 < s) : inW (whole s) p = true := by
  unfold inW whole
  simp
  omega
theorem vis_scan : ∀ (k : Nat) (w : Wd) (first : Nat) (acc : List (Nat × Nat)), w.ok (2 ^ k) → vis k w first acc = scan (fun i => inW w (hP k (i - first))) first (2 ^ k * 2 ^ k) acc
  | 0, w, first, acc, hw => by
    have e : w = whole 1 := by
      obtain ⟨x, y, u, v⟩ := w
      unfold Wd.ok at hw
      unfold whole
      simp at hw ⊢
      omega
    subst e
    show joinL acc first first = scan _ first (0 + 1) acc
    rw [scan_all 0 first acc]
    · rfl
    · intro i h1 h2
      exact inW_whole (by simp [hP]) (by simp [hP])
  | k + 1, w, first, acc, hw => by
    have hs := Nat.two_pow_pos k
    have hQ := Nat.mul_pos hs hs
    have ih := vis_scan k
    rw [Nat.pow_succ, Nat.mul_comm] at hw
    rw [vis]
    split
    · rename_i e
      subst e
      have hpos : 0 < 2 ^ (k + 1) * 2 ^ (k + 1) := Nat.mul_pos (Nat.two_pow_pos _) (Nat.two_pow_pos _)
      obtain ⟨N, hN⟩ : ∃ N, 2 ^ (k + 1) * 2 ^ (k + 1) = N + 1 := ⟨2 ^ (k + 1) * 2 ^ (k + 1) - 1, by omega⟩
      rw [hN, scan_all N first acc, Nat.add_sub_cancel]
      intro i h1 h2
      have hl := hP_lt (k + 1) (i - first) (by omega)
      exact inW_whole hl.1 hl.2
    · have step : ∀ q a, q < 4 → (if clipB w (2 ^ k) q = true then vis k (clipI w (2 ^ k) q) (first + q * (2 ^ k * 2 ^ k)) a else a) = scan (fun i => inW w (hP (k + 1) (i - first))) (first + q * (2 ^ k * 2 ^ k)) (2 ^ k * 2 ^ k) a := by
        intro q a hq
        have key : ∀ i, first + q * (2 ^ k * 2 ^ k) ≤ i → i < first + q * (2 ^ k * 2 ^ k) + 2 ^ k * 2 ^ k → inW w (hP (k + 1) (i - first)) = (clipB w (2 ^ k) q && inW (clipI w (2 ^ k) q) (hP k (i - (first + q * (2 ^ k * 2 ^ k))))) := by
          intro i h1 h2
          obtain ⟨r, rfl⟩ : ∃ r, i = first + q * (2 ^ k * 2 ^ k) + r := ⟨i - (first + q * (2 ^ k * 2 ^ k)), by omega⟩
          have hr : r < 2 ^ k * 2 ^ k := by omega
          rw [show first + q * (2 ^ k * 2 ^ k) + r - first = q * (2 ^ k * 2 ^ k) + r by omega, Nat.add_sub_cancel_left, hP_step k q r hr]
          have hl := hP_lt k r hr
          exact clip_in hq hw hl.1 hl.2
        split
        · rename_i hc
          rw [ih _ _ _ (clip_ok hq hw hc)]
          exact scan_congr _ _ _ fun i h1 h2 => by rw [key i h1 h2, hc, Bool.true_and]
        · rename_i hc
          rw [scan_none]
          intro i h1 h2
          rw [key i h1 h2, Bool.eq_false_iff.2 hc, Bool.false_and]
      simp only []
      rw [step 0 acc (by decide), step 1 _ (by decide), step 2 _ (by decide), step 3 _ (by decide), sq]
      generalize 2 ^ k * 2 ^ k = Q
      rw [show 4 * Q = Q + (Q + (Q + Q)) by omega, scan_app, scan_app, scan_app]
      simp only [Nat.zero_mul, Nat.one_mul, Nat.add_zero]
      rw [show first + Q + Q = first + 2 * Q by omega, show first + 2 * Q + Q = first + 3 * Q by omega]
end Hb
end Go.Proofs.Ytlndpclgljfloaa
