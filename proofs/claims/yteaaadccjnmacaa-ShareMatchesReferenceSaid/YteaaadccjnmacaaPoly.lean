/-
  Polynomials over the field as lists of coefficients; interpolation. Plain theorems; no function of the dump.
-/
import Derived.Test.YteaaadccjnmacaaGF
namespace Go.Proofs.Yteaaadccjnmacaa

instance : Std.Associative gmul := ⟨gmul_assoc⟩
instance : Std.Commutative gmul := ⟨gmul_comm⟩
instance : Std.Associative (α := UInt8) (· ^^^ ·) := ⟨UInt8.xor_assoc⟩
instance : Std.Commutative (α := UInt8) (· ^^^ ·) := ⟨UInt8.xor_comm⟩

/-- the value at x -/
def ev : List UInt8 → UInt8 → UInt8
  | [], _ => 0
  | a :: f, x => gmul (ev f x) x ^^^ a
def padd : List UInt8 → List UInt8 → List UInt8
  | [], g => g
  | a :: f, [] => a :: f
  | a :: f, b :: g => (a ^^^ b) :: padd f g
def pscale (c : UInt8) (f : List UInt8) : List UInt8 := f.map (gmul c)

theorem ev_padd (f g : List UInt8) (x : UInt8) : ev (padd f g) x = ev f x ^^^ ev g x := by
  induction f generalizing g with
  | nil => simp [padd, ev]
  | cons a f ih =>
    cases g with
    | nil => simp [padd, ev]
    | cons b g =>
      simp only [padd, ev, ih, xor_gmul]
      ac_rfl
theorem padd_len (f g : List UInt8) : (padd f g).length = max f.length g.length := by
  induction f generalizing g with
  | nil => simp [padd]
  | cons a f ih =>
    cases g with
    | nil => simp [padd]
    | cons b g => simp only [padd, List.length_cons, ih]; omega
theorem ev_pscale (c : UInt8) (f : List UInt8) (x : UInt8) : ev (pscale c f) x = gmul c (ev f x) := by
  induction f with
  | nil => simp [pscale, ev, gmul_zero]
  | cons a f ih =>
    simp only [pscale, List.map_cons, ev] at ih ⊢
    rw [ih, gmul_xor, gmul_assoc]
theorem pscale_len (c : UInt8) (f : List UInt8) : (pscale c f).length = f.length := by simp [pscale]
theorem ev_zeros (n : Nat) (x : UInt8) : ev (List.replicate n 0) x = 0 := by
  induction n with
  | zero => rfl
  | succ n ih => simp [List.replicate_succ, ev, ih, zero_gmul]
theorem ev_pad (f : List UInt8) (n : Nat) (x : UInt8) : ev (f ++ List.replicate n 0) x = ev f x := by
  induction f with
  | nil => simp [ev, ev_zeros]
  | cons a f ih => simp [ev, ih]

/-- the quotient by x - r -/
def pquo (r : UInt8) : List UInt8 → List UInt8
  | [] => []
  | _ :: g => padd g (pscale r (pquo r g))
theorem pquo_len (r : UInt8) (f : List UInt8) : (pquo r f).length = f.length - 1 := by
  induction f with
  | nil => rfl
  | cons a g ih => simp only [pquo, padd_len, pscale_len, ih, List.length_cons]; omega
theorem ev_pquo (r : UInt8) (f : List UInt8) (x : UInt8) : ev f x = gmul (ev (pquo r f) x) (x ^^^ r) ^^^ ev f r := by
  induction f with
  | nil => simp [pquo, ev, zero_gmul]
  | cons a g ih =>
    simp only [pquo, ev, ev_padd, ev_pscale]
    generalize ev (pquo r g) x = q at *
    generalize ev g r = R at *
    generalize ev g x = G at *
    have h0 : gmul r (G ^^^ (gmul q (x ^^^ r) ^^^ R)) = 0 := by rw [← ih, UInt8.xor_self, gmul_zero]
    rw [gmul_xor, gmul_xor] at h0
    have e : gmul (G ^^^ gmul r q) (x ^^^ r) ^^^ (gmul R r ^^^ a) = gmul G x ^^^ a ^^^ (gmul r G ^^^ (gmul r (gmul q (x ^^^ r)) ^^^ gmul r R)) := by
      rw [xor_gmul, gmul_xor (a := G), gmul_comm G r, gmul_assoc, gmul_comm R r]
      ac_rfl
    rw [e, h0, UInt8.xor_zero]

theorem roots (rs : List UInt8) : ∀ f : List UInt8, f.length ≤ rs.length → rs.Nodup → (∀ r ∈ rs, ev f r = 0) → ∀ x, ev f x = 0 := by
  induction rs with
  | nil =>
    intro f hl _ _ x
    have : f = [] := List.eq_nil_of_length_eq_zero (by simpa using hl)
    subst this
    rfl
  | cons r rs ih =>
    intro f hl hd h0 x
    have hr := h0 r (by simp)
    have hq := ih (pquo r f) (by rw [pquo_len]; simp at hl; omega) (List.nodup_cons.1 hd).2 (fun s hs => by
      have h1 := h0 s (by simp [hs])
      rw [ev_pquo r f s, hr, UInt8.xor_zero] at h1
      rcases gmul_eq_zero h1 with h | h
      · exact h
      · have := eq_of_xor h
        subst this
        exact absurd hs (List.nodup_cons.1 hd).1)
    rw [ev_pquo r f x, hr, hq x, zero_gmul, UInt8.xor_zero]
theorem unique (rs f g : List UInt8) (hf : f.length ≤ rs.length) (hg : g.length ≤ rs.length) (hd : rs.Nodup) (h : ∀ r ∈ rs, ev f r = ev g r) (x : UInt8) : ev f x = ev g x := by
  have := roots rs (padd f g) (by rw [padd_len]; omega) hd (fun r hr => by rw [ev_padd, h r hr, UInt8.xor_self]) x
  rw [ev_padd] at this
  exact eq_of_xor this

/-- times x - o -/
def plin (o : UInt8) (f : List UInt8) : List UInt8 := padd (0 :: f) (pscale o f)
theorem ev_plin (o : UInt8) (f : List UInt8) (x : UInt8) : ev (plin o f) x = gmul (ev f x) (x ^^^ o) := by
  simp only [plin, ev_padd, ev_pscale, ev, UInt8.xor_zero, gmul_xor]
  rw [gmul_comm o]
theorem plin_len (o : UInt8) (f : List UInt8) : (plin o f).length = f.length + 1 := by
  simp only [plin, padd_len, pscale_len, List.length_cons]
  omega

/-- the product of x - o over the points o but s -/
def above (s : UInt8) (xs : List UInt8) (x : UInt8) : UInt8 := xs.foldl (fun a o => if o = s then a else gmul a (x ^^^ o)) 1
def numP (s : UInt8) (xs : List UInt8) : List UInt8 := xs.foldl (fun f o => if o = s then f else plin o f) [1]
theorem ev_numP (s : UInt8) (xs : List UInt8) (x : UInt8) : ev (numP s xs) x = above s xs x := by
  have : ∀ (f : List UInt8) (a : UInt8), ev f x = a → ev (xs.foldl (fun f o => if o = s then f else plin o f) f) x = xs.foldl (fun a o => if o = s then a else gmul a (x ^^^ o)) a := by
    induction xs with
    | nil => intro f a h; exact h
    | cons o xs ih =>
      intro f a h
      simp only [List.foldl_cons]
      refine ih _ _ ?_
      split
      · exact h
      · rw [ev_plin, h]
  exact this [1] 1 (by simp [ev, zero_gmul])
theorem numP_len (s : UInt8) (xs : List UInt8) (hs : s ∈ xs) : (numP s xs).length ≤ xs.length := by
  have h1 : ∀ (f : List UInt8), (xs.foldl (fun f o => if o = s then f else plin o f) f).length ≤ f.length + xs.length := by
    clear hs
    induction xs with
    | nil => intro f; simp
    | cons o xs ih =>
      intro f
      simp only [List.foldl_cons]
      refine Nat.le_trans (ih _) ?_
      split
      · simp
      · rw [plin_len]; simp; omega
  have h2 : ∀ (f : List UInt8), (xs.foldl (fun f o => if o = s then f else plin o f) f).length + 1 ≤ f.length + xs.length := by
    clear h1
    induction xs with
    | nil => exact absurd hs (by simp)
    | cons o xs ih =>
      intro f
      simp only [List.foldl_cons]
      by_cases ho : o = s
      · rw [if_pos ho]
        have : ∀ (xs f : List UInt8), (xs.foldl (fun f o => if o = s then f else plin o f) f).length ≤ f.length + xs.length := by
          intro xs
          induction xs with
          | nil => intro f; simp
          | cons o xs ih =>
            intro f
            simp only [List.foldl_cons]
            refine Nat.le_trans (ih _) ?_
            split
            · simp
            · rw [plin_len]; simp; omega
        have := this xs f
        simp
        omega
      · rw [if_neg ho]
        have := ih (by simpa [Ne.symm ho] using hs) (plin o f)
        rw [plin_len] at this
        simp
        omega
  have := h2 [1]
  simp only [List.length_cons, List.length_nil] at this
  unfold numP
  omega
theorem above_zero (s : UInt8) (xs : List UInt8) (t : UInt8) (ht : t ∈ xs) (hs : t ≠ s) : above s xs t = 0 := by
  have h0 : ∀ xs : List UInt8, xs.foldl (fun a o => if o = s then a else gmul a (t ^^^ o)) 0 = 0 := by
    intro xs
    induction xs with
    | nil => rfl
    | cons o xs ih => simp only [List.foldl_cons, zero_gmul, ite_self, ih]
  have : ∀ a, xs.foldl (fun a o => if o = s then a else gmul a (t ^^^ o)) a = 0 := by
    induction xs with
    | nil => exact absurd ht (by simp)
    | cons o xs ih =>
      intro a
      simp only [List.foldl_cons]
      by_cases ho : t = o
      · subst ho
        rw [if_neg hs, UInt8.xor_self, gmul_zero, h0]
      · exact ih (by simpa [ho] using ht) _
  exact this 1
theorem above_ne (s : UInt8) (xs : List UInt8) : above s xs s ≠ 0 := by
  have : ∀ a : UInt8, a ≠ 0 → xs.foldl (fun a o => if o = s then a else gmul a (s ^^^ o)) a ≠ 0 := by
    induction xs with
    | nil => intro a h; exact h
    | cons o xs ih =>
      intro a h
      simp only [List.foldl_cons]
      refine ih _ ?_
      split
      · exact h
      · rename_i ho
        exact gmul_ne h (xor_ne (Ne.symm ho))
  exact this 1 (by decide)

def weight (s : UInt8) (xs : List UInt8) (x : UInt8) : UInt8 := gmul (above s xs x) (ginv (above s xs s))
theorem weight_self (s : UInt8) (xs : List UInt8) : weight s xs s = 1 := gmul_ginv (above_ne s xs)
theorem weight_other (s : UInt8) (xs : List UInt8) (t : UInt8) (ht : t ∈ xs) (hs : t ≠ s) : weight s xs t = 0 := by
  unfold weight
  rw [above_zero s xs t ht hs, zero_gmul]

/-- the sum of the values, weighed -/
def lagS (xs : List UInt8) (l : List (UInt8 × UInt8)) (x y : UInt8) : UInt8 := l.foldl (fun y s => y ^^^ gmul (weight s.1 xs x) s.2) y
def lagP (xs : List UInt8) (l : List (UInt8 × UInt8)) (f : List UInt8) : List UInt8 := l.foldl (fun f s => padd f (pscale (gmul s.2 (ginv (above s.1 xs s.1))) (numP s.1 xs))) f
theorem ev_lagP (xs : List UInt8) (l : List (UInt8 × UInt8)) (x : UInt8) (f : List UInt8) : ev (lagP xs l f) x = lagS xs l x (ev f x) := by
  induction l generalizing f with
  | nil => rfl
  | cons s l ih =>
    have := ih (padd f (pscale (gmul s.2 (ginv (above s.1 xs s.1))) (numP s.1 xs)))
    simp only [lagP, lagS, List.foldl_cons] at this ⊢
    rw [this, ev_padd, ev_pscale, ev_numP]
    congr 2
    unfold weight
    ac_rfl
theorem lagP_len (xs : List UInt8) (l : List (UInt8 × UInt8)) (h : ∀ s ∈ l, s.1 ∈ xs) (f : List UInt8) (hf : f.length ≤ xs.length) : (lagP xs l f).length ≤ xs.length := by
  induction l generalizing f with
  | nil => exact hf
  | cons s l ih =>
    simp only [lagP, List.foldl_cons]
    refine ih (fun s hs => h s (by simp [hs])) _ ?_
    rw [padd_len, pscale_len]
    have := numP_len s.1 xs (h s (by simp))
    omega
theorem lagS_skip (xs : List UInt8) (l : List (UInt8 × UInt8)) (t y : UInt8) (ht : t ∈ xs) (hn : t ∉ l.map (·.1)) : lagS xs l t y = y := by
  induction l generalizing y with
  | nil => rfl
  | cons s l ih =>
    simp only [List.map_cons, List.mem_cons, not_or] at hn
    simp only [lagS, List.foldl_cons]
    rw [weight_other s.1 xs t ht hn.1, zero_gmul, UInt8.xor_zero]
    exact ih y hn.2
theorem lagS_at (xs : List UInt8) (l : List (UInt8 × UInt8)) (hd : (l.map (·.1)).Nodup) (h : ∀ s ∈ l, s.1 ∈ xs) (t v y : UInt8) (hm : (t, v) ∈ l) : lagS xs l t y = y ^^^ v := by
  induction l generalizing y with
  | nil => exact absurd hm (by simp)
  | cons s l ih =>
    simp only [List.map_cons, List.nodup_cons] at hd
    have hs := h s (by simp)
    simp only [lagS, List.foldl_cons]
    rcases List.mem_cons.1 hm with e | hm'
    · subst e
      rw [weight_self, one_gmul]
      exact lagS_skip xs l t _ hs hd.1
    · have hne : t ≠ s.1 := fun e => hd.1 (by rw [← e]; exact List.mem_map.2 ⟨_, hm', rfl⟩)
      have htx : t ∈ xs := h (t, v) (by simp [hm'])
      rw [weight_other s.1 xs t htx hne, zero_gmul, UInt8.xor_zero]
      exact ih hd.2 (fun s hs => h s (by simp [hs])) y hm'

/-- The polynomial through the points: its values are the weighed sums. -/
theorem lag_poly (l : List (UInt8 × UInt8)) (hd : (l.map (·.1)).Nodup) : ∃ f : List UInt8, f.length ≤ l.length ∧ (∀ x, ev f x = lagS (l.map (·.1)) l x 0) ∧ ∀ s ∈ l, ev f s.1 = s.2 := by
  have hmem : ∀ s ∈ l, s.1 ∈ l.map (·.1) := fun s hs => List.mem_map.2 ⟨s, hs, rfl⟩
  have he : ∀ x, ev (lagP (l.map (·.1)) l []) x = lagS (l.map (·.1)) l x 0 := fun x => ev_lagP _ _ _ _
  refine ⟨lagP (l.map (·.1)) l [], ?_, he, fun s hs => ?_⟩
  · have := lagP_len (l.map (·.1)) l hmem [] (by simp)
    simpa using this
  · rw [he, lagS_at _ l hd hmem s.1 s.2 0 hs, UInt8.zero_xor]
/-- A polynomial of a degree below the number of points: the weighed sums of its values are its values. -/
theorem lag_of_poly (l : List (UInt8 × UInt8)) (hd : (l.map (·.1)).Nodup) (f : List UInt8) (hf : f.length ≤ l.length) (h : ∀ s ∈ l, ev f s.1 = s.2) (x : UInt8) : lagS (l.map (·.1)) l x 0 = ev f x := by
  obtain ⟨g, hg, he, hv⟩ := lag_poly l hd
  rw [← he]
  refine (unique (l.map (·.1)) f g (by simpa using hf) (by simpa using hg) hd (fun r hr => ?_) x).symm
  obtain ⟨s, hs, rfl⟩ := List.mem_map.1 hr
  rw [h s hs, hv s hs]
end Go.Proofs.Yteaaadccjnmacaa
