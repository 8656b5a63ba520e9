/-
  Shares that lie on polynomials, and what Combine makes of them. Plain theorems; no function of the dump.
-/
import Derived.Test.YteaaadccjnmacaaCombP
namespace Go.Proofs.Yteaaadccjnmacaa

/-- the points and the values with the index i -/
def pts (l : List Sh) (i : Nat) : List (UInt8 × UInt8) := l.map fun s => (s.1, byte s.2 i)
theorem pts_xs (l : List Sh) (i : Nat) : (pts l i).map (·.1) = xsOf l := by simp [pts, xsOf]
theorem pts_len (l : List Sh) (i : Nat) : (pts l i).length = l.length := by simp [pts]
theorem interp_get (l : List Sh) (x : UInt8) (n i : Nat) (hi : i < n) : (interpB l x n)[i]? = some (lagS (xsOf l) (pts l i) x 0) := by
  unfold interpB yAt
  rw [List.getElem?_map, List.getElem?_range hi, List.take_of_length_le (Nat.le_refl _)]
  rfl
theorem interp_len (l : List Sh) (x : UInt8) (n : Nat) : (interpB l x n).length = n := yAt_len _ _ _ _

/-- All shares lie on the polynomials f, of degree below need. -/
def Lies (l : List Sh) (need n : Nat) (f : Nat → List UInt8) : Prop := ∀ i, i < n → (f i).length ≤ need ∧ ∀ s ∈ l, ev (f i) s.1 = byte s.2 i
def vals (f : Nat → List UInt8) (x : UInt8) (n : Nat) : List UInt8 := (List.range n).map fun i => ev (f i) x
theorem vals_len (f : Nat → List UInt8) (x : UInt8) (n : Nat) : (vals f x n).length = n := by simp [vals]
theorem vals_get (f : Nat → List UInt8) (x : UInt8) (n i : Nat) (hi : i < n) : (vals f x n)[i]? = some (ev (f i) x) := by
  unfold vals
  rw [List.getElem?_map, List.getElem?_range hi]
  rfl
theorem ext_len {l m : List UInt8} {n : Nat} (hl : l.length = n) (hm : m.length = n) (h : ∀ i, i < n → l[i]? = m[i]?) : l = m := by
  apply List.ext_getElem?
  intro i
  by_cases hi : i < n
  · exact h i hi
  · rw [List.getElem?_eq_none (by omega), List.getElem?_eq_none (by omega)]
theorem nodup_take {l : List Sh} (h : (l.map (·.1)).Nodup) (k : Nat) : ((l.take k).map (·.1)).Nodup := by
  rw [List.map_take]
  exact h.sublist (List.take_sublist _ _)

theorem interp_of_poly {l : List Sh} {need n : Nat} {f : Nat → List UInt8} (hd : (l.map (·.1)).Nodup) (hle : need ≤ l.length) (h : Lies l need n f) (x : UInt8) : interpB (l.take need) x n = vals f x n := by
  refine ext_len (interp_len _ _ _) (vals_len _ _ _) (fun i hi => ?_)
  obtain ⟨h1, h2⟩ := h i hi
  rw [interp_get _ _ _ _ hi, vals_get _ _ _ _ hi]
  have hp : ∀ s ∈ pts (l.take need) i, ev (f i) s.1 = s.2 := by
    intro s hs
    obtain ⟨t, ht, rfl⟩ := List.mem_map.1 hs
    exact h2 t (List.mem_of_mem_take ht)
  have := lag_of_poly (pts (l.take need) i) (by rw [pts_xs]; exact nodup_take hd need) (f i) (by rw [pts_len, List.length_take]; omega) hp x
  rw [pts_xs] at this
  rw [this]
theorem fits_of_poly {l : List Sh} {need n : Nat} {f : Nat → List UInt8} (hd : (l.map (·.1)).Nodup) (hle : need ≤ l.length) (hn : ∀ s ∈ l, s.2.length = n) (h : Lies l need n f) : Fits l need n := by
  intro s hs
  have hsl := List.mem_of_mem_drop hs
  rw [interp_of_poly hd hle h]
  refine ext_len (hn s hsl) (vals_len _ _ _) (fun i hi => ?_)
  rw [vals_get _ _ _ _ hi, (h i hi).2 s hsl]
  exact byte_get (by rw [hn s hsl]; exact hi)
theorem poly_of_fits {l : List Sh} {need n : Nat} (hd : (l.map (·.1)).Nodup) (hle : need ≤ l.length) (h : Fits l need n) : ∃ f, Lies l need n f := by
  have hx : ∀ i, ∃ f : List UInt8, f.length ≤ need ∧ (∀ x, ev f x = lagS (xsOf (l.take need)) (pts (l.take need) i) x 0) ∧ ∀ s ∈ pts (l.take need) i, ev f s.1 = s.2 := by
    intro i
    obtain ⟨f, h1, h2, h3⟩ := lag_poly (pts (l.take need) i) (by rw [pts_xs]; exact nodup_take hd need)
    rw [pts_xs] at h2
    exact ⟨f, by rw [pts_len, List.length_take] at h1; omega, h2, h3⟩
  refine ⟨fun i => (hx i).choose, fun i hi => ⟨(hx i).choose_spec.1, fun s hs => ?_⟩⟩
  have hs' : s ∈ l.take need ++ l.drop need := by rw [List.take_append_drop]; exact hs
  rcases List.mem_append.1 hs' with ht | ht
  · exact (hx i).choose_spec.2.2 (s.1, byte s.2 i) (List.mem_map.2 ⟨s, ht, rfl⟩)
  · rw [(hx i).choose_spec.2.1 s.1]
    have h1 := h s ht
    have h2 := interp_get (l.take need) s.1 n i hi
    rw [← h1] at h2
    exact (byte_of h2).symm

/-! ### the shares that Split makes -/
def coef (secret r : List UInt8) (m i : Nat) : List UInt8 := byte secret i :: (r.drop (i * m)).take m
theorem coef_len (secret r : List UInt8) (m i : Nat) : (coef secret r m i).length ≤ m + 1 := by
  simp only [coef, List.length_cons, List.length_take]
  omega
theorem coef_zero (secret r : List UInt8) (m i : Nat) : ev (coef secret r m i) 0 = byte secret i := by
  simp only [coef, ev, gmul_zero, UInt8.zero_xor]
theorem mask_coef (x : UInt8) (secret r : List UInt8) (m i : Nat) (hi : i < secret.length) : byte (maskB x m r secret) i = ev (coef secret r m i) x := by
  have h : (maskB x m r secret)[i]? = some (byte secret i ^^^ maskV x ((r.drop (i * m)).take m)) := by
    rw [maskB_get, byte_get hi]
    rfl
  rw [byte_of h, maskV_ev]
  simp only [coef, ev]
  exact UInt8.xor_comm _ _
theorem split_get (secret r : List UInt8) (need n k : Nat) (hk : k < n) : (splitL secret r need n)[k]? = some (UInt8.ofNat (k + 1), maskB (UInt8.ofNat (k + 1)) (need - 1) r secret) := by
  unfold splitL masks flat
  rw [List.getElem?_map, List.getElem?_map, List.getElem?_range hk]
  rfl
theorem split_mem {secret r : List UInt8} {need n : Nat} {s : Sh} (h : s ∈ splitL secret r need n) : ∃ k, k < n ∧ s = (UInt8.ofNat (k + 1), maskB (UInt8.ofNat (k + 1)) (need - 1) r secret) := by
  obtain ⟨k, hk⟩ := List.mem_iff_getElem?.1 h
  have hl := (List.getElem?_eq_some_iff.1 hk).1
  rw [splitL_len] at hl
  rw [split_get _ _ _ _ _ hl] at hk
  exact ⟨k, hl, (Option.some.inj hk).symm⟩
theorem split_lens {secret r : List UInt8} {need n : Nat} {s : Sh} (h : s ∈ splitL secret r need n) : s.2.length = secret.length := by
  obtain ⟨k, _, rfl⟩ := split_mem h
  exact maskB_len _ _ _ _
theorem split_nz {secret r : List UInt8} {need n : Nat} (hn : n ≤ 255) {s : Sh} (h : s ∈ splitL secret r need n) : s.1 ≠ 0 := by
  obtain ⟨k, hk, rfl⟩ := split_mem h
  intro e
  have := congrArg UInt8.toNat e
  simp only [UInt8.toNat_ofNat_of_lt' (show k + 1 < UInt8.size by simpa using (by omega : k + 1 < 256))] at this
  simp at this
theorem split_xs (secret r : List UInt8) (need n : Nat) : (splitL secret r need n).map (·.1) = (List.range n).map fun i => UInt8.ofNat (i + 1) := by
  simp [splitL, masks, flat]
theorem xs_nodup (n : Nat) (hn : n ≤ 255) : ((List.range n).map fun i => UInt8.ofNat (i + 1)).Nodup := by
  refine List.pairwise_map.2 (List.Pairwise.imp_of_mem ?_ (List.pairwise_lt_range (n := n)))
  intro i j hi hj hij e
  rw [List.mem_range] at hi hj
  have := congrArg UInt8.toNat e
  rw [UInt8.toNat_ofNat_of_lt' (by simpa using (by omega : i + 1 < 256)), UInt8.toNat_ofNat_of_lt' (by simpa using (by omega : j + 1 < 256))] at this
  omega
theorem split_nodup (secret r : List UInt8) (need n : Nat) (hn : n ≤ 255) : ((splitL secret r need n).map (·.1)).Nodup := by
  rw [split_xs]
  exact xs_nodup n hn
/-- Any of Split's shares lie on its polynomials. -/
theorem split_lies {secret r : List UInt8} {need n : Nat} (h1 : 1 ≤ need) {l : List Sh} (hl : ∀ s ∈ l, s ∈ splitL secret r need n) : Lies l need secret.length (coef secret r (need - 1)) := by
  intro i hi
  refine ⟨by have := coef_len secret r (need - 1) i; omega, fun s hs => ?_⟩
  obtain ⟨k, _, rfl⟩ := split_mem (hl s hs)
  exact (mask_coef _ secret r (need - 1) i hi).symm
theorem vals_coef (secret r : List UInt8) (m : Nat) : vals (coef secret r m) 0 secret.length = secret := by
  refine ext_len (vals_len _ _ _) rfl (fun i hi => ?_)
  rw [vals_get _ _ _ _ hi, coef_zero]
  exact (byte_get hi).symm
theorem wf_of {l : List Sh} {n : Nat} (hz : ∀ s ∈ l, s.1 ≠ 0) (hd : (l.map (·.1)).Nodup) (hn : ∀ s ∈ l, s.2.length = n) : wfB l = true := by
  rw [wfB_iff]
  refine ⟨hz, hd, fun s hs => ?_⟩
  rw [hn s hs]
  cases l with
  | nil => cases hs
  | cons t r => exact (hn t (by simp)).symm
end Go.Proofs.Yteaaadccjnmacaa
