/-
  Newton's interpolation: a polynomial through a constant and given points, one point after the other. Plain theorems; no function of the dump.
-/
import Derived.Test.YteaaadccjnmacaaCombM
import Derived.Test.YteaaadccjnmacaaInterP
namespace Go.Proofs.Yteaaadccjnmacaa

/-- one point more -/
def nwF (f b : List UInt8) (p : UInt8 × UInt8) : List UInt8 := padd f (pscale (gmul (p.2 ^^^ ev f p.1) (ginv (ev b p.1))) b)
def nw (s : List UInt8 × List UInt8) (p : UInt8 × UInt8) : List UInt8 × List UInt8 := (nwF s.1 s.2 p, plin p.1 s.2)
def nwt (y : UInt8) (ps : List (UInt8 × UInt8)) : List UInt8 × List UInt8 := ps.foldl nw ([y], [0, 1])
theorem nwt_snoc (y : UInt8) (ps : List (UInt8 × UInt8)) (p : UInt8 × UInt8) : nwt y (ps ++ [p]) = nw (nwt y ps) p := by simp [nwt]
structure NwI (y : UInt8) (ps : List (UInt8 × UInt8)) (s : List UInt8 × List UInt8) : Prop where
  f0 : ev s.1 0 = y
  fp : ∀ p ∈ ps, ev s.1 p.1 = p.2
  b0 : ev s.2 0 = 0
  bp : ∀ p ∈ ps, ev s.2 p.1 = 0
  bn : ∀ z : UInt8, z ≠ 0 → z ∉ ps.map (·.1) → ev s.2 z ≠ 0
  fl : s.1.length ≤ ps.length + 1
  f1 : 1 ≤ s.1.length
  bl : s.2.length = ps.length + 2
theorem nwI_nil (y : UInt8) : NwI y [] ([y], [0, 1]) := by
  refine ⟨by simp [ev, zero_gmul], by simp, (by show ev [0, 1] 0 = 0; simp [ev, gmul_zero]), by simp, fun z hz _ => ?_, by simp, by simp, rfl⟩
  have e : ev [0, 1] z = z := by simp [ev, zero_gmul, one_gmul]
  rw [e]
  exact hz
theorem nwI_snoc {y : UInt8} {ps : List (UInt8 × UInt8)} {s : List UInt8 × List UInt8} (h : NwI y ps s) (p : UInt8 × UInt8) (hz : p.1 ≠ 0) (hn : p.1 ∉ ps.map (·.1)) : NwI y (ps ++ [p]) (nw s p) := by
  have hb := h.bn p.1 hz hn
  have hf : ∀ z, ev (nwF s.1 s.2 p) z = ev s.1 z ^^^ gmul (gmul (p.2 ^^^ ev s.1 p.1) (ginv (ev s.2 p.1))) (ev s.2 z) := fun z => by rw [nwF, ev_padd, ev_pscale]
  have hg : ∀ z, ev (plin p.1 s.2) z = gmul (ev s.2 z) (z ^^^ p.1) := fun z => ev_plin _ _ _
  refine ⟨?_, ?_, ?_, ?_, ?_, ?_, ?_, ?_⟩
  · show ev (nwF s.1 s.2 p) 0 = y
    rw [hf, h.b0, gmul_zero, UInt8.xor_zero, h.f0]
  · intro q hq
    show ev (nwF s.1 s.2 p) q.1 = q.2
    rw [hf]
    rcases List.mem_append.1 hq with hq | hq
    · rw [h.bp q hq, gmul_zero, UInt8.xor_zero, h.fp q hq]
    · have : q = p := by simpa using hq
      subst this
      have e : gmul (gmul (q.2 ^^^ ev s.1 q.1) (ginv (ev s.2 q.1))) (ev s.2 q.1) = q.2 ^^^ ev s.1 q.1 := by
        rw [gmul_assoc, gmul_comm (ginv _), gmul_ginv hb, gmul_comm, one_gmul]
      rw [e, UInt8.xor_comm (q.2), ← UInt8.xor_assoc, UInt8.xor_self, UInt8.zero_xor]
  · show ev (plin p.1 s.2) 0 = 0
    rw [hg, h.b0, zero_gmul]
  · intro q hq
    show ev (plin p.1 s.2) q.1 = 0
    rw [hg]
    rcases List.mem_append.1 hq with hq | hq
    · rw [h.bp q hq, zero_gmul]
    · have : q = p := by simpa using hq
      subst this
      rw [UInt8.xor_self, gmul_zero]
  · intro z hz0 hzn
    show ev (plin p.1 s.2) z ≠ 0
    rw [hg]
    simp only [List.map_append, List.map_cons, List.map_nil, List.mem_append, List.mem_singleton, not_or] at hzn
    exact gmul_ne (h.bn z hz0 hzn.1) (xor_ne hzn.2)
  · show (nwF s.1 s.2 p).length ≤ _
    rw [nwF, padd_len, pscale_len, h.bl]
    have := h.fl
    simp
    omega
  · show 1 ≤ (nwF s.1 s.2 p).length
    rw [nwF, padd_len]
    have := h.f1
    omega
  · show (plin p.1 s.2).length = _
    rw [plin_len, h.bl]
    simp
theorem nwI_all (y : UInt8) (ps : List (UInt8 × UInt8)) (hz : ∀ p ∈ ps, p.1 ≠ 0) (hd : (ps.map (·.1)).Nodup) : NwI y ps (nwt y ps) := by
  have : ∀ k, k ≤ ps.length → NwI y (ps.take k) (nwt y (ps.take k)) := by
    intro k
    induction k with
    | zero => intro _; rw [List.take_zero]; exact nwI_nil y
    | succ k ih =>
      intro hk
      have hlt : k < ps.length := by omega
      have e : ps.take (k + 1) = ps.take k ++ [ps[k]] := by simp
      rw [e, nwt_snoc]
      refine nwI_snoc (ih (by omega)) _ (hz _ (by simp)) ?_
      intro hm
      obtain ⟨q, hq, hqe⟩ := List.mem_map.1 hm
      obtain ⟨j, hj⟩ := List.mem_iff_getElem?.1 hq
      rw [List.getElem?_take] at hj
      split at hj
      · rename_i hjk
        have h1 : (ps.map (·.1))[j]? = some (ps[k]).1 := by rw [List.getElem?_map, hj]; simp [hqe]
        have h2 : (ps.map (·.1))[k]? = some (ps[k]).1 := by rw [List.getElem?_map, List.getElem?_eq_getElem hlt]; rfl
        obtain ⟨a1, e1⟩ := List.getElem?_eq_some_iff.1 h1
        obtain ⟨a2, e2⟩ := List.getElem?_eq_some_iff.1 h2
        have := (List.getElem_inj hd).1 (e1.trans e2.symm)
        omega
      · cases hj
  have h := this ps.length (Nat.le_refl _)
  rwa [List.take_of_length_le (Nat.le_refl _)] at h

/-- byte by byte -/
theorem byte_padd (f g : List UInt8) (i : Nat) : byte (padd f g) i = byte f i ^^^ byte g i := by
  induction f generalizing g i with
  | nil => simp [padd, byte]
  | cons a f ih =>
    cases g with
    | nil => simp [padd, byte]
    | cons b g =>
      cases i with
      | zero => simp [padd, byte]
      | succ i =>
        have := ih g i
        simp only [byte, padd, List.getD_cons_succ] at this ⊢
        exact this
theorem byte_pscale (c : UInt8) (f : List UInt8) (i : Nat) : byte (pscale c f) i = gmul c (byte f i) := by
  unfold byte pscale
  rw [List.getD_eq_getElem?_getD, List.getD_eq_getElem?_getD, List.getElem?_map]
  cases f[i]? with
  | none => exact (gmul_zero c).symm
  | some v => rfl
theorem byte_out {l : List UInt8} {i : Nat} (h : l.length ≤ i) : byte l i = 0 := by simp [byte, h]
theorem byte_set (l : List UInt8) (i j : Nat) (v : UInt8) (hi : i < l.length) : byte (l.set i v) j = if i = j then v else byte l j := by
  unfold byte
  rw [List.getD_eq_getElem?_getD, List.getD_eq_getElem?_getD]
  split
  · rename_i e
    subst e
    rw [List.getElem?_set_self hi]
    rfl
  · rename_i e
    rw [List.getElem?_set_ne e]
theorem ext_byte {l m : List UInt8} (h : l.length = m.length) (hb : ∀ i, i < l.length → byte l i = byte m i) : l = m :=
  ext_len (n := l.length) rfl h.symm fun i hi => by rw [byte_get hi, byte_get (by omega), hb i hi]
theorem ev_bytes (f : List UInt8) (n : Nat) (x : UInt8) (h : f.length ≤ n) : ev ((List.range n).map (byte f)) x = ev f x := by
  have e : (List.range n).map (byte f) = f ++ List.replicate (n - f.length) 0 := by
    refine ext_byte (by simp; omega) (fun i hi => ?_)
    have hi' : i < n := by simpa using hi
    have h1 : byte ((List.range n).map (byte f)) i = byte f i := byte_of (by rw [List.getElem?_map, List.getElem?_range hi']; rfl)
    rw [h1]
    by_cases hlt : i < f.length
    · exact (byte_of (by rw [List.getElem?_append_left hlt]; exact byte_get hlt)).symm
    · rw [byte_out (by omega)]
      exact (byte_of (by rw [List.getElem?_append_right (by omega), List.getElem?_replicate, if_pos (by omega)])).symm
  rw [e, ev_pad]
theorem ev_head (f : List UInt8) : ev f 0 = byte f 0 := by
  cases f with
  | nil => rfl
  | cons a f => simp [ev, gmul_zero, byte]

/-- What explain writes: row i holds the coefficients, from the second on. -/
def RowOk (m : Nat) (O : List UInt8) (i : Nat) (f : List UInt8) : Prop := ∀ j, j < m → byte O (i * m + j) = byte f (j + 1)
theorem coef_row {secret O f : List UInt8} {m i : Nat} (ho : RowOk m O i f) (hl : i * m + m ≤ O.length) (hf : f.length ≤ m + 1) (h0 : ev f 0 = byte secret i) (x : UInt8) : ev (coef secret O m i) x = ev f x := by
  rw [← ev_bytes f (m + 1) x hf]
  congr 1
  unfold coef
  rw [List.range_succ_eq_map, List.map_cons, ← ev_head, h0]
  congr 1
  refine ext_byte (by simp; omega) (fun j hj => ?_)
  have hj' : j < m := by simp at hj; omega
  have h1 : byte ((O.drop (i * m)).take m) j = byte O (i * m + j) := by
    refine byte_of ?_
    rw [List.getElem?_take, if_pos hj', List.getElem?_drop]
    exact byte_get (by omega)
  rw [h1, ho j hj']
  refine (byte_of ?_).symm
  rw [List.map_map, List.getElem?_map, List.getElem?_range hj']
  rfl
end Go.Proofs.Yteaaadccjnmacaa
