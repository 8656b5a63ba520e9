/-
  Refreshed shares, and what was added to them: plain theorems.
-/
import Derived.Test.YtoobljmiagdmhaaLinM
import Derived.Test.YtoobljmiagdmhaaRefrP
namespace Go.Proofs.Ytoobljmiagdmhaa

theorem byte_nil (i : Nat) : byte [] i = 0 := by simp [byte]
/-- Split's shares, refreshed -/
def newL (sl rl rn : List UInt8) (P T : Nat) : List Sh := masks (P - 1) rn (splitL sl rl P T)
theorem newL_len (sl rl rn : List UInt8) (P T : Nat) : (newL sl rl rn P T).length = T := by simp [newL, masks, splitL_len]
theorem newL_xs (sl rl rn : List UInt8) (P T : Nat) : (newL sl rl rn P T).map (·.1) = (splitL sl rl P T).map (·.1) := by
  simp [newL, masks]
theorem newL_mem {sl rl rn : List UInt8} {P T : Nat} {s : Sh} (h : s ∈ newL sl rl rn P T) : ∃ t, t ∈ splitL sl rl P T ∧ s = (t.1, maskB t.1 (P - 1) rn t.2) := by
  obtain ⟨t, ht, rfl⟩ := List.mem_map.1 h
  exact ⟨t, ht, rfl⟩
theorem newL_get (sl rl rn : List UInt8) (P T k : Nat) (hk : k < T) : (newL sl rl rn P T)[k]? = some (UInt8.ofNat (k + 1), maskB (UInt8.ofNat (k + 1)) (P - 1) rn (maskB (UInt8.ofNat (k + 1)) (P - 1) rl sl)) := by
  unfold newL masks
  rw [List.getElem?_map, split_get sl rl P T k hk]
  rfl
theorem newL_lens {sl rl rn : List UInt8} {P T : Nat} {s : Sh} (h : s ∈ newL sl rl rn P T) : s.2.length = sl.length := by
  obtain ⟨t, ht, rfl⟩ := newL_mem h
  exact (maskB_len _ _ _ _).trans (split_lens ht)
theorem ev_coef (s r : List UInt8) (m i : Nat) (x : UInt8) : ev (coef s r m i) x = byte s i ^^^ ev (coef [] r m i) x := by
  show gmul _ x ^^^ byte s i = byte s i ^^^ (gmul _ x ^^^ byte [] i)
  rw [byte_nil, UInt8.xor_zero, UInt8.xor_comm]
theorem newL_lies {sl rl rn : List UInt8} {P : Nat} (h1 : 1 ≤ P) (T : Nat) : Lies (newL sl rl rn P T) P sl.length (fun i => padd (coef sl rl (P - 1) i) (coef [] rn (P - 1) i)) := by
  intro i hi
  refine ⟨?_, fun s hs => ?_⟩
  · have a := coef_len sl rl (P - 1) i
    have b := coef_len [] rn (P - 1) i
    rw [padd_len]
    omega
  · obtain ⟨t, ht, rfl⟩ := newL_mem hs
    have hl := (split_lies (l := splitL sl rl P T) h1 (fun _ h => h) i hi).2 t ht
    show ev (padd _ _) t.1 = _
    rw [ev_padd, hl]
    have h2 := mask_coef t.1 t.2 rn (P - 1) i (by rw [split_lens ht]; exact hi)
    show _ = byte (maskB t.1 (P - 1) rn t.2) i
    rw [h2, ev_coef t.2]
theorem new_back {sl rl rn : List UInt8} {P T : Nat} (h1 : 1 ≤ P) (hle : P ≤ T) (hT : T ≤ 255) :
    wfB (newL sl rl rn P T) = true ∧ Fits (newL sl rl rn P T) P sl.length ∧ interpB ((newL sl rl rn P T).take P) 0 sl.length = sl := by
  have hd : ((newL sl rl rn P T).map (·.1)).Nodup := by rw [newL_xs]; exact split_nodup sl rl P T hT
  have hn : ∀ s ∈ newL sl rl rn P T, s.2.length = sl.length := fun s hs => newL_lens hs
  have hli := newL_lies (sl := sl) (rl := rl) (rn := rn) h1 T
  have hl : P ≤ (newL sl rl rn P T).length := by rw [newL_len]; exact hle
  refine ⟨wf_of (fun s hs => ?_) hd hn, fits_of_poly hd hl hn hli, (interp_of_poly hd hl hli 0).trans ?_⟩
  · obtain ⟨t, ht, rfl⟩ := newL_mem hs
    have := split_nz hT ht
    exact this
  · refine (ext_len (vals_len _ _ _) (vals_len _ _ _) (fun i hi => ?_)).trans (vals_coef sl rl (P - 1))
    rw [vals_get _ _ _ _ hi, vals_get _ _ _ _ hi, ev_padd, coef_zero, coef_zero, byte_nil, UInt8.xor_zero]
/-- what was added -/
def addS (sl rl rn : List UInt8) (P k : Nat) : Sh := (UInt8.ofNat (k + 1), sumL (maskB (UInt8.ofNat (k + 1)) (P - 1) rl sl) (maskB (UInt8.ofNat (k + 1)) (P - 1) rn (maskB (UInt8.ofNat (k + 1)) (P - 1) rl sl)))
def addL (sl rl rn : List UInt8) (P T : Nat) : List Sh := (List.range T).map (addS sl rl rn P)
theorem addL_len (sl rl rn : List UInt8) (P T : Nat) : (addL sl rl rn P T).length = T := by simp [addL]
theorem addL_snoc (sl rl rn : List UInt8) (P k : Nat) : addL sl rl rn P k ++ [addS sl rl rn P k] = addL sl rl rn P (k + 1) := by simp [addL, List.range_succ]
theorem addL_mem {sl rl rn : List UInt8} {P T : Nat} {s : Sh} (h : s ∈ addL sl rl rn P T) : ∃ k, k < T ∧ s = addS sl rl rn P k := by
  obtain ⟨k, hk, rfl⟩ := List.mem_map.1 h
  exact ⟨k, List.mem_range.1 hk, rfl⟩
theorem addL_lens {sl rl rn : List UInt8} {P T : Nat} {s : Sh} (h : s ∈ addL sl rl rn P T) : s.2.length = sl.length := by
  obtain ⟨k, _, rfl⟩ := addL_mem h
  exact (sumL_len _ _).trans (maskB_len _ _ _ _)
theorem addL_xs (sl rl rn : List UInt8) (P T : Nat) : (addL sl rl rn P T).map (·.1) = (List.range T).map fun i => UInt8.ofNat (i + 1) := by
  simp [addL, addS]
theorem addL_lies {sl rl rn : List UInt8} {P : Nat} (h1 : 1 ≤ P) (T : Nat) : Lies (addL sl rl rn P T) P sl.length (fun i => coef [] rn (P - 1) i) := by
  intro i hi
  refine ⟨?_, fun s hs => ?_⟩
  · have b := coef_len [] rn (P - 1) i
    show (coef [] rn (P - 1) i).length ≤ P
    omega
  · obtain ⟨k, _, rfl⟩ := addL_mem hs
    have h := sumL_byte (maskB (UInt8.ofNat (k + 1)) (P - 1) rl sl) (maskB (UInt8.ofNat (k + 1)) (P - 1) rn (maskB (UInt8.ofNat (k + 1)) (P - 1) rl sl)) (k := i) (by rw [maskB_len]; exact hi)
    rw [mask_coef _ (maskB (UInt8.ofNat (k + 1)) (P - 1) rl sl) _ _ _ (by rw [maskB_len]; exact hi), ev_coef, ← UInt8.xor_assoc, UInt8.xor_self, UInt8.zero_xor] at h
    exact h.symm
theorem add_back {sl rl rn : List UInt8} {P T : Nat} (h1 : 1 ≤ P) (hle : P ≤ T) (hT : T ≤ 255) :
    wfB (addL sl rl rn P T) = true ∧ Fits (addL sl rl rn P T) P sl.length ∧ interpB ((addL sl rl rn P T).take P) 0 sl.length = List.replicate sl.length 0 := by
  have hd : ((addL sl rl rn P T).map (·.1)).Nodup := by rw [addL_xs]; exact xs_nodup T hT
  have hn : ∀ s ∈ addL sl rl rn P T, s.2.length = sl.length := fun s hs => addL_lens hs
  have hli := addL_lies (sl := sl) (rl := rl) (rn := rn) h1 T
  have hl : P ≤ (addL sl rl rn P T).length := by rw [addL_len]; exact hle
  refine ⟨wf_of (fun s hs => ?_) hd hn, fits_of_poly hd hl hn hli, (interp_of_poly hd hl hli 0).trans ?_⟩
  · obtain ⟨k, hk, rfl⟩ := addL_mem hs
    have := split_nz (secret := sl) (r := rl) (need := P) hT (List.mem_of_getElem? (split_get sl rl P T k hk))
    exact this
  · refine ext_len (vals_len _ _ _) (by simp) (fun i hi => ?_)
    rw [vals_get _ _ _ _ hi, coef_zero, byte_nil, List.getElem?_replicate, if_pos hi]
end Go.Proofs.Ytoobljmiagdmhaa
