/-
  Sums of corresponding shares: plain theorems, and the contracts of the law ShareLinear's calls.
-/
import Derived.Test.YtoobljmiagdmhaaDeal
import Derived.Test.YtoobljmiagdmhaaSumR
import Derived.Test.YtoobljmiagdmhaaOwnSh
import Derived.Test.YtoobljmiagdmhaaSaneW
namespace Go.Proofs.Ytoobljmiagdmhaa

/-- the sums of Split's shares of two secrets -/
def linS (s1 r1 s2 r2 : List UInt8) (P k : Nat) : Sh := (UInt8.ofNat (k + 1), sumL (maskB (UInt8.ofNat (k + 1)) (P - 1) r1 s1) (maskB (UInt8.ofNat (k + 1)) (P - 1) r2 s2))
def linL (s1 r1 s2 r2 : List UInt8) (P T : Nat) : List Sh := (List.range T).map (linS s1 r1 s2 r2 P)
theorem linL_len (s1 r1 s2 r2 : List UInt8) (P T : Nat) : (linL s1 r1 s2 r2 P T).length = T := by simp [linL]
theorem linL_snoc (s1 r1 s2 r2 : List UInt8) (P k : Nat) : linL s1 r1 s2 r2 P k ++ [linS s1 r1 s2 r2 P k] = linL s1 r1 s2 r2 P (k + 1) := by simp [linL, List.range_succ]
theorem linL_mem {s1 r1 s2 r2 : List UInt8} {P T : Nat} {s : Sh} (h : s ∈ linL s1 r1 s2 r2 P T) : ∃ k, k < T ∧ s = linS s1 r1 s2 r2 P k := by
  obtain ⟨k, hk, rfl⟩ := List.mem_map.1 h
  exact ⟨k, List.mem_range.1 hk, rfl⟩
theorem linL_lens {s1 r1 s2 r2 : List UInt8} {P T : Nat} {s : Sh} (h : s ∈ linL s1 r1 s2 r2 P T) : s.2.length = s1.length := by
  obtain ⟨k, _, rfl⟩ := linL_mem h
  exact (sumL_len _ _).trans (maskB_len _ _ _ _)
theorem linL_xs (s1 r1 s2 r2 : List UInt8) (P T : Nat) : (linL s1 r1 s2 r2 P T).map (·.1) = (List.range T).map fun i => UInt8.ofNat (i + 1) := by
  simp [linL, linS]
theorem linL_lies {s1 r1 s2 r2 : List UInt8} {P : Nat} (h1 : 1 ≤ P) (T : Nat) (he : s1.length = s2.length) :
    Lies (linL s1 r1 s2 r2 P T) P s1.length (fun i => padd (coef s1 r1 (P - 1) i) (coef s2 r2 (P - 1) i)) := by
  intro i hi
  refine ⟨?_, fun s hs => ?_⟩
  · have a := coef_len s1 r1 (P - 1) i
    have b := coef_len s2 r2 (P - 1) i
    rw [padd_len]
    omega
  · obtain ⟨k, _, rfl⟩ := linL_mem hs
    rw [ev_padd]
    have h := sumL_byte (maskB (UInt8.ofNat (k + 1)) (P - 1) r1 s1) (maskB (UInt8.ofNat (k + 1)) (P - 1) r2 s2) (k := i) (by rw [maskB_len]; exact hi)
    rw [mask_coef _ _ _ _ _ hi, mask_coef _ _ _ _ _ (by rw [← he]; exact hi)] at h
    exact h.symm
theorem lin_back {s1 r1 s2 r2 : List UInt8} {P T : Nat} (h1 : 1 ≤ P) (hle : P ≤ T) (hT : T ≤ 255) (he : s1.length = s2.length) :
    wfB (linL s1 r1 s2 r2 P T) = true ∧ Fits (linL s1 r1 s2 r2 P T) P s1.length ∧ interpB ((linL s1 r1 s2 r2 P T).take P) 0 s1.length = sumL s1 s2 := by
  have hd : ((linL s1 r1 s2 r2 P T).map (·.1)).Nodup := by rw [linL_xs]; exact xs_nodup T hT
  have hn : ∀ s ∈ linL s1 r1 s2 r2 P T, s.2.length = s1.length := fun s hs => linL_lens hs
  have hli := linL_lies (r1 := r1) (r2 := r2) h1 T he
  have hl : P ≤ (linL s1 r1 s2 r2 P T).length := by rw [linL_len]; exact hle
  refine ⟨wf_of (fun s hs => ?_) hd hn, fits_of_poly hd hl hn hli, (interp_of_poly hd hl hli 0).trans ?_⟩
  · obtain ⟨k, hk, rfl⟩ := linL_mem hs
    have := split_nz (secret := s1) (r := r1) (need := P) hT (List.mem_of_getElem? (split_get s1 r1 P T k hk))
    exact this
  · refine ext_len (vals_len _ _ _) (sumL_len _ _) (fun i hi => ?_)
    rw [vals_get _ _ _ _ hi, sumL_get _ _ hi, ev_padd, coef_zero, coef_zero]
end Go.Proofs.Ytoobljmiagdmhaa
