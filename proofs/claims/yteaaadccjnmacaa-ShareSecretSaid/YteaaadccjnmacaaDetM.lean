/-
  A changed share is noticed: plain theorems.
-/
import Derived.Test.YteaaadccjnmacaaDeal
import Derived.Test.YteaaadccjnmacaaRefrP
namespace Go.Proofs.Yteaaadccjnmacaa

theorem wf_no {l : List Sh} (h : ¬ WF l) : wfB l = false := by
  cases hw : wfB l with
  | false => rfl
  | true => exact absurd ((wfB_iff l).1 hw) h
theorem set_xs (l : List Sh) (k : Nat) (s t : Sh) (h : l[k]? = some s) (e : t.1 = s.1) : (l.set k t).map (·.1) = l.map (·.1) := by
  rw [List.map_set, e]
  apply List.ext_getElem?
  intro i
  by_cases hi : k = i
  · subst hi
    have hl := (List.getElem?_eq_some_iff.1 h).1
    rw [List.getElem?_set_self (by simpa using hl), List.getElem?_map, h]
    rfl
  · rw [List.getElem?_set_ne hi]
theorem set_mem {l : List Sh} {k : Nat} {s t : Sh} (h : s ∈ l.set k t) : s ∈ l ∨ s = t := List.mem_or_eq_of_mem_set h
/-- the share with the number k, as Split makes it -/
def shK (sl rl : List UInt8) (P k : Nat) : Sh := (UInt8.ofNat (k + 1), maskB (UInt8.ofNat (k + 1)) (P - 1) rl sl)
theorem shK_get (sl rl : List UInt8) (P T k : Nat) (hk : k < T) : (splitL sl rl P T)[k]? = some (shK sl rl P k) := split_get sl rl P T k hk
theorem shK_len (sl rl : List UInt8) (P k : Nat) : (shK sl rl P k).2.length = sl.length := maskB_len _ _ _ _
def chgL (sl rl : List UInt8) (P T k : Nat) (b : List UInt8) : List Sh := (splitL sl rl P T).set k ((shK sl rl P k).1, b)
theorem chgL_len (sl rl : List UInt8) (P T k : Nat) (b : List UInt8) : (chgL sl rl P T k b).length = T := by unfold chgL; rw [List.length_set, splitL_len]
/-- One byte of one share was changed. -/
theorem det_no {sl rl : List UInt8} {P T k i : Nat} (h1 : 1 ≤ P) (hPT : P < T) (hT : T ≤ 255) (hk : k < T) (hi : i < sl.length) (v : UInt8) (hv : v ≠ byte (shK sl rl P k).2 i) :
    wfB (chgL sl rl P T k ((shK sl rl P k).2.set i v)) = true ∧ (∀ s ∈ chgL sl rl P T k ((shK sl rl P k).2.set i v), s.2.length = sl.length) ∧ ¬ Fits (chgL sl rl P T k ((shK sl rl P k).2.set i v)) P sl.length := by
  have hgk := shK_get sl rl P T k hk
  have hxs := set_xs (splitL sl rl P T) k (shK sl rl P k) ((shK sl rl P k).1, (shK sl rl P k).2.set i v) hgk rfl
  have hnd : ((chgL sl rl P T k ((shK sl rl P k).2.set i v)).map (·.1)).Nodup := by unfold chgL; rw [hxs]; exact split_nodup sl rl P T hT
  have hln : ∀ s ∈ chgL sl rl P T k ((shK sl rl P k).2.set i v), s.2.length = sl.length := by
    intro s hs
    rcases set_mem hs with h | h
    · exact split_lens h
    · rw [h, List.length_set]
      exact shK_len sl rl P k
  refine ⟨wf_of (fun s hs => ?_) hnd hln, hln, fun hf => ?_⟩
  · rcases set_mem hs with h | h
    · exact split_nz hT h
    · rw [h]
      show (shK sl rl P k).1 ≠ 0
      exact split_nz (secret := sl) (r := rl) (need := P) hT (List.mem_of_getElem? hgk)
  · obtain ⟨f, hl⟩ := poly_of_fits hnd (by rw [chgL_len]; omega) hf
    obtain ⟨hfl, hfv⟩ := hl i hi
    obtain ⟨hcl, hcv⟩ := split_lies (l := splitL sl rl P T) h1 (fun _ h => h) i hi
    have hlen : (splitL sl rl P T).length = T := splitL_len ..
    have hu := unique (((splitL sl rl P T).eraseIdx k).map (·.1)) (f i) (coef sl rl (P - 1) i) (by rw [List.length_map, List.length_eraseIdx, hlen, if_pos hk]; omega) (by rw [List.length_map, List.length_eraseIdx, hlen, if_pos hk]; omega)
      ((split_nodup sl rl P T hT).sublist ((List.eraseIdx_sublist _ _).map _)) ?_ (shK sl rl P k).1
    · have e1 := hfv ((shK sl rl P k).1, (shK sl rl P k).2.set i v) (List.mem_of_getElem? (i := k) (by unfold chgL; rw [List.getElem?_set_self (by rw [hlen]; exact hk)]))
      have e2 := hcv (shK sl rl P k) (List.mem_of_getElem? hgk)
      simp only at e1
      rw [byte_of (l := (shK sl rl P k).2.set i v) (c := v) (by rw [List.getElem?_set_self (by rw [shK_len]; exact hi)]), hu, e2] at e1
      exact hv e1.symm
    · intro r hr
      obtain ⟨s, hs, rfl⟩ := List.mem_map.1 hr
      obtain ⟨j, hj, hg⟩ := List.mem_eraseIdx_iff_getElem?.1 hs
      rw [hfv s (List.mem_of_getElem? (i := j) (by unfold chgL; rw [List.getElem?_set_ne (Ne.symm hj)]; exact hg)), hcv s (List.mem_of_getElem? hg)]
/-- A point is repeated. -/
theorem det_rep {sl rl : List UInt8} {P T k m : Nat} (hk : k < T) (hm : m < T) (hne : m ≠ k) : wfB ((splitL sl rl P T).set k (shK sl rl P m)) = false := by
  refine wf_no fun ⟨_, hd, _⟩ => ?_
  have hlen : (splitL sl rl P T).length = T := splitL_len ..
  have g1 : (((splitL sl rl P T).set k (shK sl rl P m)).map (·.1))[k]? = some (shK sl rl P m).1 := by
    rw [List.getElem?_map, List.getElem?_set_self (by rw [hlen]; exact hk)]
    rfl
  have g2 : (((splitL sl rl P T).set k (shK sl rl P m)).map (·.1))[m]? = some (shK sl rl P m).1 := by
    rw [List.getElem?_map, List.getElem?_set_ne (Ne.symm hne), shK_get sl rl P T m hm]
    rfl
  have h1 := (List.getElem?_eq_some_iff.1 g1)
  have h2 := (List.getElem?_eq_some_iff.1 g2)
  obtain ⟨l1, e1⟩ := h1
  obtain ⟨l2, e2⟩ := h2
  exact hne ((List.getElem_inj hd).1 (e2.trans e1.symm))
/-- The point is 0. -/
theorem det_zero {sl rl b : List UInt8} {P T k : Nat} (hk : k < T) : wfB ((splitL sl rl P T).set k (0, b)) = false := by
  refine wf_no fun ⟨hz, _, _⟩ => ?_
  exact hz (0, b) (List.mem_of_getElem? (i := k) (by rw [List.getElem?_set_self (by rw [splitL_len]; exact hk)])) rfl
/-- The lengths differ. -/
theorem det_long {sl rl b : List UInt8} {P T k : Nat} (x : UInt8) (hT : 2 ≤ T) (hk : k < T) (hb : b.length = sl.length + 1) : wfB ((splitL sl rl P T).set k (x, b)) = false := by
  refine wf_no fun ⟨_, _, hn⟩ => ?_
  have hlen : (splitL sl rl P T).length = T := splitL_len ..
  have a1 := hn (x, b) (List.mem_of_getElem? (i := k) (by rw [List.getElem?_set_self (by rw [hlen]; exact hk)]))
  obtain ⟨j, hj, hjk⟩ : ∃ j, j < T ∧ k ≠ j := by
    by_cases h : k = 0
    · exact ⟨1, by omega, by omega⟩
    · exact ⟨0, by omega, h⟩
  have a2 := hn (shK sl rl P j) (List.mem_of_getElem? (i := j) (by rw [List.getElem?_set_ne hjk, shK_get sl rl P T j hj]))
  rw [shK_len] at a2
  simp only at a1
  omega
end Go.Proofs.Yteaaadccjnmacaa
