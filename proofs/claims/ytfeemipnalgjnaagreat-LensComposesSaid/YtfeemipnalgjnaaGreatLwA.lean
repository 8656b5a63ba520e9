/-
 What the walks of layer 7's laws share: what stays, and the plain facts of rows that go forward and back.
-/
import Derived.Test.YtfeemipnalgjnaaGreatSnA
namespace Go.Proofs.YtfeemipnalgjnaaGreat
open Go.RowKit

theorem Kp.and {N : Nat} {P Q : World → Prop} (h : Kp N P) (h' : Kp N Q) : Kp N (fun X => P X ∧ Q X) := ⟨fun X Y h1 hb => ⟨h.1 X Y h1.1 hb, h'.1 X Y h1.2 hb⟩, fun X Y g l h1 hU hg hw => ⟨h.2 X Y g l h1.1 hU hg hw, h'.2 X Y g l h1.2 hU hg hw⟩⟩
theorem Kp.bel {w : World} {N : Nat} (hN : w.heap.size ≤ N) : Kp N (fun X => Below w.heap.size w X) := ⟨fun _ _ h hb => below_step h h.size hb, fun _ _ _ _ h _ hg hw => below_grown h hw h.size (by omega)⟩
theorem Kp.gv (N : Nat) (hN : 0 < N) : Kp N GV := ⟨fun _ _ h hb => h.up hb, fun X Y g l h hU hg hw => by
 obtain ⟨m, hm⟩ := h
 refine ⟨m, ?_⟩
 have h0 := GV.lt ⟨m, hm⟩
 have hb := hw.block 0 h0 (by intro e; injection e with e; omega)
 simp only [World.cell?, hb] at hm ⊢
 exact hm⟩
theorem Kp.cb {N g : Nat} {t : TypeId} {l : List Value} (ht : t ≠ 30) : Kp N (fun X => CB X g t l) := ⟨fun _ _ h hb => h.up hb, fun _ _ _ _ h hU _ hw => h.grown hw (cb_ne h hU ht)⟩
theorem Kp.own {N k b : Nat} {E : TypeId} {v : Value} {L : List (List Value)} (ht : E ≠ 30) : Kp N (fun X => Own E k X b v L) := ⟨fun _ _ h hb => h.up hb, fun _ _ _ _ h hU _ hw => h.kept hw (.inr (h.ne hU (Ne.symm ht)).symm)⟩
section
variable {s : Sc} {c : Ch} {r : List Ce}
theorem fq_fit (ho : Ok s) (he : (applyP s c).2 = 0) : FitL (applyP s c).1.fs (fwdQ s c r) := by
 unfold fwdQ
 split
 ·
  next h => exact fwd_fit ho (st_app ho he) ((fit_of_go ho).1 h.2)
 ·
  exact fitl_nil _
theorem bq_fit (ho : Ok s) : FitL s.fs (bakQ s c r) := by
 unfold bakQ
 split
 ·
  next h => exact bak_fit ho (ok_apply ho h.1).1 (st_app ho h.1) ((fit_of_go (ok_apply ho h.1).1).1 h.2)
 ·
  exact fitl_nil _
theorem fq_err (he : (applyP s c).2 ≠ 0) : fwdQ s c r = [] := if_neg fun h => he h.1
theorem bq_err (he : (applyP s c).2 ≠ 0) : bakQ s c r = [] := if_neg fun h => he h.1
theorem fq_small (ho : Ok s) : (fwdQ s c r).length ≤ 64 ∧ ∀ d ∈ fwdQ s c r, d.v.s.size ≤ 200 := by
 by_cases he : (applyP s c).2 = 0
 ·
  exact (fit_rb (ok_apply ho he).1 (fq_fit ho he)).2
 ·
  rw [fq_err he]; exact ⟨by simp, fun _ h => by simp at h⟩
theorem bq_small (ho : Ok s) : (bakQ s c r).length ≤ 64 ∧ ∀ d ∈ bakQ s c r, d.v.s.size ≤ 200 := (fit_rb ho (bq_fit ho)).2
theorem fq_eq (ho : Ok s) (he : (applyP s c).2 = 0) (hf : FitL s.fs r) : fwdQ s c r = fwdL s c r := if_pos ⟨he, (fit_of_go ho).2 hf⟩
theorem bq_eq (ho : Ok s) (he : (applyP s c).2 = 0) (hf : FitL (applyP s c).1.fs r) : bakQ s c r = bakL s c r := if_pos ⟨he, (fit_of_go (ok_apply ho he).1).2 hf⟩
theorem stabQ (ho : Ok s) (hf : FitL s.fs r) : fwdQ s c (bakQ s c (fwdQ s c r)) = fwdQ s c r := by
 by_cases he : (applyP s c).2 = 0
 ·
  have h1 := fq_fit (r := r) ho he
  have h2 := bq_fit (c := c) (r := fwdQ s c r) ho
  rw [fq_eq ho he h2, bq_eq ho he h1, fq_eq ho he hf]
  exact stable ho (st_app ho he) hf
 ·
  rw [fq_err he, fq_err he]
theorem big_of {l : List Ce} (h : ∀ d ∈ l, d.v.s.size ≤ 200) : ∀ d ∈ l, d.v.s.size ≤ 9223372036854775807 := fun d hd => by have := h d hd; omega
end
theorem sOf_ok (l : List Ch) : Ok (sOf l) := (numbers (l := l) (n := 20) (k := 0)).2.2.2.1
end Go.Proofs.YtfeemipnalgjnaaGreat
