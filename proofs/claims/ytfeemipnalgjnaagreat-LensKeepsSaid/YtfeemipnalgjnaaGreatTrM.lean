/-
 Translate along changes that are possible: what it answers, and that its answers compose. Plain.
-/
import Derived.Test.YtfeemipnalgjnaaGreatHb
import Derived.Test.YtfeemipnalgjnaaGreatTrn
import Derived.Test.YtfeemipnalgjnaaGreatLwA
namespace Go.Proofs.YtfeemipnalgjnaaGreat
open Go.RowKit

theorem run_fwd : ∀ {m : List Ch} {s : Sc} {r : List Ce}, Ok s → goodG s m → FitL s.fs r → runF (klist s m) r = fwdG s m r
 | [], _, _, _, _, _ => rfl
 | c :: m, s, r, ho, hg, hf => by
  show runF (klist (applyP s c).1 m) ((fwdK s c).ap r) = fwdG (applyP s c).1 m (fwdL s c r)
  rw [fwdK_ap ho (st_app ho hg.1) hf]
  exact run_fwd (ok_apply ho hg.1).1 hg.2 (fwd_fit ho (st_app ho hg.1) hf)
theorem run_bak : ∀ {m : List Ch} {s : Sc} {r : List Ce}, Ok s → goodG s m → FitL (endS s m).fs r → runB (klist s m) r = bakG s m r
 | [], _, _, _, _, _ => rfl
 | c :: m, s, r, ho, hg, hf => by
  show (bakK s c).ap (runB (klist (applyP s c).1 m) r) = bakL s c (bakG (applyP s c).1 m r)
  rw [run_bak (ok_apply ho hg.1).1 hg.2 hf]
  exact bakK_ap ho (ok_apply ho hg.1).1 (st_app ho hg.1) (bakG_fit (ok_apply ho hg.1).1 hg.2 hf)
/-- the schema after the first k changes -/
def sAt (l : List Ch) (k : Nat) : Sc := endS Sc.new (l.take k)
section
variable {l : List Ch} {lo mid hi : Nat} {r : List Ce}
theorem take_seg (h : lo ≤ hi) : l.take hi = l.take lo ++ segL l lo hi := by
 have := List.take_add (l := l) (i := lo) (j := hi - lo)
 rw [show lo + (hi - lo) = hi by omega] at this
 exact this
theorem seg_app (h : lo ≤ mid) (h' : mid ≤ hi) : segL l lo hi = segL l lo mid ++ segL l mid hi := by
 unfold segL
 have := List.take_add (l := l.drop lo) (i := mid - lo) (j := hi - mid)
 rw [show mid - lo + (hi - mid) = hi - lo by omega, List.drop_drop, show lo + (mid - lo) = mid by omega] at this
 exact this
theorem seg_nil : segL l lo lo = [] := by unfold segL; rw [Nat.sub_self, List.take_zero]
theorem good_take (hg : goodG Sc.new l) (k : Nat) : goodG Sc.new (l.take k) := by
 have h : goodG Sc.new (l.take k ++ l.drop k) := by rw [List.take_append_drop]; exact hg
 exact (good_app.1 h).1
theorem good_seg (hg : goodG Sc.new l) (h : lo ≤ hi) : goodG (sAt l lo) (segL l lo hi) := by
 have h1 := good_take hg hi
 rw [take_seg h] at h1
 exact (good_app.1 h1).2
theorem end_seg (h : lo ≤ hi) : endS (sAt l lo) (segL l lo hi) = sAt l hi := by
 unfold sAt
 rw [← end_app, ← take_seg h]
theorem sAt_ok (hg : goodG Sc.new l) (k : Nat) : Ok (sAt l k) := good_ok ok_new (good_take hg k)
theorem aft_at (hg : goodG Sc.new l) (k : Nat) : (aftP (l.take k)).1 = sAt l k ∧ (aftP (l.take k)).2.2 = 0 := ⟨aft_endS (good_take hg k), aft_good.2 (good_take hg k)⟩
theorem tr_fwd (hg : goodG Sc.new l) (h : lo ≤ hi) (hh : hi ≤ l.length) (hf : FitL (sAt l lo).fs r) : trQ l r (lo : Int) (hi : Int) = (fwdG (sAt l lo) (segL l lo hi) r, 0) := by
 obtain ⟨e1, e2⟩ := aft_at hg lo
 unfold trQ
 rw [if_neg (by omega), show (min (lo : Int) hi).toNat = lo by omega, show (max (lo : Int) hi).toNat = hi by omega, show decide ((lo : Int) ≤ hi) = true from decide_eq_true (by omega)]
 unfold trS
 rw [if_pos e2, e1, if_pos (aft_good.2 (good_seg hg h)), if_pos rfl, if_pos ((fit_of_go (sAt_ok hg lo)).2 hf), run_fwd (sAt_ok hg lo) (good_seg hg h) hf]
theorem tr_bak (hg : goodG Sc.new l) (h : lo ≤ hi) (hh : hi ≤ l.length) (hf : FitL (sAt l hi).fs r) : trQ l r (hi : Int) (lo : Int) = (bakG (sAt l lo) (segL l lo hi) r, 0) := by
 by_cases he : lo = hi
 ·
  subst he
  rw [tr_fwd hg h hh hf, seg_nil]
  rfl
 obtain ⟨e1, e2⟩ := aft_at hg lo
 have hf' : FitL (endS (sAt l lo) (segL l lo hi)).fs r := by rw [end_seg h]; exact hf
 unfold trQ
 rw [if_neg (by omega), show (min (hi : Int) lo).toNat = lo by omega, show (max (hi : Int) lo).toNat = hi by omega, show decide ((hi : Int) ≤ lo) = false from decide_eq_false (by omega)]
 unfold trS
 rw [if_pos e2, e1, if_pos (aft_good.2 (good_seg hg h)), if_neg (by simp), if_pos ((fit_of_go (good_ok (sAt_ok hg lo) (good_seg hg h))).2 hf'), run_bak (sAt_ok hg lo) (good_seg hg h) hf']
theorem fwd_to (hg : goodG Sc.new l) (h : lo ≤ hi) (hf : FitL (sAt l lo).fs r) : FitL (sAt l hi).fs (fwdG (sAt l lo) (segL l lo hi) r) := by
 have := fwdG_fit (sAt_ok hg lo) (good_seg hg h) hf
 rw [end_seg h] at this
 exact this
theorem bak_to (hg : goodG Sc.new l) (h : lo ≤ hi) (hf : FitL (sAt l hi).fs r) : FitL (sAt l lo).fs (bakG (sAt l lo) (segL l lo hi) r) :=
 bakG_fit (sAt_ok hg lo) (good_seg hg h) (by rw [end_seg h]; exact hf)
theorem fwd_comp (h : lo ≤ mid) (h' : mid ≤ hi) : fwdG (sAt l mid) (segL l mid hi) (fwdG (sAt l lo) (segL l lo mid) r) = fwdG (sAt l lo) (segL l lo hi) r := by
 rw [seg_app h h', fwd_app, end_seg h]
theorem bak_comp (h : lo ≤ mid) (h' : mid ≤ hi) : bakG (sAt l lo) (segL l lo mid) (bakG (sAt l mid) (segL l mid hi) r) = bakG (sAt l lo) (segL l lo hi) r := by
 rw [seg_app h h', bak_app, end_seg h]
end
theorem made_good (l : List Ch) : goodG Sc.new (madeR l 20) := aft_good.1 (numbers (l := l) (n := 20) (k := 0)).2.1
end Go.Proofs.YtfeemipnalgjnaaGreat
