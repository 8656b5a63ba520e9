/-
  What the three variables of both packages hold when the call begins: out of the row's own condition.
-/
import Derived.Test.YtbpphdmkfjdhnaaDoorOpenQ
import Derived.Test.YtbpphdmkfjdhnaaDoorOpenG
namespace Go.Proofs.YtbpphdmkfjdhnaaDoor
open Go.RowKit Go.ChangeShapes Go.WideShapes Go.ChangeAt

theorem glob3_of_laid {W : World} (h : laidMetH Tryd.prog [("fenland/blake.iv", Rows.laid_fenland_blake_iv), ("fenland/blake.order", Rows.laid_fenland_blake_order), ("fenland/chacha.rows", Rows.laid_fenland_chacha_rows)] W) : Glob W ∧ GlobQ W := by
  rw [MakeChecks.laidMetH_plain _ _ _ (by kernel_rfl)] at h
  obtain ⟨ps, ⟨g0, t0, cs0, f0, p0, q0, hg0, ht0, hv0, hd0, ⟨g1, t1, cs1, f1, p1, q1, hg1, ht1, hv1, hd1, ⟨g2, t2, cs2, f2, p2, q2, hg2, ht2, hv2, hd2, _, _⟩, _⟩, _⟩, _, _⟩ := h
  obtain rfl := Option.some.inj (gIv.symm.trans hg0)
  obtain rfl := Option.some.inj (gOrder.symm.trans hg1)
  obtain rfl := Option.some.inj (gRows.symm.trans hg2)
  obtain rfl := Option.some.inj (tIv.symm.trans ht0)
  obtain rfl := Option.some.inj (tOrder.symm.trans ht1)
  obtain rfl := Option.some.inj (tRows.symm.trans ht2)
  have h1 := glob_iv hv0 hd0
  have h2 := glob_order hv1 hd1
  have h3 := glob_rows hv2 hd2
  exact ⟨⟨h1, h2, World.block_lt_of_cell? W _ (h2 0 0 (by decide) (by decide))⟩, ⟨h3, World.block_lt_of_cell? W _ (h3 0 0 (by decide) (by decide))⟩⟩
end Go.Proofs.YtbpphdmkfjdhnaaDoor
