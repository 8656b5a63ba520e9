/-
  What the package's variables hold when the call begins: out of the row's own condition.
-/
import Derived.Test.YtmdokldbggingaaDoorOpenK
import Derived.Test.YtmdokldbggingaaDoorCompP
import Derived.KernelRfl
namespace Go.Proofs.YtmdokldbggingaaDoor
open Go.RowKit Go.ChangeShapes Go.WideShapes Go.ChangeAt

theorem gIv : Tryd.prog.globalNamed "fenland/blake.iv" = some 0 := by kernel_rfl
theorem gOrder : Tryd.prog.globalNamed "fenland/blake.order" = some 1 := by kernel_rfl
theorem tIv : (Tryd.prog.globals[0]?).map (·.type) = some 79 := by kernel_rfl
theorem tOrder : (Tryd.prog.globals[1]?).map (·.type) = some 92 := by kernel_rfl
theorem c32 : Tryd.prog.cellsOf 74 = 1 := by kernel_rfl
theorem c8_32 : Tryd.prog.cellsOf 79 = 8 := by kernel_rfl
theorem c16_8 : Tryd.prog.cellsOf 91 = 16 := by kernel_rfl
theorem ivD : (Rows.laid_fenland_blake_iv : DataW Unit) = .agg ((IV.map wd).map fun z => .lit (.int .u32 z)) := by kernel_rfl
theorem orderD : (Rows.laid_fenland_blake_order : DataW Unit) = .agg ((ROWS.map fun r => r.map fun n : Nat => (n : Int)).map fun r => .agg (r.map fun z => .lit (.int .u8 z))) := by kernel_rfl

theorem glob_iv {W : World} {cs : Array Value} {fuel : Nat} {q : List MemPlace} (hv : W.var? Tryd.prog "fenland/blake.iv" = some cs)
    (hd : DataW.trod (fun _ => ()) Tryd.prog W 0 (fun _ => true) false fuel 79 cs.toList = some (Rows.laid_fenland_blake_iv, q)) : ∀ i, i < 8 → W.cell? ⟨0, i, none⟩ = some (.int .u32 (wd (at_ IV i))) := by
  rw [ivD] at hd
  have e := arr_is Tryd.underlying79 Tryd.underlying74 c32 c8_32 hd
  intro i hi
  rw [World.var?_cell gIv hv i, ← Array.getElem?_toList, e]
  have : i < IV.length := hi
  simp [at_, List.getElem?_eq_getElem this]
theorem glob_order {W : World} {cs : Array Value} {fuel : Nat} {q : List MemPlace} (hv : W.var? Tryd.prog "fenland/blake.order" = some cs)
    (hd : DataW.trod (fun _ => ()) Tryd.prog W 0 (fun _ => true) false fuel 92 cs.toList = some (Rows.laid_fenland_blake_order, q)) : ∀ r i, r < 10 → i < 16 → W.cell? ⟨1, r * 16 + i, none⟩ = some (.int .u8 (pick (row r) i)) := by
  rw [orderD] at hd
  intro r i hr hi
  have hR : ROWS[r]? = some (row r) := by
    have : r < ROWS.length := hr
    unfold row
    simp [List.getD, this]
  have e := table_is Tryd.underlying92 Tryd.underlying91 Tryd.underlying5 cells5 c16_8 hd r _ hr (by rw [List.getElem?_map, hR]; rfl)
  rw [World.var?_cell gOrder hv (r * 16 + i), ← Array.getElem?_toList]
  have h := congrArg (·[i]?) e
  simp only [List.getElem?_take, List.getElem?_drop, if_pos hi, List.getElem?_map] at h
  have hl : i < (row r).length := by rw [(row_ok r hr).1]; exact hi
  rw [h]
  simp [pick, List.getElem?_eq_getElem hl]

theorem glob_of_laid {W : World} (h : laidMetH Tryd.prog [("fenland/blake.iv", Rows.laid_fenland_blake_iv), ("fenland/blake.order", Rows.laid_fenland_blake_order)] W) : Glob W := by
  rw [MakeChecks.laidMetH_plain _ _ _ (by kernel_rfl)] at h
  obtain ⟨ps, ⟨g0, t0, cs0, f0, p0, q0, hg0, ht0, hv0, hd0, ⟨g1, t1, cs1, f1, p1, q1, hg1, ht1, hv1, hd1, _, _⟩, _⟩, _, _⟩ := h
  obtain rfl := Option.some.inj (gIv.symm.trans hg0)
  obtain rfl := Option.some.inj (gOrder.symm.trans hg1)
  obtain rfl := Option.some.inj (tIv.symm.trans ht0)
  obtain rfl := Option.some.inj (tOrder.symm.trans ht1)
  have h1 := glob_iv hv0 hd0
  have h2 := glob_order hv1 hd1
  exact ⟨h1, h2, World.block_lt_of_cell? W _ (h2 0 0 (by decide) (by decide))⟩
end Go.Proofs.YtmdokldbggingaaDoor
