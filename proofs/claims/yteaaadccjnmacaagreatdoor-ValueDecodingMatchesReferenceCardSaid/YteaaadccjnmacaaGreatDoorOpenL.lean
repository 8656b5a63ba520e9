/-
  What the packages' variables hold when the call begins: out of the row's own condition.
-/
import Derived.Test.YteaaadccjnmacaaGreatDoorDayP
import Derived.Test.YteaaadccjnmacaaGreatDoorOpen
import Derived.Lib.LaidTab
import Derived.LaidMore
import Derived.LaidLaws
import Derived.KernelRfl
namespace Go.Proofs.YteaaadccjnmacaaGreatDoor
open Go.RowKit Go.ChangeShapes Go.WideShapes Go.ChangeAt

theorem gDays : Tryz.prog.globalNamed "fenland/value.daysBefore" = some 0 := by kernel_rfl
theorem gPow : Tryz.prog.globalNamed "internal/strconv.uint64pow10" = some 2 := by kernel_rfl
theorem gSyn : Tryz.prog.globalNamed "strconv.ErrSyntax" = some 3 := by kernel_rfl
theorem gRng : Tryz.prog.globalNamed "strconv.ErrRange" = some 4 := by kernel_rfl
theorem tDays : (Tryz.prog.globals[0]?).map (·.type) = some 83 := by kernel_rfl
theorem tPow : (Tryz.prog.globals[2]?).map (·.type) = some 110 := by kernel_rfl
theorem tSyn : (Tryz.prog.globals[3]?).map (·.type) = some 76 := by kernel_rfl
theorem tRng : (Tryz.prog.globals[4]?).map (·.type) = some 76 := by kernel_rfl
theorem c64i : Tryz.prog.cellsOf 2 = 1 := by kernel_rfl
theorem c64u : Tryz.prog.cellsOf 54 = 1 := by kernel_rfl
theorem c12 : Tryz.prog.cellsOf 83 = 12 := by kernel_rfl
theorem c20 : Tryz.prog.cellsOf 110 = 20 := by kernel_rfl
theorem daysD : (Rows.laid_fenland_value_daysBefore : DataW Unit) = Lib.tabData .i64 befT := by kernel_rfl
theorem powD : (Rows.laid_internal_strconv_uint64pow10 : DataW Unit) = Lib.tabData .u64 Lib.pow10Tab := by kernel_rfl

theorem days_of {W : World} {cs : Array Value} {fuel : Nat} {q : List MemPlace} (hv : W.var? Tryz.prog "fenland/value.daysBefore" = some cs)
    (hd : DataW.trod (fun _ => ()) Tryz.prog W 0 (fun _ => true) false fuel 83 cs.toList = some (Rows.laid_fenland_value_daysBefore, q)) : ∀ i, i < 12 → W.cell? ⟨0, i, none⟩ = some (.int .i64 (bef i)) := by
  rw [daysD] at hd
  have e := Lib.cells_of_tab Tryz.underlying83 Tryz.underlying2 c64i c12 hd
  intro i hi
  rw [World.var?_cell gDays hv i, ← Array.getElem?_toList, e]
  have : i < befT.length := hi
  simp [bef, List.getD, List.getElem?_eq_getElem this]
theorem pow_of {W : World} {cs : Array Value} {fuel : Nat} {q : List MemPlace} (hv : W.var? Tryz.prog "internal/strconv.uint64pow10" = some cs)
    (hd : DataW.trod (fun _ => ()) Tryz.prog W 0 (fun _ => true) false fuel 110 cs.toList = some (Rows.laid_internal_strconv_uint64pow10, q)) : Lib.TabIs Tryz.prog W "internal/strconv.uint64pow10" .u64 Lib.pow10Tab := by
  rw [powD] at hd
  have e := Lib.cells_of_tab Tryz.underlying110 Tryz.underlying54 c64u c20 hd
  unfold Lib.TabIs
  rw [hv, ← e]
theorem syn_of {W : World} {cs : Array Value} {fuel : Nat} {q : List MemPlace} (hv : W.var? Tryz.prog "strconv.ErrSyntax" = some cs)
    (hd : DataW.trod (fun _ => ()) Tryz.prog W 0 (fun _ => true) false fuel 76 cs.toList = some (Rows.laid_strconv_ErrSyntax, q)) : ∃ te pe, W.cell? ⟨3, 0, none⟩ = some (.iface te pe) := by
  unfold Rows.laid_strconv_ErrSyntax at hd
  obtain ⟨_, u, v, e, _⟩ := iface_of_trod Tryz.underlying76 hd
  exact ⟨u, v, by rw [World.var?_cell gSyn hv 0, ← Array.getElem?_toList, e]; rfl⟩
theorem rng_of {W : World} {cs : Array Value} {fuel : Nat} {q : List MemPlace} (hv : W.var? Tryz.prog "strconv.ErrRange" = some cs)
    (hd : DataW.trod (fun _ => ()) Tryz.prog W 0 (fun _ => true) false fuel 76 cs.toList = some (Rows.laid_strconv_ErrRange, q)) : ∃ te pe, W.cell? ⟨4, 0, none⟩ = some (.iface te pe) := by
  unfold Rows.laid_strconv_ErrRange at hd
  obtain ⟨_, u, v, e, _⟩ := iface_of_trod Tryz.underlying76 hd
  exact ⟨u, v, by rw [World.var?_cell gRng hv 0, ← Array.getElem?_toList, e]; rfl⟩
theorem glob5_of_laid {W : World} (h : laidMetH Tryz.prog [("math/bits.deBruijn32tab", Rows.laid_math_bits_deBruijn32tab), ("math/bits.deBruijn64tab", Rows.laid_math_bits_deBruijn64tab), ("internal/strconv.uint64pow10", Rows.laid_internal_strconv_uint64pow10), ("strconv.ErrRange", Rows.laid_strconv_ErrRange), ("strconv.ErrSyntax", Rows.laid_strconv_ErrSyntax), ("fenland/value.daysBefore", Rows.laid_fenland_value_daysBefore)] W) : Glob5 W := by
  rw [MakeChecks.laidMetH_plain _ _ _ (by kernel_rfl)] at h
  obtain ⟨ps, ⟨g0, t0, cs0, f0, p0, q0, hg0, ht0, hv0, hd0, ⟨g1, t1, cs1, f1, p1, q1, hg1, ht1, hv1, hd1, ⟨g2, t2, cs2, f2, p2, q2, hg2, ht2, hv2, hd2, ⟨g3, t3, cs3, f3, p3, q3, hg3, ht3, hv3, hd3, ⟨g4, t4, cs4, f4, p4, q4, hg4, ht4, hv4, hd4, ⟨g5, t5, cs5, f5, p5, q5, hg5, ht5, hv5, hd5, _, _⟩, _⟩, _⟩, _⟩, _⟩, _⟩, _, _⟩ := h
  obtain rfl := Option.some.inj (gPow.symm.trans hg2)
  obtain rfl := Option.some.inj (gRng.symm.trans hg3)
  obtain rfl := Option.some.inj (gSyn.symm.trans hg4)
  obtain rfl := Option.some.inj (gDays.symm.trans hg5)
  obtain rfl := Option.some.inj (tPow.symm.trans ht2)
  obtain rfl := Option.some.inj (tRng.symm.trans ht3)
  obtain rfl := Option.some.inj (tSyn.symm.trans ht4)
  obtain rfl := Option.some.inj (tDays.symm.trans ht5)
  exact ⟨days_of hv5 hd5, pow_of hv2 hd2, syn_of hv4 hd4, rng_of hv3 hd3⟩
end Go.Proofs.YteaaadccjnmacaaGreatDoor
