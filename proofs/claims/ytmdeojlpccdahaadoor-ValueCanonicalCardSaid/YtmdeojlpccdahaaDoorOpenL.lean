/-
  What the packages' variables hold when the call begins: out of the row's own condition.
-/
import Derived.Test.YtmdeojlpccdahaaDoorDayP
import Derived.Test.YtmdeojlpccdahaaDoorOpen
import Derived.Lib.LaidTab
import Derived.LaidMore
import Derived.LaidLaws
import Derived.KernelRfl
namespace Go.Proofs.YtmdeojlpccdahaaDoor
open Go.RowKit Go.ChangeShapes Go.WideShapes Go.ChangeAt

theorem gDays : Tryd.prog.globalNamed "fenland/value.daysBefore" = some 1 := by kernel_rfl
theorem gPow : Tryd.prog.globalNamed "internal/strconv.uint64pow10" = some 2 := by kernel_rfl
theorem gSyn : Tryd.prog.globalNamed "strconv.ErrSyntax" = some 3 := by kernel_rfl
theorem gRng : Tryd.prog.globalNamed "strconv.ErrRange" = some 4 := by kernel_rfl
theorem tDays : (Tryd.prog.globals[1]?).map (·.type) = some 88 := by kernel_rfl
theorem tPow : (Tryd.prog.globals[2]?).map (·.type) = some 111 := by kernel_rfl
theorem tSyn : (Tryd.prog.globals[3]?).map (·.type) = some 69 := by kernel_rfl
theorem tRng : (Tryd.prog.globals[4]?).map (·.type) = some 69 := by kernel_rfl
theorem c64i : Tryd.prog.cellsOf 2 = 1 := by kernel_rfl
theorem c64u : Tryd.prog.cellsOf 76 = 1 := by kernel_rfl
theorem c12 : Tryd.prog.cellsOf 88 = 12 := by kernel_rfl
theorem c20 : Tryd.prog.cellsOf 111 = 20 := by kernel_rfl
theorem daysD : (Rows.laid_fenland_value_daysBefore : DataW Unit) = Lib.tabData .i64 befT := by kernel_rfl
theorem powD : (Rows.laid_internal_strconv_uint64pow10 : DataW Unit) = Lib.tabData .u64 Lib.pow10Tab := by kernel_rfl

theorem days_of {W : World} {cs : Array Value} {fuel : Nat} {q : List MemPlace} (hv : W.var? Tryd.prog "fenland/value.daysBefore" = some cs)
    (hd : DataW.trod (fun _ => ()) Tryd.prog W 0 (fun _ => true) false fuel 88 cs.toList = some (Rows.laid_fenland_value_daysBefore, q)) : ∀ i, i < 12 → W.cell? ⟨1, i, none⟩ = some (.int .i64 (bef i)) := by
  rw [daysD] at hd
  have e := Lib.cells_of_tab Tryd.underlying88 Tryd.underlying2 c64i c12 hd
  intro i hi
  rw [World.var?_cell gDays hv i, ← Array.getElem?_toList, e]
  have : i < befT.length := hi
  simp [bef, List.getD, List.getElem?_eq_getElem this]
theorem pow_of {W : World} {cs : Array Value} {fuel : Nat} {q : List MemPlace} (hv : W.var? Tryd.prog "internal/strconv.uint64pow10" = some cs)
    (hd : DataW.trod (fun _ => ()) Tryd.prog W 0 (fun _ => true) false fuel 111 cs.toList = some (Rows.laid_internal_strconv_uint64pow10, q)) : Lib.TabIs Tryd.prog W "internal/strconv.uint64pow10" .u64 Lib.pow10Tab := by
  rw [powD] at hd
  have e := Lib.cells_of_tab Tryd.underlying111 Tryd.underlying76 c64u c20 hd
  unfold Lib.TabIs
  rw [hv, ← e]
theorem syn_of {W : World} {cs : Array Value} {fuel : Nat} {q : List MemPlace} (hv : W.var? Tryd.prog "strconv.ErrSyntax" = some cs)
    (hd : DataW.trod (fun _ => ()) Tryd.prog W 0 (fun _ => true) false fuel 69 cs.toList = some (Rows.laid_strconv_ErrSyntax, q)) : ∃ te pe, W.cell? ⟨3, 0, none⟩ = some (.iface te pe) := by
  unfold Rows.laid_strconv_ErrSyntax at hd
  obtain ⟨_, u, v, e, _⟩ := iface_of_trod Tryd.underlying69 hd
  exact ⟨u, v, by rw [World.var?_cell gSyn hv 0, ← Array.getElem?_toList, e]; rfl⟩
theorem rng_of {W : World} {cs : Array Value} {fuel : Nat} {q : List MemPlace} (hv : W.var? Tryd.prog "strconv.ErrRange" = some cs)
    (hd : DataW.trod (fun _ => ()) Tryd.prog W 0 (fun _ => true) false fuel 69 cs.toList = some (Rows.laid_strconv_ErrRange, q)) : ∃ te pe, W.cell? ⟨4, 0, none⟩ = some (.iface te pe) := by
  unfold Rows.laid_strconv_ErrRange at hd
  obtain ⟨_, u, v, e, _⟩ := iface_of_trod Tryd.underlying69 hd
  exact ⟨u, v, by rw [World.var?_cell gRng hv 0, ← Array.getElem?_toList, e]; rfl⟩
theorem glob5_of_laid {W : World} (h : laidMetH Tryd.prog [("math/bits.deBruijn32tab", Rows.laid_math_bits_deBruijn32tab), ("math/bits.deBruijn64tab", Rows.laid_math_bits_deBruijn64tab), ("internal/strconv.uint64pow10", Rows.laid_internal_strconv_uint64pow10), ("strconv.ErrRange", Rows.laid_strconv_ErrRange), ("strconv.ErrSyntax", Rows.laid_strconv_ErrSyntax), ("fenland/value.daysBefore", Rows.laid_fenland_value_daysBefore)] W) : Glob5 W := by
  rw [MakeChecks.laidMetH_plain _ _ _ (by kernel_rfl)] at h
  obtain ⟨ps, ⟨g0, t0, cs0, f0, p0, q0, hg0, ht0, hv0, hd0, ⟨g1, t1, cs1, f1, p1, q1, hg1, ht1, hv1, hd1, ⟨g2, t2, cs2, f2, p2, q2, hg2, ht2, hv2, hd2, ⟨g3, t3, cs3, f3, p3, q3, hg3, ht3, hv3, hd3, ⟨g4, t4, cs4, f4, p4, q4, hg4, ht4, hv4, hd4, ⟨g5, t5, cs5, f5, p5, q5, hg5, ht5, hv5, hd5, _, _⟩, _⟩, _⟩, _⟩, _⟩, _⟩, _, _⟩ := h
  obtain rfl := Option.some.inj (gPow.symm.trans hg2)
  obtain rfl := Option.some.inj (gRng.symm.trans hg3)
  obtain rfl := Option.some.inj (gSyn.symm.trans hg4)
  obtain rfl := Option.some.inj (gDays.symm.trans hg5)
  obtain rfl := Option.some.inj (tPow.symm.trans ht2)
  obtain rfl := Option.some.inj (tRng.symm.trans ht3)
  obtain rfl := Option.some.inj (tSyn.symm.trans ht4)
  obtain rfl := Option.some.inj (tDays.symm.trans ht5)
  exact ⟨days_of hv5 hd5, pow_of hv2 hd2, syn_of hv4 hd4, rng_of hv3 hd3⟩
end Go.Proofs.YtmdeojlpccdahaaDoor
