/-
  What the package's variable rows holds when the call begins: out of the row's own condition.
-/
import Derived.Test.YtbpphdmkfjdhnaaDoorOpenK
import Derived.Test.YtbpphdmkfjdhnaaDoorDoubleP
import Derived.KernelRfl
namespace Go.Proofs.YtbpphdmkfjdhnaaDoor
open Go.RowKit Go.ChangeShapes Go.WideShapes Go.ChangeAt

theorem gRows : Tryd.prog.globalNamed "fenland/chacha.rows" = some 1 := by kernel_rfl
theorem tRows : (Tryd.prog.globals[1]?).map (·.type) = some 71 := by kernel_rfl
theorem c4_8 : Tryd.prog.cellsOf 70 = 4 := by kernel_rfl
theorem rowsD : (Rows.laid_fenland_chacha_rows : DataW Unit) = .agg ((QS.map fun r => r.map fun n : Nat => (n : Int)).map fun r => .agg (r.map fun z => .lit (.int .u8 z))) := by kernel_rfl

theorem glob_rows {W : World} {cs : Array Value} {fuel : Nat} {q : List MemPlace} (hv : W.var? Tryd.prog "fenland/chacha.rows" = some cs)
    (hd : DataW.trod (fun _ => ()) Tryd.prog W 0 (fun _ => true) false fuel 71 cs.toList = some (Rows.laid_fenland_chacha_rows, q)) : ∀ k i, k < 8 → i < 4 → W.cell? ⟨1, k * 4 + i, none⟩ = some (.int .u8 (pick (q4 k) i)) := by
  rw [rowsD] at hd
  intro r i hr hi
  have hR : QS[r]? = some (q4 r) := by
    have : r < QS.length := hr
    unfold q4
    simp [List.getD, this]
  have e := table_is Tryd.underlying71 Tryd.underlying70 Tryd.underlying5 cells5 c4_8 hd r _ hr (by rw [List.getElem?_map, hR]; rfl)
  rw [World.var?_cell gRows hv (r * 4 + i), ← Array.getElem?_toList]
  have h := congrArg (·[i]?) e
  simp only [List.getElem?_take, List.getElem?_drop, if_pos hi, List.getElem?_map] at h
  have hl : i < (q4 r).length := by rw [(q4_ok r hr).1]; exact hi
  rw [h]
  simp [pick, List.getElem?_eq_getElem hl]

theorem globq_of_laid {W : World} (h : laidMetH Tryd.prog [("fenland/chacha.rows", Rows.laid_fenland_chacha_rows)] W) : GlobQ W := by
  rw [MakeChecks.laidMetH_plain _ _ _ (by kernel_rfl)] at h
  obtain ⟨ps, ⟨g0, t0, cs0, f0, p0, q0, hg0, ht0, hv0, hd0, _, _⟩, _, _⟩ := h
  obtain rfl := Option.some.inj (gRows.symm.trans hg0)
  obtain rfl := Option.some.inj (tRows.symm.trans ht0)
  have h1 := glob_rows hv0 hd0
  exact ⟨h1, World.block_lt_of_cell? W _ (h1 0 0 (by decide) (by decide))⟩
end Go.Proofs.YtbpphdmkfjdhnaaDoor
