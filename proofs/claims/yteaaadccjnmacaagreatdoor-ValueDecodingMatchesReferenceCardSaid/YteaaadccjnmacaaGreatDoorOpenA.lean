/-
  Arguments opened: a value, arrays of values, arrays of byte slices.
-/
import Derived.Test.YteaaadccjnmacaaGreatDoorOpenL
import Derived.Lib.SmallJoins
namespace Go.Proofs.YteaaadccjnmacaaGreatDoor
open Go.RowKit Go.ChangeShapes Go.WideShapes Go.ChangeAt
set_option maxRecDepth 100000

theorem cV : Tryz.prog.cellsOf 24 = 3 := by kernel_rfl
theorem cF0 : Tryz.prog.cellsOf 4 = 1 := by kernel_rfl
theorem cF2 : Tryz.prog.cellsOf 9 = 1 := by kernel_rfl
theorem open_va3 {H : Type} {enc : TypeId × Value → H} {W : World} {base : Nat} {sp : Nat → Bool} {held : Bool} {fuel : Nat} {cs : List Value} {x : DataW H × List MemPlace}
    (h : DataW.trod enc Tryz.prog W base sp held fuel 24 cs = some x) : ∃ v : Va, cs = [.bool v.b, .int .i64 v.n, .string v.s] ∧ v.Fine := by
  obtain ⟨y0, y1, y2, n, _, hl, h0, h1, h2⟩ := Deep.trod_struct3 Tryz.underlying24 h
  obtain ⟨b, e0, _⟩ := DataW.trod_bool Tryz.underlying4 h0
  obtain ⟨z, e1, _, w1⟩ := DataW.trod_int Tryz.underlying2 h1
  obtain ⟨s, e2, _, hs⟩ := DataW.trod_string Tryz.underlying9 h2
  rw [cV] at hl
  match cs, hl with
  | [c0, c1, c2], _ =>
    simp [cF0, c64i, cF2] at e0 e1 e2
    subst e0 e1 e2
    have b1 : -9223372036854775808 ≤ z ∧ z ≤ 9223372036854775807 := by simpa [Lit.wf, IntKind.min, IntKind.max, IntKind.signed, IntKind.bits] using w1
    exact ⟨⟨b, z, s⟩, rfl, b1.1, b1.2, hs⟩
theorem okWide_va {W : World} {b0 : Nat} {v : Value} (h : Value.okWide Tryz.prog W .any b0 24 v) : ∃ cs : Array Value, v = .agg cs := by
  obtain ⟨cs, e, _⟩ := okWide_struct Tryz.underlying24 h
  exact ⟨cs, e⟩
theorem okWide_arr {P : Program} {w : World} {r : Reach} {base : Nat} {t e : TypeId} {n : Nat} {v : Value} (ht : P.underlying t = some (.array n e)) (h : Value.okWide P w r base t v) : ∃ cs, v = .agg cs := by
  unfold Value.okWide at h
  rw [ht] at h
  obtain ⟨cs, rfl, _⟩ := h
  exact ⟨cs, rfl⟩
/-- a value that came in -/
theorem open_va {H : Type} {enc : TypeId × Value → H} {W : World} {base : Nat} {held : Bool} {v : Value} {d : DataW H} {p : List MemPlace}
    (hv : Value.okWide Tryz.prog W .any base 24 v) (h : DataW.Trod enc Tryz.prog W 0 (fun _ => true) held 24 v d p) : ∃ u : Va, v = u.val ∧ u.Fine := by
  obtain ⟨cs, rfl⟩ := okWide_va hv
  obtain ⟨fu, hf⟩ := h
  obtain ⟨u, e, hu⟩ := open_va3 hf
  refine ⟨u, ?_, hu⟩
  show Value.agg cs = Value.agg _
  congr 1
  exact Array.ext' (by simpa [Value.cells] using e)
theorem take3 {cs : List Value} {i : Nat} {a b c : Value} (h : (cs.drop i).take 3 = [a, b, c]) : cs[i]? = some a ∧ cs[i + 1]? = some b ∧ cs[i + 2]? = some c := by
  have h0 := congrArg (·[0]?) h
  have h1 := congrArg (·[1]?) h
  have h2 := congrArg (·[2]?) h
  simp at h0 h1 h2
  exact ⟨h0, h1, h2⟩
def vcells (v : Va) : List Value := [.bool v.b, .int .i64 v.n, .string v.s]
end Go.Proofs.YteaaadccjnmacaaGreatDoor
