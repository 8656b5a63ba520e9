/-
  Arguments opened: a value, arrays of values, arrays of byte slices.
-/
import Derived.Test.YtmdeojlpccdahaaDoorOpenL
import Derived.Lib.SmallJoins
namespace Go.Proofs.YtmdeojlpccdahaaDoor
open Go.RowKit Go.ChangeShapes Go.WideShapes Go.ChangeAt
set_option maxRecDepth 100000

theorem cV : Tryd.prog.cellsOf 23 = 3 := by kernel_rfl
theorem cF0 : Tryd.prog.cellsOf 4 = 1 := by kernel_rfl
theorem cF2 : Tryd.prog.cellsOf 9 = 1 := by kernel_rfl
theorem open_va3 {H : Type} {enc : TypeId × Value → H} {W : World} {base : Nat} {sp : Nat → Bool} {held : Bool} {fuel : Nat} {cs : List Value} {x : DataW H × List MemPlace}
    (h : DataW.trod enc Tryd.prog W base sp held fuel 23 cs = some x) : ∃ v : Va, cs = [.bool v.b, .int .i64 v.n, .string v.s] ∧ v.Fine := by
  obtain ⟨y0, y1, y2, n, _, hl, h0, h1, h2⟩ := Deep.trod_struct3 Tryd.underlying23 h
  obtain ⟨b, e0, _⟩ := DataW.trod_bool Tryd.underlying4 h0
  obtain ⟨z, e1, _, w1⟩ := DataW.trod_int Tryd.underlying2 h1
  obtain ⟨s, e2, _, hs⟩ := DataW.trod_string Tryd.underlying9 h2
  rw [cV] at hl
  match cs, hl with
  | [c0, c1, c2], _ =>
    simp [cF0, c64i, cF2] at e0 e1 e2
    subst e0 e1 e2
    have b1 : -9223372036854775808 ≤ z ∧ z ≤ 9223372036854775807 := by simpa [Lit.wf, IntKind.min, IntKind.max, IntKind.signed, IntKind.bits] using w1
    exact ⟨⟨b, z, s⟩, rfl, b1.1, b1.2, hs⟩
theorem okWide_va {W : World} {b0 : Nat} {v : Value} (h : Value.okWide Tryd.prog W .any b0 23 v) : ∃ cs : Array Value, v = .agg cs := by
  obtain ⟨cs, e, _⟩ := okWide_struct Tryd.underlying23 h
  exact ⟨cs, e⟩
theorem okWide_arr {P : Program} {w : World} {r : Reach} {base : Nat} {t e : TypeId} {n : Nat} {v : Value} (ht : P.underlying t = some (.array n e)) (h : Value.okWide P w r base t v) : ∃ cs, v = .agg cs := by
  unfold Value.okWide at h
  rw [ht] at h
  obtain ⟨cs, rfl, _⟩ := h
  exact ⟨cs, rfl⟩
/-- a value that came in -/
theorem open_va {H : Type} {enc : TypeId × Value → H} {W : World} {base : Nat} {held : Bool} {v : Value} {d : DataW H} {p : List MemPlace}
    (hv : Value.okWide Tryd.prog W .any base 23 v) (h : DataW.Trod enc Tryd.prog W 0 (fun _ => true) held 23 v d p) : ∃ u : Va, v = u.val ∧ u.Fine := by
  obtain ⟨cs, rfl⟩ := okWide_va hv
  obtain ⟨fu, hf⟩ := h
  obtain ⟨u, e, hu⟩ := open_va3 hf
  refine ⟨u, ?_, hu⟩
  show Value.agg cs = Value.agg _
  congr 1
  exact Array.ext' (by simpa [Value.cells] using e)
theorem take3 {cs : List Value} {i : Nat} {a b c : Value} (h : (cs.drop i).take 3 = [a, b, c]) : cs[i]? = some a ∧ cs[i + 1]? = some b ∧ cs[i + 2]? = some c := by
  have h0 := congrArg (·[0]?) h
  have h1 := congrArg (·[1]?) h
  have h2 := congrArg (·[2]?) h
  simp at h0 h1 h2
  exact ⟨h0, h1, h2⟩
def vcells (v : Va) : List Value := [.bool v.b, .int .i64 v.n, .string v.s]
/-- [2]api.Value -/
theorem open_va2 {H : Type} {enc : TypeId × Value → H} {W : World} {base : Nat} {held : Bool} {v : Value} {d : DataW H} {p : List MemPlace}
    (hv : Value.okWide Tryd.prog W .any base 43 v) (h : DataW.Trod enc Tryd.prog W 0 (fun _ => true) held 43 v d p) :
    ∃ a b : Va, v = .agg #[.bool a.b, .int .i64 a.n, .string a.s, .bool b.b, .int .i64 b.n, .string b.s] ∧ a.Fine ∧ b.Fine := by
  obtain ⟨cs, rfl⟩ := okWide_arr Tryd.underlying43 hv
  obtain ⟨fu, hf⟩ := h
  obtain ⟨xs, m, rfl, hx, hl, hxl, hel⟩ := DataW.trod_array Tryd.underlying43 hf
  have cA : Tryd.prog.cellsOf 43 = 6 := by kernel_rfl
  rw [cA] at hl
  have h0 := hel 0 (by decide)
  have h1 := hel 1 (by decide)
  rw [cV, List.getElem?_eq_getElem (by omega)] at h0 h1
  obtain ⟨a, ea, ka⟩ := open_va3 h0
  obtain ⟨b, eb, kb⟩ := open_va3 h1
  refine ⟨a, b, ?_, ka, kb⟩
  congr 1
  apply Array.ext'
  have e : cs.toList = (cs.toList.drop (0 * 3)).take 3 ++ (cs.toList.drop (1 * 3)).take 3 := by
    have hl' : cs.toList.length = 6 := hl
    rw [Nat.zero_mul, Nat.one_mul, List.drop_zero, List.take_of_length_le (l := cs.toList.drop 3) (by simp at hl' ⊢; omega), List.take_append_drop]
  have ea' : (cs.toList.drop (0 * 3)).take 3 = vcells a := ea
  have eb' : (cs.toList.drop (1 * 3)).take 3 = vcells b := eb
  rw [e, ea', eb']
  rfl
/-- [3]api.Value -/
theorem open_va33 {H : Type} {enc : TypeId × Value → H} {W : World} {base : Nat} {held : Bool} {v : Value} {d : DataW H} {p : List MemPlace}
    (hv : Value.okWide Tryd.prog W .any base 24 v) (h : DataW.Trod enc Tryd.prog W 0 (fun _ => true) held 24 v d p) :
    ∃ a b c : Va, v = .agg #[.bool a.b, .int .i64 a.n, .string a.s, .bool b.b, .int .i64 b.n, .string b.s, .bool c.b, .int .i64 c.n, .string c.s] ∧ a.Fine ∧ b.Fine ∧ c.Fine := by
  obtain ⟨cs, rfl⟩ := okWide_arr Tryd.underlying24 hv
  obtain ⟨fu, hf⟩ := h
  obtain ⟨xs, m, rfl, hx, hl, hxl, hel⟩ := DataW.trod_array Tryd.underlying24 hf
  have cA : Tryd.prog.cellsOf 24 = 9 := by kernel_rfl
  rw [cA] at hl
  have h0 := hel 0 (by decide)
  have h1 := hel 1 (by decide)
  have h2 := hel 2 (by decide)
  rw [cV, List.getElem?_eq_getElem (by omega)] at h0 h1 h2
  obtain ⟨a, ea, ka⟩ := open_va3 h0
  obtain ⟨b, eb, kb⟩ := open_va3 h1
  obtain ⟨c, ec, kc⟩ := open_va3 h2
  refine ⟨a, b, c, ?_, ka, kb, kc⟩
  congr 1
  apply Array.ext'
  have e : cs.toList = (cs.toList.drop (0 * 3)).take 3 ++ ((cs.toList.drop (1 * 3)).take 3 ++ (cs.toList.drop (2 * 3)).take 3) := by
    have hl' : cs.toList.length = 9 := hl
    rw [Nat.zero_mul, Nat.one_mul, List.drop_zero, List.take_of_length_le (l := cs.toList.drop (2 * 3)) (by simp at hl' ⊢; omega)]
    rw [show (2 * 3 : Nat) = 3 + 3 from rfl, ← List.drop_drop, List.take_append_drop, List.take_append_drop]
  have ea' : (cs.toList.drop (0 * 3)).take 3 = vcells a := ea
  have eb' : (cs.toList.drop (1 * 3)).take 3 = vcells b := eb
  have ec' : (cs.toList.drop (2 * 3)).take 3 = vcells c := ec
  rw [e, ea', eb', ec']
  rfl
/-- [2][]byte -/
theorem open_bytes2 {H : Type} {enc : TypeId × Value → H} {W : World} {base : Nat} {held : Bool} {v : Value} {d : DataW H} {p : List MemPlace}
    (hv : Value.okWide Tryd.prog W .any base 30 v) (h : DataW.Trod enc Tryd.prog W 0 (fun _ => true) held 30 v d p) :
    ∃ (A B : Option Addr) (ca cb : Nat) (l m : List UInt8), v = .agg #[.slice A l.length ca, .slice B m.length cb] ∧ Shows W W.heap.size A l ∧ l.length ≤ ca ∧ Shows W W.heap.size B m ∧ m.length ≤ cb := by
  obtain ⟨cs, rfl⟩ := okWide_arr Tryd.underlying30 hv
  obtain ⟨fu, hf⟩ := h
  obtain ⟨xs, k, rfl, hx, hl, hxl, hel⟩ := DataW.trod_array Tryd.underlying30 hf
  have cA : Tryd.prog.cellsOf 30 = 2 := by kernel_rfl
  have cB : Tryd.prog.cellsOf 29 = 1 := by kernel_rfl
  rw [cA] at hl
  have h0 := hel 0 (by decide)
  have h1 := hel 1 (by decide)
  rw [cB, List.getElem?_eq_getElem (by omega)] at h0 h1
  obtain ⟨A, la, ca, ea⟩ := Joins.slice_form Tryd.underlying29 h0
  obtain ⟨B, lb, cb', eb⟩ := Joins.slice_form Tryd.underlying29 h1
  rw [ea] at h0
  rw [eb] at h1
  obtain ⟨l, rfl, hlc, _, hs, _⟩ := open_bytes h0
  obtain ⟨m, rfl, hmc, _, hs2, _⟩ := open_bytes h1
  refine ⟨A, B, ca, cb', l, m, ?_, hs, hlc, hs2, hmc⟩
  congr 1
  apply Array.ext'
  have e : cs.toList = (cs.toList.drop (0 * 1)).take 1 ++ (cs.toList.drop (1 * 1)).take 1 := by
    have hl' : cs.toList.length = 2 := hl
    rw [Nat.zero_mul, Nat.one_mul, List.drop_zero, List.take_of_length_le (l := cs.toList.drop 1) (by simp at hl' ⊢; omega), List.take_append_drop]
  have ea' : (cs.toList.drop (0 * 1)).take 1 = [.slice A l.length ca] := ea
  have eb' : (cs.toList.drop (1 * 1)).take 1 = [.slice B m.length cb'] := eb
  rw [e, ea', eb']
  rfl
end Go.Proofs.YtmdeojlpccdahaaDoor
