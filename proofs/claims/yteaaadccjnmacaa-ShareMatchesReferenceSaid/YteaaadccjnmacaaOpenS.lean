/-
  A []api.Share and a [2]int that came in, opened.
-/
import Derived.Test.YteaaadccjnmacaaOpen
import Derived.Test.YteaaadccjnmacaaShl
import Derived.Deep.Slices
import Derived.Lib.SmallJoins
namespace Go.Proofs.Yteaaadccjnmacaa
open Go.RowKit Go.ChangeShapes Go.WideShapes Go.ChangeAt Go.Deep

theorem cellsS : Try.prog.cellsOf 29 = 2 := by kernel_rfl
theorem cells22 : Try.prog.cellsOf 22 = 1 := by kernel_rfl
theorem cellsI : Try.prog.cellsOf 3 = 1 := by kernel_rfl

theorem open_share {H : Type} {enc : TypeId × Value → H} {W : World} {held : Bool} {fuel : Nat} {ad : Addr} {cs : List Value} {x : DataW H × List MemPlace}
    (hc : W.cells? 0 ad 2 = some cs) (h : DataW.trod enc Try.prog W 0 (fun _ => true) held fuel 29 cs = some x) :
    ad.spot = none ∧ ad.block < W.heap.size ∧ ∃ s : Sh, ShAt W W.heap.size ad.block ad.off s := by
  obtain ⟨_, hlen, hcell⟩ := World.cells?_some hc
  match cs, hlen with
  | [v0, v1], _ =>
  have c0 := hcell 0 (by omega)
  have c1 := hcell 1 (by omega)
  simp only [List.getElem?_cons_zero, List.getElem?_cons_succ] at c0 c1
  obtain ⟨b, o, spot⟩ := ad
  have hspot : spot = none := by simpa [Addr.add] using World.cell?_spot c0
  subst hspot
  have hlt := World.block_lt_of_cell? W _ c0
  rw [block_add] at hlt
  simp only [Addr.add_lit, Nat.add_zero] at c0 c1
  refine ⟨rfl, hlt, ?_⟩
  obtain ⟨y0, y1, n, _, _, g0, g1⟩ := trod_struct2 Try.underlying29 h
  have h0 : DataW.trod enc Try.prog W 0 (fun _ => true) held n 5 (([v0, v1].drop 0).take (Try.prog.cellsOf 5)) = some y0 := g0
  have h1 : DataW.trod enc Try.prog W 0 (fun _ => true) held n 22 (([v0, v1].drop 1).take (Try.prog.cellsOf 22)) = some y1 := g1
  rw [cells5] at h0
  rw [cells22] at h1
  simp only [List.drop_zero, List.take_succ_cons, List.take_zero, List.drop_succ_cons] at h0 h1
  obtain ⟨z0, e0, _, w0⟩ := DataW.trod_int Try.underlying5 h0
  obtain ⟨A, len, cap, e1⟩ := Joins.slice_form Try.underlying22 h1
  simp only [List.cons.injEq, and_true] at e0 e1
  subst e0 e1
  obtain ⟨l, rfl, hlc, hm, hsh, _, _⟩ := open_bytes h1
  obtain ⟨X, rfl⟩ := open_u8 w0
  exact ⟨(X, l), c0, A, cap, c1, hsh, hlc, by simpa [maxLen] using hm⟩

/-- A []api.Share that came in. -/
theorem open_shares {H : Type} {enc : TypeId × Value → H} {W : World} {held : Bool} {fuel : Nat} {a : Option Addr} {len cap : Nat} {x : DataW H × List MemPlace}
    (h : DataW.trod enc Try.prog W 0 (fun _ => true) held fuel 26 [.slice a len cap] = some x) :
    ∃ L : List Sh, len = L.length ∧ len ≤ cap ∧ cap ≤ 9223372036854775807 ∧ ShL W W.heap.size a L := by
  rcases open_slice Try.underlying26 h with ⟨hcs, _⟩ | ⟨ad, len', cap', m, n, D, Pl, hcs, _, hl, hm, hmm, _, hi⟩
  · simp at hcs
    obtain ⟨rfl, rfl, rfl⟩ := hcs
    exact ⟨[], rfl, Nat.le_refl _, by omega, ShL.nil⟩
  · simp at hcs
    obtain ⟨rfl, rfl, rfl⟩ := hcs
    simp only [if_true] at hmm
    subst hmm
    rw [cellsS] at hi
    have hex : ∀ i, i < len → ∃ s : Sh, ad.spot = none ∧ ad.block < W.heap.size ∧ ShAt W W.heap.size ad.block (ad.off + i * 2) s := fun i hil => by
      obtain ⟨cs', hc, ht⟩ := hi i (by omega)
      obtain ⟨_, hlt, s, hs⟩ := open_share hc ht
      obtain ⟨c0, hc0, ht0⟩ := hi 0 (by omega)
      obtain ⟨hsp, _⟩ := open_share hc0 ht0
      rw [Nat.zero_mul, add_zero'] at hsp
      obtain ⟨b, o, spot⟩ := ad
      simp only at hsp
      subst hsp
      rw [Addr.add_lit] at hlt hs
      exact ⟨s, rfl, hlt, hs⟩
    obtain ⟨f, hf⟩ := choose_lt hex
    refine ⟨(List.range len).map f, by simp, hl, by simpa [maxLen] using hm, fun h0 => ?_⟩
    have h0' : 0 < len := by simpa using h0
    obtain ⟨hsp, hlt, _⟩ := hf 0 h0'
    obtain ⟨b, o, spot⟩ := ad
    simp only at hsp
    subst hsp
    refine ⟨b, o, rfl, hlt, fun i s hs => ?_⟩
    have hil : i < len := by have := (List.getElem?_eq_some_iff.1 hs).1; simpa using this
    have hfv : f i = s := by simpa [List.getElem?_map, List.getElem?_range hil] using hs
    subst hfv
    exact (hf i hil).2.2
theorem okW_arr {P : Program} {w : World} {r : Reach} {base : Nat} {t e : TypeId} {n : Nat} {v : Value} (ht : P.underlying t = some (.array n e)) (h : Value.okWide P w r base t v) : ∃ cs, v = .agg cs := by
  unfold Value.okWide at h
  rw [ht] at h
  obtain ⟨cs, rfl, _⟩ := h
  exact ⟨cs, rfl⟩
theorem open_i2 {H : Type} {enc : TypeId × Value → H} {W : World} {base : Nat} {held : Bool} {v : Value} {d : DataW H} {p : List MemPlace}
    (hv : Value.okWide Try.prog W .any base 25 v) (h : DataW.Trod enc Try.prog W 0 (fun _ => true) held 25 v d p) :
    ∃ x y : Int, v = .agg #[.int .i64 x, .int .i64 y] ∧ -9223372036854775808 ≤ x ∧ x ≤ 9223372036854775807 ∧ -9223372036854775808 ≤ y ∧ y ≤ 9223372036854775807 := by
  obtain ⟨cs, rfl⟩ := okW_arr Try.underlying25 hv
  obtain ⟨fu, hf⟩ := h
  obtain ⟨xs, m, rfl, hx, hl, hxl, hel⟩ := DataW.trod_array Try.underlying25 hf
  have cA : Try.prog.cellsOf 25 = 2 := by kernel_rfl
  rw [cA] at hl
  obtain ⟨l⟩ := cs
  match l, hl with
  | [a, b], _ =>
    have h0 := hel 0 (by decide)
    have h1 := hel 1 (by decide)
    rw [cellsI, List.getElem?_eq_getElem (by omega)] at h0 h1
    obtain ⟨z0, e0, _, w0⟩ := DataW.trod_int Try.underlying3 h0
    obtain ⟨z1, e1, _, w1⟩ := DataW.trod_int Try.underlying3 h1
    have f0 : [a] = [Value.int .i64 z0] := e0
    have f1 : [b] = [Value.int .i64 z1] := e1
    simp only [List.cons.injEq, and_true] at f0 f1
    subst f0 f1
    have b0 : -9223372036854775808 ≤ z0 ∧ z0 ≤ 9223372036854775807 := by simpa [Lit.wf, IntKind.min, IntKind.max, IntKind.signed, IntKind.bits] using w0
    have b1 : -9223372036854775808 ≤ z1 ∧ z1 ≤ 9223372036854775807 := by simpa [Lit.wf, IntKind.min, IntKind.max, IntKind.signed, IntKind.bits] using w1
    exact ⟨z0, z1, rfl, b0.1, b0.2, b1.1, b1.2⟩
end Go.Proofs.Yteaaadccjnmacaa
