/-
  What the laws' frames share: arguments opened: []api.Change, api.Change, uint8.
-/
import Derived.Test.YtpgbpfdedpppeaaRMde
import Derived.Test.YtpgbpfdedpppeaaRows
import Derived.ProofKit
import Derived.OpenShut
import Derived.SizedLaws
import Derived.Deep.Slices
import Derived.Lib.SmallJoins
namespace Go.Proofs.Ytpgbpfdedpppeaa
open Go.RowKit Go.ChangeShapes Go.WideShapes Go.ChangeAt Go.Deep
set_option maxRecDepth 100000

theorem own : ownKnob Try.prog.godebug = none := by kernel_rfl
theorem laidOut : laidOutB Try.prog = true := by kernel_rfl
theorem block_add (a : Addr) (n : Nat) : (a.add n).block = a.block := by unfold Addr.add; split <;> rfl
theorem add_zero' (a : Addr) : a.add 0 = a := by unfold Addr.add; simp
theorem cCh : Try.prog.cellsOf 24 = 8 := by kernel_rfl
theorem cInt : Try.prog.cellsOf 3 = 1 := by kernel_rfl
theorem cStr : Try.prog.cellsOf 9 = 1 := by kernel_rfl
theorem pick_lt {α : Type} {n : Nat} {P : Nat → α → Prop} (h : ∀ i, i < n → ∃ v, P i v) (d : α) : ∃ f : Nat → α, ∀ i, i < n → P i (f i) := by
  classical
  refine ⟨fun i => if hi : i < n then (h i hi).choose else d, fun i hi => ?_⟩
  simp only [dif_pos hi]
  exact (h i hi).choose_spec
theorem open_ch {H : Type} {enc : TypeId × Value → H} {W : World} {base : Nat} {sp : Nat → Bool} {held : Bool} {fuel : Nat} {cs : List Value} {x : DataW H × List MemPlace}
    (h : DataW.trod enc Try.prog W base sp held fuel 24 cs = some x) : ∃ c : Ch, cs = c.cells ∧ RW c := by
  obtain ⟨xs, n, _, _, hl, hxl, hf⟩ := DataW.trod_struct Try.underlying24 h
  rw [cCh] at hl
  have hx : xs.length = 8 := hxl
  match cs, hl, xs, hx, hf with
  | [c0, c1, c2, c3, c4, c5, c6, c7], _, [y0, y1, y2, y3, y4, y5, y6, y7], _, hf =>
    have g0 := hf 0 _ rfl
    have g1 := hf 1 _ rfl
    have g2 := hf 2 _ rfl
    have g3 := hf 3 _ rfl
    have g4 := hf 4 _ rfl
    have g5 := hf 5 _ rfl
    have g6 := hf 6 _ rfl
    have g7 := hf 7 _ rfl
    obtain ⟨a0, e0, _, w0⟩ := DataW.trod_int Try.underlying3 g0
    obtain ⟨a1, e1, _, w1⟩ := DataW.trod_int Try.underlying3 g1
    obtain ⟨a2, e2, _, w2⟩ := DataW.trod_int Try.underlying3 g2
    obtain ⟨s3, e3, _, w3⟩ := DataW.trod_string Try.underlying9 g3
    obtain ⟨s4, e4, _, w4⟩ := DataW.trod_string Try.underlying9 g4
    obtain ⟨a5, e5, _, w5⟩ := DataW.trod_int Try.underlying3 g5
    obtain ⟨a6, e6, _, w6⟩ := DataW.trod_int Try.underlying3 g6
    obtain ⟨s7, e7, _, w7⟩ := DataW.trod_string Try.underlying9 g7
    simp [cInt, cStr] at e0 e1 e2 e3 e4 e5 e6 e7
    subst e0 e1 e2 e3 e4 e5 e6 e7
    exact ⟨⟨a0, a1, a2, s3, s4, a5, a6, s7⟩, rfl, w0, w1, w2, w5, w6, w3, w4, w7⟩
theorem open_chs {H : Type} {enc : TypeId × Value → H} {W : World} {held : Bool} {fuel : Nat} {a : Option Addr} {len cap : Nat} {x : DataW H × List MemPlace}
    (h : DataW.trod enc Try.prog W 0 (fun _ => true) held fuel 22 [.slice a len cap] = some x) :
    ∃ L : List Ch, len = L.length ∧ len ≤ cap ∧ cap ≤ 9223372036854775807 ∧ Chs W W.heap.size a L ∧ ∀ d ∈ L, RW d := by
  rcases open_slice Try.underlying22 h with ⟨hcs, _⟩ | ⟨ad, len', cap', m, n, D, Pl, hcs, _, hl, hm, hmm, _, hi⟩
  · simp at hcs
    obtain ⟨rfl, rfl, rfl⟩ := hcs
    exact ⟨[], rfl, Nat.le_refl _, by omega, RowAt.nil, fun d hd => by simp at hd⟩
  · simp at hcs
    obtain ⟨rfl, rfl, rfl⟩ := hcs
    simp only [if_true] at hmm
    subst hmm
    rw [cCh] at hi
    have hex : ∀ i, i < len → ∃ c : Ch, ad.spot = none ∧ ad.block < W.heap.size ∧ At W ad.block (ad.off + i * 8) c.cells ∧ RW c := fun i hil => by
      obtain ⟨cs', hc, ht⟩ := hi i (by omega)
      obtain ⟨c, rfl, hrw⟩ := open_ch ht
      obtain ⟨_, _, hcell⟩ := World.cells?_some hc
      have h0 := hcell 0 (by omega)
      have hlt := World.block_lt_of_cell? W _ h0
      rw [block_add, block_add] at hlt
      obtain ⟨cs0, hc0, ht0⟩ := hi 0 (by omega)
      obtain ⟨c0, rfl, _⟩ := open_ch ht0
      obtain ⟨_, _, hcell0⟩ := World.cells?_some hc0
      have h00 := hcell0 0 (by omega)
      rw [Nat.zero_mul, add_zero'] at h00
      obtain ⟨b, o, spot⟩ := ad
      have hspot : spot = none := by simpa [Addr.add] using World.cell?_spot h00
      subst hspot
      refine ⟨c, rfl, hlt, fun j v hv => ?_, hrw⟩
      have hj : j < 8 := by
        have := (List.getElem?_eq_some_iff.1 hv).1
        exact this
      have := hcell j hj
      rw [Addr.add_lit, Addr.add_lit, hv] at this
      exact this
    obtain ⟨f, hf⟩ := pick_lt hex ⟨0, 0, 0, ⟨#[]⟩, ⟨#[]⟩, 0, 0, ⟨#[]⟩⟩
    refine ⟨(List.range len).map f, by simp, hl, hm, fun hpos => ?_, fun d hd => ?_⟩
    · obtain ⟨b, o, spot⟩ := ad
      have h0 := hf 0 (by simpa using hpos)
      simp only at h0
      obtain ⟨rfl, hlt, _, _⟩ := h0
      refine ⟨b, o, rfl, hlt, fun i vs hvs => ?_⟩
      rw [List.getElem?_map, List.getElem?_map] at hvs
      have hil : i < len := by
        by_cases h : i < len
        · exact h
        · rw [List.getElem?_eq_none (by simpa using h)] at hvs
          cases hvs
      rw [List.getElem?_range hil] at hvs
      obtain rfl : (f i).cells = vs := by simpa using hvs
      exact (hf i hil).2.2.1
    · obtain ⟨i, hi', rfl⟩ := List.mem_map.1 hd
      exact (hf i (by simpa using hi')).2.2.2
theorem open_chv {H : Type} {enc : TypeId × Value → H} {W : World} {base : Nat} {held : Bool} {v : Value} {d : DataW H} {p : List MemPlace}
    (hv : Value.okWide Try.prog W .any base 24 v) (h : DataW.Trod enc Try.prog W 0 (fun _ => true) held 24 v d p) : ∃ c : Ch, v = c.val ∧ RW c := by
  obtain ⟨cs, rfl, _⟩ := okWide_struct Try.underlying24 hv
  obtain ⟨fu, hf⟩ := h
  obtain ⟨c, e, hr⟩ := open_ch hf
  refine ⟨c, ?_, hr⟩
  show Value.agg cs = Value.agg _
  congr 1
  have e : cs.toList = c.cells := by simpa [Value.cells] using e
  exact Array.ext' e
end Go.Proofs.Ytpgbpfdedpppeaa
