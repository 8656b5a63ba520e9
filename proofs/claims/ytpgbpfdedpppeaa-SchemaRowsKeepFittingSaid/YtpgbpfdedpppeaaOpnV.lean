/-
  Arguments opened: []api.Value.
-/
import Derived.Test.YtpgbpfdedpppeaaOpn
import Derived.Test.YtpgbpfdedpppeaaRRow
import Derived.Deep.Strs
namespace Go.Proofs.Ytpgbpfdedpppeaa
open Go.RowKit Go.ChangeShapes Go.WideShapes Go.ChangeAt Go.Deep
set_option maxRecDepth 100000

theorem cVal : Try.prog.cellsOf 54 = 3 := by kernel_rfl
theorem cBool : Try.prog.cellsOf 4 = 1 := by kernel_rfl
theorem cI64 : Try.prog.cellsOf 2 = 1 := by kernel_rfl
theorem open_va3 {H : Type} {enc : TypeId × Value → H} {W : World} {base : Nat} {sp : Nat → Bool} {held : Bool} {fuel : Nat} {cs : List Value} {x : DataW H × List MemPlace}
    (h : DataW.trod enc Try.prog W base sp held fuel 54 cs = some x) : ∃ v : Va, cs = v.cells3 ∧ v.Fine := by
  obtain ⟨y0, y1, y2, n, _, hl, h0, h1, h2⟩ := Deep.trod_struct3 Try.underlying54 h
  obtain ⟨b, e0, _⟩ := DataW.trod_bool Try.underlying4 h0
  obtain ⟨z, e1, _, w1⟩ := DataW.trod_int Try.underlying2 h1
  obtain ⟨s, e2, _, hs⟩ := DataW.trod_string Try.underlying9 h2
  rw [cVal] at hl
  match cs, hl with
  | [c0, c1, c2], _ =>
    simp [cBool, cI64, cStr] at e0 e1 e2
    subst e0 e1 e2
    have b1 : -9223372036854775808 ≤ z ∧ z ≤ 9223372036854775807 := by simpa [Lit.wf, IntKind.min, IntKind.max, IntKind.signed, IntKind.bits] using w1
    exact ⟨⟨b, z, s⟩, rfl, b1.1, b1.2, hs⟩
theorem open_vas {H : Type} {enc : TypeId × Value → H} {W : World} {held : Bool} {fuel : Nat} {a : Option Addr} {len cap : Nat} {x : DataW H × List MemPlace}
    (h : DataW.trod enc Try.prog W 0 (fun _ => true) held fuel 52 [.slice a len cap] = some x) :
    ∃ L : List Va, len = L.length ∧ len ≤ cap ∧ cap ≤ 9223372036854775807 ∧ Vas W W.heap.size a L ∧ ∀ d ∈ L, d.Fine := by
  rcases open_slice Try.underlying52 h with ⟨hcs, _⟩ | ⟨ad, len', cap', m, n, D, Pl, hcs, _, hl, hm, hmm, _, hi⟩
  · simp at hcs
    obtain ⟨rfl, rfl, rfl⟩ := hcs
    exact ⟨[], rfl, Nat.le_refl _, by omega, RowAt.nil, fun d hd => by simp at hd⟩
  · simp at hcs
    obtain ⟨rfl, rfl, rfl⟩ := hcs
    simp only [if_true] at hmm
    subst hmm
    rw [cVal] at hi
    have hex : ∀ i, i < len → ∃ c : Va, ad.spot = none ∧ ad.block < W.heap.size ∧ At W ad.block (ad.off + i * 3) c.cells3 ∧ c.Fine := fun i hil => by
      obtain ⟨cs', hc, ht⟩ := hi i (by omega)
      obtain ⟨c, rfl, hrw⟩ := open_va3 ht
      obtain ⟨_, _, hcell⟩ := World.cells?_some hc
      have h0 := hcell 0 (by omega)
      have hlt := World.block_lt_of_cell? W _ h0
      rw [block_add, block_add] at hlt
      obtain ⟨cs0, hc0, ht0⟩ := hi 0 (by omega)
      obtain ⟨c0, rfl, _⟩ := open_va3 ht0
      obtain ⟨_, _, hcell0⟩ := World.cells?_some hc0
      have h00 := hcell0 0 (by omega)
      rw [Nat.zero_mul, add_zero'] at h00
      obtain ⟨b, o, spot⟩ := ad
      have hspot : spot = none := by simpa [Addr.add] using World.cell?_spot h00
      subst hspot
      refine ⟨c, rfl, hlt, fun j v hv => ?_, hrw⟩
      have hj : j < 3 := by
        have := (List.getElem?_eq_some_iff.1 hv).1
        exact this
      have := hcell j hj
      rw [Addr.add_lit, Addr.add_lit, hv] at this
      exact this
    obtain ⟨f, hf⟩ := pick_lt hex ⟨true, 0, ⟨#[]⟩⟩
    refine ⟨(List.range len).map f, by simp, hl, hm, fun hpos => ?_, fun d hd => ?_⟩
    · obtain ⟨b, o, spot⟩ := ad
      have h0 := hf 0 (by simpa using hpos)
      simp only at h0
      obtain ⟨rfl, hlt, _, _⟩ := h0
      refine ⟨b, o, rfl, hlt, fun i vs hvs => ?_⟩
      rw [List.getElem?_map, List.getElem?_map] at hvs
      have hil : i < len := by
        by_cases h : i < len
        · exact h
        · rw [List.getElem?_eq_none (by simpa using h)] at hvs
          cases hvs
      rw [List.getElem?_range hil] at hvs
      obtain rfl : (f i).cells3 = vs := by simpa using hvs
      exact (hf i hil).2.2.1
    · obtain ⟨i, hi', rfl⟩ := List.mem_map.1 hd
      exact (hf i (by simpa using hi')).2.2.2
end Go.Proofs.Ytpgbpfdedpppeaa
