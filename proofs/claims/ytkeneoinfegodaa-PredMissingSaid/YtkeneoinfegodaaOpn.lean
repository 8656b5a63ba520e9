/-
  Arguments opened: api.Pred, api.Row, api.Cell, [3]api.Pred, numbers.
-/
import Derived.Test.YtkeneoinfegodaaWtM
import Derived.Test.YtkeneoinfegodaaRows
import Derived.ProofKit
import Derived.OpenShut
import Derived.SizedLaws
import Derived.Deep.Slices
import Derived.Deep.Strs
import Derived.Lib.SmallJoins
namespace Go.Proofs.Ytkeneoinfegodaa
open Go.RowKit Go.ChangeShapes Go.WideShapes Go.ChangeAt Go.Deep
set_option maxRecDepth 100000

theorem own : ownKnob Try.prog.godebug = none := by kernel_rfl
theorem laidOut : laidOutB Try.prog = true := by kernel_rfl
theorem block_add (a : Addr) (n : Nat) : (a.add n).block = a.block := by unfold Addr.add; split <;> rfl
theorem add_zero' (a : Addr) : a.add 0 = a := by unfold Addr.add; simp
theorem cPr : Try.prog.cellsOf 25 = 7 := by kernel_rfl
theorem cVal : Try.prog.cellsOf 37 = 3 := by kernel_rfl
theorem cCe : Try.prog.cellsOf 39 = 4 := by kernel_rfl
theorem cRow : Try.prog.cellsOf 29 = 1 := by kernel_rfl
theorem cInt : Try.prog.cellsOf 3 = 1 := by kernel_rfl
theorem cI64 : Try.prog.cellsOf 2 = 1 := by kernel_rfl
theorem cBool : Try.prog.cellsOf 4 = 1 := by kernel_rfl
theorem cStr : Try.prog.cellsOf 9 = 1 := by kernel_rfl
theorem cVs : Try.prog.cellsOf 22 = 1 := by kernel_rfl
theorem cPs : Try.prog.cellsOf 23 = 1 := by kernel_rfl
theorem bVal : Try.prog.bytesOf 37 = 32 := by kernel_rfl
theorem bPr : 1 ≤ Try.prog.bytesOf 25 := of_decide_eq_true (by kernel_rfl)
theorem bCe : 1 ≤ Try.prog.bytesOf 39 := of_decide_eq_true (by kernel_rfl)
theorem i64_in {z : Int} (w : (Lit.int .i64 z).wf = true) : -9223372036854775808 ≤ z ∧ z ≤ 9223372036854775807 := by
  simpa [Lit.wf, IntKind.min, IntKind.max, IntKind.signed, IntKind.bits] using w
theorem pick_lt {α : Type} {n : Nat} {P : Nat → α → Prop} (h : ∀ i, i < n → ∃ v, P i v) (d : α) : ∃ f : Nat → α, ∀ i, i < n → P i (f i) := by
  classical
  refine ⟨fun i => if hi : i < n then (h i hi).choose else d, fun i hi => ?_⟩
  simp only [dif_pos hi]
  exact (h i hi).choose_spec
theorem weightsAll_mem {H : Type} {P : Program} {e : TypeId} : ∀ {ds : List (DataW H)} {d : DataW H}, d ∈ ds → ∀ n ∈ d.weights P e, n ∈ DataW.weightsAll P e ds
  | [], _, h, _, _ => by cases h
  | a :: r, d, h, n, hn => by
    rw [DataW.weightsAll]
    rcases List.mem_cons.1 h with rfl | h
    · exact List.mem_append_left _ hn
    · exact List.mem_append_right _ (weightsAll_mem h n hn)
/-- a slice of elements of k cells each, that are opened one by one -/
theorem open_row {H : Type} {enc : TypeId × Value → H} {W : World} {held : Bool} {fuel : Nat} {a : Option Addr} {len cap : Nat} {x : DataW H × List MemPlace} {t e : TypeId} {α : Type}
    (cells : α → List Value) (Q : α → DataW H → Prop) (d0 : α) (k : Nat) (hk0 : 0 < k) (ht : Try.prog.underlying t = some (.slice e)) (hk : Try.prog.cellsOf e = k) (hlen : ∀ c, (cells c).length = k)
    (hone : ∀ f' cs y, f' < fuel → DataW.trod enc Try.prog W 0 (fun _ => true) held f' e cs = some y → ∃ c, cs = cells c ∧ Q c y.1)
    (h : DataW.trod enc Try.prog W 0 (fun _ => true) held fuel t [.slice a len cap] = some x) :
    ∃ L : List α, len = L.length ∧ len ≤ cap ∧ cap ≤ 9223372036854775807 ∧ RowAt k W W.heap.size a (L.map cells) ∧ (len = 0 ∨ len * Try.prog.bytesOf e ≤ cap * Try.prog.bytesOf e ∧ cap * Try.prog.bytesOf e ∈ x.1.weights Try.prog t) ∧
      ∀ c ∈ L, ∃ d, Q c d ∧ ∀ n ∈ d.weights Try.prog e, n ∈ x.1.weights Try.prog t := by
  rcases DataW.trod_slice ht h with ⟨hcs, _⟩ | ⟨ad, len', cap', E, R, n, hf, hcs, hx, _, hl, hm, hE, hel, hsp, _⟩
  · simp at hcs
    obtain ⟨rfl, rfl, rfl⟩ := hcs
    exact ⟨[], rfl, Nat.le_refl _, by omega, RowAt.nil, .inl rfl, fun c hc => by cases hc⟩
  · simp at hcs
    obtain ⟨rfl, rfl, rfl⟩ := hcs
    have hr : R.length = cap - len := (hsp rfl).1
    rw [hk] at hel
    have hex : ∀ i, i < len → ∃ c : α, ad.spot = none ∧ ad.block < W.heap.size ∧ At W ad.block (ad.off + i * k) (cells c) ∧ ∃ y, y ∈ E ∧ Q c y.1 := fun i hil => by
      have hi := hel i hil
      rw [List.getElem?_eq_getElem (by omega), Option.bind_eq_some_iff] at hi
      obtain ⟨cs', hc, ht'⟩ := hi
      obtain ⟨c, rfl, hQ⟩ := hone n cs' _ (by omega) ht'
      obtain ⟨_, _, hcell⟩ := World.cells?_some hc
      have h0 := hcell 0 hk0
      rw [List.getElem?_eq_getElem (by rw [hlen]; exact hk0)] at h0
      have hlt := World.block_lt_of_cell? W _ h0
      rw [block_add, block_add] at hlt
      have hi0 := hel 0 (by omega)
      rw [List.getElem?_eq_getElem (by omega), Option.bind_eq_some_iff] at hi0
      obtain ⟨cs0, hc0, _⟩ := hi0
      obtain ⟨_, _, hcell0⟩ := World.cells?_some hc0
      have h00 := hcell0 0 hk0
      rw [Nat.zero_mul, add_zero'] at h00
      obtain ⟨b, o, spot⟩ := ad
      have hspot : spot = none := by
        have hcl : 0 < cs0.length := by have := World.cells?_some hc0; omega
        rw [List.getElem?_eq_getElem hcl] at h00
        simpa [Addr.add] using World.cell?_spot h00
      subst hspot
      refine ⟨c, rfl, hlt, fun j v hv => ?_, _, List.getElem_mem _, hQ⟩
      have hj : j < k := by
        have := (List.getElem?_eq_some_iff.1 hv).1
        rwa [hlen] at this
      have := hcell j hj
      rw [Addr.add_lit, Addr.add_lit, hv] at this
      exact this
    obtain ⟨f, hff⟩ := pick_lt hex d0
    have hw : x.1.weights Try.prog t = (E.length + R.length) * Try.prog.bytesOf e :: (DataW.weightsAll Try.prog e (E.map (·.1)) ++ DataW.weightsAll Try.prog e (R.map (·.1))) := by
      rw [hx]
      simp [DataW.weights, ht]
    refine ⟨(List.range len).map f, by simp, hl, hm, fun hpos => ?_, ?_, fun d hd => ?_⟩
    · obtain ⟨b, o, spot⟩ := ad
      have h0 := hff 0 (by simpa using hpos)
      simp only at h0
      obtain ⟨rfl, hlt, _, _⟩ := h0
      refine ⟨b, o, rfl, hlt, fun i vs hvs => ?_⟩
      rw [List.getElem?_map, List.getElem?_map] at hvs
      have hil : i < len := by
        by_cases h : i < len
        · exact h
        · rw [List.getElem?_eq_none (by simpa using h)] at hvs
          cases hvs
      rw [List.getElem?_range hil] at hvs
      obtain rfl : cells (f i) = vs := by simpa using hvs
      exact (hff i hil).2.2.1
    · right
      refine ⟨Nat.mul_le_mul_right _ hl, ?_⟩
      rw [hw, show E.length + R.length = cap by omega]
      exact List.mem_cons_self ..
    · obtain ⟨i, hi', rfl⟩ := List.mem_map.1 hd
      obtain ⟨_, _, _, y, hy, hQ⟩ := hff i (by simpa using hi')
      refine ⟨y.1, hQ, fun n hn => ?_⟩
      rw [hw]
      exact List.mem_cons_of_mem _ (List.mem_append_left _ (weightsAll_mem (List.mem_map_of_mem hy) n hn))
theorem open_va3 {H : Type} {enc : TypeId × Value → H} {W : World} {base : Nat} {sp : Nat → Bool} {held : Bool} {fuel : Nat} {cs : List Value} {x : DataW H × List MemPlace}
    (h : DataW.trod enc Try.prog W base sp held fuel 37 cs = some x) : ∃ v : Va, cs = v.cells3 ∧ v.Fine := by
  obtain ⟨y0, y1, y2, n, _, hl, h0, h1, h2⟩ := Deep.trod_struct3 Try.underlying37 h
  obtain ⟨b, e0, _⟩ := DataW.trod_bool Try.underlying4 h0
  obtain ⟨z, e1, _, w1⟩ := DataW.trod_int Try.underlying2 h1
  obtain ⟨s, e2, _, hs⟩ := DataW.trod_string Try.underlying9 h2
  rw [cVal] at hl
  match cs, hl with
  | [c0, c1, c2], _ =>
    simp [cBool, cI64, cStr] at e0 e1 e2
    subst e0 e1 e2
    exact ⟨⟨b, z, s⟩, rfl, (i64_in w1).1, (i64_in w1).2, hs⟩
def Ce.val (c : Ce) : Value := .agg #[.int .i64 c.id, .bool c.v.b, .int .i64 c.v.n, .string c.v.s]
/-- the bounds of the machine -/
structure Ce.Fine (c : Ce) : Prop where
  lo : -9223372036854775808 ≤ c.id
  hi : c.id ≤ 9223372036854775807
  va : c.v.Fine
theorem open_ce {H : Type} {enc : TypeId × Value → H} {W : World} {base : Nat} {sp : Nat → Bool} {held : Bool} {fuel : Nat} {cs : List Value} {x : DataW H × List MemPlace}
    (h : DataW.trod enc Try.prog W base sp held fuel 39 cs = some x) : ∃ c : Ce, cs = c.cells ∧ c.Fine := by
  obtain ⟨y0, y1, n, _, hl, h0, h1⟩ := Go.ChangeShapes.trod_struct2 Try.underlying39 h
  obtain ⟨z, e0, _, w0⟩ := DataW.trod_int Try.underlying3 h0
  obtain ⟨v, e1, hv⟩ := open_va3 h1
  rw [cCe] at hl
  match cs, hl with
  | [c0, c1, c2, c3], _ =>
    simp [cInt, cVal, Va.cells3] at e0 e1
    obtain ⟨rfl, rfl, rfl⟩ := e1
    subst e0
    exact ⟨⟨z, v⟩, rfl, (i64_in w0).1, (i64_in w0).2, hv⟩
theorem open_cev {H : Type} {enc : TypeId × Value → H} {W : World} {base : Nat} {held : Bool} {v : Value} {d : DataW H} {p : List MemPlace}
    (hv : Value.okWide Try.prog W .any base 39 v) (h : DataW.Trod enc Try.prog W 0 (fun _ => true) held 39 v d p) : ∃ c : Ce, v = c.val ∧ c.Fine := by
  obtain ⟨cs, rfl, _⟩ := okWide_struct Try.underlying39 hv
  obtain ⟨fu, hf⟩ := h
  obtain ⟨c, e, hr⟩ := open_ce hf
  refine ⟨c, ?_, hr⟩
  show Value.agg cs = Value.agg _
  congr 1
  have e : cs.toList = c.cells := by simpa [Value.cells] using e
  exact Array.ext' e
/-- a row that came in: its cells, their room -/
theorem open_rw {H : Type} {enc : TypeId × Value → H} {W : World} {base : Nat} {held : Bool} {v : Value} {d : DataW H} {p : List MemPlace}
    (hv : Value.okWide Try.prog W .any base 29 v) (h : DataW.Trod enc Try.prog W 0 (fun _ => true) held 29 v d p) :
    ∃ (A : Option Addr) (r : List Ce) (c : Nat), v = .agg #[.slice A r.length c] ∧ r.length ≤ c ∧ c ≤ 9223372036854775807 ∧ Ces W W.heap.size A r ∧ ∀ x ∈ r, x.Fine := by
  obtain ⟨cs, rfl, _⟩ := okWide_struct Try.underlying29 hv
  obtain ⟨fu, hf⟩ := h
  obtain ⟨y0, n, _, hl, h0⟩ := Go.ChangeShapes.trod_struct1 Try.underlying29 hf
  have hcs : (Value.agg cs).cells = cs := by simp [Value.cells]
  rw [hcs] at hl h0
  rw [cRow] at hl
  obtain ⟨cs⟩ := cs
  match cs, hl with
  | [c0], _ =>
    have h1 : DataW.trod enc Try.prog W 0 (fun _ => true) held n 27 [c0] = some y0 := h0
    have hs : ∃ A len cap, c0 = .slice A len cap := by
      rcases DataW.trod_slice Try.underlying27 h1 with ⟨e, _⟩ | ⟨ad, len, cap, _, _, _, _, e, _⟩
      · exact ⟨none, 0, 0, by simpa using e⟩
      · exact ⟨some ad, len, cap, by simpa using e⟩
    obtain ⟨A, len, cap, rfl⟩ := hs
    obtain ⟨L, rfl, hc, hm, hR, _, hL⟩ := open_row Ce.cells (fun c _ => c.Fine) ⟨0, Va.nul⟩ 4 (by omega) Try.underlying27 cCe (fun _ => rfl) (fun f' cs y _ hy => open_ce hy) h1
    exact ⟨A, L, cap, rfl, hc, hm, hR, fun x hx => (hL x hx).choose_spec.1⟩
def Pr.nul : Pr := .mk 0 0 0 0 none 0 [] ⟨#[]⟩ none 0 []
/-- what an opened predicate comes with -/
def PrIn {H : Type} (W : World) (p : Pr) (d : DataW H) : Prop := PrAt W W.heap.size p ∧ ((∀ n ∈ d.weights Try.prog 25, n ≤ 140737488351232) → Tame p)
theorem slice_of {H : Type} {enc : TypeId × Value → H} {W : World} {base : Nat} {sp : Nat → Bool} {held : Bool} {fuel : Nat} {c : Value} {x : DataW H × List MemPlace} {t e : TypeId} (ht : Try.prog.underlying t = some (.slice e))
    (h : DataW.trod enc Try.prog W base sp held fuel t [c] = some x) : ∃ A len cap, c = .slice A len cap := by
  rcases DataW.trod_slice ht h with ⟨e, _⟩ | ⟨ad, len, cap, _, _, _, _, e, _⟩
  · exact ⟨none, 0, 0, by simpa using e⟩
  · exact ⟨some ad, len, cap, by simpa using e⟩
theorem open_pr {H : Type} {enc : TypeId × Value → H} {W : World} {held : Bool} : ∀ (fuel : Nat) {cs : List Value} {x : DataW H × List MemPlace},
    DataW.trod enc Try.prog W 0 (fun _ => true) held fuel 25 cs = some x → ∃ p : Pr, cs = p.cells ∧ PrIn W p x.1 := by
  intro fuel
  induction fuel using Nat.strongRecOn with
  | ind fuel ih =>
  intro cs x h
  obtain ⟨xs, n, hfu, hx, hl, hxl, hf⟩ := DataW.trod_struct Try.underlying25 h
  rw [cPr] at hl
  have hx7 : xs.length = 7 := hxl
  match cs, hl, xs, hx7, hf, hx with
  | [c0, c1, c2, c3, c4, c5, c6], _, [y0, y1, y2, y3, y4, y5, y6], _, hf, hx =>
    have g0 := hf 0 _ rfl
    have g1 := hf 1 _ rfl
    have g2 := hf 2 _ rfl
    have g3 := hf 3 _ rfl
    have g4 := hf 4 _ rfl
    have g5 := hf 5 _ rfl
    have g6 := hf 6 _ rfl
    obtain ⟨a0, e0, _, w0⟩ := DataW.trod_int Try.underlying3 g0
    obtain ⟨a1, e1, _, w1⟩ := DataW.trod_int Try.underlying3 g1
    obtain ⟨a2, e2, _, w2⟩ := DataW.trod_int Try.underlying2 g2
    obtain ⟨a3, e3, _, w3⟩ := DataW.trod_int Try.underlying2 g3
    obtain ⟨s5, e5, _, w5⟩ := DataW.trod_string Try.underlying9 g5
    simp [cInt, cI64, cStr] at e0 e1 e2 e3 e5
    have h4 : DataW.trod enc Try.prog W 0 (fun _ => true) held n 22 [c4] = some y4 := by simpa [cVs] using g4
    have h6 : DataW.trod enc Try.prog W 0 (fun _ => true) held n 23 [c6] = some y6 := by simpa [cPs] using g6
    obtain ⟨S, ns, sc, rfl⟩ := slice_of Try.underlying22 h4
    obtain ⟨K, nk, kc, rfl⟩ := slice_of Try.underlying23 h6
    obtain ⟨L, rfl, hc, hm, hR, hW, hL⟩ := open_row Va.cells3 (fun v _ => v.Fine) Va.nul 3 (by omega) Try.underlying22 cVal (fun _ => rfl) (fun f' cs y _ hy => open_va3 hy) h4
    obtain ⟨ks, rfl, hkc, hkm, hkR, _, hkL⟩ := open_row Pr.cells (PrIn W) Pr.nul 7 (by omega) Try.underlying23 cPr (fun _ => rfl) (fun f' cs y hlt hy => ih f' (by omega) hy) h6
    subst e0 e1 e2 e3 e5
    have hwx : ∀ n, n ∈ y4.1.weights Try.prog 22 ∨ n ∈ y6.1.weights Try.prog 23 → n ∈ x.1.weights Try.prog 25 := fun n hn => by
      rw [hx]
      simp only [List.map_cons, List.map_nil, DataW.weights, Try.underlying25, DataW.weightsEach, List.mem_append]
      rcases hn with hn | hn
      · exact .inr (.inr (.inr (.inr (.inl hn))))
      · exact .inr (.inr (.inr (.inr (.inr (.inr (.inl hn))))))
    refine ⟨.mk a0 a1 a2 a3 S sc L s5 K kc ks, rfl, ⟨hR, hc, hm, w5, hkR, hkc, hkm, fun v hv => (hL v hv).choose_spec.1, ⟨(i64_in w1).1, (i64_in w1).2, (i64_in w2).1, (i64_in w2).2, (i64_in w3).1, (i64_in w3).2⟩, fun k hk => (hkL k hk).choose_spec.1.1⟩, fun hall => ⟨?_, fun k hk => ?_⟩⟩
    · show L.length ≤ _
      rcases hW with h0 | ⟨h1, h2⟩
      · omega
      · have := hall _ (hwx _ (.inl h2))
        rw [bVal] at h1 this
        omega
    · obtain ⟨d, ⟨_, hT⟩, hd⟩ := hkL k hk
      exact hT fun n hn => hall n (hwx n (.inr (hd n hn)))
def Pr.val (p : Pr) : Value := .agg #[.int .i64 p.op, .int .i64 p.id, .int .i64 p.lo, .int .i64 p.hi, .slice p.S p.set.length p.sc, .string p.tx, .slice p.K p.kids.length p.kc]
theorem open_prv {H : Type} {enc : TypeId × Value → H} {W : World} {base : Nat} {held : Bool} {v : Value} {d : DataW H} {p : List MemPlace}
    (hv : Value.okWide Try.prog W .any base 25 v) (h : DataW.Trod enc Try.prog W 0 (fun _ => true) held 25 v d p) : ∃ c : Pr, v = c.val ∧ PrIn W c d := by
  obtain ⟨cs, rfl, _⟩ := okWide_struct Try.underlying25 hv
  obtain ⟨fu, hf⟩ := h
  obtain ⟨c, e, hr⟩ := open_pr fu hf
  refine ⟨c, ?_, hr⟩
  show Value.agg cs = Value.agg _
  congr 1
  have e : cs.toList = c.cells := by simpa [Value.cells] using e
  exact Array.ext' e
theorem weights_le {H : Type} {ts : List TypeId} {ds : List (DataW H)} (h : (DataW.weightsEach Try.prog ts ds).all (· ≤ reachBytes) = true) {j : Nat} {t : TypeId} {d : DataW H} (ht : ts[j]? = some t) (hd : ds[j]? = some d) :
    ∀ n ∈ d.weights Try.prog t, n ≤ 140737488351232 := by
  intro n hn
  exact of_decide_eq_true (List.all_eq_true.1 h n (DataW.weights_mem_each ht hd n hn))
end Go.Proofs.Ytkeneoinfegodaa
