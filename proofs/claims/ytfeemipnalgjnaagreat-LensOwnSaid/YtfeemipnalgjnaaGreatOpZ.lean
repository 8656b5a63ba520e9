/-
 Arguments opened: a law's Case, three bytes; the library's own variable.
-/
import Derived.Test.YtfeemipnalgjnaaGreatSnA
import Derived.Test.YtfeemipnalgjnaaGreatGG
import Derived.HandedShaped
import Derived.Shelf.Vars
namespace Go.Proofs.YtfeemipnalgjnaaGreat
open Go.RowKit Go.ChangeShapes Go.WideShapes Go.ChangeAt Go.Deep
set_option maxRecDepth 100000

theorem gv_of {W : World} (h : W.ShapedOpen Tryz.prog) : GV W := cell_of_shapedOpen_int (t := 3) (zero := #[.int .i64 0]) h (of_decide_eq_true (by kernel_rfl)) (by kernel_rfl) rfl (by kernel_rfl) (by kernel_rfl) Tryz.underlying3
theorem cCase : Tryz.prog.cellsOf 27 = 10 := by kernel_rfl
theorem cSlC : Tryz.prog.cellsOf 22 = 1 := by kernel_rfl
theorem cSlV : Tryz.prog.cellsOf 25 = 1 := by kernel_rfl
section
variable {H : Type} {enc : TypeId × Value → H} {W : World} {base : Nat} {held : Bool} {fuel : Nat} {cs : List Value} {x : DataW H × List MemPlace}
theorem sl_ch (h : DataW.trod enc Tryz.prog W 0 (fun _ => true) held fuel 22 cs = some x) : ∃ a len cap, cs = [.slice a len cap] := by
 rcases open_slice Tryz.underlying22 h with ⟨hcs, _⟩ | ⟨ad, len', cap', m, n, D, Pl, hcs, _⟩
 ·
  exact ⟨_, _, _, hcs⟩
 ·
  exact ⟨_, _, _, hcs⟩
theorem sl_va (h : DataW.trod enc Tryz.prog W 0 (fun _ => true) held fuel 25 cs = some x) : ∃ a len cap, cs = [.slice a len cap] := by
 rcases open_slice Tryz.underlying25 h with ⟨hcs, _⟩ | ⟨ad, len', cap', m, n, D, Pl, hcs, _⟩
 ·
  exact ⟨_, _, _, hcs⟩
 ·
  exact ⟨_, _, _, hcs⟩
theorem open_case0 (h : DataW.trod enc Tryz.prog W 0 (fun _ => true) held fuel 27 cs = some x) :
  ∃ (A : Option Addr) (n c : Nat) (l : List Ch) (ch : Ch) (V : Option Addr) (m cv : Nat) (raw : List Va), cs = [.slice A n c, .int .i64 ch.kind, .int .i64 ch.id, .int .i64 ch.wi, .string ch.nm, .string ch.ot, .int .i64 ch.ty, .int .i64 ch.pa, .string ch.sep, .slice V m cv] ∧ n = l.length ∧ Chs W W.heap.size A l ∧ n ≤ 9223372036854775807 ∧ (∀ d ∈ l, RW d) ∧ RW ch ∧ m = raw.length ∧ Vas W W.heap.size V raw ∧ (∀ u ∈ raw, u.Fine) ∧ m ≤ 9223372036854775807 := by
 obtain ⟨y0, y1, y2, k, _, hl, h0, h1, h2⟩ := Deep.trod_struct3 Tryz.underlying27 h
 rw [cCase] at hl
 obtain ⟨A, n, c, e0⟩ := sl_ch h0
 rw [e0] at h0
 obtain ⟨l, hn, hnc, hcm, hE, hR⟩ := open_chs h0
 obtain ⟨ch, e1, hC⟩ := open_ch h1
 obtain ⟨V, m, cv, e2⟩ := sl_va h2
 rw [e2] at h2
 obtain ⟨raw, hm, hmc, hmm, hV, hF⟩ := open_vas h2
 refine ⟨A, n, c, l, ch, V, m, cv, raw, ?_, hn, hE, by omega, hR, hC, hm, hV, hF, by omega⟩
 match cs, hl with
 | [c0, c1, c2, c3, c4, c5, c6, c7, c8, c9], _ =>
  simp [cSlC, cCh, cSlV, Ch.cells] at e0 e1 e2
  obtain ⟨rfl, rfl, rfl, rfl, rfl, rfl, rfl, rfl⟩ := e1
  subst e0 e2
  rfl
end
theorem open_case {H : Type} {enc : TypeId × Value → H} {W : World} {base : Nat} {held : Bool} {v : Value} {d : DataW H} {p : List MemPlace}
  (hv : Value.okWide Tryz.prog W .any base 27 v) (h : DataW.Trod enc Tryz.prog W 0 (fun _ => true) held 27 v d p) :
  ∃ (A : Option Addr) (n c : Nat) (l : List Ch) (ch : Ch) (V : Option Addr) (m cv : Nat) (raw : List Va), v = .agg #[.slice A n c, .int .i64 ch.kind, .int .i64 ch.id, .int .i64 ch.wi, .string ch.nm, .string ch.ot, .int .i64 ch.ty, .int .i64 ch.pa, .string ch.sep, .slice V m cv] ∧ n = l.length ∧ Chs W W.heap.size A l ∧ n ≤ 9223372036854775807 ∧ (∀ d ∈ l, RW d) ∧ RW ch ∧ m = raw.length ∧ Vas W W.heap.size V raw ∧ (∀ u ∈ raw, u.Fine) ∧ m ≤ 9223372036854775807 := by
 obtain ⟨cs, rfl, _⟩ := okWide_struct Tryz.underlying27 hv
 obtain ⟨fu, hf⟩ := h
 obtain ⟨A, n, c, l, ch, V, m, cv, raw, e, hr⟩ := open_case0 hf
 refine ⟨A, n, c, l, ch, V, m, cv, raw, ?_, hr⟩
 show Value.agg cs = Value.agg _
 congr 1
 have e : cs.toList = [.slice A n c, .int .i64 ch.kind, .int .i64 ch.id, .int .i64 ch.wi, .string ch.nm, .string ch.ot, .int .i64 ch.ty, .int .i64 ch.pa, .string ch.sep, .slice V m cv] := by simpa [Value.cells] using e
 exact Array.ext' e
theorem cU3 : Tryz.prog.cellsOf 54 = 3 := by kernel_rfl
theorem cU8 : Tryz.prog.cellsOf 5 = 1 := by kernel_rfl
theorem wide_arr {P : Program} {w : World} {r : Reach} {base : Nat} {t e : TypeId} {n : Nat} {v : Value} (ht : P.underlying t = some (.array n e)) (h : Value.okWide P w r base t v) : ∃ cs, v = .agg cs := by
 unfold Value.okWide at h
 rw [ht] at h
 obtain ⟨cs, hv, _⟩ := h
 exact ⟨cs, hv⟩
theorem u8_in {z : Int} (h : (Lit.int .u8 z).wf = true) : 0 ≤ z ∧ z ≤ 255 := by simpa [Lit.wf, IntKind.min, IntKind.max, IntKind.signed, IntKind.bits] using h
theorem open_u3 {H : Type} {enc : TypeId × Value → H} {W : World} {base : Nat} {held : Bool} {v : Value} {d : DataW H} {p : List MemPlace}
  (hv : Value.okWide Tryz.prog W .any base 54 v) (h : DataW.Trod enc Tryz.prog W 0 (fun _ => true) held 54 v d p) :
  ∃ b0 b1 b2 : Int, v = .agg #[.int .u8 b0, .int .u8 b1, .int .u8 b2] ∧ (0 ≤ b0 ∧ b0 ≤ 255) ∧ (0 ≤ b1 ∧ b1 ≤ 255) ∧ (0 ≤ b2 ∧ b2 ≤ 255) := by
 obtain ⟨cs, rfl⟩ := wide_arr Tryz.underlying54 hv
 obtain ⟨fu, hf⟩ := h
 obtain ⟨xs, m, rfl, hx, hl, hxl, hel⟩ := DataW.trod_array Tryz.underlying54 hf
 rw [cU3] at hl
 have h0 := hel 0 (by decide)
 have h1 := hel 1 (by decide)
 have h2 := hel 2 (by decide)
 rw [cU8, List.getElem?_eq_getElem (by omega)] at h0 h1 h2
 obtain ⟨z0, e0, _, w0⟩ := DataW.trod_int Tryz.underlying5 h0
 obtain ⟨z1, e1, _, w1⟩ := DataW.trod_int Tryz.underlying5 h1
 obtain ⟨z2, e2, _, w2⟩ := DataW.trod_int Tryz.underlying5 h2
 refine ⟨z0, z1, z2, ?_, u8_in w0, u8_in w1, u8_in w2⟩
 congr 1
 apply Array.ext'
 have hl' : cs.toList.length = 3 := hl
 match hc : cs.toList, hl' with
 | [c0, c1, c2], _ =>
  have hc' : (Value.agg cs).cells.toList = [c0, c1, c2] := by simpa [Value.cells] using hc
  rw [hc'] at e0 e1 e2
  simp at e0 e1 e2
  subst e0 e1 e2
  rfl
end Go.Proofs.YtfeemipnalgjnaaGreat
