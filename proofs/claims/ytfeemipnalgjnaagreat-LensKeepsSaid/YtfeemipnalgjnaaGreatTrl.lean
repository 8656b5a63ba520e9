/-
 The program's translate, by a contract.
-/
import Derived.Test.YtfeemipnalgjnaaGreatHb
import Derived.Test.YtfeemipnalgjnaaGreatKlo
namespace Go.Proofs.YtfeemipnalgjnaaGreat
open Go.RowKit

/-- a row and an error -/
def RetE (w w' : World) (r : List Ce × Int) (e : Ending) : Prop := ∃ (A' : Option Addr) (c' : Nat), e = .returned (.tuple #[.agg #[.slice A' r.1.length c'], .int .i64 r.2]) ∧ Own 66 4 w' w.heap.size (.slice A' r.1.length c') (r.1.map Ce.cells)
theorem run_field_row (A : Option Addr) (n c : Nat) (w : World) : (Instr.field 30 (.agg #[.slice A n c]) 0).run Tryz.prog w = .ok (.slice A n c) w := by kernel_rfl
set_option maxHeartbeats 4000000 in
set_option maxRecDepth 20000 in
theorem translate_any (A : Option Addr) (n c : Nat) (x : Int) (l : List Fd) (C : Option Addr) (m d : Nat) (r : List Ce) (v : Value) (D : List Ce → Prop) (φ : List Ce → List Ce) (w : World) (hn : n = l.length) (hs : Fds w w.heap.size A l) (hl : n ≤ 1000) (hm : m = r.length) (hr : Ces w w.heap.size C r) (hml : m ≤ 1000000) (hsz : ∀ c ∈ r, c.v.s.size ≤ 9223372036854775807)
  (hmd : m ≤ d) (hdm : d ≤ 9223372036854775807) (hD : Does w v D φ) (hfit : fitGo l 0 r = true → D r) (hbd : fitGo l 0 r = true → (φ r).length ≤ 1000000) :
  Calls Tryz.prog 38 #[.agg #[.slice A n c, .int .i64 x], .agg #[.slice C m d], v] w fun e w' => RetE w w' (if fitGo l 0 r = true then (φ r, 0) else ([], 7)) e ∧ Below w.heap.size w w' := by
 have HN := Li hn
 have HS := Li hs
 have HM := Li hm
 have HR := Li hr
 have HZ := Li hsz
 have HDo := Li hD
 have oS := Li (al3 w (.cells #[.slice A n c, .int .i64 x] 35) (.cells #[.slice C m d] 30) (.cells #[.slice none 0 0] 30))
 have R0 := Li ((CB.new1 w (.cells #[.slice A n c, .int .i64 x] 35) 30 [.slice C m d]).alloc (.cells #[.slice none 0 0] 30))
 have T0 := Li (CB.new2 w (.cells #[.slice A n c, .int .i64 x] 35) (.cells #[.slice C m d] 30) 30 [.slice none 0 0])
 clear hn hs hm hr hsz hD
 cases hz : fitGo l 0 r with
 | false =>
  have HF := Li hz
  clear hz hfit hbd
  go_enter Tryz.func38, Tryz.ntmps38
  go_wp2_with (go_at_call 43; refine (Fits_any A n c x l C m d r _ HN.out (HS.out.up oS.out) (by omega) HM.out (HR.out.up oS.out) (by omega) HZ.out).mono ?_; rintro e w1 ⟨rfl, hb1⟩; rw [HF.out]; have B1 := Li (below_step oS.out oS.out.size hb1); have T1 := Li (T0.out.up hb1); have zT := T1.out.lt; have t0 := T1.out.cell 0 rfl; have tf := T1.out.frozen 0; clear hb1)
  refine bodyPost_ret (res_cell Tryz.results38 rfl rfl (T1.out.set_ 0 (.slice none 0 0)) Tryz.underlying30 sizeRw rfl) rfl ⟨⟨none, 0, rfl, Own.nil _ _ _ _⟩, B1.out.setCell (p := ⟨w.heap.size + 1 + 1, 0, none⟩) (by show w.heap.size ≤ w.heap.size + 1 + 1; omega) _⟩
 | true =>
  have HF := Li hz
  have HDr := Li (hfit hz)
  have HBd := Li (hbd hz)
  clear hz hfit hbd
  obtain ⟨f, cs, rfl, he, hcall⟩ := HDo.out
  have HCall := Li hcall
  have hfr := run_field_row
  clear hcall
  go_enter Tryz.func38, Tryz.ntmps38
  go_wp2_with (first | (go_at_call 43; refine (Fits_any A n c x l C m d r _ HN.out (HS.out.up oS.out) (by omega) HM.out (HR.out.up oS.out) (by omega) HZ.out).mono ?_; rintro e w1 ⟨rfl, hb1⟩; rw [HF.out]; have B1 := Li (below_step oS.out oS.out.size hb1); have T1 := Li (T0.out.up hb1); have R1 := Li (R0.out.up hb1); have zR := R1.out.lt; have r0 := R1.out.cell 0 rfl; clear hb1) | (go_at_fn f; go_loud (refine (HCall.out _ C m d r B1.out HM.out (HR.out.up B1.out) hmd hdm HDr.out).mono ?_; rintro e w2 ⟨hd2, hb2⟩; obtain ⟨A2, c2, rfl, hs2, hc2, hm2⟩ := hd2.c hb2 (HR.out.up B1.out) (by rw [← HM.out]; exact hmd) hdm; have B2 := Li (below_step B1.out B1.out.size hb2); have T2 := Li (T1.out.up hb2); have S2 := Li hs2; clear hb2 hs2)) | (go_at_call 71; refine (CloneC_any A2 (φ r).length c2 (φ r) _ rfl S2.out HBd.out).mono ?_; rintro e w3 ⟨A3, c3, rfl, ho3, hb3⟩; have B3 := Li (below_step B2.out B2.out.size hb3); have T3 := Li (T2.out.up hb3); have O3 := Li (ho3.low (b := w.heap.size) B2.out.size); have zT := T3.out.lt; have t0 := T3.out.cell 0 rfl; have tf := T3.out.frozen 0; clear hb3 ho3))
  have hne := O3.out.ne T3.out (by decide)
  refine bodyPost_ret (res_cell Tryz.results38 rfl rfl (T3.out.set_ 0 (.slice A3 (φ r).length c3)) Tryz.underlying30 sizeRw rfl) rfl ⟨⟨A3, c3, rfl, O3.out.set_ 0 _ hne⟩, B3.out.setCell (p := ⟨w.heap.size + 1 + 1, 0, none⟩) (by show w.heap.size ≤ w.heap.size + 1 + 1; omega) _⟩
end Go.Proofs.YtfeemipnalgjnaaGreat
