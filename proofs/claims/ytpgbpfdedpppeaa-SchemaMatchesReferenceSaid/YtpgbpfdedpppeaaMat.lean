/-
  SchemaMatchesReference, walked.
-/
import Derived.Test.YtpgbpfdedpppeaaSanW
import Derived.Test.YtpgbpfdedpppeaaRAft
import Derived.Test.YtpgbpfdedpppeaaRFnd
import Derived.Test.YtpgbpfdedpppeaaHand
import Derived.Deep.CutRange
import Derived.Deep.DeepCutAuto
import Derived.BigQuiet
namespace Go.Proofs.Ytpgbpfdedpppeaa.mat
open Go.RowKit Go.Proofs.Ytpgbpfdedpppeaa

theorem run_eq_fd_self (w : World) (i : Int) (s : ByteArray) (t p : Int) : (binOp .eql 41 (.agg #[.int .i64 i, .string s, .int .i64 t, .int .i64 p]) (.agg #[.int .i64 i, .string s, .int .i64 t, .int .i64 p])).run Try.prog w = .ok (.bool true) w := by
  simp [go_sem]
theorem small_nm {b : ByteArray} (h : namB b = true) : b.size ≤ 1000000 := by
  unfold namB at h
  simp only [Bool.and_eq_true, decide_eq_true_iff] at h
  omega
theorem apply_len {s : Sc} (ho : Ok s) {c : Ch} {f : List Fd} {y e : Int} (h : applyP s c = (⟨f, y⟩, e)) : f.length ≤ 9223372036854775807 := by
  by_cases he : e = 0
  · have := (ok_apply ho (c := c) (by rw [h]; exact he)).1.big.1
    rw [h] at this
    simp only at this
    omega
  · have := err_apply (s := s) (c := c) (by rw [h]; exact he)
    rw [h] at this
    simp only [Sc.zero, Sc.mk.injEq] at this
    rw [this.1]
    simp
attribute [local go_sem high] run_eq_fd_self
set_option maxHeartbeats 8000000 in
set_option maxRecDepth 20000 in
theorem walk (A : Option Addr) (cap : Nat) (L : List Ch) (cc : Ch) (z : Int) (W : World) (hE : Chs W W.heap.size A L) (hrw : ∀ d ∈ L, RW d) (hlc : L.length ≤ cap) (hcm : cap ≤ 9223372036854775807) (hcc : RW cc) (hz1 : -128 ≤ z) (hz2 : z ≤ 127) :
    Calls Try.prog 3 #[.slice A L.length cap, cc.val, .int .i8 z] W fun e W' => e = .returned (.bool true) ∧ Below W.heap.size W W' := by
  obtain ⟨kd, id, wi, nm, ot, ty, pa, sep⟩ := cc
  have hkd := hcc.kind
  have hid := hcc.id
  have hwi := hcc.wi
  have hty := hcc.ty
  have hpa := hcc.pa
  have hnm : nm.size ≤ 9223372036854775807 := hcc.nm
  have hot : ot.size ≤ 9223372036854775807 := hcc.ot
  have hsp : sep.size ≤ 9223372036854775807 := hcc.sep
  have HE := Lib.hid hE
  have HR := Lib.hid hrw
  obtain ⟨M, hM⟩ : ∃ M, madeR L 40 = M := ⟨_, rfl⟩
  have hML : M.length ≤ 40 := by
    rw [← hM]
    have := made_len (l := L.take 40) (s := Sc.new)
    rw [List.length_take] at this
    unfold madeR
    omega
  obtain ⟨_, h2, _, h4, _⟩ := numbers (l := L) (n := 40) (k := 0)
  have hMW := made_rw ok_new (fun c hc => hrw c (List.mem_of_mem_take hc)) (l := L.take 40)
  rw [show madeG Sc.new (L.take 40) = M from hM] at hMW
  rw [hM] at h2 h4
  obtain ⟨⟨⟨fs, x⟩, iL, eL⟩, hqL⟩ : ∃ r, aftP M = r := ⟨_, rfl⟩
  rw [hqL] at h2 h4
  obtain rfl : eL = 0 := h2
  have hlL : fs.length ≤ 64 := h4.big.1
  have hx2 : x ≤ 1073741824 := h4.big.2
  have hx3 : 1 ≤ x := h4.nx
  obtain ⟨⟨⟨ft, xt⟩, et⟩, hqt⟩ : ∃ r, applyP ⟨fs, x⟩ ⟨kd, id, wi, nm, ot, ty, pa, sep⟩ = r := ⟨_, rfl⟩
  obtain ⟨cd, hcd⟩ : ∃ r, chgR ⟨fs, x⟩ ⟨kd, id, wi, nm, ot, ty, pa, sep⟩ = r := ⟨_, rfl⟩
  obtain ⟨⟨⟨fu, xu⟩, eu⟩, hqu⟩ : ∃ r, applyP ⟨fs, x⟩ ⟨cd.kind, cd.id, cd.wi, cd.nm, cd.ot, cd.ty, cd.pa, cd.sep⟩ = r := ⟨_, rfl⟩
  have hqr := hqt
  rw [apply_eq h4] at hqr
  have hqv := hqu
  rw [apply_eq h4] at hqv
  have hlt := apply_len h4 hqt
  have hlu := apply_len h4 hqu
  have hcw : RW cd := by rw [← hcd]; exact chg_rw hcc hx2
  have HM := Lib.hid hM
  have HW := Lib.hid hMW
  have HQL := Lib.hid hqL
  have HOK := Lib.hid h4
  have HQT := Lib.hid hqt
  have HQU := Lib.hid hqu
  have HQR := Lib.hid hqr
  have HQV := Lib.hid hqv
  have HCD := Lib.hid hcd
  have HCW := Lib.hid hcw
  have HSS := Lib.hid (show sameS ⟨fs, x⟩ ⟨fs, x⟩ = true from (sameS_iff _ _).2 rfl)
  have HST := Lib.hid (show sameS ⟨ft, xt⟩ ⟨ft, xt⟩ = true from (sameS_iff _ _).2 rfl)
  have HSU := Lib.hid (show sameS ⟨fu, xu⟩ ⟨fu, xu⟩ = true from (sameS_iff _ _).2 rfl)
  have HNL : Hid (AllN (fun s => s.size ≤ 9223372036854775807) fs) := fun f hf => nam_small (h4.nam.1 f hf)
  have HSZ : Hid (∀ f ∈ fs, f.nm.size ≤ 1000000) := fun f hf => small_nm (h4.nam.1 f hf)
  have hl2 : L.length ≤ 9223372036854775807 := by omega
  have hMl : M.length ≤ 1000000 := by omega
  have hfl : fs.length ≤ 9223372036854775807 := by omega
  have hl0 : fs.length ≤ 1000 := by omega
  have hl1 : fs.length ≤ 1000000 := by omega
  have hx0 : 0 ≤ x := by omega
  have hx1 : x ≤ 2305843009213693952 := by omega
  have C0 := Lib.hid (CB.new W 24 [.int .i64 kd, .int .i64 id, .int .i64 wi, .string nm, .string ot, .int .i64 ty, .int .i64 pa, .string sep])
  have B0 := Lib.hid (al1 W (.cells #[.int .i64 kd, .int .i64 id, .int .i64 wi, .string nm, .string ot, .int .i64 ty, .int .i64 pa, .string sep] 24))
  have tk5 : Hid True := Lib.hid trivial
  clear hE hrw hM hMW hqL h4 hqt hqu hqr hqv hcd hcw hcc
  by_cases hb0 : (100 : Int) < (nm.size : Int)
  · as_aux_lemma =>
    have d1 : decide ((100 : Int) < (nm.size : Int)) = true := decide_eq_true hb0
    clear hb0
    go_enter Try.func3, Try.ntmps3
    go_wp2_with (first | (go_at_call 9; refine (sanity_any _).mono ?_; rintro e w1 ⟨rfl, hb1⟩; have B1 := Lib.hid (below_step B0.out B0.out.size hb1); have C1 := Lib.hid (C0.out.up hb1); clear hb1) | (go_at_call 10; refine (RMade_any A L.length cap 40 L _ rfl (HE.out.up B1.out) hl2 (by decide) HR.out).mono ?_; rintro e w2 ⟨⟨A2, c2, rfl, ho2⟩, hb2⟩; rw [HM.out] at ho2; rw [HM.out]; have B2 := Lib.hid (below_step B1.out B1.out.size hb2); have C2 := Lib.hid (C1.out.up hb2); have O2 := Lib.hid (ho2.low (b := W.heap.size) B1.out.size); clear hb2 ho2) | (go_at_call 11; refine (After_any A2 M.length c2 M _ rfl (show Chs w2 w2.heap.size A2 M from O2.out.row.2.2.2) hMl (fun d hd => (HW.out d hd).cw)).mono ?_; rintro e w3 ⟨⟨A3, n3, c3, rfl, hn3, ho3⟩, hb3⟩; rw [HQL.out] at hn3 ho3; rw [HQL.out]; obtain rfl : n3 = fs.length := hn3; have B3 := Lib.hid (below_step B2.out B2.out.size hb3); have C3 := Lib.hid (C2.out.up hb3); have O3 := Lib.hid (O2.out.up hb3); have P3 := Lib.hid (ho3.low (b := W.heap.size) B2.out.size); clear hb3 ho3) | (go_at_call 12; refine (RAfter_any A2 M.length c2 M _ rfl ((show Chs w3 w3.heap.size A2 M from O3.out.row.2.2.2).up (al1 _ _)) hMl HW.out).mono ?_; rintro e w4 ⟨⟨A4, n4, c4, rfl, hn4, ho4⟩, hb4⟩; rw [HQL.out] at hn4 ho4; rw [HQL.out]; obtain rfl : n4 = fs.length := hn4; have hw4 : Below w3.heap.size w3 w4 := (al1 w3 (.cells #[.slice A3 fs.length c3, .int .i64 x] 30)).trans (hb4.mono (al1 w3 (.cells #[.slice A3 fs.length c3, .int .i64 x] 30)).size); have B4 := Lib.hid (below_step B3.out B3.out.size hw4); have S4 := Lib.hid ((CB.new w3 30 [.slice A3 fs.length c3, .int .i64 x]).up hb4); have C4 := Lib.hid (C3.out.up hw4); have P4 := Lib.hid (P3.out.up hw4); have Q4 := Lib.hid (ho4.low (b := W.heap.size) (Nat.le_trans B3.out.size (al1 w3 (.cells #[.slice A3 fs.length c3, .int .i64 x] 30)).size)); have zS4 := S4.out.lt; have jS40 := S4.out.cell 0 rfl; have jS41 := S4.out.cell 1 rfl; clear hb4 ho4 hw4) | (have tt := tk5; go_at_call 13; refine (RSame_any A3 fs.length c3 x fs A4 fs.length c4 x fs _ rfl ((show Fds w4 w4.heap.size A3 fs from P4.out.row.2.2.2).up (al1 _ _)) rfl ((show Fds w4 w4.heap.size A4 fs from Q4.out.row.2.2.2).up (al1 _ _)) hfl hfl).mono ?_; rintro e w5 ⟨rfl, hb5⟩; rw [HSS.out]; have hw5 : Below w4.heap.size w4 w5 := (al1 w4 (.cells #[.slice A4 fs.length c4, .int .i64 x] 30)).trans (hb5.mono (al1 w4 (.cells #[.slice A4 fs.length c4, .int .i64 x] 30)).size); have B5 := Lib.hid (below_step B4.out B4.out.size hw5); have X5 := Lib.hid ((CB.new w4 30 [.slice A4 fs.length c4, .int .i64 x]).up hb5); have C5 := Lib.hid (C4.out.up hw5); have Q5 := Lib.hid (Q4.out.up hw5); have zC5 := C5.out.lt; have jC50 := C5.out.cell 0 rfl; have jC51 := C5.out.cell 1 rfl; have jC52 := C5.out.cell 2 rfl; have jC53 := C5.out.cell 3 rfl; have jC54 := C5.out.cell 4 rfl; have jC55 := C5.out.cell 5 rfl; have jC56 := C5.out.cell 6 rfl; have jC57 := C5.out.cell 7 rfl; have zX5 := X5.out.lt; have jX50 := X5.out.cell 0 rfl; have jX51 := X5.out.cell 1 rfl; clear hb5 hw5 tt tk5) | (go_at_call 14; refine (Apply_any A4 fs.length c4 x fs kd id wi nm ot ty pa sep _ rfl (show Fds w5 w5.heap.size A4 fs from Q5.out.row.2.2.2) hl0 hx0 hx1 hsp HNL.out hnm hot hkd).mono ?_; rintro e w6 ⟨⟨A6, n6, c6, rfl, hn6, ho6⟩, hb6⟩; rw [HQT.out] at hn6 ho6; rw [HQT.out]; obtain rfl : n6 = ft.length := hn6; have B6 := Lib.hid (below_step B5.out B5.out.size hb6); have C6 := Lib.hid (C5.out.up hb6); have X6 := Lib.hid (X5.out.up hb6); have Q6 := Lib.hid (Q5.out.up hb6); have T6 := Lib.hid (ho6.low (b := W.heap.size) B5.out.size); have zC6 := C6.out.lt; have jC60 := C6.out.cell 0 rfl; have jC61 := C6.out.cell 1 rfl; have jC62 := C6.out.cell 2 rfl; have jC63 := C6.out.cell 3 rfl; have jC64 := C6.out.cell 4 rfl; have jC65 := C6.out.cell 5 rfl; have jC66 := C6.out.cell 6 rfl; have jC67 := C6.out.cell 7 rfl; have zX6 := X6.out.lt; have jX60 := X6.out.cell 0 rfl; have jX61 := X6.out.cell 1 rfl; clear hb6 ho6) | (go_at_call 15; refine (RApply_any A4 fs.length c4 x fs kd id wi nm ot ty pa sep _ rfl ((show Fds w6 w6.heap.size A4 fs from Q6.out.row.2.2.2).up (al1 _ _)) hl0 hx0 hx1 hnm hot hsp HNL.out).mono ?_; rintro e w7 ⟨⟨A7, n7, c7, rfl, hn7, ho7⟩, hb7⟩; rw [HQR.out] at hn7 ho7; rw [HQR.out]; obtain rfl : n7 = ft.length := hn7; have hw7 : Below w6.heap.size w6 w7 := (al1 w6 (.cells #[.slice A6 ft.length c6, .int .i64 xt] 30)).trans (hb7.mono (al1 w6 (.cells #[.slice A6 ft.length c6, .int .i64 xt] 30)).size); have B7 := Lib.hid (below_step B6.out B6.out.size hw7); have Y7 := Lib.hid ((CB.new w6 30 [.slice A6 ft.length c6, .int .i64 xt]).up hb7); have C7 := Lib.hid (C6.out.up hw7); have X7 := Lib.hid (X6.out.up hw7); have Q7 := Lib.hid (Q6.out.up hw7); have T7 := Lib.hid (T6.out.up hw7); have R7 := Lib.hid (ho7.low (b := W.heap.size) (Nat.le_trans B6.out.size (al1 w6 (.cells #[.slice A6 ft.length c6, .int .i64 xt] 30)).size)); clear hb7 ho7 hw7))
    go_ret
    exact ⟨rfl, B5.out⟩
  have d1 : decide ((100 : Int) < (nm.size : Int)) = false := decide_eq_false hb0
  by_cases hb1 : (100 : Int) < (ot.size : Int)
  · as_aux_lemma =>
    have d2 : decide ((100 : Int) < (ot.size : Int)) = true := decide_eq_true hb1
    clear hb0 hb1
    go_enter Try.func3, Try.ntmps3
    go_wp2_with (first | (go_at_call 9; refine (sanity_any _).mono ?_; rintro e w1 ⟨rfl, hb1⟩; have B1 := Lib.hid (below_step B0.out B0.out.size hb1); have C1 := Lib.hid (C0.out.up hb1); clear hb1) | (go_at_call 10; refine (RMade_any A L.length cap 40 L _ rfl (HE.out.up B1.out) hl2 (by decide) HR.out).mono ?_; rintro e w2 ⟨⟨A2, c2, rfl, ho2⟩, hb2⟩; rw [HM.out] at ho2; rw [HM.out]; have B2 := Lib.hid (below_step B1.out B1.out.size hb2); have C2 := Lib.hid (C1.out.up hb2); have O2 := Lib.hid (ho2.low (b := W.heap.size) B1.out.size); clear hb2 ho2) | (go_at_call 11; refine (After_any A2 M.length c2 M _ rfl (show Chs w2 w2.heap.size A2 M from O2.out.row.2.2.2) hMl (fun d hd => (HW.out d hd).cw)).mono ?_; rintro e w3 ⟨⟨A3, n3, c3, rfl, hn3, ho3⟩, hb3⟩; rw [HQL.out] at hn3 ho3; rw [HQL.out]; obtain rfl : n3 = fs.length := hn3; have B3 := Lib.hid (below_step B2.out B2.out.size hb3); have C3 := Lib.hid (C2.out.up hb3); have O3 := Lib.hid (O2.out.up hb3); have P3 := Lib.hid (ho3.low (b := W.heap.size) B2.out.size); clear hb3 ho3) | (go_at_call 12; refine (RAfter_any A2 M.length c2 M _ rfl ((show Chs w3 w3.heap.size A2 M from O3.out.row.2.2.2).up (al1 _ _)) hMl HW.out).mono ?_; rintro e w4 ⟨⟨A4, n4, c4, rfl, hn4, ho4⟩, hb4⟩; rw [HQL.out] at hn4 ho4; rw [HQL.out]; obtain rfl : n4 = fs.length := hn4; have hw4 : Below w3.heap.size w3 w4 := (al1 w3 (.cells #[.slice A3 fs.length c3, .int .i64 x] 30)).trans (hb4.mono (al1 w3 (.cells #[.slice A3 fs.length c3, .int .i64 x] 30)).size); have B4 := Lib.hid (below_step B3.out B3.out.size hw4); have S4 := Lib.hid ((CB.new w3 30 [.slice A3 fs.length c3, .int .i64 x]).up hb4); have C4 := Lib.hid (C3.out.up hw4); have P4 := Lib.hid (P3.out.up hw4); have Q4 := Lib.hid (ho4.low (b := W.heap.size) (Nat.le_trans B3.out.size (al1 w3 (.cells #[.slice A3 fs.length c3, .int .i64 x] 30)).size)); have zS4 := S4.out.lt; have jS40 := S4.out.cell 0 rfl; have jS41 := S4.out.cell 1 rfl; clear hb4 ho4 hw4) | (have tt := tk5; go_at_call 13; refine (RSame_any A3 fs.length c3 x fs A4 fs.length c4 x fs _ rfl ((show Fds w4 w4.heap.size A3 fs from P4.out.row.2.2.2).up (al1 _ _)) rfl ((show Fds w4 w4.heap.size A4 fs from Q4.out.row.2.2.2).up (al1 _ _)) hfl hfl).mono ?_; rintro e w5 ⟨rfl, hb5⟩; rw [HSS.out]; have hw5 : Below w4.heap.size w4 w5 := (al1 w4 (.cells #[.slice A4 fs.length c4, .int .i64 x] 30)).trans (hb5.mono (al1 w4 (.cells #[.slice A4 fs.length c4, .int .i64 x] 30)).size); have B5 := Lib.hid (below_step B4.out B4.out.size hw5); have X5 := Lib.hid ((CB.new w4 30 [.slice A4 fs.length c4, .int .i64 x]).up hb5); have C5 := Lib.hid (C4.out.up hw5); have Q5 := Lib.hid (Q4.out.up hw5); have zC5 := C5.out.lt; have jC50 := C5.out.cell 0 rfl; have jC51 := C5.out.cell 1 rfl; have jC52 := C5.out.cell 2 rfl; have jC53 := C5.out.cell 3 rfl; have jC54 := C5.out.cell 4 rfl; have jC55 := C5.out.cell 5 rfl; have jC56 := C5.out.cell 6 rfl; have jC57 := C5.out.cell 7 rfl; have zX5 := X5.out.lt; have jX50 := X5.out.cell 0 rfl; have jX51 := X5.out.cell 1 rfl; clear hb5 hw5 tt tk5) | (go_at_call 14; refine (Apply_any A4 fs.length c4 x fs kd id wi nm ot ty pa sep _ rfl (show Fds w5 w5.heap.size A4 fs from Q5.out.row.2.2.2) hl0 hx0 hx1 hsp HNL.out hnm hot hkd).mono ?_; rintro e w6 ⟨⟨A6, n6, c6, rfl, hn6, ho6⟩, hb6⟩; rw [HQT.out] at hn6 ho6; rw [HQT.out]; obtain rfl : n6 = ft.length := hn6; have B6 := Lib.hid (below_step B5.out B5.out.size hb6); have C6 := Lib.hid (C5.out.up hb6); have X6 := Lib.hid (X5.out.up hb6); have Q6 := Lib.hid (Q5.out.up hb6); have T6 := Lib.hid (ho6.low (b := W.heap.size) B5.out.size); have zC6 := C6.out.lt; have jC60 := C6.out.cell 0 rfl; have jC61 := C6.out.cell 1 rfl; have jC62 := C6.out.cell 2 rfl; have jC63 := C6.out.cell 3 rfl; have jC64 := C6.out.cell 4 rfl; have jC65 := C6.out.cell 5 rfl; have jC66 := C6.out.cell 6 rfl; have jC67 := C6.out.cell 7 rfl; have zX6 := X6.out.lt; have jX60 := X6.out.cell 0 rfl; have jX61 := X6.out.cell 1 rfl; clear hb6 ho6) | (go_at_call 15; refine (RApply_any A4 fs.length c4 x fs kd id wi nm ot ty pa sep _ rfl ((show Fds w6 w6.heap.size A4 fs from Q6.out.row.2.2.2).up (al1 _ _)) hl0 hx0 hx1 hnm hot hsp HNL.out).mono ?_; rintro e w7 ⟨⟨A7, n7, c7, rfl, hn7, ho7⟩, hb7⟩; rw [HQR.out] at hn7 ho7; rw [HQR.out]; obtain rfl : n7 = ft.length := hn7; have hw7 : Below w6.heap.size w6 w7 := (al1 w6 (.cells #[.slice A6 ft.length c6, .int .i64 xt] 30)).trans (hb7.mono (al1 w6 (.cells #[.slice A6 ft.length c6, .int .i64 xt] 30)).size); have B7 := Lib.hid (below_step B6.out B6.out.size hw7); have Y7 := Lib.hid ((CB.new w6 30 [.slice A6 ft.length c6, .int .i64 xt]).up hb7); have C7 := Lib.hid (C6.out.up hw7); have X7 := Lib.hid (X6.out.up hw7); have Q7 := Lib.hid (Q6.out.up hw7); have T7 := Lib.hid (T6.out.up hw7); have R7 := Lib.hid (ho7.low (b := W.heap.size) (Nat.le_trans B6.out.size (al1 w6 (.cells #[.slice A6 ft.length c6, .int .i64 xt] 30)).size)); clear hb7 ho7 hw7))
    go_ret
    exact ⟨rfl, B5.out⟩
  have d2 : decide ((100 : Int) < (ot.size : Int)) = false := decide_eq_false hb1
  by_cases hb2 : (100 : Int) < (sep.size : Int)
  · as_aux_lemma =>
    have d3 : decide ((100 : Int) < (sep.size : Int)) = true := decide_eq_true hb2
    clear hb0 hb1 hb2
    go_enter Try.func3, Try.ntmps3
    go_wp2_with (first | (go_at_call 9; refine (sanity_any _).mono ?_; rintro e w1 ⟨rfl, hb1⟩; have B1 := Lib.hid (below_step B0.out B0.out.size hb1); have C1 := Lib.hid (C0.out.up hb1); clear hb1) | (go_at_call 10; refine (RMade_any A L.length cap 40 L _ rfl (HE.out.up B1.out) hl2 (by decide) HR.out).mono ?_; rintro e w2 ⟨⟨A2, c2, rfl, ho2⟩, hb2⟩; rw [HM.out] at ho2; rw [HM.out]; have B2 := Lib.hid (below_step B1.out B1.out.size hb2); have C2 := Lib.hid (C1.out.up hb2); have O2 := Lib.hid (ho2.low (b := W.heap.size) B1.out.size); clear hb2 ho2) | (go_at_call 11; refine (After_any A2 M.length c2 M _ rfl (show Chs w2 w2.heap.size A2 M from O2.out.row.2.2.2) hMl (fun d hd => (HW.out d hd).cw)).mono ?_; rintro e w3 ⟨⟨A3, n3, c3, rfl, hn3, ho3⟩, hb3⟩; rw [HQL.out] at hn3 ho3; rw [HQL.out]; obtain rfl : n3 = fs.length := hn3; have B3 := Lib.hid (below_step B2.out B2.out.size hb3); have C3 := Lib.hid (C2.out.up hb3); have O3 := Lib.hid (O2.out.up hb3); have P3 := Lib.hid (ho3.low (b := W.heap.size) B2.out.size); clear hb3 ho3) | (go_at_call 12; refine (RAfter_any A2 M.length c2 M _ rfl ((show Chs w3 w3.heap.size A2 M from O3.out.row.2.2.2).up (al1 _ _)) hMl HW.out).mono ?_; rintro e w4 ⟨⟨A4, n4, c4, rfl, hn4, ho4⟩, hb4⟩; rw [HQL.out] at hn4 ho4; rw [HQL.out]; obtain rfl : n4 = fs.length := hn4; have hw4 : Below w3.heap.size w3 w4 := (al1 w3 (.cells #[.slice A3 fs.length c3, .int .i64 x] 30)).trans (hb4.mono (al1 w3 (.cells #[.slice A3 fs.length c3, .int .i64 x] 30)).size); have B4 := Lib.hid (below_step B3.out B3.out.size hw4); have S4 := Lib.hid ((CB.new w3 30 [.slice A3 fs.length c3, .int .i64 x]).up hb4); have C4 := Lib.hid (C3.out.up hw4); have P4 := Lib.hid (P3.out.up hw4); have Q4 := Lib.hid (ho4.low (b := W.heap.size) (Nat.le_trans B3.out.size (al1 w3 (.cells #[.slice A3 fs.length c3, .int .i64 x] 30)).size)); have zS4 := S4.out.lt; have jS40 := S4.out.cell 0 rfl; have jS41 := S4.out.cell 1 rfl; clear hb4 ho4 hw4) | (have tt := tk5; go_at_call 13; refine (RSame_any A3 fs.length c3 x fs A4 fs.length c4 x fs _ rfl ((show Fds w4 w4.heap.size A3 fs from P4.out.row.2.2.2).up (al1 _ _)) rfl ((show Fds w4 w4.heap.size A4 fs from Q4.out.row.2.2.2).up (al1 _ _)) hfl hfl).mono ?_; rintro e w5 ⟨rfl, hb5⟩; rw [HSS.out]; have hw5 : Below w4.heap.size w4 w5 := (al1 w4 (.cells #[.slice A4 fs.length c4, .int .i64 x] 30)).trans (hb5.mono (al1 w4 (.cells #[.slice A4 fs.length c4, .int .i64 x] 30)).size); have B5 := Lib.hid (below_step B4.out B4.out.size hw5); have X5 := Lib.hid ((CB.new w4 30 [.slice A4 fs.length c4, .int .i64 x]).up hb5); have C5 := Lib.hid (C4.out.up hw5); have Q5 := Lib.hid (Q4.out.up hw5); have zC5 := C5.out.lt; have jC50 := C5.out.cell 0 rfl; have jC51 := C5.out.cell 1 rfl; have jC52 := C5.out.cell 2 rfl; have jC53 := C5.out.cell 3 rfl; have jC54 := C5.out.cell 4 rfl; have jC55 := C5.out.cell 5 rfl; have jC56 := C5.out.cell 6 rfl; have jC57 := C5.out.cell 7 rfl; have zX5 := X5.out.lt; have jX50 := X5.out.cell 0 rfl; have jX51 := X5.out.cell 1 rfl; clear hb5 hw5 tt tk5) | (go_at_call 14; refine (Apply_any A4 fs.length c4 x fs kd id wi nm ot ty pa sep _ rfl (show Fds w5 w5.heap.size A4 fs from Q5.out.row.2.2.2) hl0 hx0 hx1 hsp HNL.out hnm hot hkd).mono ?_; rintro e w6 ⟨⟨A6, n6, c6, rfl, hn6, ho6⟩, hb6⟩; rw [HQT.out] at hn6 ho6; rw [HQT.out]; obtain rfl : n6 = ft.length := hn6; have B6 := Lib.hid (below_step B5.out B5.out.size hb6); have C6 := Lib.hid (C5.out.up hb6); have X6 := Lib.hid (X5.out.up hb6); have Q6 := Lib.hid (Q5.out.up hb6); have T6 := Lib.hid (ho6.low (b := W.heap.size) B5.out.size); have zC6 := C6.out.lt; have jC60 := C6.out.cell 0 rfl; have jC61 := C6.out.cell 1 rfl; have jC62 := C6.out.cell 2 rfl; have jC63 := C6.out.cell 3 rfl; have jC64 := C6.out.cell 4 rfl; have jC65 := C6.out.cell 5 rfl; have jC66 := C6.out.cell 6 rfl; have jC67 := C6.out.cell 7 rfl; have zX6 := X6.out.lt; have jX60 := X6.out.cell 0 rfl; have jX61 := X6.out.cell 1 rfl; clear hb6 ho6) | (go_at_call 15; refine (RApply_any A4 fs.length c4 x fs kd id wi nm ot ty pa sep _ rfl ((show Fds w6 w6.heap.size A4 fs from Q6.out.row.2.2.2).up (al1 _ _)) hl0 hx0 hx1 hnm hot hsp HNL.out).mono ?_; rintro e w7 ⟨⟨A7, n7, c7, rfl, hn7, ho7⟩, hb7⟩; rw [HQR.out] at hn7 ho7; rw [HQR.out]; obtain rfl : n7 = ft.length := hn7; have hw7 : Below w6.heap.size w6 w7 := (al1 w6 (.cells #[.slice A6 ft.length c6, .int .i64 xt] 30)).trans (hb7.mono (al1 w6 (.cells #[.slice A6 ft.length c6, .int .i64 xt] 30)).size); have B7 := Lib.hid (below_step B6.out B6.out.size hw7); have Y7 := Lib.hid ((CB.new w6 30 [.slice A6 ft.length c6, .int .i64 xt]).up hb7); have C7 := Lib.hid (C6.out.up hw7); have X7 := Lib.hid (X6.out.up hw7); have Q7 := Lib.hid (Q6.out.up hw7); have T7 := Lib.hid (T6.out.up hw7); have R7 := Lib.hid (ho7.low (b := W.heap.size) (Nat.le_trans B6.out.size (al1 w6 (.cells #[.slice A6 ft.length c6, .int .i64 xt] 30)).size)); clear hb7 ho7 hw7))
    go_ret
    exact ⟨rfl, B5.out⟩
  have d3 : decide ((100 : Int) < (sep.size : Int)) = false := decide_eq_false hb2
  clear hb0 hb1 hb2
  go_enter Try.func3, Try.ntmps3
  go_upto_region 11 with (first | (go_at_call 9; refine (sanity_any _).mono ?_; rintro e w1 ⟨rfl, hb1⟩; have B1 := Lib.hid (below_step B0.out B0.out.size hb1); have C1 := Lib.hid (C0.out.up hb1); clear hb1) | (go_at_call 10; refine (RMade_any A L.length cap 40 L _ rfl (HE.out.up B1.out) hl2 (by decide) HR.out).mono ?_; rintro e w2 ⟨⟨A2, c2, rfl, ho2⟩, hb2⟩; rw [HM.out] at ho2; rw [HM.out]; have B2 := Lib.hid (below_step B1.out B1.out.size hb2); have C2 := Lib.hid (C1.out.up hb2); have O2 := Lib.hid (ho2.low (b := W.heap.size) B1.out.size); clear hb2 ho2) | (go_at_call 11; refine (After_any A2 M.length c2 M _ rfl (show Chs w2 w2.heap.size A2 M from O2.out.row.2.2.2) hMl (fun d hd => (HW.out d hd).cw)).mono ?_; rintro e w3 ⟨⟨A3, n3, c3, rfl, hn3, ho3⟩, hb3⟩; rw [HQL.out] at hn3 ho3; rw [HQL.out]; obtain rfl : n3 = fs.length := hn3; have B3 := Lib.hid (below_step B2.out B2.out.size hb3); have C3 := Lib.hid (C2.out.up hb3); have O3 := Lib.hid (O2.out.up hb3); have P3 := Lib.hid (ho3.low (b := W.heap.size) B2.out.size); clear hb3 ho3) | (go_at_call 12; refine (RAfter_any A2 M.length c2 M _ rfl ((show Chs w3 w3.heap.size A2 M from O3.out.row.2.2.2).up (al1 _ _)) hMl HW.out).mono ?_; rintro e w4 ⟨⟨A4, n4, c4, rfl, hn4, ho4⟩, hb4⟩; rw [HQL.out] at hn4 ho4; rw [HQL.out]; obtain rfl : n4 = fs.length := hn4; have hw4 : Below w3.heap.size w3 w4 := (al1 w3 (.cells #[.slice A3 fs.length c3, .int .i64 x] 30)).trans (hb4.mono (al1 w3 (.cells #[.slice A3 fs.length c3, .int .i64 x] 30)).size); have B4 := Lib.hid (below_step B3.out B3.out.size hw4); have S4 := Lib.hid ((CB.new w3 30 [.slice A3 fs.length c3, .int .i64 x]).up hb4); have C4 := Lib.hid (C3.out.up hw4); have P4 := Lib.hid (P3.out.up hw4); have Q4 := Lib.hid (ho4.low (b := W.heap.size) (Nat.le_trans B3.out.size (al1 w3 (.cells #[.slice A3 fs.length c3, .int .i64 x] 30)).size)); have zS4 := S4.out.lt; have jS40 := S4.out.cell 0 rfl; have jS41 := S4.out.cell 1 rfl; clear hb4 ho4 hw4) | (have tt := tk5; go_at_call 13; refine (RSame_any A3 fs.length c3 x fs A4 fs.length c4 x fs _ rfl ((show Fds w4 w4.heap.size A3 fs from P4.out.row.2.2.2).up (al1 _ _)) rfl ((show Fds w4 w4.heap.size A4 fs from Q4.out.row.2.2.2).up (al1 _ _)) hfl hfl).mono ?_; rintro e w5 ⟨rfl, hb5⟩; rw [HSS.out]; have hw5 : Below w4.heap.size w4 w5 := (al1 w4 (.cells #[.slice A4 fs.length c4, .int .i64 x] 30)).trans (hb5.mono (al1 w4 (.cells #[.slice A4 fs.length c4, .int .i64 x] 30)).size); have B5 := Lib.hid (below_step B4.out B4.out.size hw5); have X5 := Lib.hid ((CB.new w4 30 [.slice A4 fs.length c4, .int .i64 x]).up hb5); have C5 := Lib.hid (C4.out.up hw5); have Q5 := Lib.hid (Q4.out.up hw5); have zC5 := C5.out.lt; have jC50 := C5.out.cell 0 rfl; have jC51 := C5.out.cell 1 rfl; have jC52 := C5.out.cell 2 rfl; have jC53 := C5.out.cell 3 rfl; have jC54 := C5.out.cell 4 rfl; have jC55 := C5.out.cell 5 rfl; have jC56 := C5.out.cell 6 rfl; have jC57 := C5.out.cell 7 rfl; have zX5 := X5.out.lt; have jX50 := X5.out.cell 0 rfl; have jX51 := X5.out.cell 1 rfl; clear hb5 hw5 tt tk5) | (go_at_call 14; refine (Apply_any A4 fs.length c4 x fs kd id wi nm ot ty pa sep _ rfl (show Fds w5 w5.heap.size A4 fs from Q5.out.row.2.2.2) hl0 hx0 hx1 hsp HNL.out hnm hot hkd).mono ?_; rintro e w6 ⟨⟨A6, n6, c6, rfl, hn6, ho6⟩, hb6⟩; rw [HQT.out] at hn6 ho6; rw [HQT.out]; obtain rfl : n6 = ft.length := hn6; have B6 := Lib.hid (below_step B5.out B5.out.size hb6); have C6 := Lib.hid (C5.out.up hb6); have X6 := Lib.hid (X5.out.up hb6); have Q6 := Lib.hid (Q5.out.up hb6); have T6 := Lib.hid (ho6.low (b := W.heap.size) B5.out.size); have zC6 := C6.out.lt; have jC60 := C6.out.cell 0 rfl; have jC61 := C6.out.cell 1 rfl; have jC62 := C6.out.cell 2 rfl; have jC63 := C6.out.cell 3 rfl; have jC64 := C6.out.cell 4 rfl; have jC65 := C6.out.cell 5 rfl; have jC66 := C6.out.cell 6 rfl; have jC67 := C6.out.cell 7 rfl; have zX6 := X6.out.lt; have jX60 := X6.out.cell 0 rfl; have jX61 := X6.out.cell 1 rfl; clear hb6 ho6) | (go_at_call 15; refine (RApply_any A4 fs.length c4 x fs kd id wi nm ot ty pa sep _ rfl ((show Fds w6 w6.heap.size A4 fs from Q6.out.row.2.2.2).up (al1 _ _)) hl0 hx0 hx1 hnm hot hsp HNL.out).mono ?_; rintro e w7 ⟨⟨A7, n7, c7, rfl, hn7, ho7⟩, hb7⟩; rw [HQR.out] at hn7 ho7; rw [HQR.out]; obtain rfl : n7 = ft.length := hn7; have hw7 : Below w6.heap.size w6 w7 := (al1 w6 (.cells #[.slice A6 ft.length c6, .int .i64 xt] 30)).trans (hb7.mono (al1 w6 (.cells #[.slice A6 ft.length c6, .int .i64 xt] 30)).size); have B7 := Lib.hid (below_step B6.out B6.out.size hw7); have Y7 := Lib.hid ((CB.new w6 30 [.slice A6 ft.length c6, .int .i64 xt]).up hb7); have C7 := Lib.hid (C6.out.up hw7); have X7 := Lib.hid (X6.out.up hw7); have Q7 := Lib.hid (Q6.out.up hw7); have T7 := Lib.hid (T6.out.up hw7); have R7 := Lib.hid (ho7.low (b := W.heap.size) (Nat.le_trans B6.out.size (al1 w6 (.cells #[.slice A6 ft.length c6, .int .i64 xt] 30)).size)); clear hb7 ho7 hw7))
  clear d1 d2 d3
  have E8 := Lib.hid (CB.new w7 30 [.slice A7 ft.length c7, .int .i64 xt])
  have C8 := Lib.hid (C7.out.alloc (.cells #[.slice A7 ft.length c7, .int .i64 xt] 30))
  have X8 := Lib.hid (X7.out.alloc (.cells #[.slice A7 ft.length c7, .int .i64 xt] 30))
  have Q8 := Lib.hid (Q7.out.alloc (.cells #[.slice A7 ft.length c7, .int .i64 xt] 30))
  have T8 := Lib.hid (T7.out.alloc (.cells #[.slice A7 ft.length c7, .int .i64 xt] 30))
  have R8 := Lib.hid (R7.out.alloc (.cells #[.slice A7 ft.length c7, .int .i64 xt] 30))
  have Y8 := Lib.hid (Y7.out.alloc (.cells #[.slice A7 ft.length c7, .int .i64 xt] 30))
  have B8 := Lib.hid (B7.out.alloc B7.out.size (.cells #[.slice A7 ft.length c7, .int .i64 xt] 30))
  clear C7 X7 Q7 T7 R7 Y7 B7
  revert E8 C8 X8 Q8 T8 R8 Y8 B8
  generalize w7.alloc (.cells #[.slice A7 ft.length c7, .int .i64 xt] 30) = w8
  intro E8 C8 X8 Q8 T8 R8 Y8 B8
  go_cut [19, 20] (fun p e wx => ∃ (gu c8 : Nat) (A8 : Option Addr), p = .pointer (some ⟨gu, 0, none⟩) ∧ e = .int .i64 eu ∧ w8.heap.size ≤ gu ∧ Hid (CB wx gu 30 [.slice A8 fu.length c8, .int .i64 xu]) ∧ Hid (Own 41 4 wx W.heap.size (.slice A8 fu.length c8) (fu.map Fd.cells)) ∧ Hid (Below w8.heap.size w8 wx))
  case first => as_aux_lemma =>
    have QD := Lib.hid Q8.out.dr
    have XD := Lib.hid X8.out.dr
    have CD := Lib.hid C8.out.dr
    have zB := Lib.hid (bd w8)
    have zW2 : W.heap.size ≤ w8.drew.heap.size := B8.out.size
    have zWW : w8.heap.size = w8.drew.heap.size := rfl
    refine wp_region_held_drew (S := fun w' => Hid (Below w8.drew.heap.size w8.drew w')) (by kernel_rfl) (Lib.hid (Below.refl _ _)) (fun hHeld => ?_)
    revert hHeld QD XD CD zB zW2 zWW
    generalize w8.drew = W2
    intro QD XD CD zB zW2 zWW hHeld
    have HCL : Hid (∀ X, Below W2.heap.size W2 X → X.cell? ⟨w4.heap.size, 0, none⟩ = some (.slice A4 fs.length c4) ∧ X.cell? ⟨w4.heap.size, 1, none⟩ = some (.int .i64 x) ∧ X.cell? ⟨W.heap.size, 0, none⟩ = some (.int .i64 kd) ∧ X.cell? ⟨W.heap.size, 1, none⟩ = some (.int .i64 id) ∧ X.cell? ⟨W.heap.size, 2, none⟩ = some (.int .i64 wi) ∧ X.cell? ⟨W.heap.size, 3, none⟩ = some (.string nm) ∧ X.cell? ⟨W.heap.size, 4, none⟩ = some (.string ot) ∧ X.cell? ⟨W.heap.size, 5, none⟩ = some (.int .i64 ty) ∧ X.cell? ⟨W.heap.size, 6, none⟩ = some (.int .i64 pa) ∧ X.cell? ⟨W.heap.size, 7, none⟩ = some (.string sep)) := fun X hX =>
      ⟨(XD.out.up hX).cell 0 rfl, (XD.out.up hX).cell 1 rfl, (CD.out.up hX).cell 0 rfl, (CD.out.up hX).cell 1 rfl, (CD.out.up hX).cell 2 rfl, (CD.out.up hX).cell 3 rfl, (CD.out.up hX).cell 4 rfl, (CD.out.up hX).cell 5 rfl, (CD.out.up hX).cell 6 rfl, (CD.out.up hX).cell 7 rfl⟩
    refine hand_take (i := 0) (v := ?_) rfl (by kernel_rfl) (by kernel_rfl) (by kernel_rfl) (fun _ _ _ h => h) (Or.inl ⟨by rfl, ?_⟩) (by assumption) ?_
    rotate_left
    · intro wS hSw
      obtain ⟨y0, y1, x0, x1, x2, x3, x4, x5, x6, x7⟩ := HCL.out _ hSw.out
      clear hSw
      go_simp
      try with_reducible rfl
    try simp only [Act.put, List.setIfInBounds_toArray, List.set_cons_zero, List.set_cons_succ]
    refine hand_take (i := 1) (v := ?_) rfl (by kernel_rfl) (by kernel_rfl) (by kernel_rfl) (fun _ _ _ h => h) (Or.inl ⟨by rfl, ?_⟩) (by assumption) ?_
    rotate_left
    · intro wS hSw
      obtain ⟨y0, y1, x0, x1, x2, x3, x4, x5, x6, x7⟩ := HCL.out _ hSw.out
      clear hSw
      go_simp
      try with_reducible rfl
    try simp only [Act.put, List.setIfInBounds_toArray, List.set_cons_zero, List.set_cons_succ]
    refine hand_take (i := 2) (v := ?_) rfl (by kernel_rfl) (by kernel_rfl) (by kernel_rfl) (fun _ _ _ h => h) (Or.inl ⟨by rfl, ?_⟩) (by assumption) ?_
    rotate_left
    · intro wS hSw
      obtain ⟨y0, y1, x0, x1, x2, x3, x4, x5, x6, x7⟩ := HCL.out _ hSw.out
      clear hSw
      go_simp
      try with_reducible rfl
    try simp only [Act.put, List.setIfInBounds_toArray, List.set_cons_zero, List.set_cons_succ]
    refine wpAnyH_ready (rs := [3, 8]) (by kernel_rfl) (by simp) ?_
    refine (hand_cons rfl (fun KK hK => ?_) (hand_cons rfl (fun KK hK => ?_) AllReadyH.nil))
    · go_simp
      go_at_call 16
      refine (RChange_any A4 fs.length c4 x fs kd id wi nm ot ty pa sep _ rfl ((show Fds W2 W2.heap.size A4 fs from QD.out.row.2.2.2).up hHeld.out) hfl hx2 hnm hot hsp hkd hid hwi hty hpa).mono ?_
      rintro e v9 ⟨rfl, hb9⟩
      rw [HCD.out]
      have HB9 := Lib.hid (hHeld.out.trans (hb9.mono hHeld.out.size))
      have zB9 := HB9.out.size
      clear hb9
      go_wp2_with fail
      refine hK.out _ _ (HB9) (fun hHeld => ?_)
      clear hK KK
      try simp only [Act.put, List.setIfInBounds_toArray, List.set_cons_zero, List.set_cons_succ]
      refine wpAnyH_ready (rs := [4, 8]) (by kernel_rfl) (by simp) ?_
      refine (hand_cons rfl (fun KK hK => ?_) (hand_cons rfl (fun KK hK => ?_) AllReadyH.nil))
      · go_simp
        go_at_call 14
        refine (Apply_any A4 fs.length c4 x fs cd.kind cd.id cd.wi cd.nm cd.ot cd.ty cd.pa cd.sep _ rfl ((show Fds W2 W2.heap.size A4 fs from QD.out.row.2.2.2).up hHeld.out) hl0 hx0 hx1 HCW.out.sep HNL.out HCW.out.nm HCW.out.ot HCW.out.kind).mono ?_
        rintro e v10 ⟨⟨A8, n8, c8, rfl, hn8, ho8⟩, hb10⟩
        rw [HQU.out] at hn8 ho8
        rw [HQU.out]
        obtain rfl : n8 = fu.length := hn8
        have HB10 := Lib.hid (hHeld.out.trans (hb10.mono hHeld.out.size))
        have zB10 := HB10.out.size
        have U10 := Lib.hid (ho8.low (b := W.heap.size) (Nat.le_trans zW2 (hHeld.out.size)))
        clear ho8
        clear hb10
        go_wp2_with fail
        refine hK.out _ _ (HB10) (fun hHeld => ?_)
        clear hK KK
        try simp only [Act.put, List.setIfInBounds_toArray, List.set_cons_zero, List.set_cons_succ]
        refine hand_take (i := 5) (v := ?_) rfl (by kernel_rfl) (by kernel_rfl) (by kernel_rfl) (fun _ _ _ h => h) (Or.inl ⟨by rfl, ?_⟩) (by assumption) ?_
        rotate_left
        · intro wS hSw
          clear hSw
          go_simp
          try with_reducible rfl
        try simp only [Act.put, List.setIfInBounds_toArray, List.set_cons_zero, List.set_cons_succ]
        refine hand_take (i := 6) (v := ?_) rfl (by kernel_rfl) (by kernel_rfl) (by kernel_rfl) (fun _ _ _ h => h) (Or.inl ⟨by rfl, ?_⟩) (by assumption) ?_
        rotate_left
        · intro wS hSw
          clear hSw
          go_simp
          try with_reducible rfl
        try simp only [Act.put, List.setIfInBounds_toArray, List.set_cons_zero, List.set_cons_succ]
        refine hand_take (i := 7) (v := ?_) rfl (by kernel_rfl) (by kernel_rfl) (by kernel_rfl) (fun _ _ _ h => h) (Or.inl ⟨by rfl, ?_⟩) (by assumption) ?_
        rotate_left
        · intro wS hSw
          clear hSw
          go_simp
          try with_reducible rfl
        try simp only [Act.put, List.setIfInBounds_toArray, List.set_cons_zero, List.set_cons_succ]
        refine wpAnyH_ready (rs := [8]) (by kernel_rfl) (by simp) ?_
        refine hand_cons rfl (fun KK hK => ?_) AllReadyH.nil
        go_simp
        have GZ := Lib.hid (CB.new v10 30 [.slice none 0 0, .int .i64 0])
        have HBA := Lib.hid (al_up (o := .cells #[.slice none 0 0, .int .i64 0] 30) hHeld.out)
        refine hK.out _ _ (HBA) (fun hHeld => ?_)
        clear hK KK
        try simp only [Act.put, List.setIfInBounds_toArray, List.set_cons_zero, List.set_cons_succ]
        refine wpAnyH_ready (rs := [9]) (by kernel_rfl) (by simp) ?_
        refine hand_cons rfl (fun KK hK => ?_) AllReadyH.nil
        refine step_store_cb rfl 30 (.tmp 19) (.tmp 98) rfl v10.heap.size [.slice A8 fu.length c8, .int .i64 xu] rfl rfl 30 [.slice none 0 0, .int .i64 0] 2 GZ.out sizeS rfl rfl (one_s _ _ _ _) ?_
        intro wz hcz hgz hzz
        have HBZ := Lib.hid (below_grown hHeld.out hgz hHeld.out.size (by omega))
        have UZ := Lib.hid (Own.kept (U10.out.alloc _) hgz (.inr (Own.ne (U10.out.alloc _) GZ.out (by decide)).symm))
        refine hK.out _ _ (HBZ) (fun hHeld => ?_)
        clear hK KK
        try simp only [Act.put]
        refine hand_take (i := 10) (v := ?_) rfl (by kernel_rfl) (by kernel_rfl) (by kernel_rfl) (fun _ _ _ h => h) (Or.inl ⟨by rfl, ?_⟩) (by assumption) ?_
        rotate_left
        · intro wS hSw
          clear hSw
          go_simp
          try with_reducible rfl
        try simp only [Act.put, List.setIfInBounds_toArray, List.set_cons_zero, List.set_cons_succ]
        refine wpAnyH_done (by kernel_rfl) ?_ _
        go_wp2_with fail
        go_meet
        exact ⟨_, _, _, rfl, rfl, by omega, Lib.hid hcz, UZ, Lib.hid (zB.out.trans (HBZ.out.mono zB.out.size))⟩
      · go_simp
        have GZ := Lib.hid (CB.new v9 30 [.slice none 0 0, .int .i64 0])
        have HBA := Lib.hid (al_up (o := .cells #[.slice none 0 0, .int .i64 0] 30) hHeld.out)
        refine hK.out _ _ (HBA) (fun hHeld => ?_)
        clear hK KK
        try simp only [Act.put, List.setIfInBounds_toArray, List.set_cons_zero, List.set_cons_succ]
        refine wpAnyH_ready (rs := [4]) (by kernel_rfl) (by simp) ?_
        refine hand_cons rfl (fun KK hK => ?_) AllReadyH.nil
        go_simp
        go_at_call 14
        refine (Apply_any A4 fs.length c4 x fs cd.kind cd.id cd.wi cd.nm cd.ot cd.ty cd.pa cd.sep _ rfl ((show Fds W2 W2.heap.size A4 fs from QD.out.row.2.2.2).up hHeld.out) hl0 hx0 hx1 HCW.out.sep HNL.out HCW.out.nm HCW.out.ot HCW.out.kind).mono ?_
        rintro e v10 ⟨⟨A8, n8, c8, rfl, hn8, ho8⟩, hb10⟩
        rw [HQU.out] at hn8 ho8
        rw [HQU.out]
        obtain rfl : n8 = fu.length := hn8
        have HB10 := Lib.hid (hHeld.out.trans (hb10.mono hHeld.out.size))
        have zB10 := HB10.out.size
        have GZ10 := Lib.hid (GZ.out.up hb10)
        have U10 := Lib.hid (ho8.low (b := W.heap.size) (Nat.le_trans zW2 (hHeld.out.size)))
        clear ho8
        clear hb10
        go_wp2_with fail
        refine hK.out _ _ (HB10) (fun hHeld => ?_)
        clear hK KK
        try simp only [Act.put, List.setIfInBounds_toArray, List.set_cons_zero, List.set_cons_succ]
        refine hand_take (i := 5) (v := ?_) rfl (by kernel_rfl) (by kernel_rfl) (by kernel_rfl) (fun _ _ _ h => h) (Or.inl ⟨by rfl, ?_⟩) (by assumption) ?_
        rotate_left
        · intro wS hSw
          clear hSw
          go_simp
          try with_reducible rfl
        try simp only [Act.put, List.setIfInBounds_toArray, List.set_cons_zero, List.set_cons_succ]
        refine hand_take (i := 6) (v := ?_) rfl (by kernel_rfl) (by kernel_rfl) (by kernel_rfl) (fun _ _ _ h => h) (Or.inl ⟨by rfl, ?_⟩) (by assumption) ?_
        rotate_left
        · intro wS hSw
          clear hSw
          go_simp
          try with_reducible rfl
        try simp only [Act.put, List.setIfInBounds_toArray, List.set_cons_zero, List.set_cons_succ]
        refine hand_take (i := 7) (v := ?_) rfl (by kernel_rfl) (by kernel_rfl) (by kernel_rfl) (fun _ _ _ h => h) (Or.inl ⟨by rfl, ?_⟩) (by assumption) ?_
        rotate_left
        · intro wS hSw
          clear hSw
          go_simp
          try with_reducible rfl
        try simp only [Act.put, List.setIfInBounds_toArray, List.set_cons_zero, List.set_cons_succ]
        refine wpAnyH_ready (rs := [9]) (by kernel_rfl) (by simp) ?_
        refine hand_cons rfl (fun KK hK => ?_) AllReadyH.nil
        refine step_store_cb rfl 30 (.tmp 19) (.tmp 98) rfl v9.heap.size [.slice A8 fu.length c8, .int .i64 xu] rfl rfl 30 [.slice none 0 0, .int .i64 0] 2 GZ10.out sizeS rfl rfl (one_s _ _ _ _) ?_
        intro wz hcz hgz hzz
        have HBZ := Lib.hid (below_grown hHeld.out hgz hHeld.out.size (by omega))
        have UZ := Lib.hid (Own.kept U10.out hgz (.inr (Own.ne U10.out GZ10.out (by decide)).symm))
        refine hK.out _ _ (HBZ) (fun hHeld => ?_)
        clear hK KK
        try simp only [Act.put]
        refine hand_take (i := 10) (v := ?_) rfl (by kernel_rfl) (by kernel_rfl) (by kernel_rfl) (fun _ _ _ h => h) (Or.inl ⟨by rfl, ?_⟩) (by assumption) ?_
        rotate_left
        · intro wS hSw
          clear hSw
          go_simp
          try with_reducible rfl
        try simp only [Act.put, List.setIfInBounds_toArray, List.set_cons_zero, List.set_cons_succ]
        refine wpAnyH_done (by kernel_rfl) ?_ _
        go_wp2_with fail
        go_meet
        exact ⟨_, _, _, rfl, rfl, by omega, Lib.hid hcz, UZ, Lib.hid (zB.out.trans (HBZ.out.mono zB.out.size))⟩
    · go_simp
      have GZ := Lib.hid (CB.new W2 30 [.slice none 0 0, .int .i64 0])
      have HBA := Lib.hid (al_up (o := .cells #[.slice none 0 0, .int .i64 0] 30) hHeld.out)
      refine hK.out _ _ (HBA) (fun hHeld => ?_)
      clear hK KK
      try simp only [Act.put, List.setIfInBounds_toArray, List.set_cons_zero, List.set_cons_succ]
      refine wpAnyH_ready (rs := [3]) (by kernel_rfl) (by simp) ?_
      refine hand_cons rfl (fun KK hK => ?_) AllReadyH.nil
      go_simp
      go_at_call 16
      refine (RChange_any A4 fs.length c4 x fs kd id wi nm ot ty pa sep _ rfl ((show Fds W2 W2.heap.size A4 fs from QD.out.row.2.2.2).up hHeld.out) hfl hx2 hnm hot hsp hkd hid hwi hty hpa).mono ?_
      rintro e v9 ⟨rfl, hb9⟩
      rw [HCD.out]
      have HB9 := Lib.hid (hHeld.out.trans (hb9.mono hHeld.out.size))
      have zB9 := HB9.out.size
      have GZ9 := Lib.hid (GZ.out.up hb9)
      clear hb9
      go_wp2_with fail
      refine hK.out _ _ (HB9) (fun hHeld => ?_)
      clear hK KK
      try simp only [Act.put, List.setIfInBounds_toArray, List.set_cons_zero, List.set_cons_succ]
      refine wpAnyH_ready (rs := [4]) (by kernel_rfl) (by simp) ?_
      refine hand_cons rfl (fun KK hK => ?_) AllReadyH.nil
      go_simp
      go_at_call 14
      refine (Apply_any A4 fs.length c4 x fs cd.kind cd.id cd.wi cd.nm cd.ot cd.ty cd.pa cd.sep _ rfl ((show Fds W2 W2.heap.size A4 fs from QD.out.row.2.2.2).up hHeld.out) hl0 hx0 hx1 HCW.out.sep HNL.out HCW.out.nm HCW.out.ot HCW.out.kind).mono ?_
      rintro e v10 ⟨⟨A8, n8, c8, rfl, hn8, ho8⟩, hb10⟩
      rw [HQU.out] at hn8 ho8
      rw [HQU.out]
      obtain rfl : n8 = fu.length := hn8
      have HB10 := Lib.hid (hHeld.out.trans (hb10.mono hHeld.out.size))
      have zB10 := HB10.out.size
      have GZ10 := Lib.hid (GZ9.out.up hb10)
      have U10 := Lib.hid (ho8.low (b := W.heap.size) (Nat.le_trans zW2 (hHeld.out.size)))
      clear ho8
      clear hb10
      go_wp2_with fail
      refine hK.out _ _ (HB10) (fun hHeld => ?_)
      clear hK KK
      try simp only [Act.put, List.setIfInBounds_toArray, List.set_cons_zero, List.set_cons_succ]
      refine hand_take (i := 5) (v := ?_) rfl (by kernel_rfl) (by kernel_rfl) (by kernel_rfl) (fun _ _ _ h => h) (Or.inl ⟨by rfl, ?_⟩) (by assumption) ?_
      rotate_left
      · intro wS hSw
        clear hSw
        go_simp
        try with_reducible rfl
      try simp only [Act.put, List.setIfInBounds_toArray, List.set_cons_zero, List.set_cons_succ]
      refine hand_take (i := 6) (v := ?_) rfl (by kernel_rfl) (by kernel_rfl) (by kernel_rfl) (fun _ _ _ h => h) (Or.inl ⟨by rfl, ?_⟩) (by assumption) ?_
      rotate_left
      · intro wS hSw
        clear hSw
        go_simp
        try with_reducible rfl
      try simp only [Act.put, List.setIfInBounds_toArray, List.set_cons_zero, List.set_cons_succ]
      refine hand_take (i := 7) (v := ?_) rfl (by kernel_rfl) (by kernel_rfl) (by kernel_rfl) (fun _ _ _ h => h) (Or.inl ⟨by rfl, ?_⟩) (by assumption) ?_
      rotate_left
      · intro wS hSw
        clear hSw
        go_simp
        try with_reducible rfl
      try simp only [Act.put, List.setIfInBounds_toArray, List.set_cons_zero, List.set_cons_succ]
      refine wpAnyH_ready (rs := [9]) (by kernel_rfl) (by simp) ?_
      refine hand_cons rfl (fun KK hK => ?_) AllReadyH.nil
      refine step_store_cb rfl 30 (.tmp 19) (.tmp 98) rfl W2.heap.size [.slice A8 fu.length c8, .int .i64 xu] rfl rfl 30 [.slice none 0 0, .int .i64 0] 2 GZ10.out sizeS rfl rfl (one_s _ _ _ _) ?_
      intro wz hcz hgz hzz
      have HBZ := Lib.hid (below_grown hHeld.out hgz hHeld.out.size (by omega))
      have UZ := Lib.hid (Own.kept U10.out hgz (.inr (Own.ne U10.out GZ10.out (by decide)).symm))
      refine hK.out _ _ (HBZ) (fun hHeld => ?_)
      clear hK KK
      try simp only [Act.put]
      refine hand_take (i := 10) (v := ?_) rfl (by kernel_rfl) (by kernel_rfl) (by kernel_rfl) (fun _ _ _ h => h) (Or.inl ⟨by rfl, ?_⟩) (by assumption) ?_
      rotate_left
      · intro wS hSw
        clear hSw
        go_simp
        try with_reducible rfl
      try simp only [Act.put, List.setIfInBounds_toArray, List.set_cons_zero, List.set_cons_succ]
      refine wpAnyH_done (by kernel_rfl) ?_ _
      go_wp2_with fail
      go_meet
      exact ⟨_, _, _, rfl, rfl, by omega, Lib.hid hcz, UZ, Lib.hid (zB.out.trans (HBZ.out.mono zB.out.size))⟩
  case rest =>
  obtain ⟨gu, c8, A8, rfl, rfl, hgu, U20, V20, hbz⟩ := hcut
  generalize wc = w20 at *
  have C20 := Lib.hid (C8.out.up hbz.out)
  have X20 := Lib.hid (X8.out.up hbz.out)
  have Q20 := Lib.hid (Q8.out.up hbz.out)
  have T20 := Lib.hid (T8.out.up hbz.out)
  have R20 := Lib.hid (R8.out.up hbz.out)
  have Y20 := Lib.hid (Y8.out.up hbz.out)
  have E20 := Lib.hid (E8.out.up hbz.out)
  have B20 := Lib.hid (below_step B8.out B8.out.size hbz.out)
  clear hbz
  go_upto_region 12 with fail
  go_cut [21, 22] (fun p e wx => ∃ (gv c9 : Nat) (A9 : Option Addr), p = .pointer (some ⟨gv, 0, none⟩) ∧ e = .int .i64 eu ∧ w20.heap.size ≤ gv ∧ Hid (CB wx gv 30 [.slice A9 fu.length c9, .int .i64 xu]) ∧ Hid (Own 41 4 wx W.heap.size (.slice A9 fu.length c9) (fu.map Fd.cells)) ∧ Hid (Below w20.heap.size w20 wx))
  case first => as_aux_lemma =>
    have QD := Lib.hid Q20.out.dr
    have XD := Lib.hid X20.out.dr
    have CD := Lib.hid C20.out.dr
    have zB := Lib.hid (bd w20)
    have zW2 : W.heap.size ≤ w20.drew.heap.size := B20.out.size
    have zWW : w20.heap.size = w20.drew.heap.size := rfl
    refine wp_region_held_drew (S := fun w' => Hid (Below w20.drew.heap.size w20.drew w')) (by kernel_rfl) (Lib.hid (Below.refl _ _)) (fun hHeld => ?_)
    revert hHeld QD XD CD zB zW2 zWW
    generalize w20.drew = W2
    intro QD XD CD zB zW2 zWW hHeld
    have HCL : Hid (∀ X, Below W2.heap.size W2 X → X.cell? ⟨w4.heap.size, 0, none⟩ = some (.slice A4 fs.length c4) ∧ X.cell? ⟨w4.heap.size, 1, none⟩ = some (.int .i64 x) ∧ X.cell? ⟨W.heap.size, 0, none⟩ = some (.int .i64 kd) ∧ X.cell? ⟨W.heap.size, 1, none⟩ = some (.int .i64 id) ∧ X.cell? ⟨W.heap.size, 2, none⟩ = some (.int .i64 wi) ∧ X.cell? ⟨W.heap.size, 3, none⟩ = some (.string nm) ∧ X.cell? ⟨W.heap.size, 4, none⟩ = some (.string ot) ∧ X.cell? ⟨W.heap.size, 5, none⟩ = some (.int .i64 ty) ∧ X.cell? ⟨W.heap.size, 6, none⟩ = some (.int .i64 pa) ∧ X.cell? ⟨W.heap.size, 7, none⟩ = some (.string sep)) := fun X hX =>
      ⟨(XD.out.up hX).cell 0 rfl, (XD.out.up hX).cell 1 rfl, (CD.out.up hX).cell 0 rfl, (CD.out.up hX).cell 1 rfl, (CD.out.up hX).cell 2 rfl, (CD.out.up hX).cell 3 rfl, (CD.out.up hX).cell 4 rfl, (CD.out.up hX).cell 5 rfl, (CD.out.up hX).cell 6 rfl, (CD.out.up hX).cell 7 rfl⟩
    refine hand_take (i := 0) (v := ?_) rfl (by kernel_rfl) (by kernel_rfl) (by kernel_rfl) (fun _ _ _ h => h) (Or.inl ⟨by rfl, ?_⟩) (by assumption) ?_
    rotate_left
    · intro wS hSw
      obtain ⟨y0, y1, x0, x1, x2, x3, x4, x5, x6, x7⟩ := HCL.out _ hSw.out
      clear hSw
      go_simp
      try with_reducible rfl
    try simp only [Act.put, List.setIfInBounds_toArray, List.set_cons_zero, List.set_cons_succ]
    refine hand_take (i := 1) (v := ?_) rfl (by kernel_rfl) (by kernel_rfl) (by kernel_rfl) (fun _ _ _ h => h) (Or.inl ⟨by rfl, ?_⟩) (by assumption) ?_
    rotate_left
    · intro wS hSw
      obtain ⟨y0, y1, x0, x1, x2, x3, x4, x5, x6, x7⟩ := HCL.out _ hSw.out
      clear hSw
      go_simp
      try with_reducible rfl
    try simp only [Act.put, List.setIfInBounds_toArray, List.set_cons_zero, List.set_cons_succ]
    refine hand_take (i := 2) (v := ?_) rfl (by kernel_rfl) (by kernel_rfl) (by kernel_rfl) (fun _ _ _ h => h) (Or.inl ⟨by rfl, ?_⟩) (by assumption) ?_
    rotate_left
    · intro wS hSw
      obtain ⟨y0, y1, x0, x1, x2, x3, x4, x5, x6, x7⟩ := HCL.out _ hSw.out
      clear hSw
      go_simp
      try with_reducible rfl
    try simp only [Act.put, List.setIfInBounds_toArray, List.set_cons_zero, List.set_cons_succ]
    refine wpAnyH_ready (rs := [3, 8]) (by kernel_rfl) (by simp) ?_
    refine (hand_cons rfl (fun KK hK => ?_) (hand_cons rfl (fun KK hK => ?_) AllReadyH.nil))
    · go_simp
      go_at_call 16
      refine (RChange_any A4 fs.length c4 x fs kd id wi nm ot ty pa sep _ rfl ((show Fds W2 W2.heap.size A4 fs from QD.out.row.2.2.2).up hHeld.out) hfl hx2 hnm hot hsp hkd hid hwi hty hpa).mono ?_
      rintro e v9 ⟨rfl, hb9⟩
      rw [HCD.out]
      have HB9 := Lib.hid (hHeld.out.trans (hb9.mono hHeld.out.size))
      have zB9 := HB9.out.size
      clear hb9
      go_wp2_with fail
      refine hK.out _ _ (HB9) (fun hHeld => ?_)
      clear hK KK
      try simp only [Act.put, List.setIfInBounds_toArray, List.set_cons_zero, List.set_cons_succ]
      refine wpAnyH_ready (rs := [4, 8]) (by kernel_rfl) (by simp) ?_
      refine (hand_cons rfl (fun KK hK => ?_) (hand_cons rfl (fun KK hK => ?_) AllReadyH.nil))
      · go_simp
        go_at_call 15
        refine (RApply_any A4 fs.length c4 x fs cd.kind cd.id cd.wi cd.nm cd.ot cd.ty cd.pa cd.sep _ rfl ((show Fds W2 W2.heap.size A4 fs from QD.out.row.2.2.2).up hHeld.out) hl0 hx0 hx1 HCW.out.nm HCW.out.ot HCW.out.sep HNL.out).mono ?_
        rintro e v10 ⟨⟨A9, n8, c9, rfl, hn8, ho8⟩, hb10⟩
        rw [HQV.out] at hn8 ho8
        rw [HQV.out]
        obtain rfl : n8 = fu.length := hn8
        have HB10 := Lib.hid (hHeld.out.trans (hb10.mono hHeld.out.size))
        have zB10 := HB10.out.size
        have U10 := Lib.hid (ho8.low (b := W.heap.size) (Nat.le_trans zW2 (hHeld.out.size)))
        clear ho8
        clear hb10
        go_wp2_with fail
        refine hK.out _ _ (HB10) (fun hHeld => ?_)
        clear hK KK
        try simp only [Act.put, List.setIfInBounds_toArray, List.set_cons_zero, List.set_cons_succ]
        refine hand_take (i := 5) (v := ?_) rfl (by kernel_rfl) (by kernel_rfl) (by kernel_rfl) (fun _ _ _ h => h) (Or.inl ⟨by rfl, ?_⟩) (by assumption) ?_
        rotate_left
        · intro wS hSw
          clear hSw
          go_simp
          try with_reducible rfl
        try simp only [Act.put, List.setIfInBounds_toArray, List.set_cons_zero, List.set_cons_succ]
        refine hand_take (i := 6) (v := ?_) rfl (by kernel_rfl) (by kernel_rfl) (by kernel_rfl) (fun _ _ _ h => h) (Or.inl ⟨by rfl, ?_⟩) (by assumption) ?_
        rotate_left
        · intro wS hSw
          clear hSw
          go_simp
          try with_reducible rfl
        try simp only [Act.put, List.setIfInBounds_toArray, List.set_cons_zero, List.set_cons_succ]
        refine hand_take (i := 7) (v := ?_) rfl (by kernel_rfl) (by kernel_rfl) (by kernel_rfl) (fun _ _ _ h => h) (Or.inl ⟨by rfl, ?_⟩) (by assumption) ?_
        rotate_left
        · intro wS hSw
          clear hSw
          go_simp
          try with_reducible rfl
        try simp only [Act.put, List.setIfInBounds_toArray, List.set_cons_zero, List.set_cons_succ]
        refine wpAnyH_ready (rs := [8]) (by kernel_rfl) (by simp) ?_
        refine hand_cons rfl (fun KK hK => ?_) AllReadyH.nil
        go_simp
        have GZ := Lib.hid (CB.new v10 30 [.slice none 0 0, .int .i64 0])
        have HBA := Lib.hid (al_up (o := .cells #[.slice none 0 0, .int .i64 0] 30) hHeld.out)
        refine hK.out _ _ (HBA) (fun hHeld => ?_)
        clear hK KK
        try simp only [Act.put, List.setIfInBounds_toArray, List.set_cons_zero, List.set_cons_succ]
        refine wpAnyH_ready (rs := [9]) (by kernel_rfl) (by simp) ?_
        refine hand_cons rfl (fun KK hK => ?_) AllReadyH.nil
        refine step_store_cb rfl 30 (.tmp 21) (.tmp 106) rfl v10.heap.size [.slice A9 fu.length c9, .int .i64 xu] rfl rfl 30 [.slice none 0 0, .int .i64 0] 2 GZ.out sizeS rfl rfl (one_s _ _ _ _) ?_
        intro wz hcz hgz hzz
        have HBZ := Lib.hid (below_grown hHeld.out hgz hHeld.out.size (by omega))
        have UZ := Lib.hid (Own.kept (U10.out.alloc _) hgz (.inr (Own.ne (U10.out.alloc _) GZ.out (by decide)).symm))
        refine hK.out _ _ (HBZ) (fun hHeld => ?_)
        clear hK KK
        try simp only [Act.put]
        refine hand_take (i := 10) (v := ?_) rfl (by kernel_rfl) (by kernel_rfl) (by kernel_rfl) (fun _ _ _ h => h) (Or.inl ⟨by rfl, ?_⟩) (by assumption) ?_
        rotate_left
        · intro wS hSw
          clear hSw
          go_simp
          try with_reducible rfl
        try simp only [Act.put, List.setIfInBounds_toArray, List.set_cons_zero, List.set_cons_succ]
        refine wpAnyH_done (by kernel_rfl) ?_ _
        go_wp2_with fail
        go_meet
        exact ⟨_, _, _, rfl, rfl, by omega, Lib.hid hcz, UZ, Lib.hid (zB.out.trans (HBZ.out.mono zB.out.size))⟩
      · go_simp
        have GZ := Lib.hid (CB.new v9 30 [.slice none 0 0, .int .i64 0])
        have HBA := Lib.hid (al_up (o := .cells #[.slice none 0 0, .int .i64 0] 30) hHeld.out)
        refine hK.out _ _ (HBA) (fun hHeld => ?_)
        clear hK KK
        try simp only [Act.put, List.setIfInBounds_toArray, List.set_cons_zero, List.set_cons_succ]
        refine wpAnyH_ready (rs := [4]) (by kernel_rfl) (by simp) ?_
        refine hand_cons rfl (fun KK hK => ?_) AllReadyH.nil
        go_simp
        go_at_call 15
        refine (RApply_any A4 fs.length c4 x fs cd.kind cd.id cd.wi cd.nm cd.ot cd.ty cd.pa cd.sep _ rfl ((show Fds W2 W2.heap.size A4 fs from QD.out.row.2.2.2).up hHeld.out) hl0 hx0 hx1 HCW.out.nm HCW.out.ot HCW.out.sep HNL.out).mono ?_
        rintro e v10 ⟨⟨A9, n8, c9, rfl, hn8, ho8⟩, hb10⟩
        rw [HQV.out] at hn8 ho8
        rw [HQV.out]
        obtain rfl : n8 = fu.length := hn8
        have HB10 := Lib.hid (hHeld.out.trans (hb10.mono hHeld.out.size))
        have zB10 := HB10.out.size
        have GZ10 := Lib.hid (GZ.out.up hb10)
        have U10 := Lib.hid (ho8.low (b := W.heap.size) (Nat.le_trans zW2 (hHeld.out.size)))
        clear ho8
        clear hb10
        go_wp2_with fail
        refine hK.out _ _ (HB10) (fun hHeld => ?_)
        clear hK KK
        try simp only [Act.put, List.setIfInBounds_toArray, List.set_cons_zero, List.set_cons_succ]
        refine hand_take (i := 5) (v := ?_) rfl (by kernel_rfl) (by kernel_rfl) (by kernel_rfl) (fun _ _ _ h => h) (Or.inl ⟨by rfl, ?_⟩) (by assumption) ?_
        rotate_left
        · intro wS hSw
          clear hSw
          go_simp
          try with_reducible rfl
        try simp only [Act.put, List.setIfInBounds_toArray, List.set_cons_zero, List.set_cons_succ]
        refine hand_take (i := 6) (v := ?_) rfl (by kernel_rfl) (by kernel_rfl) (by kernel_rfl) (fun _ _ _ h => h) (Or.inl ⟨by rfl, ?_⟩) (by assumption) ?_
        rotate_left
        · intro wS hSw
          clear hSw
          go_simp
          try with_reducible rfl
        try simp only [Act.put, List.setIfInBounds_toArray, List.set_cons_zero, List.set_cons_succ]
        refine hand_take (i := 7) (v := ?_) rfl (by kernel_rfl) (by kernel_rfl) (by kernel_rfl) (fun _ _ _ h => h) (Or.inl ⟨by rfl, ?_⟩) (by assumption) ?_
        rotate_left
        · intro wS hSw
          clear hSw
          go_simp
          try with_reducible rfl
        try simp only [Act.put, List.setIfInBounds_toArray, List.set_cons_zero, List.set_cons_succ]
        refine wpAnyH_ready (rs := [9]) (by kernel_rfl) (by simp) ?_
        refine hand_cons rfl (fun KK hK => ?_) AllReadyH.nil
        refine step_store_cb rfl 30 (.tmp 21) (.tmp 106) rfl v9.heap.size [.slice A9 fu.length c9, .int .i64 xu] rfl rfl 30 [.slice none 0 0, .int .i64 0] 2 GZ10.out sizeS rfl rfl (one_s _ _ _ _) ?_
        intro wz hcz hgz hzz
        have HBZ := Lib.hid (below_grown hHeld.out hgz hHeld.out.size (by omega))
        have UZ := Lib.hid (Own.kept U10.out hgz (.inr (Own.ne U10.out GZ10.out (by decide)).symm))
        refine hK.out _ _ (HBZ) (fun hHeld => ?_)
        clear hK KK
        try simp only [Act.put]
        refine hand_take (i := 10) (v := ?_) rfl (by kernel_rfl) (by kernel_rfl) (by kernel_rfl) (fun _ _ _ h => h) (Or.inl ⟨by rfl, ?_⟩) (by assumption) ?_
        rotate_left
        · intro wS hSw
          clear hSw
          go_simp
          try with_reducible rfl
        try simp only [Act.put, List.setIfInBounds_toArray, List.set_cons_zero, List.set_cons_succ]
        refine wpAnyH_done (by kernel_rfl) ?_ _
        go_wp2_with fail
        go_meet
        exact ⟨_, _, _, rfl, rfl, by omega, Lib.hid hcz, UZ, Lib.hid (zB.out.trans (HBZ.out.mono zB.out.size))⟩
    · go_simp
      have GZ := Lib.hid (CB.new W2 30 [.slice none 0 0, .int .i64 0])
      have HBA := Lib.hid (al_up (o := .cells #[.slice none 0 0, .int .i64 0] 30) hHeld.out)
      refine hK.out _ _ (HBA) (fun hHeld => ?_)
      clear hK KK
      try simp only [Act.put, List.setIfInBounds_toArray, List.set_cons_zero, List.set_cons_succ]
      refine wpAnyH_ready (rs := [3]) (by kernel_rfl) (by simp) ?_
      refine hand_cons rfl (fun KK hK => ?_) AllReadyH.nil
      go_simp
      go_at_call 16
      refine (RChange_any A4 fs.length c4 x fs kd id wi nm ot ty pa sep _ rfl ((show Fds W2 W2.heap.size A4 fs from QD.out.row.2.2.2).up hHeld.out) hfl hx2 hnm hot hsp hkd hid hwi hty hpa).mono ?_
      rintro e v9 ⟨rfl, hb9⟩
      rw [HCD.out]
      have HB9 := Lib.hid (hHeld.out.trans (hb9.mono hHeld.out.size))
      have zB9 := HB9.out.size
      have GZ9 := Lib.hid (GZ.out.up hb9)
      clear hb9
      go_wp2_with fail
      refine hK.out _ _ (HB9) (fun hHeld => ?_)
      clear hK KK
      try simp only [Act.put, List.setIfInBounds_toArray, List.set_cons_zero, List.set_cons_succ]
      refine wpAnyH_ready (rs := [4]) (by kernel_rfl) (by simp) ?_
      refine hand_cons rfl (fun KK hK => ?_) AllReadyH.nil
      go_simp
      go_at_call 15
      refine (RApply_any A4 fs.length c4 x fs cd.kind cd.id cd.wi cd.nm cd.ot cd.ty cd.pa cd.sep _ rfl ((show Fds W2 W2.heap.size A4 fs from QD.out.row.2.2.2).up hHeld.out) hl0 hx0 hx1 HCW.out.nm HCW.out.ot HCW.out.sep HNL.out).mono ?_
      rintro e v10 ⟨⟨A9, n8, c9, rfl, hn8, ho8⟩, hb10⟩
      rw [HQV.out] at hn8 ho8
      rw [HQV.out]
      obtain rfl : n8 = fu.length := hn8
      have HB10 := Lib.hid (hHeld.out.trans (hb10.mono hHeld.out.size))
      have zB10 := HB10.out.size
      have GZ10 := Lib.hid (GZ9.out.up hb10)
      have U10 := Lib.hid (ho8.low (b := W.heap.size) (Nat.le_trans zW2 (hHeld.out.size)))
      clear ho8
      clear hb10
      go_wp2_with fail
      refine hK.out _ _ (HB10) (fun hHeld => ?_)
      clear hK KK
      try simp only [Act.put, List.setIfInBounds_toArray, List.set_cons_zero, List.set_cons_succ]
      refine hand_take (i := 5) (v := ?_) rfl (by kernel_rfl) (by kernel_rfl) (by kernel_rfl) (fun _ _ _ h => h) (Or.inl ⟨by rfl, ?_⟩) (by assumption) ?_
      rotate_left
      · intro wS hSw
        clear hSw
        go_simp
        try with_reducible rfl
      try simp only [Act.put, List.setIfInBounds_toArray, List.set_cons_zero, List.set_cons_succ]
      refine hand_take (i := 6) (v := ?_) rfl (by kernel_rfl) (by kernel_rfl) (by kernel_rfl) (fun _ _ _ h => h) (Or.inl ⟨by rfl, ?_⟩) (by assumption) ?_
      rotate_left
      · intro wS hSw
        clear hSw
        go_simp
        try with_reducible rfl
      try simp only [Act.put, List.setIfInBounds_toArray, List.set_cons_zero, List.set_cons_succ]
      refine hand_take (i := 7) (v := ?_) rfl (by kernel_rfl) (by kernel_rfl) (by kernel_rfl) (fun _ _ _ h => h) (Or.inl ⟨by rfl, ?_⟩) (by assumption) ?_
      rotate_left
      · intro wS hSw
        clear hSw
        go_simp
        try with_reducible rfl
      try simp only [Act.put, List.setIfInBounds_toArray, List.set_cons_zero, List.set_cons_succ]
      refine wpAnyH_ready (rs := [9]) (by kernel_rfl) (by simp) ?_
      refine hand_cons rfl (fun KK hK => ?_) AllReadyH.nil
      refine step_store_cb rfl 30 (.tmp 21) (.tmp 106) rfl W2.heap.size [.slice A9 fu.length c9, .int .i64 xu] rfl rfl 30 [.slice none 0 0, .int .i64 0] 2 GZ10.out sizeS rfl rfl (one_s _ _ _ _) ?_
      intro wz hcz hgz hzz
      have HBZ := Lib.hid (below_grown hHeld.out hgz hHeld.out.size (by omega))
      have UZ := Lib.hid (Own.kept U10.out hgz (.inr (Own.ne U10.out GZ10.out (by decide)).symm))
      refine hK.out _ _ (HBZ) (fun hHeld => ?_)
      clear hK KK
      try simp only [Act.put]
      refine hand_take (i := 10) (v := ?_) rfl (by kernel_rfl) (by kernel_rfl) (by kernel_rfl) (fun _ _ _ h => h) (Or.inl ⟨by rfl, ?_⟩) (by assumption) ?_
      rotate_left
      · intro wS hSw
        clear hSw
        go_simp
        try with_reducible rfl
      try simp only [Act.put, List.setIfInBounds_toArray, List.set_cons_zero, List.set_cons_succ]
      refine wpAnyH_done (by kernel_rfl) ?_ _
      go_wp2_with fail
      go_meet
      exact ⟨_, _, _, rfl, rfl, by omega, Lib.hid hcz, UZ, Lib.hid (zB.out.trans (HBZ.out.mono zB.out.size))⟩
  case rest =>
  obtain ⟨gv, c9, A9, rfl, rfl, hgv, G21, H21, hbz⟩ := hcut
  generalize wc = w21 at *
  have C21 := Lib.hid (C20.out.up hbz.out)
  have X21 := Lib.hid (X20.out.up hbz.out)
  have Q21 := Lib.hid (Q20.out.up hbz.out)
  have T21 := Lib.hid (T20.out.up hbz.out)
  have R21 := Lib.hid (R20.out.up hbz.out)
  have Y21 := Lib.hid (Y20.out.up hbz.out)
  have E21 := Lib.hid (E20.out.up hbz.out)
  have U21 := Lib.hid (U20.out.up hbz.out)
  have V21 := Lib.hid (V20.out.up hbz.out)
  have B21 := Lib.hid (below_step B20.out B20.out.size hbz.out)
  clear hbz
  have jX210 := X21.out.cell 0 rfl
  have jX211 := X21.out.cell 1 rfl
  go_wp2_with (first | (go_at_call 17; refine (Leaves_any A4 fs.length c4 x fs _ rfl (show Fds w21 w21.heap.size A4 fs from Q21.out.row.2.2.2) hl1).mono ?_; rintro e w22 ⟨⟨A10, c10, rfl, ho22⟩, hb22⟩; have X22 := Lib.hid (X21.out.up hb22); have Q22 := Lib.hid (Q21.out.up hb22); have T22 := Lib.hid (T21.out.up hb22); have R22 := Lib.hid (R21.out.up hb22); have Y22 := Lib.hid (Y21.out.up hb22); have E22 := Lib.hid (E21.out.up hb22); have U22 := Lib.hid (U21.out.up hb22); have V22 := Lib.hid (V21.out.up hb22); have G22 := Lib.hid (G21.out.up hb22); have H22 := Lib.hid (H21.out.up hb22); have B22 := Lib.hid (below_step B21.out B21.out.size hb22); have K22 := Lib.hid (ho22.low (b := W.heap.size) B21.out.size); have zX22 := X22.out.lt; have jX220 := X22.out.cell 0 rfl; have jX221 := X22.out.cell 1 rfl; clear hb22 ho22) | (go_at_call 18; refine (RLeaves_any A4 fs.length c4 x fs _ rfl (show Fds w22 w22.heap.size A4 fs from Q22.out.row.2.2.2) hl1).mono ?_; rintro e w23 ⟨⟨A11, c11, rfl, ho23⟩, hb23⟩; have X23 := Lib.hid (X22.out.up hb23); have Q23 := Lib.hid (Q22.out.up hb23); have T23 := Lib.hid (T22.out.up hb23); have R23 := Lib.hid (R22.out.up hb23); have Y23 := Lib.hid (Y22.out.up hb23); have E23 := Lib.hid (E22.out.up hb23); have U23 := Lib.hid (U22.out.up hb23); have V23 := Lib.hid (V22.out.up hb23); have G23 := Lib.hid (G22.out.up hb23); have H23 := Lib.hid (H22.out.up hb23); have K23 := Lib.hid (K22.out.up hb23); have B23 := Lib.hid (below_step B22.out B22.out.size hb23); have J23 := Lib.hid (ho23.low (b := W.heap.size) B22.out.size); have zX23 := X23.out.lt; have jX230 := X23.out.cell 0 rfl; have jX231 := X23.out.cell 1 rfl; have zY23 := Y23.out.lt; have jY230 := Y23.out.cell 0 rfl; have jY231 := Y23.out.cell 1 rfl; have zE23 := E23.out.lt; have jE230 := E23.out.cell 0 rfl; have jE231 := E23.out.cell 1 rfl; have zU23 := U23.out.lt; have jU230 := U23.out.cell 0 rfl; have jU231 := U23.out.cell 1 rfl; have zG23 := G23.out.lt; have jG230 := G23.out.cell 0 rfl; have jG231 := G23.out.cell 1 rfl; have tk24 : Hid True := Lib.hid trivial; clear hb23 ho23) | (have tt := tk24; go_at_call 13; refine (RSame_any A6 ft.length c6 xt ft A7 ft.length c7 xt ft _ rfl (show Fds w23 w23.heap.size A6 ft from T23.out.row.2.2.2) rfl (show Fds w23 w23.heap.size A7 ft from R23.out.row.2.2.2) hlt hlt).mono ?_; rintro e w24 ⟨rfl, hb24⟩; rw [HST.out]; have X24 := Lib.hid (X23.out.up hb24); have Q24 := Lib.hid (Q23.out.up hb24); have T24 := Lib.hid (T23.out.up hb24); have R24 := Lib.hid (R23.out.up hb24); have Y24 := Lib.hid (Y23.out.up hb24); have E24 := Lib.hid (E23.out.up hb24); have U24 := Lib.hid (U23.out.up hb24); have V24 := Lib.hid (V23.out.up hb24); have G24 := Lib.hid (G23.out.up hb24); have H24 := Lib.hid (H23.out.up hb24); have K24 := Lib.hid (K23.out.up hb24); have J24 := Lib.hid (J23.out.up hb24); have B24 := Lib.hid (below_step B23.out B23.out.size hb24); have zX24 := X24.out.lt; have jX240 := X24.out.cell 0 rfl; have jX241 := X24.out.cell 1 rfl; have zU24 := U24.out.lt; have jU240 := U24.out.cell 0 rfl; have jU241 := U24.out.cell 1 rfl; have zG24 := G24.out.lt; have jG240 := G24.out.cell 0 rfl; have jG241 := G24.out.cell 1 rfl; have tk25 : Hid True := Lib.hid trivial; clear hb24 tt tk24) | (have tt := tk25; go_at_call 13; refine (RSame_any A8 fu.length c8 xu fu A9 fu.length c9 xu fu _ rfl (show Fds w24 w24.heap.size A8 fu from V24.out.row.2.2.2) rfl (show Fds w24 w24.heap.size A9 fu from H24.out.row.2.2.2) hlu hlu).mono ?_; rintro e w25 ⟨rfl, hb25⟩; rw [HSU.out]; have X25 := Lib.hid (X24.out.up hb25); have Q25 := Lib.hid (Q24.out.up hb25); have T25 := Lib.hid (T24.out.up hb25); have R25 := Lib.hid (R24.out.up hb25); have Y25 := Lib.hid (Y24.out.up hb25); have E25 := Lib.hid (E24.out.up hb25); have U25 := Lib.hid (U24.out.up hb25); have V25 := Lib.hid (V24.out.up hb25); have G25 := Lib.hid (G24.out.up hb25); have H25 := Lib.hid (H24.out.up hb25); have K25 := Lib.hid (K24.out.up hb25); have J25 := Lib.hid (J24.out.up hb25); have B25 := Lib.hid (below_step B24.out B24.out.size hb25); have zX25 := X25.out.lt; have jX250 := X25.out.cell 0 rfl; have jX251 := X25.out.cell 1 rfl; clear hb25 tt tk25))
  go_loopw [25] (fun j wr => ∃ k : Nat, k ≤ (leafL fs).length ∧ j = .int .i64 k ∧ Hid (CB wr w4.heap.size 30 [.slice A4 fs.length c4, .int .i64 x]) ∧ Hid (Own 41 4 wr W.heap.size (.slice A4 fs.length c4) (fs.map Fd.cells)) ∧ Hid (Own 3 1 wr W.heap.size (.slice A10 (leafL fs).length c10) (ic (leafL fs))) ∧ Hid (Own 3 1 wr W.heap.size (.slice A11 (leafL fs).length c11) (ic (leafL fs))) ∧ Hid (Below W.heap.size W wr)) (fun j _ => (leafL fs).length - (intOf j).toNat)
  case atStart => exact ⟨0, by omega, rfl, X25, Q25, K25, J25, B25⟩
  case round =>
    obtain ⟨k, hk, rfl, X26, Q26, K26, J26, B26⟩ := hrel
    have hll : (leafL fs).length ≤ 64 := Nat.le_trans (leaf_len fs) hlL
    by_cases hlt : k < (leafL fs).length
    · have i1 : (k : Int) < ((leafL fs).length : Int) := by omega
      obtain ⟨q, hq⟩ : ∃ q, (leafL fs)[k]? = some q := ⟨_, List.getElem?_eq_getElem hlt⟩
      have hic : (ic (leafL fs))[k]? = some [Value.int .i64 q] := by unfold ic; rw [List.getElem?_map, hq]; rfl
      obtain ⟨b, off, hA, hbl, hat⟩ := RowAt.one K26.out.row.2.2.2 hic
      obtain ⟨b', off', hA', hbl', hat'⟩ := RowAt.one J26.out.row.2.2.2 hic
      have c0 := hat 0 _ rfl
      have c0' := hat' 0 _ rfl
      rw [Nat.mul_one, Nat.add_zero] at c0 c0'
      subst hA hA'
      clear hat hat' hic hq
      as_aux_lemma =>
      go_wp2
      go_quiet (fail)
      go_wp2
      go_roundw
      case rel => exact ⟨k + 1, by omega, by go_num, Lib.hid (show CB _ _ _ _ from X26.out), Lib.hid (Q26.out.drewN _), Lib.hid (K26.out.drewN _), Lib.hid (J26.out.drewN _), Lib.hid (below_drewN B26.out _)⟩
      case measure => simp [intOf]; omega
    · have i1 : ¬ (k : Int) < ((leafL fs).length : Int) := by omega
      have jX0 := X26.out.cell 0 rfl
      have jX1 := X26.out.cell 1 rfl
      obtain ⟨fd, hfd⟩ : ∃ f, fieldD fs z = f := ⟨_, rfl⟩
      obtain ⟨fb, hfb⟩ : ∃ b, hasF fs z = b := ⟨_, rfl⟩
      obtain ⟨pz, hpz⟩ : ∃ p, pathOf fs z = p := ⟨_, rfl⟩
      obtain ⟨fo, hfo⟩ : ∃ o, findGo (fun f => pathOf fs f.id) pz fs = o := ⟨_, rfl⟩
      have HFD := Lib.hid hfd
      have HFB := Lib.hid hfb
      have HPA := Lib.hid hpz
      have HFI := Lib.hid hfo
      have hwz := Lib.hid (IntWalk.i64_in z (by omega))
      clear hfd hfb hpz hfo
      go_upto_region 24 with (first | (go_at_call 19; refine (Field_any A4 fs.length c4 x fs z _ rfl (show Fds wr wr.heap.size A4 fs from Q26.out.row.2.2.2) hfl).mono ?_; rintro e w30 ⟨rfl, hb30⟩; rw [HFD.out, HFB.out]; have B30 := Lib.hid (below_step B26.out B26.out.size hb30); have X30 := Lib.hid (X26.out.up hb30); have Q30 := Lib.hid (Q26.out.up hb30); have zX30 := X30.out.lt; have jX300 := X30.out.cell 0 rfl; have jX301 := X30.out.cell 1 rfl; clear hb30) | (go_at_call 20; refine (RField_any A4 fs.length c4 x fs z _ rfl ((show Fds w30 w30.heap.size A4 fs from Q30.out.row.2.2.2).up (al1 _ _)) hfl).mono ?_; rintro e w31 ⟨rfl, hb31⟩; rw [HFD.out, HFB.out]; have hw31 : Below w30.heap.size w30 w31 := (al1 w30 (.cells #[.int .i64 fd.id, .string fd.nm, .int .i64 fd.ty, .int .i64 fd.pa] 41)).trans (hb31.mono (al1 w30 (.cells #[.int .i64 fd.id, .string fd.nm, .int .i64 fd.ty, .int .i64 fd.pa] 41)).size); have B31 := Lib.hid (below_step B30.out B30.out.size hw31); have I31 := Lib.hid ((CB.new w30 41 [.int .i64 fd.id, .string fd.nm, .int .i64 fd.ty, .int .i64 fd.pa]).up hb31); have X31 := Lib.hid (X30.out.up hw31); have Q31 := Lib.hid (Q30.out.up hw31); clear hb31 hw31))
      have N32 := Lib.hid (CB.new w31 41 [.int .i64 fd.id, .string fd.nm, .int .i64 fd.ty, .int .i64 fd.pa])
      have I32 := Lib.hid (I31.out.alloc (.cells #[.int .i64 fd.id, .string fd.nm, .int .i64 fd.ty, .int .i64 fd.pa] 41))
      have X32 := Lib.hid (X31.out.alloc (.cells #[.int .i64 fd.id, .string fd.nm, .int .i64 fd.ty, .int .i64 fd.pa] 41))
      have Q32 := Lib.hid (Q31.out.alloc (.cells #[.int .i64 fd.id, .string fd.nm, .int .i64 fd.ty, .int .i64 fd.pa] 41))
      have B32 := Lib.hid (B31.out.alloc B31.out.size (.cells #[.int .i64 fd.id, .string fd.nm, .int .i64 fd.ty, .int .i64 fd.pa] 41))
      clear I31 X31 Q31 B31
      revert N32 I32 X32 Q32 B32
      generalize w31.alloc (.cells #[.int .i64 fd.id, .string fd.nm, .int .i64 fd.ty, .int .i64 fd.pa] 41) = w32
      intro N32 I32 X32 Q32 B32
      go_cut [30, 31] (fun u v wx => u = .int .i64 (fo.getD 0) ∧ v = .bool fo.isSome ∧ Hid (Below w32.heap.size w32 wx))
      case first => as_aux_lemma =>
        have HXL : Hid (∀ X, Below w32.heap.size w32 X → X.cell? ⟨w4.heap.size, 0, none⟩ = some (.slice A4 fs.length c4) ∧ X.cell? ⟨w4.heap.size, 1, none⟩ = some (.int .i64 x)) := fun X hX => ⟨(X32.out.up hX).cell 0 rfl, (X32.out.up hX).cell 1 rfl⟩
        refine wp_region_held_drew (S := fun w' => Hid (Below w32.heap.size w32 w')) (by kernel_rfl) (Lib.hid (bd w32)) (fun hHeld => ?_)
        refine hand_take (i := 0) (v := ?_) rfl (by kernel_rfl) (by kernel_rfl) (by kernel_rfl) (fun _ _ _ h => h) (Or.inl ⟨by rfl, ?_⟩) (by assumption) ?_
        rotate_left
        · intro wS hSw
          obtain ⟨y0, y1⟩ := HXL.out _ hSw.out
          clear hSw
          go_simp
          try with_reducible rfl
        try simp only [Act.put, List.setIfInBounds_toArray, List.set_cons_zero, List.set_cons_succ]
        refine hand_take (i := 1) (v := ?_) rfl (by kernel_rfl) (by kernel_rfl) (by kernel_rfl) (fun _ _ _ h => h) (Or.inl ⟨by rfl, ?_⟩) (by assumption) ?_
        rotate_left
        · intro wS hSw
          obtain ⟨y0, y1⟩ := HXL.out _ hSw.out
          clear hSw
          go_simp
          try with_reducible rfl
        try simp only [Act.put, List.setIfInBounds_toArray, List.set_cons_zero, List.set_cons_succ]
        refine hand_take (i := 2) (v := ?_) rfl (by kernel_rfl) (by kernel_rfl) (by kernel_rfl) (fun _ _ _ h => h) (Or.inl ⟨by rfl, ?_⟩) (by assumption) ?_
        rotate_left
        · intro wS hSw
          clear hSw
          go_simp
          try with_reducible rfl
        try simp only [Act.put, List.setIfInBounds_toArray, List.set_cons_zero, List.set_cons_succ]
        refine hand_take (i := 3) (v := .int .i64 z) rfl (by kernel_rfl) (by kernel_rfl) (by kernel_rfl) (fun _ _ _ h => h) (Or.inl ⟨by rfl, ?_⟩) (by assumption) ?_
        · intro wS hSw
          have hv := hwz.out <;> (go_simp; try first | with_reducible rfl | simp only [*])
        try simp only [Act.put, List.setIfInBounds_toArray, List.set_cons_zero, List.set_cons_succ]
        refine wpAnyH_ready (rs := [4]) (by kernel_rfl) (by simp) ?_
        refine hand_cons rfl (fun KK hK => ?_) AllReadyH.nil
        go_simp
        go_at_call 22
        refine (RPath_ok A4 fs.length c4 x fs z _ rfl ((show Fds w32 w32.heap.size A4 fs from Q32.out.row.2.2.2).up hHeld.out) HOK.out).mono ?_
        rintro e v9 ⟨rfl, hb9⟩
        rw [HPA.out]
        have HB9 := Lib.hid (hHeld.out.trans (hb9.mono hHeld.out.size))
        clear hb9
        go_wp2_with fail
        refine hK.out _ _ (HB9) (fun hHeld => ?_)
        clear hK KK
        try simp only [Act.put, List.setIfInBounds_toArray, List.set_cons_zero, List.set_cons_succ]
        refine wpAnyH_ready (rs := [5]) (by kernel_rfl) (by simp) ?_
        refine hand_cons rfl (fun KK hK => ?_) AllReadyH.nil
        go_simp
        go_at_call 21
        refine (Find_any A4 fs.length c4 x fs pz _ rfl ((show Fds w32 w32.heap.size A4 fs from Q32.out.row.2.2.2).up hHeld.out) hfl HSZ.out).mono ?_
        rintro e v10 ⟨rfl, hb10⟩
        rw [HFI.out]
        have HB10 := Lib.hid (hHeld.out.trans (hb10.mono hHeld.out.size))
        clear hb10
        go_wp2_with fail
        refine hK.out _ _ (HB10) (fun hHeld => ?_)
        clear hK KK
        try simp only [Act.put, List.setIfInBounds_toArray, List.set_cons_zero, List.set_cons_succ]
        refine hand_take (i := 6) (v := ?_) rfl (by kernel_rfl) (by kernel_rfl) (by kernel_rfl) (fun _ _ _ h => h) (Or.inl ⟨by rfl, ?_⟩) (by assumption) ?_
        rotate_left
        · intro wS hSw
          clear hSw
          go_simp
          try with_reducible rfl
        try simp only [Act.put, List.setIfInBounds_toArray, List.set_cons_zero, List.set_cons_succ]
        refine hand_take (i := 7) (v := ?_) rfl (by kernel_rfl) (by kernel_rfl) (by kernel_rfl) (fun _ _ _ h => h) (Or.inl ⟨by rfl, ?_⟩) (by assumption) ?_
        rotate_left
        · intro wS hSw
          clear hSw
          go_simp
          try with_reducible rfl
        try simp only [Act.put, List.setIfInBounds_toArray, List.set_cons_zero, List.set_cons_succ]
        refine hand_take (i := 8) (v := ?_) rfl (by kernel_rfl) (by kernel_rfl) (by kernel_rfl) (fun _ _ _ h => h) (Or.inl ⟨by rfl, ?_⟩) (by assumption) ?_
        rotate_left
        · intro wS hSw
          clear hSw
          go_simp
          try with_reducible rfl
        try simp only [Act.put, List.setIfInBounds_toArray, List.set_cons_zero, List.set_cons_succ]
        refine hand_take (i := 9) (v := ?_) rfl (by kernel_rfl) (by kernel_rfl) (by kernel_rfl) (fun _ _ _ h => h) (Or.inl ⟨by rfl, ?_⟩) (by assumption) ?_
        rotate_left
        · intro wS hSw
          clear hSw
          go_simp
          try with_reducible rfl
        try simp only [Act.put, List.setIfInBounds_toArray, List.set_cons_zero, List.set_cons_succ]
        refine hand_take (i := 10) (v := ?_) rfl (by kernel_rfl) (by kernel_rfl) (by kernel_rfl) (fun _ _ _ h => h) (Or.inl ⟨by rfl, ?_⟩) (by assumption) ?_
        rotate_left
        · intro wS hSw
          clear hSw
          go_simp
          try with_reducible rfl
        try simp only [Act.put, List.setIfInBounds_toArray, List.set_cons_zero, List.set_cons_succ]
        refine wpAnyH_done (by kernel_rfl) ?_ _
        go_wp2_with fail
        go_meet
        exact ⟨rfl, rfl, HB10⟩
      case rest =>
        obtain ⟨rfl, rfl, hbz⟩ := hcut
        generalize wc = w33 at *
        have N33 := Lib.hid (N32.out.up hbz.out)
        have I33 := Lib.hid (I32.out.up hbz.out)
        have X33 := Lib.hid (X32.out.up hbz.out)
        have Q33 := Lib.hid (Q32.out.up hbz.out)
        have B33 := Lib.hid (below_step B32.out B32.out.size hbz.out)
        clear hbz
        go_upto_region 25 with fail
        go_cut [32, 33] (fun u v wx => u = .int .i64 (fo.getD 0) ∧ v = .bool fo.isSome ∧ Hid (Below w33.heap.size w33 wx))
        case first => as_aux_lemma =>
          have HXL : Hid (∀ X, Below w33.heap.size w33 X → X.cell? ⟨w4.heap.size, 0, none⟩ = some (.slice A4 fs.length c4) ∧ X.cell? ⟨w4.heap.size, 1, none⟩ = some (.int .i64 x)) := fun X hX => ⟨(X33.out.up hX).cell 0 rfl, (X33.out.up hX).cell 1 rfl⟩
          refine wp_region_held_drew (S := fun w' => Hid (Below w33.heap.size w33 w')) (by kernel_rfl) (Lib.hid (bd w33)) (fun hHeld => ?_)
          refine hand_take (i := 0) (v := ?_) rfl (by kernel_rfl) (by kernel_rfl) (by kernel_rfl) (fun _ _ _ h => h) (Or.inl ⟨by rfl, ?_⟩) (by assumption) ?_
          rotate_left
          · intro wS hSw
            obtain ⟨y0, y1⟩ := HXL.out _ hSw.out
            clear hSw
            go_simp
            try with_reducible rfl
          try simp only [Act.put, List.setIfInBounds_toArray, List.set_cons_zero, List.set_cons_succ]
          refine hand_take (i := 1) (v := ?_) rfl (by kernel_rfl) (by kernel_rfl) (by kernel_rfl) (fun _ _ _ h => h) (Or.inl ⟨by rfl, ?_⟩) (by assumption) ?_
          rotate_left
          · intro wS hSw
            obtain ⟨y0, y1⟩ := HXL.out _ hSw.out
            clear hSw
            go_simp
            try with_reducible rfl
          try simp only [Act.put, List.setIfInBounds_toArray, List.set_cons_zero, List.set_cons_succ]
          refine hand_take (i := 2) (v := ?_) rfl (by kernel_rfl) (by kernel_rfl) (by kernel_rfl) (fun _ _ _ h => h) (Or.inl ⟨by rfl, ?_⟩) (by assumption) ?_
          rotate_left
          · intro wS hSw
            clear hSw
            go_simp
            try with_reducible rfl
          try simp only [Act.put, List.setIfInBounds_toArray, List.set_cons_zero, List.set_cons_succ]
          refine hand_take (i := 3) (v := .int .i64 z) rfl (by kernel_rfl) (by kernel_rfl) (by kernel_rfl) (fun _ _ _ h => h) (Or.inl ⟨by rfl, ?_⟩) (by assumption) ?_
          · intro wS hSw
            have hv := hwz.out <;> (go_simp; try first | with_reducible rfl | simp only [*])
          try simp only [Act.put, List.setIfInBounds_toArray, List.set_cons_zero, List.set_cons_succ]
          refine wpAnyH_ready (rs := [4]) (by kernel_rfl) (by simp) ?_
          refine hand_cons rfl (fun KK hK => ?_) AllReadyH.nil
          go_simp
          go_at_call 22
          refine (RPath_ok A4 fs.length c4 x fs z _ rfl ((show Fds w33 w33.heap.size A4 fs from Q33.out.row.2.2.2).up hHeld.out) HOK.out).mono ?_
          rintro e v9 ⟨rfl, hb9⟩
          rw [HPA.out]
          have HB9 := Lib.hid (hHeld.out.trans (hb9.mono hHeld.out.size))
          clear hb9
          go_wp2_with fail
          refine hK.out _ _ (HB9) (fun hHeld => ?_)
          clear hK KK
          try simp only [Act.put, List.setIfInBounds_toArray, List.set_cons_zero, List.set_cons_succ]
          refine wpAnyH_ready (rs := [5]) (by kernel_rfl) (by simp) ?_
          refine hand_cons rfl (fun KK hK => ?_) AllReadyH.nil
          go_simp
          go_at_call 23
          refine (RFind_ok A4 fs.length c4 x fs pz _ rfl ((show Fds w33 w33.heap.size A4 fs from Q33.out.row.2.2.2).up hHeld.out) HOK.out).mono ?_
          rintro e v10 ⟨rfl, hb10⟩
          rw [HFI.out]
          have HB10 := Lib.hid (hHeld.out.trans (hb10.mono hHeld.out.size))
          clear hb10
          go_wp2_with fail
          refine hK.out _ _ (HB10) (fun hHeld => ?_)
          clear hK KK
          try simp only [Act.put, List.setIfInBounds_toArray, List.set_cons_zero, List.set_cons_succ]
          refine hand_take (i := 6) (v := ?_) rfl (by kernel_rfl) (by kernel_rfl) (by kernel_rfl) (fun _ _ _ h => h) (Or.inl ⟨by rfl, ?_⟩) (by assumption) ?_
          rotate_left
          · intro wS hSw
            clear hSw
            go_simp
            try with_reducible rfl
          try simp only [Act.put, List.setIfInBounds_toArray, List.set_cons_zero, List.set_cons_succ]
          refine hand_take (i := 7) (v := ?_) rfl (by kernel_rfl) (by kernel_rfl) (by kernel_rfl) (fun _ _ _ h => h) (Or.inl ⟨by rfl, ?_⟩) (by assumption) ?_
          rotate_left
          · intro wS hSw
            clear hSw
            go_simp
            try with_reducible rfl
          try simp only [Act.put, List.setIfInBounds_toArray, List.set_cons_zero, List.set_cons_succ]
          refine hand_take (i := 8) (v := ?_) rfl (by kernel_rfl) (by kernel_rfl) (by kernel_rfl) (fun _ _ _ h => h) (Or.inl ⟨by rfl, ?_⟩) (by assumption) ?_
          rotate_left
          · intro wS hSw
            clear hSw
            go_simp
            try with_reducible rfl
          try simp only [Act.put, List.setIfInBounds_toArray, List.set_cons_zero, List.set_cons_succ]
          refine hand_take (i := 9) (v := ?_) rfl (by kernel_rfl) (by kernel_rfl) (by kernel_rfl) (fun _ _ _ h => h) (Or.inl ⟨by rfl, ?_⟩) (by assumption) ?_
          rotate_left
          · intro wS hSw
            clear hSw
            go_simp
            try with_reducible rfl
          try simp only [Act.put, List.setIfInBounds_toArray, List.set_cons_zero, List.set_cons_succ]
          refine hand_take (i := 10) (v := ?_) rfl (by kernel_rfl) (by kernel_rfl) (by kernel_rfl) (fun _ _ _ h => h) (Or.inl ⟨by rfl, ?_⟩) (by assumption) ?_
          rotate_left
          · intro wS hSw
            clear hSw
            go_simp
            try with_reducible rfl
          try simp only [Act.put, List.setIfInBounds_toArray, List.set_cons_zero, List.set_cons_succ]
          refine wpAnyH_done (by kernel_rfl) ?_ _
          go_wp2_with fail
          go_meet
          exact ⟨rfl, rfl, HB10⟩
        case rest =>
          obtain ⟨rfl, rfl, hbz⟩ := hcut
          generalize wc = w34 at *
          have N34 := Lib.hid (N33.out.up hbz.out)
          have I34 := Lib.hid (I33.out.up hbz.out)
          have X34 := Lib.hid (X33.out.up hbz.out)
          have Q34 := Lib.hid (Q33.out.up hbz.out)
          have B34 := Lib.hid (below_step B33.out B33.out.size hbz.out)
          clear hbz
          go_upto_region 26 with fail
          as_aux_lemma =>
            have HXL : Hid (∀ X, Below w34.heap.size w34 X → X.cell? ⟨w4.heap.size, 0, none⟩ = some (.slice A4 fs.length c4) ∧ X.cell? ⟨w4.heap.size, 1, none⟩ = some (.int .i64 x) ∧ X.cell? ⟨w30.heap.size, 0, none⟩ = some (.int .i64 fd.id) ∧ X.cell? ⟨w30.heap.size, 1, none⟩ = some (.string fd.nm) ∧ X.cell? ⟨w30.heap.size, 2, none⟩ = some (.int .i64 fd.ty) ∧ X.cell? ⟨w30.heap.size, 3, none⟩ = some (.int .i64 fd.pa) ∧ X.cell? ⟨w31.heap.size, 0, none⟩ = some (.int .i64 fd.id) ∧ X.cell? ⟨w31.heap.size, 1, none⟩ = some (.string fd.nm) ∧ X.cell? ⟨w31.heap.size, 2, none⟩ = some (.int .i64 fd.ty) ∧ X.cell? ⟨w31.heap.size, 3, none⟩ = some (.int .i64 fd.pa)) := fun X hX => ⟨(X34.out.up hX).cell 0 rfl, (X34.out.up hX).cell 1 rfl, (I34.out.up hX).cell 0 rfl, (I34.out.up hX).cell 1 rfl, (I34.out.up hX).cell 2 rfl, (I34.out.up hX).cell 3 rfl, (N34.out.up hX).cell 0 rfl, (N34.out.up hX).cell 1 rfl, (N34.out.up hX).cell 2 rfl, (N34.out.up hX).cell 3 rfl⟩
            refine wp_region_held_drew (S := fun w' => Hid (Below w34.heap.size w34 w')) (by kernel_rfl) (Lib.hid (bd w34)) (fun hHeld => ?_)
            refine hand_take (i := 0) (v := ?_) rfl (by kernel_rfl) (by kernel_rfl) (by kernel_rfl) (fun _ _ _ h => h) (Or.inl ⟨by rfl, ?_⟩) (by assumption) ?_
            rotate_left
            · intro wS hSw
              clear hSw
              go_simp
              try with_reducible rfl
            try simp only [Act.put, List.setIfInBounds_toArray, List.set_cons_zero, List.set_cons_succ]
            refine hand_take (i := 1) (v := ?_) rfl (by kernel_rfl) (by kernel_rfl) (by kernel_rfl) (fun _ _ _ h => h) (Or.inl ⟨by rfl, ?_⟩) (by assumption) ?_
            rotate_left
            · intro wS hSw
              clear hSw
              go_simp
              try with_reducible rfl
            try simp only [Act.put, List.setIfInBounds_toArray, List.set_cons_zero, List.set_cons_succ]
            refine hand_take (i := 2) (v := ?_) rfl (by kernel_rfl) (by kernel_rfl) (by kernel_rfl) (fun _ _ _ h => h) (Or.inl ⟨by rfl, ?_⟩) (by assumption) ?_
            rotate_left
            · intro wS hSw
              obtain ⟨y0, y1, f0, f1, f2, f3, g0, g1, g2, g3⟩ := HXL.out _ hSw.out
              clear hSw
              go_simp
              try with_reducible rfl
            try simp only [Act.put, List.setIfInBounds_toArray, List.set_cons_zero, List.set_cons_succ]
            refine hand_take (i := 3) (v := ?_) rfl (by kernel_rfl) (by kernel_rfl) (by kernel_rfl) (fun _ _ _ h => h) (Or.inl ⟨by rfl, ?_⟩) (by assumption) ?_
            rotate_left
            · intro wS hSw
              obtain ⟨y0, y1, f0, f1, f2, f3, g0, g1, g2, g3⟩ := HXL.out _ hSw.out
              clear hSw
              go_simp
              try with_reducible rfl
            try simp only [Act.put, List.setIfInBounds_toArray, List.set_cons_zero, List.set_cons_succ]
            refine hand_take (i := 4) (v := .bool true) rfl (by kernel_rfl) (by kernel_rfl) (by kernel_rfl) (fun _ _ _ h => h) (Or.inl ⟨by rfl, ?_⟩) (by assumption) ?_
            · intro wS hSw
              have hv := hwz.out <;> (go_simp; try first | with_reducible rfl | simp only [*])
            try simp only [Act.put, List.setIfInBounds_toArray, List.set_cons_zero, List.set_cons_succ]
            refine hand_take (i := 5) (v := ?_) rfl (by kernel_rfl) (by kernel_rfl) (by kernel_rfl) (fun _ _ _ h => h) (Or.inl ⟨by rfl, ?_⟩) (by assumption) ?_
            rotate_left
            · intro wS hSw
              clear hSw
              go_simp
              try with_reducible rfl
            try simp only [Act.put, List.setIfInBounds_toArray, List.set_cons_zero, List.set_cons_succ]
            refine hand_take (i := 6) (v := ?_) rfl (by kernel_rfl) (by kernel_rfl) (by kernel_rfl) (fun _ _ _ h => h) (Or.inl ⟨by rfl, ?_⟩) (by assumption) ?_
            rotate_left
            · intro wS hSw
              clear hSw
              go_simp
              try with_reducible rfl
            try simp only [Act.put, List.setIfInBounds_toArray, List.set_cons_zero, List.set_cons_succ]
            refine hand_take (i := 7) (v := ?_) rfl (by kernel_rfl) (by kernel_rfl) (by kernel_rfl) (fun _ _ _ h => h) (Or.inl ⟨by rfl, ?_⟩) (by assumption) ?_
            rotate_left
            · intro wS hSw
              clear hSw
              go_simp
              try with_reducible rfl
            try simp only [Act.put, List.setIfInBounds_toArray, List.set_cons_zero, List.set_cons_succ]
            refine hand_take (i := 8) (v := ?_) rfl (by kernel_rfl) (by kernel_rfl) (by kernel_rfl) (fun _ _ _ h => h) (Or.inl ⟨by rfl, ?_⟩) (by assumption) ?_
            rotate_left
            · intro wS hSw
              clear hSw
              go_simp
              try with_reducible rfl
            try simp only [Act.put, List.setIfInBounds_toArray, List.set_cons_zero, List.set_cons_succ]
            refine hand_take (i := 9) (v := .bool true) rfl (by kernel_rfl) (by kernel_rfl) (by kernel_rfl) (fun _ _ _ h => h) (Or.inl ⟨by rfl, ?_⟩) (by assumption) ?_
            · intro wS hSw
              have hv := hwz.out <;> (go_simp; try first | with_reducible rfl | simp only [*])
            try simp only [Act.put, List.setIfInBounds_toArray, List.set_cons_zero, List.set_cons_succ]
            refine hand_take (i := 10) (v := ?_) rfl (by kernel_rfl) (by kernel_rfl) (by kernel_rfl) (fun _ _ _ h => h) (Or.inl ⟨by rfl, ?_⟩) (by assumption) ?_
            rotate_left
            · intro wS hSw
              clear hSw
              go_simp
              try with_reducible rfl
            try simp only [Act.put, List.setIfInBounds_toArray, List.set_cons_zero, List.set_cons_succ]
            refine hand_take (i := 11) (v := ?_) rfl (by kernel_rfl) (by kernel_rfl) (by kernel_rfl) (fun _ _ _ h => h) (Or.inl ⟨by rfl, ?_⟩) (by assumption) ?_
            rotate_left
            · intro wS hSw
              clear hSw
              go_simp
              try with_reducible rfl
            try simp only [Act.put, List.setIfInBounds_toArray, List.set_cons_zero, List.set_cons_succ]
            refine hand_take (i := 12) (v := ?_) rfl (by kernel_rfl) (by kernel_rfl) (by kernel_rfl) (fun _ _ _ h => h) (Or.inl ⟨by rfl, ?_⟩) (by assumption) ?_
            rotate_left
            · intro wS hSw
              obtain ⟨y0, y1, f0, f1, f2, f3, g0, g1, g2, g3⟩ := HXL.out _ hSw.out
              clear hSw
              go_simp
              try with_reducible rfl
            try simp only [Act.put, List.setIfInBounds_toArray, List.set_cons_zero, List.set_cons_succ]
            refine hand_take (i := 13) (v := ?_) rfl (by kernel_rfl) (by kernel_rfl) (by kernel_rfl) (fun _ _ _ h => h) (Or.inl ⟨by rfl, ?_⟩) (by assumption) ?_
            rotate_left
            · intro wS hSw
              clear hSw
              go_simp
              try with_reducible rfl
            try simp only [Act.put, List.setIfInBounds_toArray, List.set_cons_zero, List.set_cons_succ]
            refine hand_take (i := 14) (v := .int .i64 z) rfl (by kernel_rfl) (by kernel_rfl) (by kernel_rfl) (fun _ _ _ h => h) (Or.inl ⟨by rfl, ?_⟩) (by assumption) ?_
            · intro wS hSw
              have hv := hwz.out <;> (go_simp; try first | with_reducible rfl | simp only [*])
            try simp only [Act.put, List.setIfInBounds_toArray, List.set_cons_zero, List.set_cons_succ]
            refine hand_take (i := 16) (v := ?_) rfl (by kernel_rfl) (by kernel_rfl) (by kernel_rfl) (fun _ _ _ h => h) (Or.inl ⟨by rfl, ?_⟩) (by assumption) ?_
            rotate_left
            · intro wS hSw
              obtain ⟨y0, y1, f0, f1, f2, f3, g0, g1, g2, g3⟩ := HXL.out _ hSw.out
              clear hSw
              go_simp
              try with_reducible rfl
            try simp only [Act.put, List.setIfInBounds_toArray, List.set_cons_zero, List.set_cons_succ]
            refine hand_take (i := 17) (v := ?_) rfl (by kernel_rfl) (by kernel_rfl) (by kernel_rfl) (fun _ _ _ h => h) (Or.inl ⟨by rfl, ?_⟩) (by assumption) ?_
            rotate_left
            · intro wS hSw
              clear hSw
              go_simp
              try with_reducible rfl
            try simp only [Act.put, List.setIfInBounds_toArray, List.set_cons_zero, List.set_cons_succ]
            refine hand_take (i := 18) (v := .int .i64 z) rfl (by kernel_rfl) (by kernel_rfl) (by kernel_rfl) (fun _ _ _ h => h) (Or.inl ⟨by rfl, ?_⟩) (by assumption) ?_
            · intro wS hSw
              have hv := hwz.out <;> (go_simp; try first | with_reducible rfl | simp only [*])
            try simp only [Act.put, List.setIfInBounds_toArray, List.set_cons_zero, List.set_cons_succ]
            refine wpAnyH_ready (rs := [15]) (by kernel_rfl) (by simp) ?_
            refine hand_cons rfl (fun KK hK => ?_) AllReadyH.nil
            go_simp
            go_at_call 24
            refine (Path_any A4 fs.length c4 x fs z _ rfl ((show Fds w34 w34.heap.size A4 fs from Q34.out.row.2.2.2).up hHeld.out) hfl HSZ.out).mono ?_
            rintro e v9 ⟨rfl, hb9⟩
            rw [HPA.out]
            have HB9 := Lib.hid (hHeld.out.trans (hb9.mono hHeld.out.size))
            clear hb9
            go_wp2_with fail
            refine hK.out _ _ (HB9) (fun hHeld => ?_)
            clear hK KK
            try simp only [Act.put, List.setIfInBounds_toArray, List.set_cons_zero, List.set_cons_succ]
            refine wpAnyH_ready (rs := [19]) (by kernel_rfl) (by simp) ?_
            refine hand_cons rfl (fun KK hK => ?_) AllReadyH.nil
            go_simp
            go_at_call 22
            refine (RPath_ok A4 fs.length c4 x fs z _ rfl ((show Fds w34 w34.heap.size A4 fs from Q34.out.row.2.2.2).up hHeld.out) HOK.out).mono ?_
            rintro e v10 ⟨rfl, hb10⟩
            rw [HPA.out]
            have HB10 := Lib.hid (hHeld.out.trans (hb10.mono hHeld.out.size))
            clear hb10
            go_wp2_with fail
            refine hK.out _ _ (HB10) (fun hHeld => ?_)
            clear hK KK
            try simp only [Act.put, List.setIfInBounds_toArray, List.set_cons_zero, List.set_cons_succ]
            refine hand_take (i := 20) (v := .bool true) rfl (by kernel_rfl) (by kernel_rfl) (by kernel_rfl) (fun _ _ _ h => h) (Or.inl ⟨by rfl, ?_⟩) (by assumption) ?_
            · intro wS hSw
              have hv := hwz.out <;> (go_simp; try first | with_reducible rfl | simp only [*])
            try simp only [Act.put, List.setIfInBounds_toArray, List.set_cons_zero, List.set_cons_succ]
            refine hand_take (i := 21) (v := ?_) rfl (by kernel_rfl) (by kernel_rfl) (by kernel_rfl) (fun _ _ _ h => h) (Or.inl ⟨by rfl, ?_⟩) (by assumption) ?_
            rotate_left
            · intro wS hSw
              clear hSw
              go_simp
              try with_reducible rfl
            try simp only [Act.put, List.setIfInBounds_toArray, List.set_cons_zero, List.set_cons_succ]
            refine hand_take (i := 22) (v := ?_) rfl (by kernel_rfl) (by kernel_rfl) (by kernel_rfl) (fun _ _ _ h => h) (Or.inl ⟨by rfl, ?_⟩) (by assumption) ?_
            rotate_left
            · intro wS hSw
              clear hSw
              go_simp
              try with_reducible rfl
            try simp only [Act.put, List.setIfInBounds_toArray, List.set_cons_zero, List.set_cons_succ]
            refine hand_take (i := 23) (v := ?_) rfl (by kernel_rfl) (by kernel_rfl) (by kernel_rfl) (fun _ _ _ h => h) (Or.inl ⟨by rfl, ?_⟩) (by assumption) ?_
            rotate_left
            · intro wS hSw
              clear hSw
              go_simp
              try with_reducible rfl
            try simp only [Act.put, List.setIfInBounds_toArray, List.set_cons_zero, List.set_cons_succ]
            refine hand_take (i := 24) (v := ?_) rfl (by kernel_rfl) (by kernel_rfl) (by kernel_rfl) (fun _ _ _ h => h) (Or.inl ⟨by rfl, ?_⟩) (by assumption) ?_
            rotate_left
            · intro wS hSw
              clear hSw
              go_simp
              try with_reducible rfl
            try simp only [Act.put, List.setIfInBounds_toArray, List.set_cons_zero, List.set_cons_succ]
            refine hand_take (i := 25) (v := .bool true) rfl (by kernel_rfl) (by kernel_rfl) (by kernel_rfl) (fun _ _ _ h => h) (Or.inl ⟨by rfl, ?_⟩) (by assumption) ?_
            · intro wS hSw
              have hv := hwz.out <;> (go_simp; try first | with_reducible rfl | simp only [*])
            try simp only [Act.put, List.setIfInBounds_toArray, List.set_cons_zero, List.set_cons_succ]
            refine hand_take (i := 26) (v := ?_) rfl (by kernel_rfl) (by kernel_rfl) (by kernel_rfl) (fun _ _ _ h => h) (Or.inl ⟨by rfl, ?_⟩) (by assumption) ?_
            rotate_left
            · intro wS hSw
              clear hSw
              go_simp
              try with_reducible rfl
            try simp only [Act.put, List.setIfInBounds_toArray, List.set_cons_zero, List.set_cons_succ]
            refine hand_take (i := 27) (v := ?_) rfl (by kernel_rfl) (by kernel_rfl) (by kernel_rfl) (fun _ _ _ h => h) (Or.inl ⟨by rfl, ?_⟩) (by assumption) ?_
            rotate_left
            · intro wS hSw
              clear hSw
              go_simp
              try with_reducible rfl
            try simp only [Act.put, List.setIfInBounds_toArray, List.set_cons_zero, List.set_cons_succ]
            refine hand_take (i := 28) (v := ?_) rfl (by kernel_rfl) (by kernel_rfl) (by kernel_rfl) (fun _ _ _ h => h) (Or.inl ⟨by rfl, ?_⟩) (by assumption) ?_
            rotate_left
            · intro wS hSw
              clear hSw
              go_simp
              try with_reducible rfl
            try simp only [Act.put, List.setIfInBounds_toArray, List.set_cons_zero, List.set_cons_succ]
            refine hand_take (i := 29) (v := ?_) rfl (by kernel_rfl) (by kernel_rfl) (by kernel_rfl) (fun _ _ _ h => h) (Or.inl ⟨by rfl, ?_⟩) (by assumption) ?_
            rotate_left
            · intro wS hSw
              clear hSw
              go_simp
              try with_reducible rfl
            try simp only [Act.put, List.setIfInBounds_toArray, List.set_cons_zero, List.set_cons_succ]
            refine hand_take (i := 30) (v := .bool true) rfl (by kernel_rfl) (by kernel_rfl) (by kernel_rfl) (fun _ _ _ h => h) (Or.inl ⟨by rfl, ?_⟩) (by assumption) ?_
            · intro wS hSw
              have hv := hwz.out <;> (go_simp; try first | with_reducible rfl | simp only [*])
            try simp only [Act.put, List.setIfInBounds_toArray, List.set_cons_zero, List.set_cons_succ]
            refine hand_take (i := 31) (v := ?_) rfl (by kernel_rfl) (by kernel_rfl) (by kernel_rfl) (fun _ _ _ h => h) (Or.inl ⟨by rfl, ?_⟩) (by assumption) ?_
            rotate_left
            · intro wS hSw
              clear hSw
              go_simp
              try with_reducible rfl
            try simp only [Act.put, List.setIfInBounds_toArray, List.set_cons_zero, List.set_cons_succ]
            refine hand_take (i := 32) (v := ?_) rfl (by kernel_rfl) (by kernel_rfl) (by kernel_rfl) (fun _ _ _ h => h) (Or.inl ⟨by rfl, ?_⟩) (by assumption) ?_
            rotate_left
            · intro wS hSw
              clear hSw
              go_simp
              try with_reducible rfl
            try simp only [Act.put, List.setIfInBounds_toArray, List.set_cons_zero, List.set_cons_succ]
            refine wpAnyH_done (by kernel_rfl) ?_ _
            go_wp2
            go_ret
            exact ⟨rfl, below_step B34.out B34.out.size HB10.out⟩
end Go.Proofs.Ytpgbpfdedpppeaa.mat
