/-
 The program's Forward, Back by contracts.
-/
import Derived.Test.YtfeemipnalgjnaaGreatHb
import Derived.Test.YtfeemipnalgjnaaGreatFwM
import Derived.Test.YtfeemipnalgjnaaGreatPaF
namespace Go.Proofs.YtfeemipnalgjnaaGreat
open Go.RowKit

set_option maxHeartbeats 4000000 in
set_option maxRecDepth 20000 in
theorem Forward_e (A : Option Addr) (n c : Nat) (x : Int) (l : List Fd) (ch : Ch) (C : Option Addr) (m d : Nat) (r : List Ce) (w : World) (hn : n = l.length) (hs : Fds w w.heap.size A l) (ho : Ok ⟨l, x⟩) (hcw : CW ch) (hm : m = r.length) (hr : Ces w w.heap.size C r) (_hml : m ≤ 1000000) (hsz : ∀ q ∈ r, q.v.s.size ≤ 9223372036854775807) (_hmd : m ≤ d) (_hdm : d ≤ 9223372036854775807) (hG : GV w) (he : (applyP ⟨l, x⟩ ch).2 ≠ 0) :
  Calls Tryz.prog 16 #[.agg #[.slice A n c, .int .i64 x], .agg #[.int .i64 ch.kind, .int .i64 ch.id, .int .i64 ch.wi, .string ch.nm, .string ch.ot, .int .i64 ch.ty, .int .i64 ch.pa, .string ch.sep], .agg #[.slice C m d]] w fun e w' => RetO w w' (fwdQ ⟨l, x⟩ ch r) e ∧ Below w.heap.size w w' := by
 obtain ⟨er, her⟩ : ∃ er, (applyP ⟨l, x⟩ ch).2 = er := ⟨_, rfl⟩
 have HAP := Li (show applyP ⟨l, x⟩ ch = (Sc.zero, er) from Prod.ext (err_apply he) her)
 have HQ := Li (show fwdQ ⟨l, x⟩ ch r = [] by unfold fwdQ; rw [if_neg (fun h => he h.1)])
 rw [her] at he
 clear her
 have i0 : ¬ er = 0 := he
 have i1 : (er != 0) = true := by simpa using he
 have HN := Li hn
 have HS := Li hs
 have HO := Li ho
 have HCW := Li hcw
 have HM := Li hm
 have HR := Li hr
 have HZ := Li hsz
 have HG := Li hG
 have hl1 : n ≤ 1000 := by have := ho.big.1; simp only at this; omega
 have S0 := Li (((((CB.new w 35 [.slice A n c, .int .i64 x]).alloc (.cells #[.int .i64 ch.kind, .int .i64 ch.id, .int .i64 ch.wi, .string ch.nm, .string ch.ot, .int .i64 ch.ty, .int .i64 ch.pa, .string ch.sep] 24)).alloc (.cells #[.slice C m d] 30)).alloc (.cells #[.slice none 0 0] 30)))
 have R0 := Li ((CB.new2 w (.cells #[.slice A n c, .int .i64 x] 35) (.cells #[.int .i64 ch.kind, .int .i64 ch.id, .int .i64 ch.wi, .string ch.nm, .string ch.ot, .int .i64 ch.ty, .int .i64 ch.pa, .string ch.sep] 24) 30 [.slice C m d]).alloc (.cells #[.slice none 0 0] 30))
 have T0 := Li (cb_new3 w (.cells #[.slice A n c, .int .i64 x] 35) (.cells #[.int .i64 ch.kind, .int .i64 ch.id, .int .i64 ch.wi, .string ch.nm, .string ch.ot, .int .i64 ch.ty, .int .i64 ch.pa, .string ch.sep] 24) (.cells #[.slice C m d] 30) 30 [.slice none 0 0])
 have B0 := Li (al4 w (.cells #[.slice A n c, .int .i64 x] 35) (.cells #[.int .i64 ch.kind, .int .i64 ch.id, .int .i64 ch.wi, .string ch.nm, .string ch.ot, .int .i64 ch.ty, .int .i64 ch.pa, .string ch.sep] 24) (.cells #[.slice C m d] 30) (.cells #[.slice none 0 0] 30))
 clear hn hs ho hcw hm hr hsz hG
 go_enter Tryz.func16, Tryz.ntmps16
 go_wp2_with (go_at_call 37; go_loud (refine (lensOf_any A n c x l ch _ HN.out (HS.out.up B0.out) HO.out HCW.out).mono ?_; rintro e w1 ⟨⟨A5, m5, c5, fv, bv, rfl, hm5, ho5, hat5⟩, hb5⟩; rw [HAP.out] at hm5 ho5 hat5; rw [HAP.out]; have B1 := Li (below_step B0.out B0.out.size hb5); have S1 := Li (S0.out.up hb5); have R1 := Li (R0.out.up hb5); have T1 := Li (T0.out.up hb5); have HM5 := Li hm5; have O5 := Li (ho5.low (b := w.heap.size) B0.out.size); have HAT := Li hat5; have zS := S1.out.lt; have zR := R1.out.lt; have zT := T1.out.lt; rw [if_neg i0] at HAT; obtain ⟨e1, e2⟩ := HAT.out; subst e1 e2; have q1 : w.heap.size + 1 + 1 + 1 < w1.heap.size + 1 := (by omega); have q2 : w.heap.size + 1 + 1 + 1 < w1.heap.size + 1 + 1 := (by omega); have t0 := T1.out.cell 0 rfl; have tf := T1.out.frozen 0; clear hb5 hm5 ho5 hat5))
 have h1 : CB (w1.setCell ⟨(w.heap.size + 1 + 1 + 1), 0, none⟩ (.slice none 0 0)) (w.heap.size + 1 + 1 + 1) 30 [.slice none 0 0] := T1.out.set_ 0 (.slice none 0 0)
 refine bodyPost_ret (res_cell1 Tryz.results16 rfl ((h1.alloc _).alloc _) Tryz.underlying30 sizeRw rfl) rfl ⟨⟨none, 0, by rw [HQ.out]; rfl, by rw [HQ.out]; exact Own.nil _ _ _ _⟩, al_up2 (al_up2 (B1.out.setCell (p := ⟨(w.heap.size + 1 + 1 + 1), 0, none⟩) (by show w.heap.size ≤ w.heap.size + 1 + 1 + 1; omega) _) _) _⟩

set_option maxHeartbeats 4000000 in
set_option maxRecDepth 20000 in
theorem Forward_o (A : Option Addr) (n c : Nat) (x : Int) (l : List Fd) (ch : Ch) (C : Option Addr) (m d : Nat) (r : List Ce) (w : World) (hn : n = l.length) (hs : Fds w w.heap.size A l) (ho : Ok ⟨l, x⟩) (hcw : CW ch) (hm : m = r.length) (hr : Ces w w.heap.size C r) (hml : m ≤ 1000000) (hsz : ∀ q ∈ r, q.v.s.size ≤ 9223372036854775807) (hmd : m ≤ d) (hdm : d ≤ 9223372036854775807) (hG : GV w) (t : Sc) (hap : applyP ⟨l, x⟩ ch = (t, 0)) :
  Calls Tryz.prog 16 #[.agg #[.slice A n c, .int .i64 x], .agg #[.int .i64 ch.kind, .int .i64 ch.id, .int .i64 ch.wi, .string ch.nm, .string ch.ot, .int .i64 ch.ty, .int .i64 ch.pa, .string ch.sep], .agg #[.slice C m d]] w fun e w' => RetO w w' (fwdQ ⟨l, x⟩ ch r) e ∧ Below w.heap.size w w' := by
 obtain ⟨fs2, x2⟩ := t
 have HST := Li (st_of ho hap)
 have HAP := Li hap
 clear hap
 have HN := Li hn
 have HS := Li hs
 have HO := Li ho
 have HCW := Li hcw
 have HM := Li hm
 have HR := Li hr
 have HZ := Li hsz
 have HG := Li hG
 have hl1 : n ≤ 1000 := by have := ho.big.1; simp only at this; omega
 have S0 := Li (((((CB.new w 35 [.slice A n c, .int .i64 x]).alloc (.cells #[.int .i64 ch.kind, .int .i64 ch.id, .int .i64 ch.wi, .string ch.nm, .string ch.ot, .int .i64 ch.ty, .int .i64 ch.pa, .string ch.sep] 24)).alloc (.cells #[.slice C m d] 30)).alloc (.cells #[.slice none 0 0] 30)))
 have R0 := Li ((CB.new2 w (.cells #[.slice A n c, .int .i64 x] 35) (.cells #[.int .i64 ch.kind, .int .i64 ch.id, .int .i64 ch.wi, .string ch.nm, .string ch.ot, .int .i64 ch.ty, .int .i64 ch.pa, .string ch.sep] 24) 30 [.slice C m d]).alloc (.cells #[.slice none 0 0] 30))
 have T0 := Li (cb_new3 w (.cells #[.slice A n c, .int .i64 x] 35) (.cells #[.int .i64 ch.kind, .int .i64 ch.id, .int .i64 ch.wi, .string ch.nm, .string ch.ot, .int .i64 ch.ty, .int .i64 ch.pa, .string ch.sep] 24) (.cells #[.slice C m d] 30) 30 [.slice none 0 0])
 have B0 := Li (al4 w (.cells #[.slice A n c, .int .i64 x] 35) (.cells #[.int .i64 ch.kind, .int .i64 ch.id, .int .i64 ch.wi, .string ch.nm, .string ch.ot, .int .i64 ch.ty, .int .i64 ch.pa, .string ch.sep] 24) (.cells #[.slice C m d] 30) (.cells #[.slice none 0 0] 30))
 clear hn hs ho hcw hm hr hsz hG
 have HRB : Hid (fitGo l 0 r = true → RB r) := fun h => (fit_rb HO.out ((fit_of_go HO.out).1 h)).1
 have HLn : Hid (fitGo l 0 r = true → ((fwdK ⟨l, x⟩ ch).ap r).length ≤ 1000000) := fun h => by
  have h2 := fit_rb HO.out ((fit_of_go HO.out).1 h)
  have h3 := (ap_rb (fwdK ⟨l, x⟩ ch) (j := 0) ⟨h2.1.inc, h2.2.1, h2.1.sz⟩).len
  omega
 have HQ : Hid ((if fitGo l 0 r = true then ((fwdK ⟨l, x⟩ ch).ap r, (0 : Int)) else ([], 7)).1 = fwdQ ⟨l, x⟩ ch r) := by
  show _ = _
  unfold fwdQ
  rw [HAP.out]
  by_cases h : fitGo l 0 r = true
  ·
   rw [if_pos h, if_pos ⟨rfl, h⟩]
   exact fwdK_ap HO.out HST.out ((fit_of_go HO.out).1 h)
  ·
   rw [if_neg h, if_neg (fun h' => h h'.2)]
 obtain ⟨pr, hpr⟩ : ∃ pr, (if fitGo l 0 r = true then ((fwdK ⟨l, x⟩ ch).ap r, (0 : Int)) else ([], 7)) = pr := ⟨_, rfl⟩
 rw [hpr] at HQ
 have HPR := Li hpr
 clear hpr
 go_enter Tryz.func16, Tryz.ntmps16
 go_wp2_with (first | (go_at_call 37; go_loud (refine (lensOf_any A n c x l ch _ HN.out (HS.out.up B0.out) HO.out HCW.out).mono ?_; rintro e w1 ⟨⟨A5, m5, c5, fv, bv, rfl, hm5, ho5, hat5⟩, hb5⟩; rw [HAP.out] at hm5 ho5 hat5; rw [HAP.out]; have B1 := Li (below_step B0.out B0.out.size hb5); have S1 := Li (S0.out.up hb5); have R1 := Li (R0.out.up hb5); have T1 := Li (T0.out.up hb5); have HM5 := Li hm5; have O5 := Li (ho5.low (b := w.heap.size) B0.out.size); have HAT := Li hat5; have zS := S1.out.lt; have zR := R1.out.lt; have zT := T1.out.lt; rw [if_pos rfl] at HAT; have hf1 := HAT.out.1.one; have hv1 := HAT.out.2.one; have hfs := fun (a : Addr) (mo : Mode) (W : World) => run_store Tryz.prog W a fv mo hf1; have hvs := fun (a : Addr) (mo : Mode) (W : World) => run_store Tryz.prog W a bv mo hv1; have qr1 : w.heap.size + 1 + 1 < w1.heap.size + 1 := (by omega); have qs1 : w.heap.size < w1.heap.size + 1 := (by omega); have qr2 : w.heap.size + 1 + 1 < w1.heap.size + 1 + 1 := (by omega); have qs2 : w.heap.size < w1.heap.size + 1 + 1 := (by omega); have s0 := S1.out.c2; have r0 := R1.out.cell 0 rfl; clear hb5 hm5 ho5 hat5)) | (go_at_call 38; go_loud (have hal := (al2 w1 (.cells #[fv, bv] 73) (.cells #[.slice A5 m5 c5, .int .i64 x2] 35)); refine (translate_any A n c x l C m d r fv RB (fwdK ⟨l, x⟩ ch).ap _ HN.out ((HS.out.up B1.out).up hal) hl1 HM.out ((HR.out.up B1.out).up hal) hml HZ.out hmd hdm ((Cl.does HAT.out.1 (HG.out.up B1.out)).up hal) (fun h => HRB.out h) (fun h => HLn.out h)).mono ?_; rw [HPR.out]; rintro e w2 ⟨⟨A6, c6, rfl, ho6⟩, hb6⟩; have hb7 := hal.trans (hb6.mono hal.size); have T2 := Li (T1.out.up hb7); have O6 := Li (ho6.low (b := w.heap.size) (Nat.le_trans B1.out.size hal.size)); have B2 := Li (below_step B1.out B1.out.size hb7); have zT2 := T2.out.lt; have t20 := T2.out.cell 0 rfl; have t2f := T2.out.frozen 0; have qt : w.heap.size + 1 + 1 + 1 < w2.heap.size + 1 := (by omega); clear hb7 hb6 ho6 hal)))
 have hne := O6.out.ne T2.out (by decide)
 refine bodyPost_ret (res_cell1 Tryz.results16 rfl ((T2.out.set_ 0 (.slice A6 pr.1.length c6)).alloc _) Tryz.underlying30 sizeRw rfl) rfl ⟨?_, al_up2 (B2.out.setCell (p := ⟨(w.heap.size + 1 + 1 + 1), 0, none⟩) (by show w.heap.size ≤ w.heap.size + 1 + 1 + 1; omega) _) _⟩
 rw [← HQ.out]
 exact ⟨A6, c6, rfl, (O6.out.set_ 0 _ hne).alloc _⟩
theorem Forward_any (A : Option Addr) (n c : Nat) (x : Int) (l : List Fd) (ch : Ch) (C : Option Addr) (m d : Nat) (r : List Ce) (w : World) (hn : n = l.length) (hs : Fds w w.heap.size A l) (ho : Ok ⟨l, x⟩) (hcw : CW ch) (hm : m = r.length) (hr : Ces w w.heap.size C r) (hml : m ≤ 1000000) (hsz : ∀ q ∈ r, q.v.s.size ≤ 9223372036854775807) (hmd : m ≤ d) (hdm : d ≤ 9223372036854775807) (hG : GV w) :
  Calls Tryz.prog 16 #[.agg #[.slice A n c, .int .i64 x], .agg #[.int .i64 ch.kind, .int .i64 ch.id, .int .i64 ch.wi, .string ch.nm, .string ch.ot, .int .i64 ch.ty, .int .i64 ch.pa, .string ch.sep], .agg #[.slice C m d]] w fun e w' => RetO w w' (fwdQ ⟨l, x⟩ ch r) e ∧ Below w.heap.size w w' := by
 by_cases he : (applyP ⟨l, x⟩ ch).2 = 0
 ·
  exact Forward_o A n c x l ch C m d r w hn hs ho hcw hm hr hml hsz hmd hdm hG (applyP ⟨l, x⟩ ch).1 (Prod.ext rfl he)
 ·
  exact Forward_e A n c x l ch C m d r w hn hs ho hcw hm hr hml hsz hmd hdm hG he

set_option maxHeartbeats 4000000 in
set_option maxRecDepth 20000 in
theorem Back_e (A : Option Addr) (n c : Nat) (x : Int) (l : List Fd) (ch : Ch) (C : Option Addr) (m d : Nat) (r : List Ce) (w : World) (hn : n = l.length) (hs : Fds w w.heap.size A l) (ho : Ok ⟨l, x⟩) (hcw : CW ch) (hm : m = r.length) (hr : Ces w w.heap.size C r) (_hml : m ≤ 1000000) (hsz : ∀ q ∈ r, q.v.s.size ≤ 9223372036854775807) (_hmd : m ≤ d) (_hdm : d ≤ 9223372036854775807) (hG : GV w) (he : (applyP ⟨l, x⟩ ch).2 ≠ 0) :
  Calls Tryz.prog 18 #[.agg #[.slice A n c, .int .i64 x], .agg #[.int .i64 ch.kind, .int .i64 ch.id, .int .i64 ch.wi, .string ch.nm, .string ch.ot, .int .i64 ch.ty, .int .i64 ch.pa, .string ch.sep], .agg #[.slice C m d]] w fun e w' => RetO w w' (bakQ ⟨l, x⟩ ch r) e ∧ Below w.heap.size w w' := by
 obtain ⟨er, her⟩ : ∃ er, (applyP ⟨l, x⟩ ch).2 = er := ⟨_, rfl⟩
 have HAP := Li (show applyP ⟨l, x⟩ ch = (Sc.zero, er) from Prod.ext (err_apply he) her)
 have HQ := Li (show bakQ ⟨l, x⟩ ch r = [] by unfold bakQ; rw [if_neg (fun h => he h.1)])
 rw [her] at he
 clear her
 have i0 : ¬ er = 0 := he
 have i1 : (er != 0) = true := by simpa using he
 have HN := Li hn
 have HS := Li hs
 have HO := Li ho
 have HCW := Li hcw
 have HM := Li hm
 have HR := Li hr
 have HZ := Li hsz
 have HG := Li hG
 have hl1 : n ≤ 1000 := by have := ho.big.1; simp only at this; omega
 have S0 := Li (((((CB.new w 35 [.slice A n c, .int .i64 x]).alloc (.cells #[.int .i64 ch.kind, .int .i64 ch.id, .int .i64 ch.wi, .string ch.nm, .string ch.ot, .int .i64 ch.ty, .int .i64 ch.pa, .string ch.sep] 24)).alloc (.cells #[.slice C m d] 30)).alloc (.cells #[.slice none 0 0] 30)))
 have R0 := Li ((CB.new2 w (.cells #[.slice A n c, .int .i64 x] 35) (.cells #[.int .i64 ch.kind, .int .i64 ch.id, .int .i64 ch.wi, .string ch.nm, .string ch.ot, .int .i64 ch.ty, .int .i64 ch.pa, .string ch.sep] 24) 30 [.slice C m d]).alloc (.cells #[.slice none 0 0] 30))
 have T0 := Li (cb_new3 w (.cells #[.slice A n c, .int .i64 x] 35) (.cells #[.int .i64 ch.kind, .int .i64 ch.id, .int .i64 ch.wi, .string ch.nm, .string ch.ot, .int .i64 ch.ty, .int .i64 ch.pa, .string ch.sep] 24) (.cells #[.slice C m d] 30) 30 [.slice none 0 0])
 have B0 := Li (al4 w (.cells #[.slice A n c, .int .i64 x] 35) (.cells #[.int .i64 ch.kind, .int .i64 ch.id, .int .i64 ch.wi, .string ch.nm, .string ch.ot, .int .i64 ch.ty, .int .i64 ch.pa, .string ch.sep] 24) (.cells #[.slice C m d] 30) (.cells #[.slice none 0 0] 30))
 clear hn hs ho hcw hm hr hsz hG
 go_enter Tryz.func18, Tryz.ntmps18
 go_wp2_with (go_at_call 37; go_loud (refine (lensOf_any A n c x l ch _ HN.out (HS.out.up B0.out) HO.out HCW.out).mono ?_; rintro e w1 ⟨⟨A5, m5, c5, fv, bv, rfl, hm5, ho5, hat5⟩, hb5⟩; rw [HAP.out] at hm5 ho5 hat5; rw [HAP.out]; have B1 := Li (below_step B0.out B0.out.size hb5); have S1 := Li (S0.out.up hb5); have R1 := Li (R0.out.up hb5); have T1 := Li (T0.out.up hb5); have HM5 := Li hm5; have O5 := Li (ho5.low (b := w.heap.size) B0.out.size); have HAT := Li hat5; have zS := S1.out.lt; have zR := R1.out.lt; have zT := T1.out.lt; rw [if_neg i0] at HAT; obtain ⟨e1, e2⟩ := HAT.out; subst e1 e2; have q1 : w.heap.size + 1 + 1 + 1 < w1.heap.size + 1 := (by omega); have q2 : w.heap.size + 1 + 1 + 1 < w1.heap.size + 1 + 1 := (by omega); have t0 := T1.out.cell 0 rfl; have tf := T1.out.frozen 0; clear hb5 hm5 ho5 hat5))
 have h1 : CB (w1.setCell ⟨(w.heap.size + 1 + 1 + 1), 0, none⟩ (.slice none 0 0)) (w.heap.size + 1 + 1 + 1) 30 [.slice none 0 0] := T1.out.set_ 0 (.slice none 0 0)
 refine bodyPost_ret (res_cell1 Tryz.results18 rfl ((h1.alloc _).alloc _) Tryz.underlying30 sizeRw rfl) rfl ⟨⟨none, 0, by rw [HQ.out]; rfl, by rw [HQ.out]; exact Own.nil _ _ _ _⟩, al_up2 (al_up2 (B1.out.setCell (p := ⟨(w.heap.size + 1 + 1 + 1), 0, none⟩) (by show w.heap.size ≤ w.heap.size + 1 + 1 + 1; omega) _) _) _⟩

set_option maxHeartbeats 4000000 in
set_option maxRecDepth 20000 in
theorem Back_o (A : Option Addr) (n c : Nat) (x : Int) (l : List Fd) (ch : Ch) (C : Option Addr) (m d : Nat) (r : List Ce) (w : World) (hn : n = l.length) (hs : Fds w w.heap.size A l) (ho : Ok ⟨l, x⟩) (hcw : CW ch) (hm : m = r.length) (hr : Ces w w.heap.size C r) (hml : m ≤ 1000000) (hsz : ∀ q ∈ r, q.v.s.size ≤ 9223372036854775807) (hmd : m ≤ d) (hdm : d ≤ 9223372036854775807) (hG : GV w) (t : Sc) (hap : applyP ⟨l, x⟩ ch = (t, 0)) :
  Calls Tryz.prog 18 #[.agg #[.slice A n c, .int .i64 x], .agg #[.int .i64 ch.kind, .int .i64 ch.id, .int .i64 ch.wi, .string ch.nm, .string ch.ot, .int .i64 ch.ty, .int .i64 ch.pa, .string ch.sep], .agg #[.slice C m d]] w fun e w' => RetO w w' (bakQ ⟨l, x⟩ ch r) e ∧ Below w.heap.size w w' := by
 obtain ⟨fs2, x2⟩ := t
 have HST := Li (st_of ho hap)
 have HAP := Li hap
 clear hap
 have HN := Li hn
 have HS := Li hs
 have HO := Li ho
 have HCW := Li hcw
 have HM := Li hm
 have HR := Li hr
 have HZ := Li hsz
 have HG := Li hG
 have hl1 : n ≤ 1000 := by have := ho.big.1; simp only at this; omega
 have S0 := Li (((((CB.new w 35 [.slice A n c, .int .i64 x]).alloc (.cells #[.int .i64 ch.kind, .int .i64 ch.id, .int .i64 ch.wi, .string ch.nm, .string ch.ot, .int .i64 ch.ty, .int .i64 ch.pa, .string ch.sep] 24)).alloc (.cells #[.slice C m d] 30)).alloc (.cells #[.slice none 0 0] 30)))
 have R0 := Li ((CB.new2 w (.cells #[.slice A n c, .int .i64 x] 35) (.cells #[.int .i64 ch.kind, .int .i64 ch.id, .int .i64 ch.wi, .string ch.nm, .string ch.ot, .int .i64 ch.ty, .int .i64 ch.pa, .string ch.sep] 24) 30 [.slice C m d]).alloc (.cells #[.slice none 0 0] 30))
 have T0 := Li (cb_new3 w (.cells #[.slice A n c, .int .i64 x] 35) (.cells #[.int .i64 ch.kind, .int .i64 ch.id, .int .i64 ch.wi, .string ch.nm, .string ch.ot, .int .i64 ch.ty, .int .i64 ch.pa, .string ch.sep] 24) (.cells #[.slice C m d] 30) 30 [.slice none 0 0])
 have B0 := Li (al4 w (.cells #[.slice A n c, .int .i64 x] 35) (.cells #[.int .i64 ch.kind, .int .i64 ch.id, .int .i64 ch.wi, .string ch.nm, .string ch.ot, .int .i64 ch.ty, .int .i64 ch.pa, .string ch.sep] 24) (.cells #[.slice C m d] 30) (.cells #[.slice none 0 0] 30))
 clear hn hs ho hcw hm hr hsz hG
 have HO2 := Li (show Ok ⟨fs2, x2⟩ by have := (ok_apply (c := ch) HO.out (by rw [HAP.out])).1; rw [HAP.out] at this; exact this)
 have HRB : Hid (fitGo fs2 0 r = true → RB r) := fun h => (fit_rb HO2.out ((fit_of_go HO2.out).1 h)).1
 have HLn : Hid (fitGo fs2 0 r = true → ((bakK ⟨l, x⟩ ch).ap r).length ≤ 1000000) := fun h => by
  have h2 := fit_rb HO2.out ((fit_of_go HO2.out).1 h)
  have h3 := (ap_rb (bakK ⟨l, x⟩ ch) (j := 0) ⟨h2.1.inc, h2.2.1, h2.1.sz⟩).len
  omega
 have HQ : Hid ((if fitGo fs2 0 r = true then ((bakK ⟨l, x⟩ ch).ap r, (0 : Int)) else ([], 7)).1 = bakQ ⟨l, x⟩ ch r) := by
  show _ = _
  unfold bakQ
  rw [HAP.out]
  by_cases h : fitGo fs2 0 r = true
  ·
   rw [if_pos h, if_pos ⟨rfl, h⟩]
   exact bakK_ap HO.out HO2.out HST.out ((fit_of_go HO2.out).1 h)
  ·
   rw [if_neg h, if_neg (fun h' => h h'.2)]
 obtain ⟨pr, hpr⟩ : ∃ pr, (if fitGo fs2 0 r = true then ((bakK ⟨l, x⟩ ch).ap r, (0 : Int)) else ([], 7)) = pr := ⟨_, rfl⟩
 rw [hpr] at HQ
 have HPR := Li hpr
 clear hpr
 go_enter Tryz.func18, Tryz.ntmps18
 go_wp2_with (first | (go_at_call 37; go_loud (refine (lensOf_any A n c x l ch _ HN.out (HS.out.up B0.out) HO.out HCW.out).mono ?_; rintro e w1 ⟨⟨A5, m5, c5, fv, bv, rfl, hm5, ho5, hat5⟩, hb5⟩; rw [HAP.out] at hm5 ho5 hat5; rw [HAP.out]; have B1 := Li (below_step B0.out B0.out.size hb5); have S1 := Li (S0.out.up hb5); have R1 := Li (R0.out.up hb5); have T1 := Li (T0.out.up hb5); have HM5 := Li hm5; have O5 := Li (ho5.low (b := w.heap.size) B0.out.size); have HAT := Li hat5; have zS := S1.out.lt; have zR := R1.out.lt; have zT := T1.out.lt; rw [if_pos rfl] at HAT; have hf1 := HAT.out.1.one; have hv1 := HAT.out.2.one; have hfs := fun (a : Addr) (mo : Mode) (W : World) => run_store Tryz.prog W a fv mo hf1; have hvs := fun (a : Addr) (mo : Mode) (W : World) => run_store Tryz.prog W a bv mo hv1; have qr1 : w.heap.size + 1 + 1 < w1.heap.size + 1 := (by omega); have qs1 : w.heap.size < w1.heap.size + 1 := (by omega); have qr2 : w.heap.size + 1 + 1 < w1.heap.size + 1 + 1 := (by omega); have qs2 : w.heap.size < w1.heap.size + 1 + 1 := (by omega); have s0 := S1.out.c2; have r0 := R1.out.cell 0 rfl; clear hb5 hm5 ho5 hat5)) | (go_at_call 38; go_loud (have hal := (al2 w1 (.cells #[fv, bv] 73) (.cells #[.slice A5 m5 c5, .int .i64 x2] 35)); have hl2 : m5 ≤ 1000 := Nat.le_trans (Nat.le_of_eq HM5.out) (Nat.le_trans HO2.out.big.1 (by decide)); refine (translate_any A5 m5 c5 x2 fs2 C m d r bv RB (bakK ⟨l, x⟩ ch).ap _ HM5.out ((show Fds w1 w1.heap.size A5 fs2 from O5.out.row.2.2.2).up hal) hl2 HM.out ((HR.out.up B1.out).up hal) hml HZ.out hmd hdm ((Cl.does HAT.out.2 (HG.out.up B1.out)).up hal) (fun h => HRB.out h) (fun h => HLn.out h)).mono ?_; rw [HPR.out]; rintro e w2 ⟨⟨A6, c6, rfl, ho6⟩, hb6⟩; have hb7 := hal.trans (hb6.mono hal.size); have T2 := Li (T1.out.up hb7); have O6 := Li (ho6.low (b := w.heap.size) (Nat.le_trans B1.out.size hal.size)); have B2 := Li (below_step B1.out B1.out.size hb7); have zT2 := T2.out.lt; have t20 := T2.out.cell 0 rfl; have t2f := T2.out.frozen 0; have qt : w.heap.size + 1 + 1 + 1 < w2.heap.size + 1 := (by omega); clear hb7 hb6 ho6 hal)))
 have hne := O6.out.ne T2.out (by decide)
 refine bodyPost_ret (res_cell1 Tryz.results18 rfl ((T2.out.set_ 0 (.slice A6 pr.1.length c6)).alloc _) Tryz.underlying30 sizeRw rfl) rfl ⟨?_, al_up2 (B2.out.setCell (p := ⟨(w.heap.size + 1 + 1 + 1), 0, none⟩) (by show w.heap.size ≤ w.heap.size + 1 + 1 + 1; omega) _) _⟩
 rw [← HQ.out]
 exact ⟨A6, c6, rfl, (O6.out.set_ 0 _ hne).alloc _⟩
theorem Back_any (A : Option Addr) (n c : Nat) (x : Int) (l : List Fd) (ch : Ch) (C : Option Addr) (m d : Nat) (r : List Ce) (w : World) (hn : n = l.length) (hs : Fds w w.heap.size A l) (ho : Ok ⟨l, x⟩) (hcw : CW ch) (hm : m = r.length) (hr : Ces w w.heap.size C r) (hml : m ≤ 1000000) (hsz : ∀ q ∈ r, q.v.s.size ≤ 9223372036854775807) (hmd : m ≤ d) (hdm : d ≤ 9223372036854775807) (hG : GV w) :
  Calls Tryz.prog 18 #[.agg #[.slice A n c, .int .i64 x], .agg #[.int .i64 ch.kind, .int .i64 ch.id, .int .i64 ch.wi, .string ch.nm, .string ch.ot, .int .i64 ch.ty, .int .i64 ch.pa, .string ch.sep], .agg #[.slice C m d]] w fun e w' => RetO w w' (bakQ ⟨l, x⟩ ch r) e ∧ Below w.heap.size w w' := by
 by_cases he : (applyP ⟨l, x⟩ ch).2 = 0
 ·
  exact Back_o A n c x l ch C m d r w hn hs ho hcw hm hr hml hsz hmd hdm hG (applyP ⟨l, x⟩ ch).1 (Prod.ext rfl he)
 ·
  exact Back_e A n c x l ch C m d r w hn hs ho hcw hm hr hml hsz hmd hdm hG he
end Go.Proofs.YtfeemipnalgjnaaGreat
