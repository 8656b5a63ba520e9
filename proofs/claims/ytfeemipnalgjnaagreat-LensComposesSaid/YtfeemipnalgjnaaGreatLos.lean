/-
 The program's Lossless by a contract.
-/
import Derived.Test.YtfeemipnalgjnaaGreatHd
import Derived.Test.YtfeemipnalgjnaaGreatFwB
import Derived.Test.YtfeemipnalgjnaaGreatEqC
namespace Go.Proofs.YtfeemipnalgjnaaGreat
open Go.RowKit

set_option maxHeartbeats 4000000 in
set_option maxRecDepth 20000 in
theorem Lossless_e (A : Option Addr) (n c : Nat) (x : Int) (l : List Fd) (ch : Ch) (C : Option Addr) (m d : Nat) (r : List Ce) (w : World) (hn : n = l.length) (hs : Fds w w.heap.size A l) (ho : Ok ⟨l, x⟩) (hcw : CW ch) (hm : m = r.length) (hr : Ces w w.heap.size C r) (_hml : m ≤ 1000000) (hsz : ∀ q ∈ r, q.v.s.size ≤ 9223372036854775807) (_hmd : m ≤ d) (_hdm : d ≤ 9223372036854775807) (hG : GV w) (he : (applyP ⟨l, x⟩ ch).2 ≠ 0) :
  Calls Tryz.prog 20 #[.agg #[.slice A n c, .int .i64 x], .agg #[.int .i64 ch.kind, .int .i64 ch.id, .int .i64 ch.wi, .string ch.nm, .string ch.ot, .int .i64 ch.ty, .int .i64 ch.pa, .string ch.sep], .agg #[.slice C m d]] w fun e w' => e = .returned (.bool (losQ ⟨l, x⟩ ch r)) ∧ Below w.heap.size w w' := by
 obtain ⟨er, her⟩ : ∃ er, (applyP ⟨l, x⟩ ch).2 = er := ⟨_, rfl⟩
 have hap : applyP ⟨l, x⟩ ch = (Sc.zero, er) := Prod.ext (err_apply he) her
 have HAP := Li hap
 rw [her] at he
 have HQ := Li (show losQ ⟨l, x⟩ ch r = false by unfold losQ; rw [hap]; simp [he])
 clear her hap
 have i0 : ¬ er = 0 := he
 have i1 : (er == 0) = false := by simpa using he
 obtain ⟨x2, hx2⟩ : ∃ x2, Sc.zero.next = x2 := ⟨_, rfl⟩
 have HN := Li hn
 have HS := Li hs
 have HO := Li ho
 have HCW := Li hcw
 have HM := Li hm
 have HR := Li hr
 have HZ := Li hsz
 have HG := Li hG
 have hl1 : n ≤ 1000 := by have := ho.big.1; simp only at this; omega
 have S0 := Li ((((CB.new w 35 [.slice A n c, .int .i64 x]).alloc (.cells #[.int .i64 ch.kind, .int .i64 ch.id, .int .i64 ch.wi, .string ch.nm, .string ch.ot, .int .i64 ch.ty, .int .i64 ch.pa, .string ch.sep] 24)).alloc (.cells #[.slice C m d] 30)))
 have R0 := Li (CB.new2 w (.cells #[.slice A n c, .int .i64 x] 35) (.cells #[.int .i64 ch.kind, .int .i64 ch.id, .int .i64 ch.wi, .string ch.nm, .string ch.ot, .int .i64 ch.ty, .int .i64 ch.pa, .string ch.sep] 24) 30 [.slice C m d])
 have B0 := Li (al3 w (.cells #[.slice A n c, .int .i64 x] 35) (.cells #[.int .i64 ch.kind, .int .i64 ch.id, .int .i64 ch.wi, .string ch.nm, .string ch.ot, .int .i64 ch.ty, .int .i64 ch.pa, .string ch.sep] 24) (.cells #[.slice C m d] 30))
 clear hn hs ho hcw hm hr hsz hG
 go_enter Tryz.func20, Tryz.ntmps20
 go_upto_region 2 with (go_at_call 37; go_loud (refine (lensOf_any A n c x l ch _ HN.out (HS.out.up B0.out) HO.out HCW.out).mono ?_; rintro e w1 ⟨⟨A5, m5, c5, fv, bv, rfl, hm5, ho5, hat5⟩, hb5⟩; rw [HAP.out] at hm5 ho5 hat5; rw [HAP.out]; have B1 := Li (below_step B0.out B0.out.size hb5); have S1 := Li (S0.out.up hb5); have R1 := Li (R0.out.up hb5); have HAT := Li hat5; rw [if_neg i0] at HAT; obtain ⟨e1, e2⟩ := HAT.out; subst e1 e2; rw [hx2]; clear hb5 hm5 ho5 hat5))
 have hal := (al2 w1 (.cells #[.nilFunc, .nilFunc] 73) (.cells #[.slice A5 m5 c5, .int .i64 x2] 35))
 have S1 := Li (S1.out.up hal)
 have R1 := Li (R1.out.up hal)
 have N7 := Li ((CB.new w1 73 [.nilFunc, .nilFunc]).alloc (.cells #[.slice A5 m5 c5, .int .i64 x2] 35))
 have BB := Li (B1.out.trans (hal.mono B1.out.size))
 clear hal B1 S0 R0
 generalize (w1.alloc (.cells #[.nilFunc, .nilFunc] 73)).alloc (.cells #[.slice A5 m5 c5, .int .i64 x2] 35) = W0 at *
 have S1 := Li S1.out.dr
 have R1 := Li R1.out.dr
 have N7 := Li N7.out.dr
 have BB := Li BB.out.drew
 refine wp_region_held_drew (S := fun w' => Hid (CB w' w.heap.size 35 [.slice A n c, .int .i64 x] ∧ CB w' (w.heap.size + 1 + 1) 30 [.slice C m d] ∧ CB w' w1.heap.size 73 [.nilFunc, .nilFunc])) (by kernel_rfl) (Li ⟨S1.out, R1.out, N7.out⟩) (fun hHeld => ?_)
 revert hHeld S1 R1 N7 BB
 generalize W0.drew = X0
 intro S1 R1 N7 BB hHeld
 refine htk 0 ?_
 refine htl 1 (.bool false) ?_ ?_
 ·
  intro wS hSw
  go_simp
  try first | with_reducible rfl | simp only [*]
 try simp only [pnz]
 refine htk 2 ?_
 refine htc 3 (undef) ?_ ?_
 ·
  exact Or.inr ⟨by rfl, rfl⟩
 try simp only [pnz]
 refine htc 4 (undef) ?_ ?_
 ·
  exact Or.inr ⟨by rfl, rfl⟩
 try simp only [pnz]
 refine htc 5 (undef) ?_ ?_
 ·
  exact Or.inr ⟨by rfl, rfl⟩
 try simp only [pnz]
 refine htl 6 (.bool false) ?_ ?_
 ·
  intro wS hSw
  go_simp
  try first | with_reducible rfl | simp only [*]
 try simp only [pnz]
 refine htk 7 ?_
 refine htc 8 (undef) ?_ ?_
 ·
  exact Or.inr ⟨by rfl, rfl⟩
 try simp only [pnz]
 refine htc 9 (undef) ?_ ?_
 ·
  exact Or.inr ⟨by rfl, rfl⟩
 try simp only [pnz]
 refine htc 10 (undef) ?_ ?_
 ·
  exact Or.inr ⟨by rfl, rfl⟩
 try simp only [pnz]
 refine htc 11 (undef) ?_ ?_
 ·
  exact Or.inr ⟨by rfl, rfl⟩
 try simp only [pnz]
 refine htc 12 (undef) ?_ ?_
 ·
  exact Or.inr ⟨by rfl, rfl⟩
 try simp only [pnz]
 refine htc 13 (undef) ?_ ?_
 ·
  exact Or.inr ⟨by rfl, rfl⟩
 try simp only [pnz]
 refine htc 14 (undef) ?_ ?_
 ·
  exact Or.inr ⟨by rfl, rfl⟩
 try simp only [pnz]
 refine htc 15 (undef) ?_ ?_
 ·
  exact Or.inr ⟨by rfl, rfl⟩
 try simp only [pnz]
 refine htc 16 (undef) ?_ ?_
 ·
  exact Or.inr ⟨by rfl, rfl⟩
 try simp only [pnz]
 refine htc 17 (undef) ?_ ?_
 ·
  exact Or.inr ⟨by rfl, rfl⟩
 try simp only [pnz]
 refine htc 18 (undef) ?_ ?_
 ·
  exact Or.inr ⟨by rfl, rfl⟩
 try simp only [pnz]
 refine htl 19 (.bool false) ?_ ?_
 ·
  intro wS hSw
  go_simp
  try first | with_reducible rfl | simp only [*]
 try simp only [pnz]
 refine htk 20 ?_
 refine wpAnyH_done (by kernel_rfl) ?_ _
 go_wp2_with fail
 go_ret
 exact ⟨by rw [HQ.out]; try rfl, BB.out⟩

set_option maxHeartbeats 4000000 in
set_option maxRecDepth 20000 in
theorem Lossless_n (A : Option Addr) (n c : Nat) (x : Int) (l : List Fd) (ch : Ch) (C : Option Addr) (m d : Nat) (r : List Ce) (w : World) (hn : n = l.length) (hs : Fds w w.heap.size A l) (ho : Ok ⟨l, x⟩) (hcw : CW ch) (hm : m = r.length) (hr : Ces w w.heap.size C r) (hml : m ≤ 1000000) (hsz : ∀ q ∈ r, q.v.s.size ≤ 9223372036854775807) (_hmd : m ≤ d) (_hdm : d ≤ 9223372036854775807) (hG : GV w) (t : Sc) (hap : applyP ⟨l, x⟩ ch = (t, 0)) (hf : fitGo l 0 r = false) :
  Calls Tryz.prog 20 #[.agg #[.slice A n c, .int .i64 x], .agg #[.int .i64 ch.kind, .int .i64 ch.id, .int .i64 ch.wi, .string ch.nm, .string ch.ot, .int .i64 ch.ty, .int .i64 ch.pa, .string ch.sep], .agg #[.slice C m d]] w fun e w' => e = .returned (.bool (losQ ⟨l, x⟩ ch r)) ∧ Below w.heap.size w w' := by
 obtain ⟨fs2, x2⟩ := t
 have HAP := Li hap
 have HQ := Li (show losQ ⟨l, x⟩ ch r = false by unfold losQ; rw [hf]; simp)
 have HF := Li hf
 clear hap hf
 have HN := Li hn
 have HS := Li hs
 have HO := Li ho
 have HCW := Li hcw
 have HM := Li hm
 have HR := Li hr
 have HZ := Li hsz
 have HG := Li hG
 have hl1 : n ≤ 1000 := by have := ho.big.1; simp only at this; omega
 have S0 := Li ((((CB.new w 35 [.slice A n c, .int .i64 x]).alloc (.cells #[.int .i64 ch.kind, .int .i64 ch.id, .int .i64 ch.wi, .string ch.nm, .string ch.ot, .int .i64 ch.ty, .int .i64 ch.pa, .string ch.sep] 24)).alloc (.cells #[.slice C m d] 30)))
 have R0 := Li (CB.new2 w (.cells #[.slice A n c, .int .i64 x] 35) (.cells #[.int .i64 ch.kind, .int .i64 ch.id, .int .i64 ch.wi, .string ch.nm, .string ch.ot, .int .i64 ch.ty, .int .i64 ch.pa, .string ch.sep] 24) 30 [.slice C m d])
 have B0 := Li (al3 w (.cells #[.slice A n c, .int .i64 x] 35) (.cells #[.int .i64 ch.kind, .int .i64 ch.id, .int .i64 ch.wi, .string ch.nm, .string ch.ot, .int .i64 ch.ty, .int .i64 ch.pa, .string ch.sep] 24) (.cells #[.slice C m d] 30))
 clear hn hs ho hcw hm hr hsz hG
 go_enter Tryz.func20, Tryz.ntmps20
 go_upto_region 2 with (go_at_call 37; go_loud (refine (lensOf_any A n c x l ch _ HN.out (HS.out.up B0.out) HO.out HCW.out).mono ?_; rintro e w1 ⟨⟨A5, m5, c5, fv, bv, rfl, hm5, ho5, hat5⟩, hb5⟩; rw [HAP.out] at hm5 ho5 hat5; rw [HAP.out]; have B1 := Li (below_step B0.out B0.out.size hb5); have S1 := Li (S0.out.up hb5); have R1 := Li (R0.out.up hb5); have HAT := Li hat5; rw [if_pos rfl] at HAT; have hf1 := HAT.out.1.one; have hv1 := HAT.out.2.one; have hfs := fun (a : Addr) (mo : Mode) (W : World) => run_store Tryz.prog W a fv mo hf1; have hvs := fun (a : Addr) (mo : Mode) (W : World) => run_store Tryz.prog W a bv mo hv1; clear hb5 hm5 ho5 hat5))
 have hal := (al2 w1 (.cells #[fv, bv] 73) (.cells #[.slice A5 m5 c5, .int .i64 x2] 35))
 have S1 := Li (S1.out.up hal)
 have R1 := Li (R1.out.up hal)
 have N7 := Li ((CB.new w1 73 [fv, bv]).alloc (.cells #[.slice A5 m5 c5, .int .i64 x2] 35))
 have BB := Li (B1.out.trans (hal.mono B1.out.size))
 clear hal B1 S0 R0
 generalize (w1.alloc (.cells #[fv, bv] 73)).alloc (.cells #[.slice A5 m5 c5, .int .i64 x2] 35) = W0 at *
 have S1 := Li S1.out.dr
 have R1 := Li R1.out.dr
 have N7 := Li N7.out.dr
 have BB := Li BB.out.drew
 refine wp_region_held_drew (S := fun w' => Hid (CB w' w.heap.size 35 [.slice A n c, .int .i64 x] ∧ CB w' (w.heap.size + 1 + 1) 30 [.slice C m d] ∧ CB w' w1.heap.size 73 [fv, bv])) (by kernel_rfl) (Li ⟨S1.out, R1.out, N7.out⟩) (fun hHeld => ?_)
 revert hHeld S1 R1 N7 BB
 generalize W0.drew = X0
 intro S1 R1 N7 BB hHeld
 refine htk 0 ?_
 refine htl 1 (.bool true) ?_ ?_
 ·
  intro wS hSw
  go_simp
  try first | with_reducible rfl | simp only [*]
 try simp only [pnz]
 refine htk 2 ?_
 refine htf 3 (fun _ h => And.intro (h.out.1.c2) (And.intro (h.out.1.lt) (And.intro (h.out.2.1.cell 0 rfl) (And.intro (h.out.2.1.lt) (And.intro (h.out.2.2.c2) (h.out.2.2.lt)))))) ?_
 refine htf 4 (fun _ h => And.intro (h.out.1.c2) (And.intro (h.out.1.lt) (And.intro (h.out.2.1.cell 0 rfl) (And.intro (h.out.2.1.lt) (And.intro (h.out.2.2.c2) (h.out.2.2.lt)))))) ?_
 refine rd1 5 fun KK hK => ?_
 go_simp
 go_at_call 43
 refine (Fits_any A n c x l C m d r _ HN.out (HS.out.up BB.out) (by omega) HM.out (HR.out.up BB.out) (by omega) HZ.out).mono ?_
 rintro e v5 ⟨rfl, hb8⟩
 rw [HF.out]
 have S1 := Li (S1.out.up hb8)
 have R1 := Li (R1.out.up hb8)
 have N7 := Li (N7.out.up hb8)
 have BB := Li (below_step BB.out BB.out.size hb8)
 clear hb8
 go_wp2_with fail
 refine hK.out _ _ (Li ⟨S1.out, R1.out, N7.out⟩) (fun hHeld => ?_)
 clear hK KK
 try simp only [pnz]
 refine htl 6 (.bool false) ?_ ?_
 ·
  intro wS hSw
  go_simp
  try first | with_reducible rfl | simp only [*]
 try simp only [pnz]
 refine htk 7 ?_
 refine htc 8 (undef) ?_ ?_
 ·
  exact Or.inr ⟨by rfl, rfl⟩
 try simp only [pnz]
 refine htc 9 (undef) ?_ ?_
 ·
  exact Or.inr ⟨by rfl, rfl⟩
 try simp only [pnz]
 refine htc 10 (undef) ?_ ?_
 ·
  exact Or.inr ⟨by rfl, rfl⟩
 try simp only [pnz]
 refine htc 11 (undef) ?_ ?_
 ·
  exact Or.inr ⟨by rfl, rfl⟩
 try simp only [pnz]
 refine htc 12 (undef) ?_ ?_
 ·
  exact Or.inr ⟨by rfl, rfl⟩
 try simp only [pnz]
 refine htc 13 (undef) ?_ ?_
 ·
  exact Or.inr ⟨by rfl, rfl⟩
 try simp only [pnz]
 refine htc 14 (undef) ?_ ?_
 ·
  exact Or.inr ⟨by rfl, rfl⟩
 try simp only [pnz]
 refine htc 15 (undef) ?_ ?_
 ·
  exact Or.inr ⟨by rfl, rfl⟩
 try simp only [pnz]
 refine htc 16 (undef) ?_ ?_
 ·
  exact Or.inr ⟨by rfl, rfl⟩
 try simp only [pnz]
 refine htc 17 (undef) ?_ ?_
 ·
  exact Or.inr ⟨by rfl, rfl⟩
 try simp only [pnz]
 refine htc 18 (undef) ?_ ?_
 ·
  exact Or.inr ⟨by rfl, rfl⟩
 try simp only [pnz]
 refine htl 19 (.bool false) ?_ ?_
 ·
  intro wS hSw
  go_simp
  try first | with_reducible rfl | simp only [*]
 try simp only [pnz]
 refine htk 20 ?_
 refine wpAnyH_done (by kernel_rfl) ?_ _
 go_wp2_with fail
 go_ret
 exact ⟨by rw [HQ.out]; try rfl, BB.out⟩

set_option maxHeartbeats 4000000 in
set_option maxRecDepth 20000 in
theorem Lossless_y (A : Option Addr) (n c : Nat) (x : Int) (l : List Fd) (ch : Ch) (C : Option Addr) (m d : Nat) (r : List Ce) (w : World) (hn : n = l.length) (hs : Fds w w.heap.size A l) (ho : Ok ⟨l, x⟩) (hcw : CW ch) (hm : m = r.length) (hr : Ces w w.heap.size C r) (hml : m ≤ 1000000) (hsz : ∀ q ∈ r, q.v.s.size ≤ 9223372036854775807) (hmd : m ≤ d) (hdm : d ≤ 9223372036854775807) (hG : GV w) (t : Sc) (hap : applyP ⟨l, x⟩ ch = (t, 0)) (hf : fitGo l 0 r = true) :
  Calls Tryz.prog 20 #[.agg #[.slice A n c, .int .i64 x], .agg #[.int .i64 ch.kind, .int .i64 ch.id, .int .i64 ch.wi, .string ch.nm, .string ch.ot, .int .i64 ch.ty, .int .i64 ch.pa, .string ch.sep], .agg #[.slice C m d]] w fun e w' => e = .returned (.bool (losQ ⟨l, x⟩ ch r)) ∧ Below w.heap.size w w' := by
 obtain ⟨fs2, x2⟩ := t
 have HAP := Li hap
 have hst := st_of ho hap
 have hfl := (fit_of_go ho).1 hf
 have ho2 : Ok ⟨fs2, x2⟩ := by have := (ok_apply (c := ch) ho (by rw [hap])).1; rw [hap] at this; exact this
 have hff := fwd_fit ho hst hfl
 have HRB := Li (fit_rb ho hfl).1
 have HRB2 := Li (show RB ((fwdK ⟨l, x⟩ ch).ap r) by rw [fwdK_ap ho hst hfl]; exact (fit_rb ho2 hff).1)
 have HQ := Li (show losQ ⟨l, x⟩ ch r = eqCs ((bakK ⟨l, x⟩ ch).ap ((fwdK ⟨l, x⟩ ch).ap r)) r by
  rw [fwdK_ap ho hst hfl, bakK_ap ho ho2 hst hff]
  unfold losQ
  rw [hf, hap]
  simp)
 clear hst hfl ho2 hff
 have HF := Li hf
 clear hap hf
 have HN := Li hn
 have HS := Li hs
 have HO := Li ho
 have HCW := Li hcw
 have HM := Li hm
 have HR := Li hr
 have HZ := Li hsz
 have HG := Li hG
 have hl1 : n ≤ 1000 := by have := ho.big.1; simp only at this; omega
 have S0 := Li ((((CB.new w 35 [.slice A n c, .int .i64 x]).alloc (.cells #[.int .i64 ch.kind, .int .i64 ch.id, .int .i64 ch.wi, .string ch.nm, .string ch.ot, .int .i64 ch.ty, .int .i64 ch.pa, .string ch.sep] 24)).alloc (.cells #[.slice C m d] 30)))
 have R0 := Li (CB.new2 w (.cells #[.slice A n c, .int .i64 x] 35) (.cells #[.int .i64 ch.kind, .int .i64 ch.id, .int .i64 ch.wi, .string ch.nm, .string ch.ot, .int .i64 ch.ty, .int .i64 ch.pa, .string ch.sep] 24) 30 [.slice C m d])
 have B0 := Li (al3 w (.cells #[.slice A n c, .int .i64 x] 35) (.cells #[.int .i64 ch.kind, .int .i64 ch.id, .int .i64 ch.wi, .string ch.nm, .string ch.ot, .int .i64 ch.ty, .int .i64 ch.pa, .string ch.sep] 24) (.cells #[.slice C m d] 30))
 clear hn hs ho hcw hm hr hsz hG
 go_enter Tryz.func20, Tryz.ntmps20
 go_upto_region 2 with (go_at_call 37; go_loud (refine (lensOf_any A n c x l ch _ HN.out (HS.out.up B0.out) HO.out HCW.out).mono ?_; rintro e w1 ⟨⟨A5, m5, c5, fv, bv, rfl, hm5, ho5, hat5⟩, hb5⟩; rw [HAP.out] at hm5 ho5 hat5; rw [HAP.out]; have B1 := Li (below_step B0.out B0.out.size hb5); have S1 := Li (S0.out.up hb5); have R1 := Li (R0.out.up hb5); have HAT := Li hat5; rw [if_pos rfl] at HAT; have hf1 := HAT.out.1.one; have hv1 := HAT.out.2.one; have hfs := fun (a : Addr) (mo : Mode) (W : World) => run_store Tryz.prog W a fv mo hf1; have hvs := fun (a : Addr) (mo : Mode) (W : World) => run_store Tryz.prog W a bv mo hv1; clear hb5 hm5 ho5 hat5))
 have hal := (al2 w1 (.cells #[fv, bv] 73) (.cells #[.slice A5 m5 c5, .int .i64 x2] 35))
 have S1 := Li (S1.out.up hal)
 have R1 := Li (R1.out.up hal)
 have N7 := Li ((CB.new w1 73 [fv, bv]).alloc (.cells #[.slice A5 m5 c5, .int .i64 x2] 35))
 have BB := Li (B1.out.trans (hal.mono B1.out.size))
 have hD1 := (Cl.does HAT.out.1 (HG.out.up B1.out)).up hal
 have hD2 := (Cl.does HAT.out.2 (HG.out.up B1.out)).up hal
 have hfr := run_field_row
 clear hal B1 S0 R0
 generalize (w1.alloc (.cells #[fv, bv] 73)).alloc (.cells #[.slice A5 m5 c5, .int .i64 x2] 35) = W0 at *
 obtain ⟨f1, cs1, rfl, he1, hc1⟩ := hD1
 obtain ⟨f2, cs2, rfl, he2, hc2⟩ := hD2
 have HC1 := Li hc1
 have HC2 := Li hc2
 clear hc1 hc2
 have BW := Li (bd W0)
 have S1 := Li S1.out.dr
 have R1 := Li R1.out.dr
 have N7 := Li N7.out.dr
 have BB := Li BB.out.drew
 refine wp_region_held_drew (S := fun w' => Hid (CB w' w.heap.size 35 [.slice A n c, .int .i64 x] ∧ CB w' (w.heap.size + 1 + 1) 30 [.slice C m d] ∧ CB w' w1.heap.size 73 [.func (.func f1) #[] cs1.toArray, .func (.func f2) #[] cs2.toArray])) (by kernel_rfl) (Li ⟨S1.out, R1.out, N7.out⟩) (fun hHeld => ?_)
 revert hHeld S1 R1 N7 BB BW
 generalize W0.drew = X0
 intro BW S1 R1 N7 BB hHeld
 refine htk 0 ?_
 refine htl 1 (.bool true) ?_ ?_
 ·
  intro wS hSw
  go_simp
  try first | with_reducible rfl | simp only [*]
 try simp only [pnz]
 refine htk 2 ?_
 refine htf 3 (fun _ h => And.intro (h.out.1.c2) (And.intro (h.out.1.lt) (And.intro (h.out.2.1.cell 0 rfl) (And.intro (h.out.2.1.lt) (And.intro (h.out.2.2.c2) (h.out.2.2.lt)))))) ?_
 refine htf 4 (fun _ h => And.intro (h.out.1.c2) (And.intro (h.out.1.lt) (And.intro (h.out.2.1.cell 0 rfl) (And.intro (h.out.2.1.lt) (And.intro (h.out.2.2.c2) (h.out.2.2.lt)))))) ?_
 refine rd1 5 fun KK hK => ?_
 go_simp
 go_at_call 43
 refine (Fits_any A n c x l C m d r _ HN.out (HS.out.up BB.out) (by omega) HM.out (HR.out.up BB.out) (by omega) HZ.out).mono ?_
 rintro e v5 ⟨rfl, hb8⟩
 rw [HF.out]
 have BW := Li (BW.out.trans (hb8.mono BW.out.size))
 have S1 := Li (S1.out.up hb8)
 have R1 := Li (R1.out.up hb8)
 have N7 := Li (N7.out.up hb8)
 have BB := Li (below_step BB.out BB.out.size hb8)
 clear hb8
 go_wp2_with fail
 refine hK.out _ _ (Li ⟨S1.out, R1.out, N7.out⟩) (fun hHeld => ?_)
 clear hK KK
 try simp only [pnz]
 refine htl 6 (.bool true) ?_ ?_
 ·
  intro wS hSw
  go_simp
  try first | with_reducible rfl | simp only [*]
 try simp only [pnz]
 refine htk 7 ?_
 refine htk 8 ?_
 refine htf 9 (fun _ h => And.intro (h.out.1.c2) (And.intro (h.out.1.lt) (And.intro (h.out.2.1.cell 0 rfl) (And.intro (h.out.2.1.lt) (And.intro (h.out.2.2.c2) (h.out.2.2.lt)))))) ?_
 refine htk 10 ?_
 refine htf 11 (fun _ h => And.intro (h.out.1.c2) (And.intro (h.out.1.lt) (And.intro (h.out.2.1.cell 0 rfl) (And.intro (h.out.2.1.lt) (And.intro (h.out.2.2.c2) (h.out.2.2.lt)))))) ?_
 refine htf 12 (fun _ h => And.intro (h.out.1.c2) (And.intro (h.out.1.lt) (And.intro (h.out.2.1.cell 0 rfl) (And.intro (h.out.2.1.lt) (And.intro (h.out.2.2.c2) (h.out.2.2.lt)))))) ?_
 refine htk 16 ?_
 refine htf 17 (fun _ h => And.intro (h.out.1.c2) (And.intro (h.out.1.lt) (And.intro (h.out.2.1.cell 0 rfl) (And.intro (h.out.2.1.lt) (And.intro (h.out.2.2.c2) (h.out.2.2.lt)))))) ?_
 refine rd1 13 fun KK hK => ?_
 go_simp
 go_at_fn f1
 refine (HC1.out _ C m d r BW.out HM.out (HR.out.up BB.out) hmd hdm HRB.out).mono ?_
 rintro e v13 ⟨hd13, hb8⟩
 have hcc := hd13.c hb8 (HR.out.up BB.out) (by rw [← HM.out]; exact hmd) hdm
 obtain ⟨A13, c13, rfl, hs13, hl13, hm13⟩ := hcc
 have C13 := Li hs13
 have BW := Li (BW.out.trans (hb8.mono BW.out.size))
 clear hd13 hs13
 have S1 := Li (S1.out.up hb8)
 have R1 := Li (R1.out.up hb8)
 have N7 := Li (N7.out.up hb8)
 have BB := Li (below_step BB.out BB.out.size hb8)
 clear hb8
 go_wp2_with fail
 refine hK.out _ _ (Li ⟨S1.out, R1.out, N7.out⟩) (fun hHeld => ?_)
 clear hK KK
 try simp only [pnz]
 refine rd1 14 fun KK hK => ?_
 go_simp
 go_at_fn f2
 refine (HC2.out _ A13 _ c13 _ BW.out rfl C13.out hl13 hm13 HRB2.out).mono ?_
 rintro e v14 ⟨hd14, hb8⟩
 have hcc := hd14.c hb8 C13.out hl13 hm13
 obtain ⟨A14, c14, rfl, hs14, hl14, hm14⟩ := hcc
 have C14 := Li hs14
 clear hd14 hs14
 have C13 := Li (C13.out.up hb8)
 have S1 := Li (S1.out.up hb8)
 have R1 := Li (R1.out.up hb8)
 have N7 := Li (N7.out.up hb8)
 have BB := Li (below_step BB.out BB.out.size hb8)
 clear hb8
 go_wp2_with fail
 refine hK.out _ _ (Li ⟨S1.out, R1.out, N7.out⟩) (fun hHeld => ?_)
 clear hK KK
 try simp only [pnz]
 refine htk 15 ?_
 refine rd1 18 fun KK hK => ?_
 go_simp
 go_at_call 44
 refine (Equal_any A14 _ c14 ((bakK ⟨l, x⟩ ch).ap ((fwdK ⟨l, x⟩ ch).ap r)) C m d r _ rfl C14.out HM.out (HR.out.up BB.out) (by omega) (by omega)).mono ?_
 rintro e v18 ⟨rfl, hb8⟩
 have C13 := Li (C13.out.up hb8)
 have C14 := Li (C14.out.up hb8)
 have S1 := Li (S1.out.up hb8)
 have R1 := Li (R1.out.up hb8)
 have N7 := Li (N7.out.up hb8)
 have BB := Li (below_step BB.out BB.out.size hb8)
 clear hb8
 go_wp2_with fail
 refine hK.out _ _ (Li ⟨S1.out, R1.out, N7.out⟩) (fun hHeld => ?_)
 clear hK KK
 try simp only [pnz]
 refine htk 19 ?_
 refine htk 20 ?_
 refine wpAnyH_done (by kernel_rfl) ?_ _
 go_wp2_with fail
 go_ret
 exact ⟨by rw [HQ.out]; try rfl, BB.out⟩

theorem Lossless_any (A : Option Addr) (n c : Nat) (x : Int) (l : List Fd) (ch : Ch) (C : Option Addr) (m d : Nat) (r : List Ce) (w : World) (hn : n = l.length) (hs : Fds w w.heap.size A l) (ho : Ok ⟨l, x⟩) (hcw : CW ch) (hm : m = r.length) (hr : Ces w w.heap.size C r) (hml : m ≤ 1000000) (hsz : ∀ q ∈ r, q.v.s.size ≤ 9223372036854775807) (hmd : m ≤ d) (hdm : d ≤ 9223372036854775807) (hG : GV w) :
  Calls Tryz.prog 20 #[.agg #[.slice A n c, .int .i64 x], .agg #[.int .i64 ch.kind, .int .i64 ch.id, .int .i64 ch.wi, .string ch.nm, .string ch.ot, .int .i64 ch.ty, .int .i64 ch.pa, .string ch.sep], .agg #[.slice C m d]] w fun e w' => e = .returned (.bool (losQ ⟨l, x⟩ ch r)) ∧ Below w.heap.size w w' := by
 by_cases he : (applyP ⟨l, x⟩ ch).2 = 0
 ·
  cases hf : fitGo l 0 r with
  | false => exact Lossless_n A n c x l ch C m d r w hn hs ho hcw hm hr hml hsz hmd hdm hG (applyP ⟨l, x⟩ ch).1 (Prod.ext rfl he) hf
  | true => exact Lossless_y A n c x l ch C m d r w hn hs ho hcw hm hr hml hsz hmd hdm hG (applyP ⟨l, x⟩ ch).1 (Prod.ext rfl he) hf
 ·
  exact Lossless_e A n c x l ch C m d r w hn hs ho hcw hm hr hml hsz hmd hdm hG he
end Go.Proofs.YtfeemipnalgjnaaGreat
