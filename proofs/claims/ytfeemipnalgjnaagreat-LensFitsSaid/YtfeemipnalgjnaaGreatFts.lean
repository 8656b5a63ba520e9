/-
 LensFits, walked.
-/
import Derived.Test.YtfeemipnalgjnaaGreatHd
import Derived.Test.YtfeemipnalgjnaaGreatHd
import Derived.Test.YtfeemipnalgjnaaGreatLwA
import Derived.Test.YtfeemipnalgjnaaGreatSnW
namespace Go.Proofs.YtfeemipnalgjnaaGreat.fts
open Go.RowKit Go.Proofs.YtfeemipnalgjnaaGreat

set_option maxHeartbeats 16000000 in
set_option maxRecDepth 20000 in
theorem walk (A : Option Addr) (n c : Nat) (l : List Ch) (ch : Ch) (V : Option Addr) (m cv : Nat) (raw : List Va) (w : World) (hn : n = l.length) (hs : Chs w w.heap.size A l) (hl : n ≤ 9223372036854775807) (hrw : ∀ d ∈ l, RW d) (hC : RW ch) (hm : m = raw.length) (hv : Vas w w.heap.size V raw) (hvf : ∀ u ∈ raw, u.Fine) (hml : m ≤ 9223372036854775807) (hG : GV w) :
  Calls Tryz.prog 5 #[.agg #[.slice A n c, .int .i64 ch.kind, .int .i64 ch.id, .int .i64 ch.wi, .string ch.nm, .string ch.ot, .int .i64 ch.ty, .int .i64 ch.pa, .string ch.sep, .slice V m cv]] w fun e w' => e = .returned (.bool true) ∧ Below w.heap.size w w' := by
 have HN := Li hn
 have HS := Li hs
 have HR := Li hrw
 have HC := Li hC
 have HM := Li hm
 have HV := Li hv
 have HVF := Li hvf
 have C0 := Li (CB.new w 27 [.slice A n c, .int .i64 ch.kind, .int .i64 ch.id, .int .i64 ch.wi, .string ch.nm, .string ch.ot, .int .i64 ch.ty, .int .i64 ch.pa, .string ch.sep, .slice V m cv])
 have B0 := Li (al1 w (.cells #[.slice A n c, .int .i64 ch.kind, .int .i64 ch.id, .int .i64 ch.wi, .string ch.nm, .string ch.ot, .int .i64 ch.ty, .int .i64 ch.pa, .string ch.sep, .slice V m cv] 27))
 have G0 := Li (hG.up (al1 w (.cells #[.slice A n c, .int .i64 ch.kind, .int .i64 ch.id, .int .i64 ch.wi, .string ch.nm, .string ch.ot, .int .i64 ch.ty, .int .i64 ch.pa, .string ch.sep, .slice V m cv] 27)))
 obtain ⟨⟨fs, x⟩, hso⟩ : ∃ s, sOf l = s := ⟨_, rfl⟩
 have HSO := Li hso
 have HO := Li (show Ok ⟨fs, x⟩ by rw [← hso]; exact sOf_ok l)
 obtain ⟨cd, hcd⟩ : ∃ cd, chgR ⟨fs, x⟩ ch = cd := ⟨_, rfl⟩
 have HCD := Li hcd
 have HCW := Li (show CW cd by rw [← hcd]; exact (chg_rw hC HO.out.big.2).cw)
 have hw0 := hG.lt
 clear hn hs hrw hC hm hv hvf hG hso hcd
 go_enter Tryz.func5, Tryz.ntmps5
 have c00 := C0.out.cell 0 rfl
 go_upto_if 12 with (first | (go_at_call 10; refine (sanity_any _ G0.out).mono ?_; rintro e w1 ⟨rfl, hb1⟩; have C1 := Li (C0.out.up hb1); have B1 := Li (below_step B0.out B0.out.size hb1); have G1 := Li (G0.out.up hb1); have z1 := C1.out.lt; have y10 := C1.out.cell 0 rfl; have y11 := C1.out.cell 1 rfl; have y12 := C1.out.cell 2 rfl; have y13 := C1.out.cell 3 rfl; have y14 := C1.out.cell 4 rfl; have y15 := C1.out.cell 5 rfl; have y16 := C1.out.cell 6 rfl; have y17 := C1.out.cell 7 rfl; have y18 := C1.out.cell 8 rfl; have y19 := C1.out.cell 9 rfl; clear hb1) | (go_at_call 11; refine (small_any A n c l ch V m cv raw _ HM.out (RowAt.up HV.out B1.out) hml).mono ?_; rintro e w2 ⟨⟨b, rfl⟩, hb2⟩; have C2 := Li (C1.out.up hb2); have B2 := Li (below_step B1.out B1.out.size hb2); have G2 := Li (G1.out.up hb2); have z2 := C2.out.lt; have y20 := C2.out.cell 0 rfl; have y21 := C2.out.cell 1 rfl; have y22 := C2.out.cell 2 rfl; have y23 := C2.out.cell 3 rfl; have y24 := C2.out.cell 4 rfl; have y25 := C2.out.cell 5 rfl; have y26 := C2.out.cell 6 rfl; have y27 := C2.out.cell 7 rfl; have y28 := C2.out.cell 8 rfl; have y29 := C2.out.cell 9 rfl; clear hb2))
 cases b with
 | false =>
  go_wp2
  go_ret
  exact ⟨rfl, B2.out⟩
 | true =>
 go_upto_region 5 with (go_at_call 12; refine (made_any A n c l ch V m cv raw _ HN.out (HS.out.up B2.out) hl HR.out HC.out).mono ?_; rintro e w3 ⟨⟨A4, n4, c4, rfl, hn4, ho4⟩, hb3⟩; rw [HSO.out] at hn4 ho4; rw [HSO.out, HCD.out]; have HN4 : Hid (n4 = fs.length) := hn4; have C3 := Li (C2.out.up hb3); have B3 := Li (below_step B2.out B2.out.size hb3); have G3 := Li (G2.out.up hb3); have O4 := Li (ho4.low (b := w.heap.size) B2.out.size); clear hb3 ho4 hn4)
 have h34 := al2 w3 (.cells #[.slice A4 n4 c4, .int .i64 x] 35) (.cells #[.int .i64 cd.kind, .int .i64 cd.id, .int .i64 cd.wi, .string cd.nm, .string cd.ot, .int .i64 cd.ty, .int .i64 cd.pa, .string cd.sep] 24)
 have hs5 : w.heap.size ≤ ((w3.alloc (.cells #[.slice A4 n4 c4, .int .i64 x] 35)).alloc (.cells #[.int .i64 cd.kind, .int .i64 cd.id, .int .i64 cd.wi, .string cd.nm, .string cd.ot, .int .i64 cd.ty, .int .i64 cd.pa, .string cd.sep] 24)).heap.size := Nat.le_trans B3.out.size h34.size
 have hh : ∃ P : World → Prop, Hid (Kp ((w3.alloc (.cells #[.slice A4 n4 c4, .int .i64 x] 35)).alloc (.cells #[.int .i64 cd.kind, .int .i64 cd.id, .int .i64 cd.wi, .string cd.nm, .string cd.ot, .int .i64 cd.ty, .int .i64 cd.pa, .string cd.sep] 24)).heap.size P) ∧ Hid (P ((w3.alloc (.cells #[.slice A4 n4 c4, .int .i64 x] 35)).alloc (.cells #[.int .i64 cd.kind, .int .i64 cd.id, .int .i64 cd.wi, .string cd.nm, .string cd.ot, .int .i64 cd.ty, .int .i64 cd.pa, .string cd.sep] 24))) ∧ Hid (∀ X, P X → (Below w.heap.size w X ∧ GV X) ∧ (CB X w.heap.size 27 [.slice A n c, .int .i64 ch.kind, .int .i64 ch.id, .int .i64 ch.wi, .string ch.nm, .string ch.ot, .int .i64 ch.ty, .int .i64 ch.pa, .string ch.sep, .slice V m cv] ∧ CB X w3.heap.size 35 [.slice A4 n4 c4, .int .i64 x]) ∧ CB X (w3.heap.size + 1) 24 [.int .i64 cd.kind, .int .i64 cd.id, .int .i64 cd.wi, .string cd.nm, .string cd.ot, .int .i64 cd.ty, .int .i64 cd.pa, .string cd.sep] ∧ Own 58 4 X w.heap.size (.slice A4 n4 c4) (fs.map Fd.cells)) :=
  ⟨fun X => (Below w.heap.size w X ∧ GV X) ∧ (CB X w.heap.size 27 [.slice A n c, .int .i64 ch.kind, .int .i64 ch.id, .int .i64 ch.wi, .string ch.nm, .string ch.ot, .int .i64 ch.ty, .int .i64 ch.pa, .string ch.sep, .slice V m cv] ∧ CB X w3.heap.size 35 [.slice A4 n4 c4, .int .i64 x]) ∧ CB X (w3.heap.size + 1) 24 [.int .i64 cd.kind, .int .i64 cd.id, .int .i64 cd.wi, .string cd.nm, .string cd.ot, .int .i64 cd.ty, .int .i64 cd.pa, .string cd.sep] ∧ Own 58 4 X w.heap.size (.slice A4 n4 c4) (fs.map Fd.cells), Li (((Kp.bel hs5).and (Kp.gv _ (by omega))).and (((Kp.cb (by decide)).and (Kp.cb (by decide))).and ((Kp.cb (by decide)).and (Kp.own (by decide))))), Li ⟨⟨below_step B3.out B3.out.size h34, G3.out.up h34⟩, ⟨C3.out.up h34, (CB.new w3 35 [.slice A4 n4 c4, .int .i64 x]).alloc _⟩, CB.new1 w3 (.cells #[.slice A4 n4 c4, .int .i64 x] 35) 24 [.int .i64 cd.kind, .int .i64 cd.id, .int .i64 cd.wi, .string cd.nm, .string cd.ot, .int .i64 cd.ty, .int .i64 cd.pa, .string cd.sep], O4.out.up h34⟩, Li fun _ h => h⟩
 clear C0 C1 C2 C3 B0 B1 B2 B3 G0 G1 G2 G3 O4 h34 hs5 z1 z2 c00 y10 y11 y12 y13 y14 y15 y16 y17 y18 y19 y20 y21 y22 y23 y24 y25 y26 y27 y28 y29
 obtain ⟨P, HK, HP, PP⟩ := hh
 generalize w3.heap.size = gS at *
 generalize (w3.alloc (.cells #[.slice A4 n4 c4, .int .i64 x] 35)).alloc (.cells #[.int .i64 cd.kind, .int .i64 cd.id, .int .i64 cd.wi, .string cd.nm, .string cd.ot, .int .i64 cd.ty, .int .i64 cd.pa, .string cd.sep] 24) = W5 at *
 have LD := Li (fun X (h : P X) => And.intro (PP.out X h).2.1.1.c10 (And.intro (PP.out X h).2.1.1.lt (And.intro (PP.out X h).2.1.2.c2 (And.intro (PP.out X h).2.1.2.lt (And.intro (PP.out X h).2.2.1.c8 (PP.out X h).2.2.1.lt)))))
 obtain ⟨⟨⟨fs2, x2⟩, er⟩, hap⟩ : ∃ p, applyP ⟨fs, x⟩ cd = p := ⟨_, rfl⟩
 have HAP := Li hap
 have HAR := Li (show applyR ⟨fs, x⟩ ⟨cd.kind, cd.id, cd.wi, cd.nm, cd.ot, cd.ty, cd.pa, cd.sep⟩ = (⟨fs2, x2⟩, er) by rw [← apply_eq HO.out]; exact hap)
 have HL4 : Hid (n4 ≤ 1000) := by have := HO.out.big.1; show _ ≤ _; have := HN4.out; simp only at *; omega
 have HX0 : Hid (0 ≤ x) := by have := HO.out.nx; show _ ≤ _; simp only at this; omega
 have HX1 : Hid (x ≤ 2305843009213693952) := by have := HO.out.big.2; show _ ≤ _; simp only at this; omega
 have HNL := Li (show AllN (fun s => s.size ≤ 9223372036854775807) fs from fun f hf => nam_small (HO.out.nam.1 f hf))
 clear hap
 have hld := LD.out _ HP.out
 by_cases he : er = 0
 case neg =>
  have HER := Li (show (applyP ⟨fs, x⟩ cd).2 ≠ 0 by rw [HAP.out]; exact he)
  have e1 : (er != 0) = true := by simpa using he
  clear he
  go_upto_region 7 with (go_at_call 13; refine (RApply_any A4 n4 c4 x fs cd.kind cd.id cd.wi cd.nm cd.ot cd.ty cd.pa cd.sep _ HN4.out (PP.out _ HP.out).2.2.2.row.2.2.2 HL4.out HX0.out HX1.out HCW.out.2.1 HCW.out.2.2.1 HCW.out.2.2.2 HNL.out).mono ?_; rintro e w6 ⟨⟨A6, m6, c6, rfl, hm6, ho6⟩, hb6⟩; rw [HAR.out] at hm6 ho6; rw [HAR.out]; have HM6 : Hid (m6 = fs2.length) := hm6; have O6 := Li (ho6.low (b := w.heap.size) (PP.out _ HP.out).1.1.size); have HP6 := Li (HK.out.1 _ _ HP.out hb6); have HS6 := Li hb6.size; clear hb6 ho6 hm6)
  have HP7 := Li (HK.out.1 _ _ HP6.out (al1 w6 (.cells #[.slice A6 m6 c6, .int .i64 x2] 35)))
  clear HP HP6 O6 HM6 HS6 hld e1
  have HP := HP7
  clear HP7
  generalize w6.alloc (.cells #[.slice A6 m6 c6, .int .i64 x2] 35) = W7 at *
  have hfr := run_field_row
  replace HP : Hid (P W7.drew) := Li (HK.out.1 _ _ HP.out (bd _))
  refine wp_region_held_drew (S := fun w' => Hid (P w')) (by kernel_rfl) HP (fun hHeld => ?_)
  revert hHeld HP
  generalize W7.drew = X0
  intro HP hHeld
  refine htf 0 (fun _ h => LD.out _ h.out) ?_
  refine htf 1 (fun _ h => LD.out _ h.out) ?_
  refine htf 2 (fun _ h => LD.out _ h.out) ?_
  refine htf 3 (fun _ h => LD.out _ h.out) ?_
  refine htf 4 (fun _ h => LD.out _ h.out) ?_
  refine rd1 5 fun KK hK => ?_
  go_simp
  go_at_call 14
  refine (RRow_any A4 n4 c4 x fs V m cv raw _ HN4.out (PP.out _ HP.out).2.2.2.row.2.2.2 HO.out HM.out (RowAt.up HV.out (PP.out _ HP.out).1.1) hml HVF.out).mono ?_
  rintro e v5 ⟨⟨A8, c8, r, rfl, ho8, hf8, hs8, hl8⟩, hb8⟩
  have O8 := Li (show OX _ A8 c8 r from ⟨_, ho8⟩)
  have HFr := Li hf8
  have HSr := Li hs8
  have HLr := Li hl8
  clear ho8 hf8 hs8 hl8
  replace HP := Li (HK.out.1 _ _ HP.out hb8)
  clear hb8
  go_wp2_with fail
  refine hK.out _ _ (HP) (fun hHeld => ?_)
  clear hK KK
  try simp only [pnz]
  refine rd1 6 fun KK hK => ?_
  go_simp
  go_at_call 16
  refine (Forward_any A4 n4 c4 x fs cd A8 r.length c8 r _ HN4.out (PP.out _ HP.out).2.2.2.row.2.2.2 HO.out HCW.out rfl O8.out.ces.1 (by have := HLr.out; omega) (big_of HSr.out) O8.out.ces.2.1 O8.out.ces.2.2 (PP.out _ HP.out).1.2).mono ?_
  rintro e v6 ⟨⟨A9, c9, rfl, ho9⟩, hb8⟩
  rw [fq_err HER.out] at ho9 ⊢
  have O9 := Li (show OX _ A9 c9 _ from ⟨_, ho9⟩)
  clear ho9
  clear O8
  replace HP := Li (HK.out.1 _ _ HP.out hb8)
  clear hb8
  go_wp2_with fail
  refine hK.out _ _ (HP) (fun hHeld => ?_)
  clear hK KK
  try simp only [pnz]
  refine htk 7 ?_
  refine htk 8 ?_
  refine htk 9 ?_
  refine htk 10 ?_
  refine htk 11 ?_
  refine htk 12 ?_
  refine htk 13 ?_
  refine wpAnyH_done (by kernel_rfl) ?_ _
  go_wp2_with fail
  go_ret
  exact ⟨rfl, (PP.out _ HP.out).1.1⟩
 case pos =>
  subst he
  have HER := Li (show (applyP ⟨fs, x⟩ cd).2 = 0 by rw [HAP.out])
  have HO2 := Li (show Ok ⟨fs2, x2⟩ by have := (ok_apply HO.out HER.out).1; rw [HAP.out] at this; exact this)
  go_upto_region 8 with (go_at_call 13; refine (RApply_any A4 n4 c4 x fs cd.kind cd.id cd.wi cd.nm cd.ot cd.ty cd.pa cd.sep _ HN4.out (PP.out _ HP.out).2.2.2.row.2.2.2 HL4.out HX0.out HX1.out HCW.out.2.1 HCW.out.2.2.1 HCW.out.2.2.2 HNL.out).mono ?_; rintro e w6 ⟨⟨A6, m6, c6, rfl, hm6, ho6⟩, hb6⟩; rw [HAR.out] at hm6 ho6; rw [HAR.out]; have HM6 : Hid (m6 = fs2.length) := hm6; have O6 := Li (ho6.low (b := w.heap.size) (PP.out _ HP.out).1.1.size); have HP6 := Li (HK.out.1 _ _ HP.out hb6); have HS6 := Li hb6.size; clear hb6 ho6 hm6)
  have h6 := al1 w6 (.cells #[.slice A6 m6 c6, .int .i64 x2] 35)
  have hh : ∃ P2 : World → Prop, Hid (Kp (w6.alloc (.cells #[.slice A6 m6 c6, .int .i64 x2] 35)).heap.size P2) ∧ Hid (P2 (w6.alloc (.cells #[.slice A6 m6 c6, .int .i64 x2] 35))) ∧ (∀ X, P2 X → P X) ∧ Hid (∀ X, P2 X → CB X w6.heap.size 35 [.slice A6 m6 c6, .int .i64 x2] ∧ Own 58 4 X w.heap.size (.slice A6 m6 c6) (fs2.map Fd.cells)) := ⟨fun X => P X ∧ CB X w6.heap.size 35 [.slice A6 m6 c6, .int .i64 x2] ∧ Own 58 4 X w.heap.size (.slice A6 m6 c6) (fs2.map Fd.cells), Li ((HK.out.mono (Nat.le_trans HS6.out h6.size)).and ((Kp.cb (by decide)).and (Kp.own (by decide)))), Li ⟨HK.out.1 _ _ HP6.out h6, CB.new _ _ _, O6.out.up h6⟩, fun _ h => h.1, Li fun _ h => h.2⟩
  clear HP HK HP6 O6 HS6 h6 hld
  obtain ⟨P, HK, HP, pp, PS⟩ := hh
  replace PP := Li (fun X h => PP.out X (pp X h))
  replace LD := Li (fun X h => LD.out X (pp X h))
  clear pp
  generalize w6.heap.size = g6 at *
  generalize w6.alloc (.cells #[.slice A6 m6 c6, .int .i64 x2] 35) = W8 at *
  go_cut [8] from 40 to 46 (fun u wx => ∃ (g c : Nat) (A : Option Addr) (r : List Ce), u = .pointer (some ⟨g, 0, none⟩) ∧ W8.heap.size ≤ g ∧ Hid (P wx) ∧ Hid (RX wx g A c (fwdQ ⟨fs, x⟩ cd r)))
  case first => as_aux_lemma =>
   replace HP : Hid (P W8.drew) := Li (HK.out.1 _ _ HP.out (bd _))
   have HB := Li (show W8.heap.size ≤ W8.drew.heap.size from Nat.le_refl _)
   refine wp_region_held_drew (S := fun w' => Hid (P w')) (by kernel_rfl) HP (fun hHeld => ?_)
   revert hHeld HP HB
   generalize W8.drew = X0
   intro HP HB hHeld
   refine htf 0 (fun _ h => LD.out _ h.out) ?_
   refine htf 1 (fun _ h => LD.out _ h.out) ?_
   refine htf 2 (fun _ h => LD.out _ h.out) ?_
   refine htf 3 (fun _ h => LD.out _ h.out) ?_
   refine htf 4 (fun _ h => LD.out _ h.out) ?_
   refine rd2 5 7 (fun KK hK => ?_) (fun KK hK => ?_)
   ·
    go_simp
    go_at_call 14
    refine (RRow_any A4 n4 c4 x fs V m cv raw _ HN4.out (PP.out _ HP.out).2.2.2.row.2.2.2 HO.out HM.out (RowAt.up HV.out (PP.out _ HP.out).1.1) hml HVF.out).mono ?_
    rintro e v5 ⟨⟨A8, c8, r, rfl, ho8, hf8, hs8, hl8⟩, hb8⟩
    have O8 := Li (show OX _ A8 c8 r from ⟨_, ho8⟩)
    have HFr := Li hf8
    have HSr := Li hs8
    have HLr := Li hl8
    clear ho8 hf8 hs8 hl8
    replace HP := Li (HK.out.1 _ _ HP.out hb8)
    replace HB := Li (Nat.le_trans HB.out hb8.size)
    clear hb8
    go_wp2_with fail
    refine hK.out _ _ (HP) (fun hHeld => ?_)
    clear hK KK
    try simp only [pnz]
    refine rd2 6 7 (fun KK hK => ?_) (fun KK hK => ?_)
    ·
     go_simp
     go_at_call 16
     refine (Forward_any A4 n4 c4 x fs cd A8 r.length c8 r _ HN4.out (PP.out _ HP.out).2.2.2.row.2.2.2 HO.out HCW.out rfl O8.out.ces.1 (by have := HLr.out; omega) (big_of HSr.out) O8.out.ces.2.1 O8.out.ces.2.2 (PP.out _ HP.out).1.2).mono ?_
     rintro e v6 ⟨⟨A9, c9, rfl, ho9⟩, hb8⟩
     have O9 := Li (show OX _ A9 c9 _ from ⟨_, ho9⟩)
     clear ho9
     clear O8
     replace HP := Li (HK.out.1 _ _ HP.out hb8)
     replace HB := Li (Nat.le_trans HB.out hb8.size)
     clear hb8
     go_wp2_with fail
     refine hK.out _ _ (HP) (fun hHeld => ?_)
     clear hK KK
     try simp only [pnz]
     refine rd1 7 fun KK hK => ?_
     go_simp
     have z5 := HB.out
     have hb8 := al1 v6 (.cells #[.slice none 0 0] 30)
     replace HP := Li (HK.out.1 _ _ HP.out hb8)
     replace HB := Li (Nat.le_trans HB.out hb8.size)
     replace O9 := Li (O9.out.up hb8)
     clear hb8
     have B5 := Li (CB.new v6 30 [.slice none 0 0])
     refine hK.out _ _ (HP) (fun hHeld => ?_)
     clear hK KK
     try simp only [pnz]
     generalize v6.heap.size = g5 at B5 z5 ⊢
     generalize v6.alloc (.cells #[.slice none 0 0] 30) = v7 at HP HB B5 O9 hHeld ⊢
     refine rd1 8 fun KK hK => ?_
     refine step_store_cb rfl 30 (.tmp 8) (.tmp 46) rfl g5 [.slice A9 (fwdQ ⟨fs, x⟩ cd r).length c9] rfl rfl 30 [.slice none 0 0] 1 B5.out sizeRw rfl rfl (one_rw _ _ _) ?_
     intro v6 hc6 hg6 hz6
     replace HP := Li (HK.out.2 _ _ _ _ HP.out B5.out z5 hg6)
     have QN := Li (show RX v6 g5 A9 c9 _ from ⟨hc6, O9.out.put B5.out hg6⟩)
     refine hK.out _ _ (HP) (fun hHeld => ?_)
     clear hK KK
     try simp only [pnz]
     refine wpAnyH_done (by kernel_rfl) ?_ _
     go_wp2_with fail
     go_meet
     exact ⟨_, _, _, r, rfl, z5, HP, QN⟩
    ·
     go_simp
     have z5 := HB.out
     have hb8 := al1 v5 (.cells #[.slice none 0 0] 30)
     replace HP := Li (HK.out.1 _ _ HP.out hb8)
     replace HB := Li (Nat.le_trans HB.out hb8.size)
     replace O8 := Li (O8.out.up hb8)
     clear hb8
     have B5 := Li (CB.new v5 30 [.slice none 0 0])
     refine hK.out _ _ (HP) (fun hHeld => ?_)
     clear hK KK
     try simp only [pnz]
     generalize v5.heap.size = g5 at B5 z5 ⊢
     generalize v5.alloc (.cells #[.slice none 0 0] 30) = v7 at HP HB B5 O8 hHeld ⊢
     refine rd1 6 fun KK hK => ?_
     go_simp
     go_at_call 16
     refine (Forward_any A4 n4 c4 x fs cd A8 r.length c8 r _ HN4.out (PP.out _ HP.out).2.2.2.row.2.2.2 HO.out HCW.out rfl O8.out.ces.1 (by have := HLr.out; omega) (big_of HSr.out) O8.out.ces.2.1 O8.out.ces.2.2 (PP.out _ HP.out).1.2).mono ?_
     rintro e v6 ⟨⟨A9, c9, rfl, ho9⟩, hb8⟩
     have O9 := Li (show OX _ A9 c9 _ from ⟨_, ho9⟩)
     clear ho9
     clear O8
     replace HP := Li (HK.out.1 _ _ HP.out hb8)
     replace HB := Li (Nat.le_trans HB.out hb8.size)
     replace B5 := Li (B5.out.up hb8)
     clear hb8
     go_wp2_with fail
     refine hK.out _ _ (HP) (fun hHeld => ?_)
     clear hK KK
     try simp only [pnz]
     refine rd1 8 fun KK hK => ?_
     refine step_store_cb rfl 30 (.tmp 8) (.tmp 46) rfl g5 [.slice A9 (fwdQ ⟨fs, x⟩ cd r).length c9] rfl rfl 30 [.slice none 0 0] 1 B5.out sizeRw rfl rfl (one_rw _ _ _) ?_
     intro v6 hc6 hg6 hz6
     replace HP := Li (HK.out.2 _ _ _ _ HP.out B5.out z5 hg6)
     have QN := Li (show RX v6 g5 A9 c9 _ from ⟨hc6, O9.out.put B5.out hg6⟩)
     refine hK.out _ _ (HP) (fun hHeld => ?_)
     clear hK KK
     try simp only [pnz]
     refine wpAnyH_done (by kernel_rfl) ?_ _
     go_wp2_with fail
     go_meet
     exact ⟨_, _, _, r, rfl, z5, HP, QN⟩
   ·
    go_simp
    have z5 := HB.out
    have hb8 := al1 X0 (.cells #[.slice none 0 0] 30)
    replace HP := Li (HK.out.1 _ _ HP.out hb8)
    replace HB := Li (Nat.le_trans HB.out hb8.size)
    clear hb8
    have B5 := Li (CB.new X0 30 [.slice none 0 0])
    refine hK.out _ _ (HP) (fun hHeld => ?_)
    clear hK KK
    try simp only [pnz]
    generalize X0.heap.size = g5 at B5 z5 ⊢
    generalize X0.alloc (.cells #[.slice none 0 0] 30) = v7 at HP HB B5  hHeld ⊢
    refine rd1 5 fun KK hK => ?_
    go_simp
    go_at_call 14
    refine (RRow_any A4 n4 c4 x fs V m cv raw _ HN4.out (PP.out _ HP.out).2.2.2.row.2.2.2 HO.out HM.out (RowAt.up HV.out (PP.out _ HP.out).1.1) hml HVF.out).mono ?_
    rintro e v5 ⟨⟨A8, c8, r, rfl, ho8, hf8, hs8, hl8⟩, hb8⟩
    have O8 := Li (show OX _ A8 c8 r from ⟨_, ho8⟩)
    have HFr := Li hf8
    have HSr := Li hs8
    have HLr := Li hl8
    clear ho8 hf8 hs8 hl8
    replace HP := Li (HK.out.1 _ _ HP.out hb8)
    replace HB := Li (Nat.le_trans HB.out hb8.size)
    replace B5 := Li (B5.out.up hb8)
    clear hb8
    go_wp2_with fail
    refine hK.out _ _ (HP) (fun hHeld => ?_)
    clear hK KK
    try simp only [pnz]
    refine rd1 6 fun KK hK => ?_
    go_simp
    go_at_call 16
    refine (Forward_any A4 n4 c4 x fs cd A8 r.length c8 r _ HN4.out (PP.out _ HP.out).2.2.2.row.2.2.2 HO.out HCW.out rfl O8.out.ces.1 (by have := HLr.out; omega) (big_of HSr.out) O8.out.ces.2.1 O8.out.ces.2.2 (PP.out _ HP.out).1.2).mono ?_
    rintro e v6 ⟨⟨A9, c9, rfl, ho9⟩, hb8⟩
    have O9 := Li (show OX _ A9 c9 _ from ⟨_, ho9⟩)
    clear ho9
    clear O8
    replace HP := Li (HK.out.1 _ _ HP.out hb8)
    replace HB := Li (Nat.le_trans HB.out hb8.size)
    replace B5 := Li (B5.out.up hb8)
    clear hb8
    go_wp2_with fail
    refine hK.out _ _ (HP) (fun hHeld => ?_)
    clear hK KK
    try simp only [pnz]
    refine rd1 8 fun KK hK => ?_
    refine step_store_cb rfl 30 (.tmp 8) (.tmp 46) rfl g5 [.slice A9 (fwdQ ⟨fs, x⟩ cd r).length c9] rfl rfl 30 [.slice none 0 0] 1 B5.out sizeRw rfl rfl (one_rw _ _ _) ?_
    intro v6 hc6 hg6 hz6
    replace HP := Li (HK.out.2 _ _ _ _ HP.out B5.out z5 hg6)
    have QN := Li (show RX v6 g5 A9 c9 _ from ⟨hc6, O9.out.put B5.out hg6⟩)
    refine hK.out _ _ (HP) (fun hHeld => ?_)
    clear hK KK
    try simp only [pnz]
    refine wpAnyH_done (by kernel_rfl) ?_ _
    go_wp2_with fail
    go_meet
    exact ⟨_, _, _, r, rfl, z5, HP, QN⟩
  case rest =>
   obtain ⟨g8, c8, A8, r, rfl, hge, HP1, QN⟩ := hcut
   obtain ⟨o1, ho1⟩ : ∃ o, fwdQ ⟨fs, x⟩ cd r = o := ⟨_, rfl⟩
   have HS1 := Li (show o1.length ≤ 64 ∧ ∀ d ∈ o1, d.v.s.size ≤ 200 by rw [← ho1]; exact fq_small HO.out)
   have HT1 := Li (show fitGo fs2 0 o1 = true by have h := fq_fit (r := r) HO.out HER.out; rw [HAP.out, ho1] at h; exact (fit_of_go HO2.out).2 h)
   obtain ⟨b1, hb1⟩ : ∃ b, bakQ ⟨fs, x⟩ cd o1 = b := ⟨_, rfl⟩
   have HSB := Li (show b1.length ≤ 64 ∧ ∀ d ∈ b1, d.v.s.size ≤ 200 by rw [← hb1]; exact bq_small HO.out)
   have HT2 := Li (show fitGo fs 0 b1 = true by rw [← hb1]; exact (fit_of_go HO.out).2 (bq_fit HO.out))
   have HB1 := Li hb1
   rw [ho1] at QN
   clear hb1 ho1
   have hh : ∃ P2 : World → Prop, Hid (Kp wc.heap.size P2) ∧ Hid (P2 wc) ∧ (∀ X, P2 X → P X) ∧ Hid (∀ X, P2 X → RX X g8 A8 c8 o1) := ⟨fun X => P X ∧ RX X g8 A8 c8 o1, Li (HK.out.row (Nat.le_of_lt (Nat.lt_of_le_of_lt hge QN.out.1.lt)) QN.out.1.lt), Li ⟨HP1.out, QN.out⟩, fun _ h => h.1, Li fun _ h => h.2⟩
   clear HP1 QN HP HK hge
   obtain ⟨P, HK, HP, pp, PR8⟩ := hh
   replace PP := Li (fun X h => PP.out X (pp X h))
   replace LD := Li (fun X h => LD.out X (pp X h))
   replace PS := Li (fun X h => PS.out X (pp X h))
   clear pp
   generalize wc = W9 at *
   go_upto_region 9 with fail
   replace HP : Hid (P W9.drew) := Li (HK.out.1 _ _ HP.out (bd _))
   refine wp_region_held_drew (S := fun w' => Hid (P w')) (by kernel_rfl) HP (fun hHeld => ?_)
   revert hHeld HP
   generalize W9.drew = X0
   intro HP hHeld
   refine htf 0 (fun _ h => And.intro (PS.out _ h.out).1.c2 (PS.out _ h.out).1.lt) ?_
   refine htf 1 (fun _ h => And.intro ((PR8.out _ h.out).1.cell 0 rfl) (PR8.out _ h.out).1.lt) ?_
   refine rd1 2 fun KK hK => ?_
   go_simp
   go_at_call 26
   refine (RFits_ok A6 m6 c6 x2 fs2 A8 (o1).length c8 (o1) _ HM6.out (PS.out _ HP.out).2.row.2.2.2 HO2.out rfl (PR8.out _ HP.out).2.ces.1 (by have := HS1.out.1; omega) (big_of HS1.out.2)).mono ?_
   rintro e v2 ⟨rfl, hb8⟩
   rw [HT1.out]
   replace HP := Li (HK.out.1 _ _ HP.out hb8)
   clear hb8
   go_wp2_with fail
   refine hK.out _ _ (HP) (fun hHeld => ?_)
   clear hK KK
   try simp only [pnz]
   refine htk 3 ?_
   refine htf 4 (fun _ h => LD.out _ h.out) ?_
   refine htf 5 (fun _ h => LD.out _ h.out) ?_
   refine htf 6 (fun _ h => LD.out _ h.out) ?_
   refine htf 7 (fun _ h => And.intro ((PR8.out _ h.out).1.cell 0 rfl) (PR8.out _ h.out).1.lt) ?_
   refine rd1 8 fun KK hK => ?_
   go_simp
   go_at_call 18
   refine (Back_any A4 n4 c4 x fs cd A8 o1.length c8 o1 _ HN4.out (PP.out _ HP.out).2.2.2.row.2.2.2 HO.out HCW.out rfl (PR8.out _ HP.out).2.ces.1 (by have := HS1.out.1; omega) (big_of HS1.out.2) (PR8.out _ HP.out).2.ces.2.1 (PR8.out _ HP.out).2.ces.2.2 (PP.out _ HP.out).1.2).mono ?_
   rintro e v8 ⟨⟨A9, c9, rfl, ho9⟩, hb8⟩
   rw [HB1.out] at ho9 ⊢
   have O9 := Li (show OX _ A9 c9 _ from ⟨_, ho9⟩)
   clear ho9
   replace HP := Li (HK.out.1 _ _ HP.out hb8)
   clear hb8
   go_wp2_with fail
   refine hK.out _ _ (HP) (fun hHeld => ?_)
   clear hK KK
   try simp only [pnz]
   refine rd1 9 fun KK hK => ?_
   go_simp
   go_at_call 26
   refine (RFits_ok A4 n4 c4 x fs A9 (b1).length c9 (b1) _ HN4.out (PP.out _ HP.out).2.2.2.row.2.2.2 HO.out rfl O9.out.ces.1 (by have := HSB.out.1; omega) (big_of HSB.out.2)).mono ?_
   rintro e v9 ⟨rfl, hb8⟩
   rw [HT2.out]
   clear O9
   replace HP := Li (HK.out.1 _ _ HP.out hb8)
   clear hb8
   go_wp2_with fail
   refine hK.out _ _ (HP) (fun hHeld => ?_)
   clear hK KK
   try simp only [pnz]
   refine htk 10 ?_
   refine htk 11 ?_
   refine htf 12 (fun _ h => LD.out _ h.out) ?_
   refine htf 13 (fun _ h => LD.out _ h.out) ?_
   refine htf 14 (fun _ h => LD.out _ h.out) ?_
   refine htf 15 (fun _ h => And.intro (PS.out _ h.out).1.c2 (PS.out _ h.out).1.lt) ?_
   refine htf 16 (fun _ h => LD.out _ h.out) ?_
   refine htf 17 (fun _ h => LD.out _ h.out) ?_
   refine rd1 18 fun KK hK => ?_
   go_simp
   go_at_call 14
   refine (RRow_any A6 m6 c6 x2 fs2 V m cv raw _ HM6.out (PS.out _ HP.out).2.row.2.2.2 HO2.out HM.out (RowAt.up HV.out (PP.out _ HP.out).1.1) hml HVF.out).mono ?_
   rintro e v18 ⟨⟨A7, c7, r7, rfl, ho8, hf8, hs8, hl8⟩, hb8⟩
   have O7 := Li (show OX _ A7 c7 r7 from ⟨_, ho8⟩)
   have HS7 := Li hs8
   have HL7 := Li hl8
   clear ho8 hf8 hs8 hl8
   replace HP := Li (HK.out.1 _ _ HP.out hb8)
   clear hb8
   go_wp2_with fail
   refine hK.out _ _ (HP) (fun hHeld => ?_)
   clear hK KK
   try simp only [pnz]
   refine rd1 19 fun KK hK => ?_
   go_simp
   go_at_call 18
   refine (Back_any A4 n4 c4 x fs cd A7 r7.length c7 r7 _ HN4.out (PP.out _ HP.out).2.2.2.row.2.2.2 HO.out HCW.out rfl O7.out.ces.1 (by have := HL7.out; omega) (big_of HS7.out) O7.out.ces.2.1 O7.out.ces.2.2 (PP.out _ HP.out).1.2).mono ?_
   rintro e v19 ⟨⟨A5, c5, rfl, ho9⟩, hb8⟩
   have O5 := Li (show OX _ A5 c5 _ from ⟨_, ho9⟩)
   clear ho9
   clear O7
   replace HP := Li (HK.out.1 _ _ HP.out hb8)
   clear hb8
   go_wp2_with fail
   refine hK.out _ _ (HP) (fun hHeld => ?_)
   clear hK KK
   try simp only [pnz]
   refine rd1 20 fun KK hK => ?_
   go_simp
   go_at_call 26
   refine (RFits_ok A4 n4 c4 x fs A5 (bakQ ⟨fs, x⟩ cd r7).length c5 (bakQ ⟨fs, x⟩ cd r7) _ HN4.out (PP.out _ HP.out).2.2.2.row.2.2.2 HO.out rfl O5.out.ces.1 (by have := (bq_small (c := cd) (r := r7) HO.out).1; omega) (big_of (bq_small HO.out).2)).mono ?_
   rintro e v20 ⟨rfl, hb8⟩
   rw [(fit_of_go HO.out).2 (bq_fit HO.out)]
   clear O5
   replace HP := Li (HK.out.1 _ _ HP.out hb8)
   clear hb8
   go_wp2_with fail
   refine hK.out _ _ (HP) (fun hHeld => ?_)
   clear hK KK
   try simp only [pnz]
   refine htk 21 ?_
   refine htk 22 ?_
   refine htk 23 ?_
   refine htk 24 ?_
   refine htk 25 ?_
   refine wpAnyH_done (by kernel_rfl) ?_ _
   go_wp2_with fail
   go_ret
   exact ⟨rfl, (PP.out _ HP.out).1.1⟩
end Go.Proofs.YtfeemipnalgjnaaGreat.fts
