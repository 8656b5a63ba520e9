/-
 LensKeeps, walked.
-/
import Derived.Test.YtfeemipnalgjnaaGreatHd
import Derived.Test.YtfeemipnalgjnaaGreatHd
import Derived.Test.YtfeemipnalgjnaaGreatTrM
import Derived.Test.YtfeemipnalgjnaaGreatPlc
import Derived.Test.YtfeemipnalgjnaaGreatSnW
import Derived.Test.YtfeemipnalgjnaaGreatGet
namespace Go.Proofs.YtfeemipnalgjnaaGreat.kep
open Go.RowKit Go.Proofs.YtfeemipnalgjnaaGreat

theorem rowTake {w : World} {A : Option Addr} {l : List Ch} (h : Chs w w.heap.size A l) (k : Nat) : Chs w w.heap.size A (l.take k) := by
 show RowAt 8 w w.heap.size A ((l.take k).map Ch.cells)
 rw [List.map_take]
 exact RowAt.take h k
theorem run_ne_same (w : World) (a : Bool) (m : Int) (s : ByteArray) : (binOp .neq 62 (.agg #[.bool a, .int .i64 m, .string s]) (.agg #[.bool a, .int .i64 m, .string s])).run Tryz.prog w = .ok (.bool false) w := by simp [go_sem]
attribute [local go_sem high] run_ne_same
/-- a row, translated from one place to another -/
def goR (M : List Ch) (a b : Nat) (r : List Ce) : List Ce := if a ≤ b then fwdG (sAt M a) (segL M a b) r else bakG (sAt M b) (segL M b a) r
theorem tr_go {M : List Ch} {a b : Nat} {r : List Ce} (hg : goodG Sc.new M) (ha : a ≤ M.length) (hb : b ≤ M.length) (hf : FitL (sAt M a).fs r) : trQ M r (a : Int) (b : Int) = (goR M a b r, 0) ∧ FitL (sAt M b).fs (goR M a b r) := by
 unfold goR
 by_cases h : a ≤ b
 ·
  rw [if_pos h]
  exact ⟨tr_fwd hg h hb hf, fwd_to hg h hf⟩
 ·
  rw [if_neg h]
  exact ⟨tr_bak hg (by omega) ha hf, bak_to hg (by omega) hf⟩
theorem keep_go {M : List Ch} {a b : Nat} {r : List Ce} {i y : Int} (hg : goodG Sc.new M) (hf : FitL (sAt M a).fs r) (h : Ty (sAt M a).fs i y) (h' : Ty (sAt M b).fs i y) : getL (goR M a b r) i = getL r i := by
 unfold goR
 by_cases hl : a ≤ b
 ·
  rw [if_pos hl]
  exact fwdG_keep (sAt_ok hg a) (good_seg hg hl) hf h (by rw [end_seg hl]; exact h')
 ·
  rw [if_neg hl]
  have hl' : b ≤ a := by omega
  exact bakG_keep (sAt_ok hg b) (good_seg hg hl') (by rw [end_seg hl']; exact hf) h' (by rw [end_seg hl']; exact h)
theorem sml {s : Sc} {r : List Ce} (ho : Ok s) (hf : FitL s.fs r) : r.length ≤ 64 ∧ ∀ d ∈ r, d.v.s.size ≤ 200 := (fit_rb ho hf).2
set_option maxHeartbeats 16000000 in
set_option maxRecDepth 20000 in
theorem walk (A : Option Addr) (n c : Nat) (l : List Ch) (ch : Ch) (V : Option Addr) (m cv : Nat) (raw : List Va) (b0 b1 b2 : Int) (w : World) (hn : n = l.length) (hs : Chs w w.heap.size A l) (hl : n ≤ 9223372036854775807) (hrw : ∀ d ∈ l, RW d) (_hC : RW ch) (hm : m = raw.length) (hv : Vas w w.heap.size V raw) (hvf : ∀ u ∈ raw, u.Fine) (hml : m ≤ 9223372036854775807) (hG : GV w) (h0 : 0 ≤ b0 ∧ b0 ≤ 255) (h1 : 0 ≤ b1 ∧ b1 ≤ 255) (h2 : 0 ≤ b2 ∧ b2 ≤ 255) :
  Calls Tryz.prog 6 #[.agg #[.slice A n c, .int .i64 ch.kind, .int .i64 ch.id, .int .i64 ch.wi, .string ch.nm, .string ch.ot, .int .i64 ch.ty, .int .i64 ch.pa, .string ch.sep, .slice V m cv], .agg #[.int .u8 b0, .int .u8 b1, .int .u8 b2]] w fun e w' => e = .returned (.bool true) ∧ Below w.heap.size w w' := by
 have HN := Li hn
 have HS := Li hs
 have HR := Li hrw
 have HM := Li hm
 have HV := Li hv
 have HVF := Li hvf
 have C0 := Li ((CB.new w 27 [.slice A n c, .int .i64 ch.kind, .int .i64 ch.id, .int .i64 ch.wi, .string ch.nm, .string ch.ot, .int .i64 ch.ty, .int .i64 ch.pa, .string ch.sep, .slice V m cv]).alloc (.cells #[.int .u8 b0, .int .u8 b1, .int .u8 b2] 54))
 have U0 := Li (CB.new1 w (.cells #[.slice A n c, .int .i64 ch.kind, .int .i64 ch.id, .int .i64 ch.wi, .string ch.nm, .string ch.ot, .int .i64 ch.ty, .int .i64 ch.pa, .string ch.sep, .slice V m cv] 27) 54 [.int .u8 b0, .int .u8 b1, .int .u8 b2])
 have B0 := Li (al2 w (.cells #[.slice A n c, .int .i64 ch.kind, .int .i64 ch.id, .int .i64 ch.wi, .string ch.nm, .string ch.ot, .int .i64 ch.ty, .int .i64 ch.pa, .string ch.sep, .slice V m cv] 27) (.cells #[.int .u8 b0, .int .u8 b1, .int .u8 b2] 54))
 have G0 := Li (hG.up (al2 w (.cells #[.slice A n c, .int .i64 ch.kind, .int .i64 ch.id, .int .i64 ch.wi, .string ch.nm, .string ch.ot, .int .i64 ch.ty, .int .i64 ch.pa, .string ch.sep, .slice V m cv] 27) (.cells #[.int .u8 b0, .int .u8 b1, .int .u8 b2] 54)))
 obtain ⟨M, hMl⟩ : ∃ M, madeR l 20 = M := ⟨_, rfl⟩
 have HML := Li hMl
 have hML : M.length ≤ 20 := by
  rw [← hMl]
  have := made_len (l := l.take 20) (s := Sc.new)
  rw [List.length_take] at this
  unfold madeR
  omega
 have HGM := Li (show goodG Sc.new M by rw [← hMl]; exact made_good l)
 have hMW := made_rw ok_new (fun c hc => hrw c (List.mem_of_mem_take hc)) (l := l.take 20)
 rw [show madeG Sc.new (l.take 20) = M from hMl] at hMW
 have HW := Li hMW
 have hML3 : M.length ≤ 1000 := by omega
 obtain ⟨a0, ha0, la0⟩ : ∃ a : Nat, Int.tmod b0 ((M.length : Int) + 1) = (a : Int) ∧ a ≤ M.length := ⟨(Int.tmod b0 ((M.length : Int) + 1)).toNat, by have := tmod_in h0 hML3; omega, by have := tmod_in h0 hML3; omega⟩
 obtain ⟨a1, ha1, la1⟩ : ∃ a : Nat, Int.tmod b1 ((M.length : Int) + 1) = (a : Int) ∧ a ≤ M.length := ⟨(Int.tmod b1 ((M.length : Int) + 1)).toNat, by have := tmod_in h1 hML3; omega, by have := tmod_in h1 hML3; omega⟩
 obtain ⟨a2, ha2, la2⟩ : ∃ a : Nat, Int.tmod b2 ((M.length : Int) + 1) = (a : Int) ∧ a ≤ M.length := ⟨(Int.tmod b2 ((M.length : Int) + 1)).toNat, by have := tmod_in h2 hML3; omega, by have := tmod_in h2 hML3; omega⟩
 have T0 := Li ha0
 have T1 := Li ha1
 have T2 := Li ha2
 have X0 := Li h0
 have X1 := Li h1
 have X2 := Li h2
 have hw0 := hG.lt
 clear hn hs hrw hm hv hvf hG hMl hMW ha0 ha1 ha2 h0 h1 h2
 go_enter Tryz.func6, Tryz.ntmps6
 go_upto_if 24 with (first | (go_at_call 10; refine (sanity_any _ G0.out).mono ?_; rintro e w1 ⟨rfl, hb1⟩; have C1 := Li (C0.out.up hb1); have U1 := Li (U0.out.up hb1); have B1 := Li (below_step B0.out B0.out.size hb1); have G1 := Li (G0.out.up hb1); have z1 := C1.out.lt; have y1 := C1.out.c10; clear hb1) | (go_at_call 11; refine (small_any A n c l ch V m cv raw _ HM.out (RowAt.up HV.out B1.out) hml).mono ?_; rintro e w2 ⟨⟨b, rfl⟩, hb2⟩; have C2 := Li (C1.out.up hb2); have U2 := Li (U1.out.up hb2); have B2 := Li (below_step B1.out B1.out.size hb2); have G2 := Li (G1.out.up hb2); have z2 := C2.out.lt; have y2 := C2.out.c10; clear hb2))
 cases b with
 | false =>
  go_wp2
  go_ret
  exact ⟨rfl, B2.out⟩
 | true =>
 go_upto_region 6 with (first | (go_at_call 22; refine (RMade_any A n c 20 l _ HN.out (HS.out.up B2.out) hl (by decide) HR.out).mono ?_; rintro e w3 ⟨⟨A2, c2, rfl, ho2⟩, hb3⟩; rw [HML.out] at ho2; rw [HML.out]; have C3 := Li (C2.out.up hb3); have U3 := Li (U2.out.up hb3); have B3 := Li (below_step B2.out B2.out.size hb3); have G3 := Li (G2.out.up hb3); have O3 := Li (ho2.low (b := w.heap.size) B2.out.size); have z3 := U3.out.lt; have y3 := U3.out.c3; clear hb3 ho2) | (go_at_call 27; refine (places_any b0 b1 b2 M.length _ X0.out X1.out X2.out hML3).mono ?_; rintro e w4 ⟨rfl, hb4⟩; rw [T0.out, T1.out, T2.out]; have C4 := Li (C3.out.up hb4); have B4 := Li (below_step B3.out B3.out.size hb4); have G4 := Li (G3.out.up hb4); have O4 := Li (O3.out.up hb4); clear hb4))
 have h45 := al1 w4 (.cells #[.int .i64 a0, .int .i64 a1, .int .i64 a2] 55)
 have hs5 : w.heap.size ≤ (w4.alloc (.cells #[.int .i64 a0, .int .i64 a1, .int .i64 a2] 55)).heap.size := Nat.le_trans B4.out.size h45.size
 have hcap := O4.out.row.2.1
 rw [List.length_map] at hcap
 have hcm := O4.out.row.2.2.1
 have hh : ∃ P : World → Prop, Hid (Kp (w4.alloc (.cells #[.int .i64 a0, .int .i64 a1, .int .i64 a2] 55)).heap.size P) ∧ Hid (P (w4.alloc (.cells #[.int .i64 a0, .int .i64 a1, .int .i64 a2] 55))) ∧ Hid (∀ X, P X → (Below w.heap.size w X ∧ GV X) ∧ (CB X w.heap.size 27 [.slice A n c, .int .i64 ch.kind, .int .i64 ch.id, .int .i64 ch.wi, .string ch.nm, .string ch.ot, .int .i64 ch.ty, .int .i64 ch.pa, .string ch.sep, .slice V m cv] ∧ Own 24 8 X w.heap.size (.slice A2 M.length c2) (M.map Ch.cells)) ∧ CB X w4.heap.size 55 [.int .i64 a0, .int .i64 a1, .int .i64 a2]) :=
  ⟨fun X => (Below w.heap.size w X ∧ GV X) ∧ (CB X w.heap.size 27 [.slice A n c, .int .i64 ch.kind, .int .i64 ch.id, .int .i64 ch.wi, .string ch.nm, .string ch.ot, .int .i64 ch.ty, .int .i64 ch.pa, .string ch.sep, .slice V m cv] ∧ Own 24 8 X w.heap.size (.slice A2 M.length c2) (M.map Ch.cells)) ∧ CB X w4.heap.size 55 [.int .i64 a0, .int .i64 a1, .int .i64 a2], Li (((Kp.bel hs5).and (Kp.gv _ (by omega))).and (((Kp.cb (by decide)).and (Kp.own (by decide))).and (Kp.cb (by decide)))), Li ⟨⟨below_step B4.out B4.out.size h45, G4.out.up h45⟩, ⟨C4.out.up h45, O4.out.up h45⟩, CB.new w4 55 [.int .i64 a0, .int .i64 a1, .int .i64 a2]⟩, Li fun _ h => h⟩
 clear C0 C1 C2 C3 C4 U0 U1 U2 U3 B0 B1 B2 B3 B4 G0 G1 G2 G3 G4 O3 O4 h45 hs5 z1 z2 z3 y1 y2 y3 T0 T1 T2 X0 X1 X2
 obtain ⟨P, HK, HP, PP⟩ := hh
 generalize w4.heap.size = g7 at *
 generalize w4.alloc (.cells #[.int .i64 a0, .int .i64 a1, .int .i64 a2] 55) = W6 at *
 have LD := Li (fun X (h : P X) => And.intro (PP.out X h).2.1.1.c10 (And.intro (PP.out X h).2.1.1.lt (And.intro (PP.out X h).2.2.c3 (PP.out X h).2.2.lt)))
 have hld := LD.out _ HP.out
 have i1 : (a0 : Int) ≤ (c2 : Int) := by omega
 have i2 : (a0 : Int) ≤ (M.length : Int) := by omega
 have i3 : (0 : Int) ≤ (a0 : Int) := by omega
 obtain ⟨⟨⟨fss, xs⟩, is, es⟩, hq⟩ : ∃ q, aftP (M.take a0) = q := ⟨_, rfl⟩
 have HQ := Li hq
 have hqs := aft_at HGM.out a0
 rw [hq] at hqs
 obtain ⟨hs1, hs2⟩ := hqs
 obtain rfl : es = 0 := hs2
 have HEs := Li (show sAt M a0 = ⟨fss, xs⟩ from hs1.symm)
 have HOs := Li (show Ok ⟨fss, xs⟩ by have := sAt_ok HGM.out a0; rw [← hs1] at this; exact this)
 have hlk : a0 = (M.take a0).length := by rw [List.length_take]; omega
 have HLK := Li hlk
 clear hq hs1 hlk
 go_upto_region 7 with (go_at_call 25; refine (RAfter_any A2 a0 c2 (M.take a0) _ HLK.out (rowTake (PP.out _ HP.out).2.1.2.row.2.2.2 a0) (by omega) (fun d hd => HW.out d (List.mem_of_mem_take hd))).mono ?_; rintro e wq ⟨⟨As, ns, cs, rfl, hn3, ho3⟩, hb3⟩; rw [HQ.out] at hn3 ho3; rw [HQ.out]; have HNs : Hid (ns = fss.length) := hn3; have HPQ := Li (HK.out.1 _ _ HP.out hb3); have HSQ := Li hb3.size; have OQ := Li (ho3.low (b := w.heap.size) (PP.out _ HP.out).1.1.size); clear hb3 ho3 hn3)
 have hq6 := al1 wq (.cells #[.slice As ns cs, .int .i64 xs] 35)
 have hh : ∃ P2 : World → Prop, Hid (Kp (wq.alloc (.cells #[.slice As ns cs, .int .i64 xs] 35)).heap.size P2) ∧ Hid (P2 (wq.alloc (.cells #[.slice As ns cs, .int .i64 xs] 35))) ∧ (∀ X, P2 X → P X) ∧ Hid (∀ X, P2 X → CB X wq.heap.size 35 [.slice As ns cs, .int .i64 xs] ∧ Own 58 4 X w.heap.size (.slice As ns cs) (fss.map Fd.cells)) := ⟨fun X => P X ∧ CB X wq.heap.size 35 [.slice As ns cs, .int .i64 xs] ∧ Own 58 4 X w.heap.size (.slice As ns cs) (fss.map Fd.cells), Li ((HK.out.mono (Nat.le_trans HSQ.out hq6.size)).and ((Kp.cb (by decide)).and (Kp.own (by decide)))), Li ⟨HK.out.1 _ _ HPQ.out hq6, CB.new _ _ _, OQ.out.up hq6⟩, fun _ h => h.1, Li fun _ h => h.2⟩
 clear HP HK HPQ OQ HSQ hq6 HQ HLK i1 i2 i3 hld
 obtain ⟨P, HK, HP, pp, PSs⟩ := hh
 replace PP := Li (fun X h => PP.out X (pp X h))
 replace LD := Li (fun X h => LD.out X (pp X h))
 clear pp
 generalize wq.heap.size = gs at *
 generalize wq.alloc (.cells #[.slice As ns cs, .int .i64 xs] 35) = W7 at *
 have hld := LD.out _ HP.out
 have i1 : (a1 : Int) ≤ (c2 : Int) := by omega
 have i2 : (a1 : Int) ≤ (M.length : Int) := by omega
 have i3 : (0 : Int) ≤ (a1 : Int) := by omega
 obtain ⟨⟨⟨fst, xt⟩, it, et⟩, hq⟩ : ∃ q, aftP (M.take a1) = q := ⟨_, rfl⟩
 have HQ := Li hq
 have hqs := aft_at HGM.out a1
 rw [hq] at hqs
 obtain ⟨hs1, hs2⟩ := hqs
 obtain rfl : et = 0 := hs2
 have HEt := Li (show sAt M a1 = ⟨fst, xt⟩ from hs1.symm)
 have HOt := Li (show Ok ⟨fst, xt⟩ by have := sAt_ok HGM.out a1; rw [← hs1] at this; exact this)
 have hlk : a1 = (M.take a1).length := by rw [List.length_take]; omega
 have HLK := Li hlk
 clear hq hs1 hlk
 go_upto_region 8 with (go_at_call 25; refine (RAfter_any A2 a1 c2 (M.take a1) _ HLK.out (rowTake (PP.out _ HP.out).2.1.2.row.2.2.2 a1) (by omega) (fun d hd => HW.out d (List.mem_of_mem_take hd))).mono ?_; rintro e wq ⟨⟨At, nt, ct, rfl, hn3, ho3⟩, hb3⟩; rw [HQ.out] at hn3 ho3; rw [HQ.out]; have HNt : Hid (nt = fst.length) := hn3; have HPQ := Li (HK.out.1 _ _ HP.out hb3); have HSQ := Li hb3.size; have OQ := Li (ho3.low (b := w.heap.size) (PP.out _ HP.out).1.1.size); clear hb3 ho3 hn3)
 have hq6 := al1 wq (.cells #[.slice At nt ct, .int .i64 xt] 35)
 have hh : ∃ P2 : World → Prop, Hid (Kp (wq.alloc (.cells #[.slice At nt ct, .int .i64 xt] 35)).heap.size P2) ∧ Hid (P2 (wq.alloc (.cells #[.slice At nt ct, .int .i64 xt] 35))) ∧ (∀ X, P2 X → P X) ∧ Hid (∀ X, P2 X → CB X wq.heap.size 35 [.slice At nt ct, .int .i64 xt] ∧ Own 58 4 X w.heap.size (.slice At nt ct) (fst.map Fd.cells)) := ⟨fun X => P X ∧ CB X wq.heap.size 35 [.slice At nt ct, .int .i64 xt] ∧ Own 58 4 X w.heap.size (.slice At nt ct) (fst.map Fd.cells), Li ((HK.out.mono (Nat.le_trans HSQ.out hq6.size)).and ((Kp.cb (by decide)).and (Kp.own (by decide)))), Li ⟨HK.out.1 _ _ HPQ.out hq6, CB.new _ _ _, OQ.out.up hq6⟩, fun _ h => h.1, Li fun _ h => h.2⟩
 clear HP HK HPQ OQ HSQ hq6 HQ HLK i1 i2 i3 hld
 obtain ⟨P, HK, HP, pp, PSt⟩ := hh
 replace PP := Li (fun X h => PP.out X (pp X h))
 replace LD := Li (fun X h => LD.out X (pp X h))
 replace PSs := Li (fun X h => PSs.out X (pp X h))
 clear pp
 generalize wq.heap.size = gt at *
 generalize wq.alloc (.cells #[.slice At nt ct, .int .i64 xt] 35) = W8 at *
 go_cut [14] from 51 to 54 (fun u wx => ∃ (g c : Nat) (A : Option Addr) (r : List Ce), u = .pointer (some ⟨g, 0, none⟩) ∧ W8.heap.size ≤ g ∧ Hid (FitL fss r) ∧ Hid (P wx) ∧ Hid (RX wx g A c r))
 case first =>
  have hld := LD.out _ HP.out
  have hps := And.intro (PSs.out _ HP.out).1.c2 (PSs.out _ HP.out).1.lt
  go_wp2_with (go_at_call 14; refine (RRow_any As ns cs xs fss V m cv raw _ HNs.out ((PSs.out _ HP.out).2.row.2.2.2) HOs.out HM.out (RowAt.up HV.out (PP.out _ HP.out).1.1) hml HVF.out).mono ?_; rintro e v9 ⟨⟨A9, c9, r, rfl, ho8, hf8, hs8, hl8⟩, hb9⟩; have O9 := Li (show OX _ A9 c9 r from ⟨_, ho8⟩); have HFr := Li hf8; have HP9 := Li (HK.out.1 _ _ HP.out hb9); have HB := Li hb9.size; clear ho8 hf8 hs8 hl8 hb9)
  go_meet
  exact ⟨_, c9, A9, r, rfl, HB.out, HFr, Li (HK.out.1 _ _ HP9.out (al1 _ _)), Li ⟨CB.new _ _ _, O9.out.alloc _⟩⟩
 case rest =>
 obtain ⟨g14, c14, A14, r, rfl, hge, HFr, HP1, QN⟩ := hcut
 have hh : ∃ P2 : World → Prop, Hid (Kp wc.heap.size P2) ∧ Hid (P2 wc) ∧ (∀ X, P2 X → P X) ∧ Hid (∀ X, P2 X → RX X g14 A14 c14 r) := ⟨fun X => P X ∧ RX X g14 A14 c14 r, Li (HK.out.row (Nat.le_of_lt (Nat.lt_of_le_of_lt hge QN.out.1.lt)) QN.out.1.lt), Li ⟨HP1.out, QN.out⟩, fun _ h => h.1, Li fun _ h => h.2⟩
 clear HP1 QN HP HK hge
 obtain ⟨P, HK, HP, pp, PR14⟩ := hh
 replace PP := Li (fun X h => PP.out X (pp X h))
 replace LD := Li (fun X h => LD.out X (pp X h))
 replace PSs := Li (fun X h => PSs.out X (pp X h))
 replace PSt := Li (fun X h => PSt.out X (pp X h))
 clear pp
 generalize wc = W9 at *
 have HFr' := Li (show FitL (sAt M a0).fs r by rw [HEs.out]; exact HFr.out)
 have HSr := Li (sml (sAt_ok HGM.out a0) HFr'.out)
 have hla := And.intro la0 (And.intro la1 la2)
 obtain ⟨ro, hro⟩ : ∃ z, goR M a0 a1 r = z := ⟨_, rfl⟩
 have hgo := tr_go HGM.out hla.1 hla.2.1 HFr'.out
 rw [hro] at hgo
 have E1 := Li hgo.1
 have HFo := Li hgo.2
 have HSo := Li (sml (sAt_ok HGM.out a1) HFo.out)
 have HGo := Li (show fitGo fst 0 ro = true by have h := HFo.out; rw [HEt.out] at h; exact (fit_of_go HOt.out).2 h)
 have HKe := Li (show ∀ i y, Ty fss i y → Ty fst i y → getL ro i = getL r i from fun i y h1 h2 => by
  rw [← hro]
  exact keep_go HGM.out HFr'.out (by rw [HEs.out]; exact h1) (by rw [HEt.out]; exact h2))
 clear hla hgo hro
 go_upto_region 9 with fail
 go_cut [15, 16] from 55 to 65 (fun u e wx => ∃ (g c : Nat) (A : Option Addr), (u = .pointer (some ⟨g, 0, none⟩) ∧ e = .int .i64 0) ∧ W9.heap.size ≤ g ∧ Hid (P wx) ∧ Hid (RX wx g A c ro))
 case first => as_aux_lemma =>
  have yr := And.intro ((PR14.out _ HP.out).1.cell 0 rfl) (PR14.out _ HP.out).1.lt
  have hld := LD.out _ HP.out
  go_wp2_with (go_at_call 23; refine (Translate_any A2 M.length c2 M A14 r.length c14 r a0 a1 _ rfl (PP.out _ HP.out).2.1.2.row.2.2.2 (by omega) hcap hcm (fun d hd => (HW.out d hd).cw) rfl (PR14.out _ HP.out).2.ces.1 (by have := HSr.out.1; omega) (big_of HSr.out.2) (PR14.out _ HP.out).2.ces.2.1 (PR14.out _ HP.out).2.ces.2.2 (PP.out _ HP.out).1.2).mono ?_; rintro e v9 ⟨⟨A9, c9, rfl, ho9⟩, hb9⟩; rw [E1.out] at ho9; rw [E1.out]; have O9 := Li (show OX _ A9 c9 ro from ⟨_, ho9⟩); have HP9 := Li (HK.out.1 _ _ HP.out hb9); have HB := Li hb9.size; clear ho9 hb9)
  go_meet
  exact ⟨_, c9, A9, ⟨rfl, rfl⟩, HB.out, Li (HK.out.1 _ _ HP9.out (al1 _ _)), Li ⟨CB.new _ _ _, O9.out.alloc _⟩⟩
 case rest =>
 obtain ⟨g15, c15, A15, ⟨rfl, rfl⟩, hge, HP1, QN⟩ := hcut
 have hh : ∃ P2 : World → Prop, Hid (Kp wc.heap.size P2) ∧ Hid (P2 wc) ∧ (∀ X, P2 X → P X) ∧ Hid (∀ X, P2 X → RX X g15 A15 c15 ro) := ⟨fun X => P X ∧ RX X g15 A15 c15 ro, Li (HK.out.row (Nat.le_of_lt (Nat.lt_of_le_of_lt hge QN.out.1.lt)) QN.out.1.lt), Li ⟨HP1.out, QN.out⟩, fun _ h => h.1, Li fun _ h => h.2⟩
 clear HP1 QN HP HK hge
 obtain ⟨P, HK, HP, pp, PR15⟩ := hh
 replace PP := Li (fun X h => PP.out X (pp X h))
 replace LD := Li (fun X h => LD.out X (pp X h))
 replace PSs := Li (fun X h => PSs.out X (pp X h))
 replace PSt := Li (fun X h => PSt.out X (pp X h))
 replace PR14 := Li (fun X h => PR14.out X (pp X h))
 clear pp
 generalize wc = W10 at *
 have hps := And.intro (PSt.out _ HP.out).1.c2 (And.intro (PSt.out _ HP.out).1.lt (And.intro ((PR15.out _ HP.out).1.cell 0 rfl) (PR15.out _ HP.out).1.lt))
 go_upto_region 13 with (go_at_call 26; refine (RFits_ok At nt ct xt fst A15 ro.length c15 ro _ HNt.out ((PSt.out _ HP.out).2.row.2.2.2) HOt.out rfl (PR15.out _ HP.out).2.ces.1 (by have := HSo.out.1; omega) (big_of HSo.out.2)).mono ?_; rintro e v10 ⟨rfl, hb9⟩; rw [HGo.out]; have HP10 := Li (HK.out.1 _ _ HP.out hb9); clear hb9)
 clear HP hps
 have hn64 : ns ≤ 64 := by have := HNs.out; have := HOs.out.big.1; simp only at *; omega
 go_loopw [17, 18, 19, 20] (fun i _ _ _ wr => ∃ k : Nat, k ≤ ns ∧ i = .int .i64 k ∧ Hid (P wr)) (fun i _ _ _ _ => ns - (intOf i).toNat)
 case atStart => exact ⟨0, by omega, rfl, HP10⟩
 case round =>
  obtain ⟨k, hk, rfl, HP⟩ := hrel
  have hps := And.intro (PSs.out _ HP.out).1.c2 (PSs.out _ HP.out).1.lt
  by_cases hlt : k < ns
  ·
   have i1 : (k : Int) < (ns : Int) := by omega
   have i0 : (0 : Int) ≤ (k : Int) := by omega
   obtain ⟨f, hf⟩ := getD_of (l := fss) (k := k) (by rw [← HNs.out]; exact hlt)
   have HMF := Li (List.mem_of_getElem? hf)
   obtain ⟨b, off, rfl, hb, c0, c1, c2x, c3⟩ := (show Fds wr wr.heap.size As fss from (PSs.out _ HP.out).2.row.2.2.2).one hf
   clear hf
   have FB0 := Li (CB.new wr 58 [.int .i64 f.id, .string f.nm, .int .i64 f.ty, .int .i64 f.pa])
   have HPf := Li (HK.out.1 _ _ HP.out (al1 wr (.cells #[.int .i64 f.id, .string f.nm, .int .i64 f.ty, .int .i64 f.pa] 58)))
   have hpt := And.intro (PSt.out _ HPf.out).1.c2 (PSt.out _ HPf.out).1.lt
   obtain ⟨gd, hgd⟩ : ∃ g, fieldD fst f.id = g := ⟨_, rfl⟩
   obtain ⟨bo, hbo⟩ : ∃ b, hasF fst f.id = b := ⟨_, rfl⟩
   have HGD := Li hgd
   have HBO := Li hbo
   clear hgd hbo
   go_upto_region 17 with (go_at_call 28; refine (RField_any At nt ct xt fst f.id _ HNt.out ((PSt.out _ HPf.out).2.row.2.2.2) (by have := HNt.out; have := HOt.out.big.1; simp only at *; omega)).mono ?_; rintro e v16 ⟨rfl, hb9⟩; rw [HGD.out, HBO.out]; have FB1 := Li (FB0.out.up hb9); have HP16 := Li (HK.out.1 _ _ HPf.out hb9); clear hb9)
   have GB := Li (CB.new v16 58 [.int .i64 gd.id, .string gd.nm, .int .i64 gd.ty, .int .i64 gd.pa])
   have FB := Li (FB1.out.alloc (.cells #[.int .i64 gd.id, .string gd.nm, .int .i64 gd.ty, .int .i64 gd.pa] 58))
   have HP17 := Li (HK.out.1 _ _ HP16.out (al1 v16 (.cells #[.int .i64 gd.id, .string gd.nm, .int .i64 gd.ty, .int .i64 gd.pa] 58)))
   clear HP HP16 HPf FB0 FB1 hps hpt c0 c1 c2x c3 hb
   generalize wr.heap.size = gF at *
   generalize v16.heap.size = gG at *
   generalize v16.alloc (.cells #[.int .i64 gd.id, .string gd.nm, .int .i64 gd.ty, .int .i64 gd.pa] 58) = W17 at *
   cases bo with
   | false =>
    have HPx := Li (HK.out.1 _ _ HP17.out (bd _))
    have FBx := Li FB.out.dr
    have GBx := Li GB.out.dr
    refine wp_region_held_drew (S := fun w' => Hid ((P w' ∧ CB w' gF 58 [.int .i64 f.id, .string f.nm, .int .i64 f.ty, .int .i64 f.pa]) ∧ CB w' gG 58 [.int .i64 gd.id, .string gd.nm, .int .i64 gd.ty, .int .i64 gd.pa])) (by kernel_rfl) (Li ⟨⟨HPx.out, FBx.out⟩, GBx.out⟩) (fun hHeld => ?_)
    clear HP17 FB GB
    revert hHeld HPx FBx GBx
    generalize W17.drew = X0
    intro HP FB GB hHeld
    refine htk 0 ?_
    refine htk 1 ?_
    refine htc 2 (undef) ?_ ?_
    ·
     exact Or.inr ⟨by rfl, rfl⟩
    try simp only [pnz]
    refine htc 3 (undef) ?_ ?_
    ·
     exact Or.inr ⟨by rfl, rfl⟩
    try simp only [pnz]
    refine htc 4 (undef) ?_ ?_
    ·
     exact Or.inr ⟨by rfl, rfl⟩
    try simp only [pnz]
    refine htc 5 (undef) ?_ ?_
    ·
     exact Or.inr ⟨by rfl, rfl⟩
    try simp only [pnz]
    refine htc 6 (undef) ?_ ?_
    ·
     exact Or.inr ⟨by rfl, rfl⟩
    try simp only [pnz]
    refine htk 7 ?_
    refine htk 8 ?_
    refine htc 9 (undef) ?_ ?_
    ·
     exact Or.inr ⟨by rfl, rfl⟩
    try simp only [pnz]
    refine htc 10 (undef) ?_ ?_
    ·
     exact Or.inr ⟨by rfl, rfl⟩
    try simp only [pnz]
    refine htc 11 (undef) ?_ ?_
    ·
     exact Or.inr ⟨by rfl, rfl⟩
    try simp only [pnz]
    refine htc 12 (undef) ?_ ?_
    ·
     exact Or.inr ⟨by rfl, rfl⟩
    try simp only [pnz]
    refine htc 13 (undef) ?_ ?_
    ·
     exact Or.inr ⟨by rfl, rfl⟩
    try simp only [pnz]
    refine htc 14 (undef) ?_ ?_
    ·
     exact Or.inr ⟨by rfl, rfl⟩
    try simp only [pnz]
    refine htc 15 (undef) ?_ ?_
    ·
     exact Or.inr ⟨by rfl, rfl⟩
    try simp only [pnz]
    refine htc 16 (undef) ?_ ?_
    ·
     exact Or.inr ⟨by rfl, rfl⟩
    try simp only [pnz]
    refine htc 17 (undef) ?_ ?_
    ·
     exact Or.inr ⟨by rfl, rfl⟩
    try simp only [pnz]
    refine htk 18 ?_
    refine wpAnyH_done (by kernel_rfl) ?_ _
    go_wp2
    go_roundw
    case rel => exact ⟨k + 1, by omega, by go_num, HP⟩
    case measure => simp [intOf]; omega
   | true =>
    by_cases hty : f.ty = gd.ty
    ·
     have e1 : (f.ty == gd.ty) = true := by simpa using hty
     have HKV := Li (show getL ro f.id = getL r f.id from HKe.out f.id f.ty ⟨f, HMF.out, rfl, rfl⟩ (by
      have h := ty_at HOt.out.srt HBO.out
      simp only [HGD.out] at h
      rw [hty]
      exact h))
     clear hty
     have HPx := Li (HK.out.1 _ _ HP17.out (bd _))
     have FBx := Li FB.out.dr
     have GBx := Li GB.out.dr
     refine wp_region_held_drew (S := fun w' => Hid ((P w' ∧ CB w' gF 58 [.int .i64 f.id, .string f.nm, .int .i64 f.ty, .int .i64 f.pa]) ∧ CB w' gG 58 [.int .i64 gd.id, .string gd.nm, .int .i64 gd.ty, .int .i64 gd.pa])) (by kernel_rfl) (Li ⟨⟨HPx.out, FBx.out⟩, GBx.out⟩) (fun hHeld => ?_)
     clear HP17 FB GB
     revert hHeld HPx FBx GBx
     generalize W17.drew = X0
     intro HP FB GB hHeld
     refine htk 0 ?_
     refine htk 1 ?_
     refine htf 2 (fun _ h => And.intro h.out.1.2.c4 h.out.1.2.lt) ?_
     refine htf 3 (fun _ h => And.intro h.out.1.2.c4 h.out.1.2.lt) ?_
     refine htf 4 (fun _ h => And.intro h.out.2.c4 h.out.2.lt) ?_
     refine htf 5 (fun _ h => And.intro h.out.2.c4 h.out.2.lt) ?_
     refine htk 6 ?_
     refine htk 7 ?_
     refine htk 8 ?_
     refine htf 9 (fun _ h => And.intro ((PR14.out _ h.out.1.1).1.cell 0 rfl) (PR14.out _ h.out.1.1).1.lt) ?_
     refine htf 10 (fun _ h => And.intro h.out.1.2.c4 h.out.1.2.lt) ?_
     refine htf 11 (fun _ h => And.intro h.out.1.2.c4 h.out.1.2.lt) ?_
     refine htf 13 (fun _ h => And.intro ((PR15.out _ h.out.1.1).1.cell 0 rfl) (PR15.out _ h.out.1.1).1.lt) ?_
     refine htf 14 (fun _ h => And.intro h.out.1.2.c4 h.out.1.2.lt) ?_
     refine htf 15 (fun _ h => And.intro h.out.1.2.c4 h.out.1.2.lt) ?_
     refine rd1 12 fun KK hK => ?_
     go_simp
     go_at_call 29
     refine (RGet_any A14 r.length c14 r f.id _ rfl (PR14.out _ HP.out).2.ces.1 (by have := HSr.out.1; omega)).mono ?_
     rintro e v12 ⟨rfl, hb8⟩
     replace HP := Li (HK.out.1 _ _ HP.out hb8)
     replace FB := Li (FB.out.up hb8)
     replace GB := Li (GB.out.up hb8)
     clear hb8
     go_wp2_with fail
     refine hK.out _ _ (Li ⟨⟨HP.out, FB.out⟩, GB.out⟩) (fun hHeld => ?_)
     clear hK KK
     try simp only [pnz]
     refine rd1 16 fun KK hK => ?_
     go_simp
     go_at_call 29
     refine (RGet_any A15 ro.length c15 ro f.id _ rfl (PR15.out _ HP.out).2.ces.1 (by have := HSo.out.1; omega)).mono ?_
     rintro e v16 ⟨rfl, hb8⟩
     rw [HKV.out]
     replace HP := Li (HK.out.1 _ _ HP.out hb8)
     replace FB := Li (FB.out.up hb8)
     replace GB := Li (GB.out.up hb8)
     clear hb8
     go_wp2_with fail
     refine hK.out _ _ (Li ⟨⟨HP.out, FB.out⟩, GB.out⟩) (fun hHeld => ?_)
     clear hK KK
     try simp only [pnz]
     refine htk 17 ?_
     refine htk 18 ?_
     refine wpAnyH_done (by kernel_rfl) ?_ _
     go_wp2
     go_roundw
     case rel => exact ⟨k + 1, by omega, by go_num, HP⟩
     case measure => simp [intOf]; omega
    ·
     have e1 : (f.ty == gd.ty) = false := by simpa using hty
     clear hty
     have HPx := Li (HK.out.1 _ _ HP17.out (bd _))
     have FBx := Li FB.out.dr
     have GBx := Li GB.out.dr
     refine wp_region_held_drew (S := fun w' => Hid ((P w' ∧ CB w' gF 58 [.int .i64 f.id, .string f.nm, .int .i64 f.ty, .int .i64 f.pa]) ∧ CB w' gG 58 [.int .i64 gd.id, .string gd.nm, .int .i64 gd.ty, .int .i64 gd.pa])) (by kernel_rfl) (Li ⟨⟨HPx.out, FBx.out⟩, GBx.out⟩) (fun hHeld => ?_)
     clear HP17 FB GB
     revert hHeld HPx FBx GBx
     generalize W17.drew = X0
     intro HP FB GB hHeld
     refine htk 0 ?_
     refine htk 1 ?_
     refine htf 2 (fun _ h => And.intro h.out.1.2.c4 h.out.1.2.lt) ?_
     refine htf 3 (fun _ h => And.intro h.out.1.2.c4 h.out.1.2.lt) ?_
     refine htf 4 (fun _ h => And.intro h.out.2.c4 h.out.2.lt) ?_
     refine htf 5 (fun _ h => And.intro h.out.2.c4 h.out.2.lt) ?_
     refine htk 6 ?_
     refine htk 7 ?_
     refine htk 8 ?_
     refine htc 9 (undef) ?_ ?_
     ·
      exact Or.inr ⟨by rfl, rfl⟩
     try simp only [pnz]
     refine htc 10 (undef) ?_ ?_
     ·
      exact Or.inr ⟨by rfl, rfl⟩
     try simp only [pnz]
     refine htc 11 (undef) ?_ ?_
     ·
      exact Or.inr ⟨by rfl, rfl⟩
     try simp only [pnz]
     refine htc 12 (undef) ?_ ?_
     ·
      exact Or.inr ⟨by rfl, rfl⟩
     try simp only [pnz]
     refine htc 13 (undef) ?_ ?_
     ·
      exact Or.inr ⟨by rfl, rfl⟩
     try simp only [pnz]
     refine htc 14 (undef) ?_ ?_
     ·
      exact Or.inr ⟨by rfl, rfl⟩
     try simp only [pnz]
     refine htc 15 (undef) ?_ ?_
     ·
      exact Or.inr ⟨by rfl, rfl⟩
     try simp only [pnz]
     refine htc 16 (undef) ?_ ?_
     ·
      exact Or.inr ⟨by rfl, rfl⟩
     try simp only [pnz]
     refine htc 17 (undef) ?_ ?_
     ·
      exact Or.inr ⟨by rfl, rfl⟩
     try simp only [pnz]
     refine htk 18 ?_
     refine wpAnyH_done (by kernel_rfl) ?_ _
     go_wp2
     go_roundw
     case rel => exact ⟨k + 1, by omega, by go_num, HP⟩
     case measure => simp [intOf]; omega
  ·
   have i1 : ¬ (k : Int) < (ns : Int) := by omega
   go_wp2
   go_ret
   exact ⟨rfl, (PP.out _ HP.out).1.1⟩
end Go.Proofs.YtfeemipnalgjnaaGreat.kep
