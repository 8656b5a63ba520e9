/-
 LensComposes, walked.
-/
import Derived.Test.YtfeemipnalgjnaaGreatHd
import Derived.Test.YtfeemipnalgjnaaGreatHd
import Derived.Test.YtfeemipnalgjnaaGreatTrM
import Derived.Test.YtfeemipnalgjnaaGreatPlc
import Derived.Test.YtfeemipnalgjnaaGreatSnW
namespace Go.Proofs.YtfeemipnalgjnaaGreat.cmp
open Go.RowKit Go.Proofs.YtfeemipnalgjnaaGreat

theorem run_mi3 {P : Program} (w : World) (ts : Array TypeId) (t : TypeId) (k k' k'' : IntKind) (x y z : Int) : (Builtin.min_ ts t #[.int k x, .int k' y, .int k'' z]).run P w = .ok (.int k (min (min x y) z)) w := by
 have e : ∀ a b : Int, (if b < a then b else a) = min a b := fun a b => by omega
 simp [Builtin.min_, Builtin.min2, e]
theorem run_ma3 {P : Program} (w : World) (ts : Array TypeId) (t : TypeId) (k k' k'' : IntKind) (x y z : Int) : (Builtin.max_ ts t #[.int k x, .int k' y, .int k'' z]).run P w = .ok (.int k (max (max x y) z)) w := by
 have e : ∀ a b : Int, (if a < b then b else a) = max a b := fun a b => by omega
 simp [Builtin.max_, Builtin.max2, e]
attribute [local go_sem high] run_mi3 run_ma3
theorem rowTake {w : World} {A : Option Addr} {l : List Ch} (h : Chs w w.heap.size A l) (k : Nat) : Chs w w.heap.size A (l.take k) := by
 show RowAt 8 w w.heap.size A ((l.take k).map Ch.cells)
 rw [List.map_take]
 exact RowAt.take h k
theorem sml {s : Sc} {r : List Ce} (ho : Ok s) (hf : FitL s.fs r) : r.length ≤ 64 ∧ ∀ d ∈ r, d.v.s.size ≤ 200 := (fit_rb ho hf).2
set_option maxHeartbeats 16000000 in
set_option maxRecDepth 20000 in
theorem walk (A : Option Addr) (n c : Nat) (l : List Ch) (ch : Ch) (V : Option Addr) (m cv : Nat) (raw : List Va) (b0 b1 b2 : Int) (w : World) (hn : n = l.length) (hs : Chs w w.heap.size A l) (hl : n ≤ 9223372036854775807) (hrw : ∀ d ∈ l, RW d) (_hC : RW ch) (hm : m = raw.length) (hv : Vas w w.heap.size V raw) (hvf : ∀ u ∈ raw, u.Fine) (hml : m ≤ 9223372036854775807) (hG : GV w) (h0 : 0 ≤ b0 ∧ b0 ≤ 255) (h1 : 0 ≤ b1 ∧ b1 ≤ 255) (h2 : 0 ≤ b2 ∧ b2 ≤ 255) :
  Calls Tryz.prog 8 #[.agg #[.slice A n c, .int .i64 ch.kind, .int .i64 ch.id, .int .i64 ch.wi, .string ch.nm, .string ch.ot, .int .i64 ch.ty, .int .i64 ch.pa, .string ch.sep, .slice V m cv], .agg #[.int .u8 b0, .int .u8 b1, .int .u8 b2]] w fun e w' => e = .returned (.bool true) ∧ Below w.heap.size w w' := by
 have HN := Li hn
 have HS := Li hs
 have HR := Li hrw
 have HM := Li hm
 have HV := Li hv
 have HVF := Li hvf
 have C0 := Li ((CB.new w 27 [.slice A n c, .int .i64 ch.kind, .int .i64 ch.id, .int .i64 ch.wi, .string ch.nm, .string ch.ot, .int .i64 ch.ty, .int .i64 ch.pa, .string ch.sep, .slice V m cv]).alloc (.cells #[.int .u8 b0, .int .u8 b1, .int .u8 b2] 54))
 have U0 := Li (CB.new1 w (.cells #[.slice A n c, .int .i64 ch.kind, .int .i64 ch.id, .int .i64 ch.wi, .string ch.nm, .string ch.ot, .int .i64 ch.ty, .int .i64 ch.pa, .string ch.sep, .slice V m cv] 27) 54 [.int .u8 b0, .int .u8 b1, .int .u8 b2])
 have B0 := Li (al2 w (.cells #[.slice A n c, .int .i64 ch.kind, .int .i64 ch.id, .int .i64 ch.wi, .string ch.nm, .string ch.ot, .int .i64 ch.ty, .int .i64 ch.pa, .string ch.sep, .slice V m cv] 27) (.cells #[.int .u8 b0, .int .u8 b1, .int .u8 b2] 54))
 have G0 := Li (hG.up (al2 w (.cells #[.slice A n c, .int .i64 ch.kind, .int .i64 ch.id, .int .i64 ch.wi, .string ch.nm, .string ch.ot, .int .i64 ch.ty, .int .i64 ch.pa, .string ch.sep, .slice V m cv] 27) (.cells #[.int .u8 b0, .int .u8 b1, .int .u8 b2] 54)))
 obtain ⟨M, hMl⟩ : ∃ M, madeR l 20 = M := ⟨_, rfl⟩
 have HML := Li hMl
 have hML : M.length ≤ 20 := by
  rw [← hMl]
  have := made_len (l := l.take 20) (s := Sc.new)
  rw [List.length_take] at this
  unfold madeR
  omega
 have HGM := Li (show goodG Sc.new M by rw [← hMl]; exact made_good l)
 have hMW := made_rw ok_new (fun c hc => hrw c (List.mem_of_mem_take hc)) (l := l.take 20)
 rw [show madeG Sc.new (l.take 20) = M from hMl] at hMW
 have HW := Li hMW
 have hML3 : M.length ≤ 1000 := by omega
 obtain ⟨a0, ha0, la0⟩ : ∃ a : Nat, Int.tmod b0 ((M.length : Int) + 1) = (a : Int) ∧ a ≤ M.length := ⟨(Int.tmod b0 ((M.length : Int) + 1)).toNat, by have := tmod_in h0 hML3; omega, by have := tmod_in h0 hML3; omega⟩
 obtain ⟨a1, ha1, la1⟩ : ∃ a : Nat, Int.tmod b1 ((M.length : Int) + 1) = (a : Int) ∧ a ≤ M.length := ⟨(Int.tmod b1 ((M.length : Int) + 1)).toNat, by have := tmod_in h1 hML3; omega, by have := tmod_in h1 hML3; omega⟩
 obtain ⟨a2, ha2, la2⟩ : ∃ a : Nat, Int.tmod b2 ((M.length : Int) + 1) = (a : Int) ∧ a ≤ M.length := ⟨(Int.tmod b2 ((M.length : Int) + 1)).toNat, by have := tmod_in h2 hML3; omega, by have := tmod_in h2 hML3; omega⟩
 have T0 := Li ha0
 have T1 := Li ha1
 have T2 := Li ha2
 have X0 := Li h0
 have X1 := Li h1
 have X2 := Li h2
 have hw0 := hG.lt
 clear hn hs hrw hm hv hvf hG hMl hMW ha0 ha1 ha2 h0 h1 h2
 go_enter Tryz.func8, Tryz.ntmps8
 go_upto_if 37 with (first | (go_at_call 10; refine (sanity_any _ G0.out).mono ?_; rintro e w1 ⟨rfl, hb1⟩; have C1 := Li (C0.out.up hb1); have U1 := Li (U0.out.up hb1); have B1 := Li (below_step B0.out B0.out.size hb1); have G1 := Li (G0.out.up hb1); have z1 := C1.out.lt; have y1 := C1.out.c10; clear hb1) | (go_at_call 11; refine (small_any A n c l ch V m cv raw _ HM.out (RowAt.up HV.out B1.out) hml).mono ?_; rintro e w2 ⟨⟨b, rfl⟩, hb2⟩; have C2 := Li (C1.out.up hb2); have U2 := Li (U1.out.up hb2); have B2 := Li (below_step B1.out B1.out.size hb2); have G2 := Li (G1.out.up hb2); have z2 := C2.out.lt; have y2 := C2.out.c10; clear hb2))
 cases b with
 | false =>
  go_wp2
  go_ret
  exact ⟨rfl, B2.out⟩
 | true =>
 go_upto_region 6 with (first | (go_at_call 22; refine (RMade_any A n c 20 l _ HN.out (HS.out.up B2.out) hl (by decide) HR.out).mono ?_; rintro e w3 ⟨⟨A2, c2, rfl, ho2⟩, hb3⟩; rw [HML.out] at ho2; rw [HML.out]; have C3 := Li (C2.out.up hb3); have U3 := Li (U2.out.up hb3); have B3 := Li (below_step B2.out B2.out.size hb3); have G3 := Li (G2.out.up hb3); have O3 := Li (ho2.low (b := w.heap.size) B2.out.size); have z3 := U3.out.lt; have y3 := U3.out.c3; clear hb3 ho2) | (go_at_call 27; refine (places_any b0 b1 b2 M.length _ X0.out X1.out X2.out hML3).mono ?_; rintro e w4 ⟨rfl, hb4⟩; rw [T0.out, T1.out, T2.out]; have C4 := Li (C3.out.up hb4); have B4 := Li (below_step B3.out B3.out.size hb4); have G4 := Li (G3.out.up hb4); have O4 := Li (O3.out.up hb4); clear hb4))
 have h45 := al1 w4 (.cells #[.int .i64 a0, .int .i64 a1, .int .i64 a2] 55)
 have hs5 : w.heap.size ≤ (w4.alloc (.cells #[.int .i64 a0, .int .i64 a1, .int .i64 a2] 55)).heap.size := Nat.le_trans B4.out.size h45.size
 have hcap := O4.out.row.2.1
 rw [List.length_map] at hcap
 have hcm := O4.out.row.2.2.1
 have hh : ∃ P : World → Prop, Hid (Kp (w4.alloc (.cells #[.int .i64 a0, .int .i64 a1, .int .i64 a2] 55)).heap.size P) ∧ Hid (P (w4.alloc (.cells #[.int .i64 a0, .int .i64 a1, .int .i64 a2] 55))) ∧ Hid (∀ X, P X → (Below w.heap.size w X ∧ GV X) ∧ (CB X w.heap.size 27 [.slice A n c, .int .i64 ch.kind, .int .i64 ch.id, .int .i64 ch.wi, .string ch.nm, .string ch.ot, .int .i64 ch.ty, .int .i64 ch.pa, .string ch.sep, .slice V m cv] ∧ Own 24 8 X w.heap.size (.slice A2 M.length c2) (M.map Ch.cells)) ∧ CB X w4.heap.size 55 [.int .i64 a0, .int .i64 a1, .int .i64 a2]) :=
  ⟨fun X => (Below w.heap.size w X ∧ GV X) ∧ (CB X w.heap.size 27 [.slice A n c, .int .i64 ch.kind, .int .i64 ch.id, .int .i64 ch.wi, .string ch.nm, .string ch.ot, .int .i64 ch.ty, .int .i64 ch.pa, .string ch.sep, .slice V m cv] ∧ Own 24 8 X w.heap.size (.slice A2 M.length c2) (M.map Ch.cells)) ∧ CB X w4.heap.size 55 [.int .i64 a0, .int .i64 a1, .int .i64 a2], Li (((Kp.bel hs5).and (Kp.gv _ (by omega))).and (((Kp.cb (by decide)).and (Kp.own (by decide))).and (Kp.cb (by decide)))), Li ⟨⟨below_step B4.out B4.out.size h45, G4.out.up h45⟩, ⟨C4.out.up h45, O4.out.up h45⟩, CB.new w4 55 [.int .i64 a0, .int .i64 a1, .int .i64 a2]⟩, Li fun _ h => h⟩
 clear C0 C1 C2 C3 C4 U0 U1 U2 U3 B0 B1 B2 B3 B4 G0 G1 G2 G3 G4 O3 O4 h45 hs5 z1 z2 z3 y1 y2 y3 T0 T1 T2 X0 X1 X2
 obtain ⟨P, HK, HP, PP⟩ := hh
 generalize w4.heap.size = g7 at *
 generalize w4.alloc (.cells #[.int .i64 a0, .int .i64 a1, .int .i64 a2] 55) = W6 at *
 have LD := Li (fun X (h : P X) => And.intro (PP.out X h).2.1.1.c10 (And.intro (PP.out X h).2.1.1.lt (And.intro (PP.out X h).2.2.c3 (PP.out X h).2.2.lt)))
 obtain ⟨lo, hlo⟩ : ∃ k : Nat, k = min (min a0 a1) a2 := ⟨_, rfl⟩
 obtain ⟨hi, hhi⟩ : ∃ k : Nat, k = max (max a0 a1) a2 := ⟨_, rfl⟩
 obtain ⟨mid, hmid⟩ : ∃ k : Nat, (a0 : Int) + a1 + a2 - lo - hi = (k : Int) := ⟨a0 + a1 + a2 - lo - hi, by omega⟩
 have HLO := Li hlo
 have HHI := Li hhi
 have HMD := Li hmid
 have l1 : lo ≤ mid := by omega
 have l2 : mid ≤ hi := by omega
 have l3 : hi ≤ M.length := by omega
 have LA := Li (And.intro la0 (And.intro la1 la2))
 clear hlo hhi hmid la0 la1 la2
 go_cut [8, 9] from 46 to 59 (fun u v wx => (u = .int .i64 lo ∧ v = .int .i64 hi) ∧ Hid (P wx) ∧ Hid (W6.heap.size ≤ wx.heap.size))
 case first =>
  have HB := Li (show W6.heap.size ≤ W6.drew.heap.size from Nat.le_refl _)
  replace HP : Hid (P W6.drew) := Li (HK.out.1 _ _ HP.out (bd _))
  refine wp_region_held_drew (S := fun w' => Hid (P w')) (by kernel_rfl) HP (fun hHeld => ?_)
  revert hHeld HP HB
  generalize W6.drew = X0
  intro HB HP hHeld
  refine htk 0 ?_
  refine htf 1 (fun _ h => LD.out _ h.out) ?_
  refine htk 2 ?_
  refine htf 3 (fun _ h => LD.out _ h.out) ?_
  refine htk 4 ?_
  refine htf 5 (fun _ h => LD.out _ h.out) ?_
  refine htk 6 ?_
  refine htk 7 ?_
  refine htf 8 (fun _ h => LD.out _ h.out) ?_
  refine htk 9 ?_
  refine htf 10 (fun _ h => LD.out _ h.out) ?_
  refine htk 11 ?_
  refine htf 12 (fun _ h => LD.out _ h.out) ?_
  refine htk 13 ?_
  refine htk 14 ?_
  refine htk 15 ?_
  refine wpAnyH_done (by kernel_rfl) ?_ _
  go_wp2_with fail
  go_meet
  exact ⟨⟨congrArg (Value.int .i64) (by have := HLO.out; omega), congrArg (Value.int .i64) (by have := HHI.out; omega)⟩, HP, HB⟩
 case rest =>
 obtain ⟨⟨rfl, rfl⟩, HP6, HB⟩ := hcut
 clear HP
 have HP := HP6
 clear HP6
 replace HK := Li (HK.out.mono HB.out)
 clear HB
 generalize wc = W7 at *
 go_upto_region 7 with fail
 go_cut [10] from 60 to 71 (fun u wx => u = .int .i64 mid ∧ Hid (P wx) ∧ Hid (W7.heap.size ≤ wx.heap.size))
 case first =>
  have hla := LA.out
  have hlo := HLO.out
  have hhi := HHI.out
  have k1 : IntKind.i64.wrap ((a0 : Int) + a1) = (a0 : Int) + a1 := IntWalk.i64_in _ (by omega)
  have k2 : IntKind.i64.wrap ((a0 : Int) + a1 + a2) = (a0 : Int) + a1 + a2 := IntWalk.i64_in _ (by omega)
  have k3 : IntKind.i64.wrap ((a0 : Int) + a1 + a2 - lo) = (a0 : Int) + a1 + a2 - lo := IntWalk.i64_in _ (by omega)
  have k4 : IntKind.i64.wrap ((a0 : Int) + a1 + a2 - lo - hi) = (a0 : Int) + a1 + a2 - lo - hi := IntWalk.i64_in _ (by omega)
  clear hla hlo hhi
  have hld := LD.out _ HP.out
  go_wp2
  go_meet
  exact ⟨congrArg (Value.int .i64) HMD.out, HP, Nat.le_refl _⟩
 case rest =>
 obtain ⟨rfl, HP7, HB⟩ := hcut
 clear HP
 have HP := HP7
 replace HK := Li (HK.out.mono HB.out)
 clear HP7 LA HLO HHI HMD HB
 generalize wc = W8 at *
 go_upto_region 8 with fail
 have i1 : (lo : Int) ≤ (c2 : Int) := by omega
 have i2 : (lo : Int) ≤ (M.length : Int) := by omega
 have i3 : (0 : Int) ≤ (lo : Int) := by omega
 obtain ⟨⟨⟨fss, xs⟩, is, es⟩, hq⟩ : ∃ q, aftP (M.take lo) = q := ⟨_, rfl⟩
 have HQ := Li hq
 have hqs := aft_at HGM.out lo
 rw [hq] at hqs
 obtain ⟨hs1, hs2⟩ := hqs
 obtain rfl : es = 0 := hs2
 have HEs := Li (show sAt M lo = ⟨fss, xs⟩ from hs1.symm)
 have HOs := Li (show Ok ⟨fss, xs⟩ by have := sAt_ok HGM.out lo; rw [← hs1] at this; exact this)
 have hlk : lo = (M.take lo).length := by rw [List.length_take]; omega
 have HLK := Li hlk
 clear hq hs1 hlk
 go_upto_region 9 with (go_at_call 25; refine (RAfter_any A2 lo c2 (M.take lo) _ HLK.out (rowTake (PP.out _ HP.out).2.1.2.row.2.2.2 lo) (by omega) (fun d hd => HW.out d (List.mem_of_mem_take hd))).mono ?_; rintro e wq ⟨⟨As, ns, cs, rfl, hn3, ho3⟩, hb3⟩; rw [HQ.out] at hn3 ho3; rw [HQ.out]; have HNs : Hid (ns = fss.length) := hn3; have HPQ := Li (HK.out.1 _ _ HP.out hb3); have HSQ := Li hb3.size; have OQ := Li (ho3.low (b := w.heap.size) (PP.out _ HP.out).1.1.size); clear hb3 ho3 hn3)
 have hq6 := al1 wq (.cells #[.slice As ns cs, .int .i64 xs] 35)
 have hh : ∃ P2 : World → Prop, Hid (Kp (wq.alloc (.cells #[.slice As ns cs, .int .i64 xs] 35)).heap.size P2) ∧ Hid (P2 (wq.alloc (.cells #[.slice As ns cs, .int .i64 xs] 35))) ∧ (∀ X, P2 X → P X) ∧ Hid (∀ X, P2 X → CB X wq.heap.size 35 [.slice As ns cs, .int .i64 xs] ∧ Own 58 4 X w.heap.size (.slice As ns cs) (fss.map Fd.cells)) := ⟨fun X => P X ∧ CB X wq.heap.size 35 [.slice As ns cs, .int .i64 xs] ∧ Own 58 4 X w.heap.size (.slice As ns cs) (fss.map Fd.cells), Li ((HK.out.mono (Nat.le_trans HSQ.out hq6.size)).and ((Kp.cb (by decide)).and (Kp.own (by decide)))), Li ⟨HK.out.1 _ _ HPQ.out hq6, CB.new _ _ _, OQ.out.up hq6⟩, fun _ h => h.1, Li fun _ h => h.2⟩
 clear HP HK HPQ OQ HSQ hq6 HQ HLK i1 i2 i3
 obtain ⟨P, HK, HP, pp, PSs⟩ := hh
 replace PP := Li (fun X h => PP.out X (pp X h))
 replace LD := Li (fun X h => LD.out X (pp X h))
 clear pp
 generalize wq.heap.size = gs at *
 generalize wq.alloc (.cells #[.slice As ns cs, .int .i64 xs] 35) = W9 at *
 have i1 : (hi : Int) ≤ (c2 : Int) := by omega
 have i2 : (hi : Int) ≤ (M.length : Int) := by omega
 have i3 : (0 : Int) ≤ (hi : Int) := by omega
 obtain ⟨⟨⟨fst, xt⟩, it, et⟩, hq⟩ : ∃ q, aftP (M.take hi) = q := ⟨_, rfl⟩
 have HQ := Li hq
 have hqs := aft_at HGM.out hi
 rw [hq] at hqs
 obtain ⟨hs1, hs2⟩ := hqs
 obtain rfl : et = 0 := hs2
 have HEt := Li (show sAt M hi = ⟨fst, xt⟩ from hs1.symm)
 have HOt := Li (show Ok ⟨fst, xt⟩ by have := sAt_ok HGM.out hi; rw [← hs1] at this; exact this)
 have hlk : hi = (M.take hi).length := by rw [List.length_take]; omega
 have HLK := Li hlk
 clear hq hs1 hlk
 go_upto_region 10 with (go_at_call 25; refine (RAfter_any A2 hi c2 (M.take hi) _ HLK.out (rowTake (PP.out _ HP.out).2.1.2.row.2.2.2 hi) (by omega) (fun d hd => HW.out d (List.mem_of_mem_take hd))).mono ?_; rintro e wq ⟨⟨At, nt, ct, rfl, hn3, ho3⟩, hb3⟩; rw [HQ.out] at hn3 ho3; rw [HQ.out]; have HNt : Hid (nt = fst.length) := hn3; have HPQ := Li (HK.out.1 _ _ HP.out hb3); have HSQ := Li hb3.size; have OQ := Li (ho3.low (b := w.heap.size) (PP.out _ HP.out).1.1.size); clear hb3 ho3 hn3)
 have hq6 := al1 wq (.cells #[.slice At nt ct, .int .i64 xt] 35)
 have hh : ∃ P2 : World → Prop, Hid (Kp (wq.alloc (.cells #[.slice At nt ct, .int .i64 xt] 35)).heap.size P2) ∧ Hid (P2 (wq.alloc (.cells #[.slice At nt ct, .int .i64 xt] 35))) ∧ (∀ X, P2 X → P X) ∧ Hid (∀ X, P2 X → CB X wq.heap.size 35 [.slice At nt ct, .int .i64 xt] ∧ Own 58 4 X w.heap.size (.slice At nt ct) (fst.map Fd.cells)) := ⟨fun X => P X ∧ CB X wq.heap.size 35 [.slice At nt ct, .int .i64 xt] ∧ Own 58 4 X w.heap.size (.slice At nt ct) (fst.map Fd.cells), Li ((HK.out.mono (Nat.le_trans HSQ.out hq6.size)).and ((Kp.cb (by decide)).and (Kp.own (by decide)))), Li ⟨HK.out.1 _ _ HPQ.out hq6, CB.new _ _ _, OQ.out.up hq6⟩, fun _ h => h.1, Li fun _ h => h.2⟩
 clear HP HK HPQ OQ HSQ hq6 HQ HLK i1 i2 i3
 obtain ⟨P, HK, HP, pp, PSt⟩ := hh
 replace PP := Li (fun X h => PP.out X (pp X h))
 replace LD := Li (fun X h => LD.out X (pp X h))
 replace PSs := Li (fun X h => PSs.out X (pp X h))
 clear pp
 generalize wq.heap.size = gt at *
 generalize wq.alloc (.cells #[.slice At nt ct, .int .i64 xt] 35) = W10 at *
 go_cut [17, 18] from 88 to 95 (fun u v wx => ∃ (g g' c c' : Nat) (A A' : Option Addr) (r q : List Ce), (u = .pointer (some ⟨g, 0, none⟩) ∧ v = .pointer (some ⟨g', 0, none⟩)) ∧ W10.heap.size ≤ g ∧ W10.heap.size ≤ g' ∧ (g < g' ∨ g' < g) ∧ Hid (FitL fss r) ∧ Hid (FitL fst q) ∧ Hid (P wx) ∧ Hid (RX wx g A c r) ∧ Hid (RX wx g' A' c' q))
 case first => as_aux_lemma =>
  replace HP : Hid (P W10.drew) := Li (HK.out.1 _ _ HP.out (bd _))
  have HB := Li (show W10.heap.size ≤ W10.drew.heap.size from Nat.le_refl _)
  refine wp_region_held_drew (S := fun w' => Hid (P w')) (by kernel_rfl) HP (fun hHeld => ?_)
  revert hHeld HP HB
  generalize W10.drew = X0
  intro HP HB hHeld
  refine htf 0 (fun _ h => And.intro (PSs.out _ h.out).1.c2 (PSs.out _ h.out).1.lt) ?_
  refine htk 1 ?_
  refine htf 2 (fun _ h => LD.out _ h.out) ?_
  refine htf 4 (fun _ h => And.intro (PSt.out _ h.out).1.c2 (PSt.out _ h.out).1.lt) ?_
  refine htk 5 ?_
  refine htf 6 (fun _ h => LD.out _ h.out) ?_
  refine rd3 3 8 9 (fun KK hK => ?_) (fun KK hK => ?_) (fun KK hK => ?_)
  ·
   go_simp
   go_at_call 14
   refine (RRow_any As ns cs xs fss V m cv raw _ HNs.out ((PSs.out _ HP.out).2.row.2.2.2) HOs.out HM.out (RowAt.up HV.out (PP.out _ HP.out).1.1) hml HVF.out).mono ?_
   rintro e v3 ⟨⟨Ar, cr, r, rfl, ho8, hf8, hs8, hl8⟩, hb8⟩
   have Or := Li (show OX _ Ar cr r from ⟨_, ho8⟩)
   have HFr := Li hf8
   clear ho8 hf8 hs8 hl8
   replace HP := Li (HK.out.1 _ _ HP.out hb8)
   replace HB := Li (Nat.le_trans HB.out hb8.size)
   clear hb8
   go_wp2_with fail
   refine hK.out _ _ (HP) (fun hHeld => ?_)
   clear hK KK
   try simp only [pnz]
   refine rd3 7 8 9 (fun KK hK => ?_) (fun KK hK => ?_) (fun KK hK => ?_)
   ·
    go_simp
    go_at_call 14
    refine (RRow_any At nt ct xt fst V m cv raw _ HNt.out ((PSt.out _ HP.out).2.row.2.2.2) HOt.out HM.out (RowAt.up HV.out (PP.out _ HP.out).1.1) hml HVF.out).mono ?_
    rintro e v7 ⟨⟨Aq, cq, q, rfl, ho8, hf8, hs8, hl8⟩, hb8⟩
    have Oq := Li (show OX _ Aq cq q from ⟨_, ho8⟩)
    have HFq := Li hf8
    clear ho8 hf8 hs8 hl8
    replace HP := Li (HK.out.1 _ _ HP.out hb8)
    replace HB := Li (Nat.le_trans HB.out hb8.size)
    replace Or := Li (Or.out.up hb8)
    clear hb8
    go_wp2_with fail
    refine hK.out _ _ (HP) (fun hHeld => ?_)
    clear hK KK
    try simp only [pnz]
    refine rd2 8 9 (fun KK hK => ?_) (fun KK hK => ?_)
    ·
     go_simp
     have zBr := HB.out
     have hb8 := al1 v7 (.cells #[.slice none 0 0] 30)
     replace HP := Li (HK.out.1 _ _ HP.out hb8)
     replace HB := Li (Nat.le_trans HB.out hb8.size)
     replace Or := Li (Or.out.up hb8)
     replace Oq := Li (Oq.out.up hb8)
     clear hb8
     have Br := Li (CB.new v7 30 [.slice none 0 0])
     refine hK.out _ _ (HP) (fun hHeld => ?_)
     clear hK KK
     try simp only [pnz]
     generalize v7.heap.size = gBr at Br zBr ⊢
     generalize v7.alloc (.cells #[.slice none 0 0] 30) = v8 at HP HB Br Or Oq hHeld ⊢
     refine rd1 9 fun KK hK => ?_
     go_simp
     have zBq := HB.out
     have hb8 := al1 v8 (.cells #[.slice none 0 0] 30)
     have zlt := Br.out.lt
     replace HP := Li (HK.out.1 _ _ HP.out hb8)
     replace HB := Li (Nat.le_trans HB.out hb8.size)
     replace Or := Li (Or.out.up hb8)
     replace Oq := Li (Oq.out.up hb8)
     replace Br := Li (Br.out.up hb8)
     clear hb8
     have Bq := Li (CB.new v8 30 [.slice none 0 0])
     refine hK.out _ _ (HP) (fun hHeld => ?_)
     clear hK KK
     try simp only [pnz]
     generalize v8.heap.size = gBq at Bq zBq zlt ⊢
     generalize v8.alloc (.cells #[.slice none 0 0] 30) = v9 at HP HB Bq Or Oq Br hHeld ⊢
     refine rd1 10 fun KK hK => ?_
     refine step_store_cb rfl 30 (.tmp 17) (.tmp 91) rfl gBr [.slice Ar r.length cr] rfl rfl 30 [.slice none 0 0] 1 Br.out sizeRw rfl rfl (one_rw _ _ _) ?_
     intro v10 hc10 hg10 hz10
     replace HP := Li (HK.out.2 _ _ _ _ HP.out Br.out zBr hg10)
     have Qr := Li (show RX v10 gBr Ar cr _ from ⟨hc10, Or.out.put Br.out hg10⟩)
     replace Oq := Li (Oq.out.put Br.out hg10)
     replace Bq := Li (Bq.out.grown hg10 (by intro h; injection h with h; omega))
     refine hK.out _ _ (HP) (fun hHeld => ?_)
     clear hK KK
     try simp only [pnz]
     refine rd1 11 fun KK hK => ?_
     refine step_store_cb rfl 30 (.tmp 18) (.tmp 95) rfl gBq [.slice Aq q.length cq] rfl rfl 30 [.slice none 0 0] 1 Bq.out sizeRw rfl rfl (one_rw _ _ _) ?_
     intro v11 hc11 hg11 hz11
     replace HP := Li (HK.out.2 _ _ _ _ HP.out Bq.out zBq hg11)
     have Qq := Li (show RX v11 gBq Aq cq _ from ⟨hc11, Oq.out.put Bq.out hg11⟩)
     replace Qr := Li (show RX v11 gBr Ar cr _ from ⟨Qr.out.1.grown hg11 (by intro h; injection h with h; omega), Qr.out.2.put Bq.out hg11⟩)
     refine hK.out _ _ (HP) (fun hHeld => ?_)
     clear hK KK
     try simp only [pnz]
     refine wpAnyH_done (by kernel_rfl) ?_ _
     go_wp2_with fail
     go_meet
     exact ⟨_, _, _, _, _, _, r, q, ⟨rfl, rfl⟩, zBr, zBq, by omega, HFr, HFq, HP, Qr, Qq⟩
    ·
     go_simp
     have zBq := HB.out
     have hb8 := al1 v7 (.cells #[.slice none 0 0] 30)
     replace HP := Li (HK.out.1 _ _ HP.out hb8)
     replace HB := Li (Nat.le_trans HB.out hb8.size)
     replace Or := Li (Or.out.up hb8)
     replace Oq := Li (Oq.out.up hb8)
     clear hb8
     have Bq := Li (CB.new v7 30 [.slice none 0 0])
     refine hK.out _ _ (HP) (fun hHeld => ?_)
     clear hK KK
     try simp only [pnz]
     generalize v7.heap.size = gBq at Bq zBq ⊢
     generalize v7.alloc (.cells #[.slice none 0 0] 30) = v9 at HP HB Bq Or Oq hHeld ⊢
     refine rd1 8 fun KK hK => ?_
     go_simp
     have zBr := HB.out
     have hb8 := al1 v9 (.cells #[.slice none 0 0] 30)
     have zlt := Bq.out.lt
     replace HP := Li (HK.out.1 _ _ HP.out hb8)
     replace HB := Li (Nat.le_trans HB.out hb8.size)
     replace Or := Li (Or.out.up hb8)
     replace Oq := Li (Oq.out.up hb8)
     replace Bq := Li (Bq.out.up hb8)
     clear hb8
     have Br := Li (CB.new v9 30 [.slice none 0 0])
     refine hK.out _ _ (HP) (fun hHeld => ?_)
     clear hK KK
     try simp only [pnz]
     generalize v9.heap.size = gBr at Br zBr zlt ⊢
     generalize v9.alloc (.cells #[.slice none 0 0] 30) = v8 at HP HB Br Or Oq Bq hHeld ⊢
     refine rd1 10 fun KK hK => ?_
     refine step_store_cb rfl 30 (.tmp 17) (.tmp 91) rfl gBr [.slice Ar r.length cr] rfl rfl 30 [.slice none 0 0] 1 Br.out sizeRw rfl rfl (one_rw _ _ _) ?_
     intro v10 hc10 hg10 hz10
     replace HP := Li (HK.out.2 _ _ _ _ HP.out Br.out zBr hg10)
     have Qr := Li (show RX v10 gBr Ar cr _ from ⟨hc10, Or.out.put Br.out hg10⟩)
     replace Oq := Li (Oq.out.put Br.out hg10)
     replace Bq := Li (Bq.out.grown hg10 (by intro h; injection h with h; omega))
     refine hK.out _ _ (HP) (fun hHeld => ?_)
     clear hK KK
     try simp only [pnz]
     refine rd1 11 fun KK hK => ?_
     refine step_store_cb rfl 30 (.tmp 18) (.tmp 95) rfl gBq [.slice Aq q.length cq] rfl rfl 30 [.slice none 0 0] 1 Bq.out sizeRw rfl rfl (one_rw _ _ _) ?_
     intro v11 hc11 hg11 hz11
     replace HP := Li (HK.out.2 _ _ _ _ HP.out Bq.out zBq hg11)
     have Qq := Li (show RX v11 gBq Aq cq _ from ⟨hc11, Oq.out.put Bq.out hg11⟩)
     replace Qr := Li (show RX v11 gBr Ar cr _ from ⟨Qr.out.1.grown hg11 (by intro h; injection h with h; omega), Qr.out.2.put Bq.out hg11⟩)
     refine hK.out _ _ (HP) (fun hHeld => ?_)
     clear hK KK
     try simp only [pnz]
     refine wpAnyH_done (by kernel_rfl) ?_ _
     go_wp2_with fail
     go_meet
     exact ⟨_, _, _, _, _, _, r, q, ⟨rfl, rfl⟩, zBr, zBq, by omega, HFr, HFq, HP, Qr, Qq⟩
   ·
    go_simp
    have zBr := HB.out
    have hb8 := al1 v3 (.cells #[.slice none 0 0] 30)
    replace HP := Li (HK.out.1 _ _ HP.out hb8)
    replace HB := Li (Nat.le_trans HB.out hb8.size)
    replace Or := Li (Or.out.up hb8)
    clear hb8
    have Br := Li (CB.new v3 30 [.slice none 0 0])
    refine hK.out _ _ (HP) (fun hHeld => ?_)
    clear hK KK
    try simp only [pnz]
    generalize v3.heap.size = gBr at Br zBr ⊢
    generalize v3.alloc (.cells #[.slice none 0 0] 30) = v8 at HP HB Br Or hHeld ⊢
    refine rd2 7 9 (fun KK hK => ?_) (fun KK hK => ?_)
    ·
     go_simp
     go_at_call 14
     refine (RRow_any At nt ct xt fst V m cv raw _ HNt.out ((PSt.out _ HP.out).2.row.2.2.2) HOt.out HM.out (RowAt.up HV.out (PP.out _ HP.out).1.1) hml HVF.out).mono ?_
     rintro e v7 ⟨⟨Aq, cq, q, rfl, ho8, hf8, hs8, hl8⟩, hb8⟩
     have Oq := Li (show OX _ Aq cq q from ⟨_, ho8⟩)
     have HFq := Li hf8
     clear ho8 hf8 hs8 hl8
     replace HP := Li (HK.out.1 _ _ HP.out hb8)
     replace HB := Li (Nat.le_trans HB.out hb8.size)
     replace Or := Li (Or.out.up hb8)
     replace Br := Li (Br.out.up hb8)
     clear hb8
     go_wp2_with fail
     refine hK.out _ _ (HP) (fun hHeld => ?_)
     clear hK KK
     try simp only [pnz]
     refine rd1 9 fun KK hK => ?_
     go_simp
     have zBq := HB.out
     have hb8 := al1 v7 (.cells #[.slice none 0 0] 30)
     have zlt := Br.out.lt
     replace HP := Li (HK.out.1 _ _ HP.out hb8)
     replace HB := Li (Nat.le_trans HB.out hb8.size)
     replace Or := Li (Or.out.up hb8)
     replace Br := Li (Br.out.up hb8)
     replace Oq := Li (Oq.out.up hb8)
     clear hb8
     have Bq := Li (CB.new v7 30 [.slice none 0 0])
     refine hK.out _ _ (HP) (fun hHeld => ?_)
     clear hK KK
     try simp only [pnz]
     generalize v7.heap.size = gBq at Bq zBq zlt ⊢
     generalize v7.alloc (.cells #[.slice none 0 0] 30) = v9 at HP HB Bq Or Br Oq hHeld ⊢
     refine rd1 10 fun KK hK => ?_
     refine step_store_cb rfl 30 (.tmp 17) (.tmp 91) rfl gBr [.slice Ar r.length cr] rfl rfl 30 [.slice none 0 0] 1 Br.out sizeRw rfl rfl (one_rw _ _ _) ?_
     intro v10 hc10 hg10 hz10
     replace HP := Li (HK.out.2 _ _ _ _ HP.out Br.out zBr hg10)
     have Qr := Li (show RX v10 gBr Ar cr _ from ⟨hc10, Or.out.put Br.out hg10⟩)
     replace Oq := Li (Oq.out.put Br.out hg10)
     replace Bq := Li (Bq.out.grown hg10 (by intro h; injection h with h; omega))
     refine hK.out _ _ (HP) (fun hHeld => ?_)
     clear hK KK
     try simp only [pnz]
     refine rd1 11 fun KK hK => ?_
     refine step_store_cb rfl 30 (.tmp 18) (.tmp 95) rfl gBq [.slice Aq q.length cq] rfl rfl 30 [.slice none 0 0] 1 Bq.out sizeRw rfl rfl (one_rw _ _ _) ?_
     intro v11 hc11 hg11 hz11
     replace HP := Li (HK.out.2 _ _ _ _ HP.out Bq.out zBq hg11)
     have Qq := Li (show RX v11 gBq Aq cq _ from ⟨hc11, Oq.out.put Bq.out hg11⟩)
     replace Qr := Li (show RX v11 gBr Ar cr _ from ⟨Qr.out.1.grown hg11 (by intro h; injection h with h; omega), Qr.out.2.put Bq.out hg11⟩)
     refine hK.out _ _ (HP) (fun hHeld => ?_)
     clear hK KK
     try simp only [pnz]
     refine wpAnyH_done (by kernel_rfl) ?_ _
     go_wp2_with fail
     go_meet
     exact ⟨_, _, _, _, _, _, r, q, ⟨rfl, rfl⟩, zBr, zBq, by omega, HFr, HFq, HP, Qr, Qq⟩
    ·
     go_simp
     have zBq := HB.out
     have hb8 := al1 v8 (.cells #[.slice none 0 0] 30)
     have zlt := Br.out.lt
     replace HP := Li (HK.out.1 _ _ HP.out hb8)
     replace HB := Li (Nat.le_trans HB.out hb8.size)
     replace Or := Li (Or.out.up hb8)
     replace Br := Li (Br.out.up hb8)
     clear hb8
     have Bq := Li (CB.new v8 30 [.slice none 0 0])
     refine hK.out _ _ (HP) (fun hHeld => ?_)
     clear hK KK
     try simp only [pnz]
     generalize v8.heap.size = gBq at Bq zBq zlt ⊢
     generalize v8.alloc (.cells #[.slice none 0 0] 30) = v9 at HP HB Bq Or Br hHeld ⊢
     refine rd1 7 fun KK hK => ?_
     go_simp
     go_at_call 14
     refine (RRow_any At nt ct xt fst V m cv raw _ HNt.out ((PSt.out _ HP.out).2.row.2.2.2) HOt.out HM.out (RowAt.up HV.out (PP.out _ HP.out).1.1) hml HVF.out).mono ?_
     rintro e v7 ⟨⟨Aq, cq, q, rfl, ho8, hf8, hs8, hl8⟩, hb8⟩
     have Oq := Li (show OX _ Aq cq q from ⟨_, ho8⟩)
     have HFq := Li hf8
     clear ho8 hf8 hs8 hl8
     replace HP := Li (HK.out.1 _ _ HP.out hb8)
     replace HB := Li (Nat.le_trans HB.out hb8.size)
     replace Or := Li (Or.out.up hb8)
     replace Br := Li (Br.out.up hb8)
     replace Bq := Li (Bq.out.up hb8)
     clear hb8
     go_wp2_with fail
     refine hK.out _ _ (HP) (fun hHeld => ?_)
     clear hK KK
     try simp only [pnz]
     refine rd1 10 fun KK hK => ?_
     refine step_store_cb rfl 30 (.tmp 17) (.tmp 91) rfl gBr [.slice Ar r.length cr] rfl rfl 30 [.slice none 0 0] 1 Br.out sizeRw rfl rfl (one_rw _ _ _) ?_
     intro v10 hc10 hg10 hz10
     replace HP := Li (HK.out.2 _ _ _ _ HP.out Br.out zBr hg10)
     have Qr := Li (show RX v10 gBr Ar cr _ from ⟨hc10, Or.out.put Br.out hg10⟩)
     replace Oq := Li (Oq.out.put Br.out hg10)
     replace Bq := Li (Bq.out.grown hg10 (by intro h; injection h with h; omega))
     refine hK.out _ _ (HP) (fun hHeld => ?_)
     clear hK KK
     try simp only [pnz]
     refine rd1 11 fun KK hK => ?_
     refine step_store_cb rfl 30 (.tmp 18) (.tmp 95) rfl gBq [.slice Aq q.length cq] rfl rfl 30 [.slice none 0 0] 1 Bq.out sizeRw rfl rfl (one_rw _ _ _) ?_
     intro v11 hc11 hg11 hz11
     replace HP := Li (HK.out.2 _ _ _ _ HP.out Bq.out zBq hg11)
     have Qq := Li (show RX v11 gBq Aq cq _ from ⟨hc11, Oq.out.put Bq.out hg11⟩)
     replace Qr := Li (show RX v11 gBr Ar cr _ from ⟨Qr.out.1.grown hg11 (by intro h; injection h with h; omega), Qr.out.2.put Bq.out hg11⟩)
     refine hK.out _ _ (HP) (fun hHeld => ?_)
     clear hK KK
     try simp only [pnz]
     refine wpAnyH_done (by kernel_rfl) ?_ _
     go_wp2_with fail
     go_meet
     exact ⟨_, _, _, _, _, _, r, q, ⟨rfl, rfl⟩, zBr, zBq, by omega, HFr, HFq, HP, Qr, Qq⟩
   ·
    go_simp
    have zBq := HB.out
    have hb8 := al1 v3 (.cells #[.slice none 0 0] 30)
    replace HP := Li (HK.out.1 _ _ HP.out hb8)
    replace HB := Li (Nat.le_trans HB.out hb8.size)
    replace Or := Li (Or.out.up hb8)
    clear hb8
    have Bq := Li (CB.new v3 30 [.slice none 0 0])
    refine hK.out _ _ (HP) (fun hHeld => ?_)
    clear hK KK
    try simp only [pnz]
    generalize v3.heap.size = gBq at Bq zBq ⊢
    generalize v3.alloc (.cells #[.slice none 0 0] 30) = v9 at HP HB Bq Or hHeld ⊢
    refine rd2 7 8 (fun KK hK => ?_) (fun KK hK => ?_)
    ·
     go_simp
     go_at_call 14
     refine (RRow_any At nt ct xt fst V m cv raw _ HNt.out ((PSt.out _ HP.out).2.row.2.2.2) HOt.out HM.out (RowAt.up HV.out (PP.out _ HP.out).1.1) hml HVF.out).mono ?_
     rintro e v7 ⟨⟨Aq, cq, q, rfl, ho8, hf8, hs8, hl8⟩, hb8⟩
     have Oq := Li (show OX _ Aq cq q from ⟨_, ho8⟩)
     have HFq := Li hf8
     clear ho8 hf8 hs8 hl8
     replace HP := Li (HK.out.1 _ _ HP.out hb8)
     replace HB := Li (Nat.le_trans HB.out hb8.size)
     replace Or := Li (Or.out.up hb8)
     replace Bq := Li (Bq.out.up hb8)
     clear hb8
     go_wp2_with fail
     refine hK.out _ _ (HP) (fun hHeld => ?_)
     clear hK KK
     try simp only [pnz]
     refine rd1 8 fun KK hK => ?_
     go_simp
     have zBr := HB.out
     have hb8 := al1 v7 (.cells #[.slice none 0 0] 30)
     have zlt := Bq.out.lt
     replace HP := Li (HK.out.1 _ _ HP.out hb8)
     replace HB := Li (Nat.le_trans HB.out hb8.size)
     replace Or := Li (Or.out.up hb8)
     replace Bq := Li (Bq.out.up hb8)
     replace Oq := Li (Oq.out.up hb8)
     clear hb8
     have Br := Li (CB.new v7 30 [.slice none 0 0])
     refine hK.out _ _ (HP) (fun hHeld => ?_)
     clear hK KK
     try simp only [pnz]
     generalize v7.heap.size = gBr at Br zBr zlt ⊢
     generalize v7.alloc (.cells #[.slice none 0 0] 30) = v8 at HP HB Br Or Bq Oq hHeld ⊢
     refine rd1 10 fun KK hK => ?_
     refine step_store_cb rfl 30 (.tmp 17) (.tmp 91) rfl gBr [.slice Ar r.length cr] rfl rfl 30 [.slice none 0 0] 1 Br.out sizeRw rfl rfl (one_rw _ _ _) ?_
     intro v10 hc10 hg10 hz10
     replace HP := Li (HK.out.2 _ _ _ _ HP.out Br.out zBr hg10)
     have Qr := Li (show RX v10 gBr Ar cr _ from ⟨hc10, Or.out.put Br.out hg10⟩)
     replace Oq := Li (Oq.out.put Br.out hg10)
     replace Bq := Li (Bq.out.grown hg10 (by intro h; injection h with h; omega))
     refine hK.out _ _ (HP) (fun hHeld => ?_)
     clear hK KK
     try simp only [pnz]
     refine rd1 11 fun KK hK => ?_
     refine step_store_cb rfl 30 (.tmp 18) (.tmp 95) rfl gBq [.slice Aq q.length cq] rfl rfl 30 [.slice none 0 0] 1 Bq.out sizeRw rfl rfl (one_rw _ _ _) ?_
     intro v11 hc11 hg11 hz11
     replace HP := Li (HK.out.2 _ _ _ _ HP.out Bq.out zBq hg11)
     have Qq := Li (show RX v11 gBq Aq cq _ from ⟨hc11, Oq.out.put Bq.out hg11⟩)
     replace Qr := Li (show RX v11 gBr Ar cr _ from ⟨Qr.out.1.grown hg11 (by intro h; injection h with h; omega), Qr.out.2.put Bq.out hg11⟩)
     refine hK.out _ _ (HP) (fun hHeld => ?_)
     clear hK KK
     try simp only [pnz]
     refine wpAnyH_done (by kernel_rfl) ?_ _
     go_wp2_with fail
     go_meet
     exact ⟨_, _, _, _, _, _, r, q, ⟨rfl, rfl⟩, zBr, zBq, by omega, HFr, HFq, HP, Qr, Qq⟩
    ·
     go_simp
     have zBr := HB.out
     have hb8 := al1 v9 (.cells #[.slice none 0 0] 30)
     have zlt := Bq.out.lt
     replace HP := Li (HK.out.1 _ _ HP.out hb8)
     replace HB := Li (Nat.le_trans HB.out hb8.size)
     replace Or := Li (Or.out.up hb8)
     replace Bq := Li (Bq.out.up hb8)
     clear hb8
     have Br := Li (CB.new v9 30 [.slice none 0 0])
     refine hK.out _ _ (HP) (fun hHeld => ?_)
     clear hK KK
     try simp only [pnz]
     generalize v9.heap.size = gBr at Br zBr zlt ⊢
     generalize v9.alloc (.cells #[.slice none 0 0] 30) = v8 at HP HB Br Or Bq hHeld ⊢
     refine rd1 7 fun KK hK => ?_
     go_simp
     go_at_call 14
     refine (RRow_any At nt ct xt fst V m cv raw _ HNt.out ((PSt.out _ HP.out).2.row.2.2.2) HOt.out HM.out (RowAt.up HV.out (PP.out _ HP.out).1.1) hml HVF.out).mono ?_
     rintro e v7 ⟨⟨Aq, cq, q, rfl, ho8, hf8, hs8, hl8⟩, hb8⟩
     have Oq := Li (show OX _ Aq cq q from ⟨_, ho8⟩)
     have HFq := Li hf8
     clear ho8 hf8 hs8 hl8
     replace HP := Li (HK.out.1 _ _ HP.out hb8)
     replace HB := Li (Nat.le_trans HB.out hb8.size)
     replace Or := Li (Or.out.up hb8)
     replace Bq := Li (Bq.out.up hb8)
     replace Br := Li (Br.out.up hb8)
     clear hb8
     go_wp2_with fail
     refine hK.out _ _ (HP) (fun hHeld => ?_)
     clear hK KK
     try simp only [pnz]
     refine rd1 10 fun KK hK => ?_
     refine step_store_cb rfl 30 (.tmp 17) (.tmp 91) rfl gBr [.slice Ar r.length cr] rfl rfl 30 [.slice none 0 0] 1 Br.out sizeRw rfl rfl (one_rw _ _ _) ?_
     intro v10 hc10 hg10 hz10
     replace HP := Li (HK.out.2 _ _ _ _ HP.out Br.out zBr hg10)
     have Qr := Li (show RX v10 gBr Ar cr _ from ⟨hc10, Or.out.put Br.out hg10⟩)
     replace Oq := Li (Oq.out.put Br.out hg10)
     replace Bq := Li (Bq.out.grown hg10 (by intro h; injection h with h; omega))
     refine hK.out _ _ (HP) (fun hHeld => ?_)
     clear hK KK
     try simp only [pnz]
     refine rd1 11 fun KK hK => ?_
     refine step_store_cb rfl 30 (.tmp 18) (.tmp 95) rfl gBq [.slice Aq q.length cq] rfl rfl 30 [.slice none 0 0] 1 Bq.out sizeRw rfl rfl (one_rw _ _ _) ?_
     intro v11 hc11 hg11 hz11
     replace HP := Li (HK.out.2 _ _ _ _ HP.out Bq.out zBq hg11)
     have Qq := Li (show RX v11 gBq Aq cq _ from ⟨hc11, Oq.out.put Bq.out hg11⟩)
     replace Qr := Li (show RX v11 gBr Ar cr _ from ⟨Qr.out.1.grown hg11 (by intro h; injection h with h; omega), Qr.out.2.put Bq.out hg11⟩)
     refine hK.out _ _ (HP) (fun hHeld => ?_)
     clear hK KK
     try simp only [pnz]
     refine wpAnyH_done (by kernel_rfl) ?_ _
     go_wp2_with fail
     go_meet
     exact ⟨_, _, _, _, _, _, r, q, ⟨rfl, rfl⟩, zBr, zBq, by omega, HFr, HFq, HP, Qr, Qq⟩
  ·
   go_simp
   have zBr := HB.out
   have hb8 := al1 X0 (.cells #[.slice none 0 0] 30)
   replace HP := Li (HK.out.1 _ _ HP.out hb8)
   replace HB := Li (Nat.le_trans HB.out hb8.size)
   clear hb8
   have Br := Li (CB.new X0 30 [.slice none 0 0])
   refine hK.out _ _ (HP) (fun hHeld => ?_)
   clear hK KK
   try simp only [pnz]
   generalize X0.heap.size = gBr at Br zBr ⊢
   generalize X0.alloc (.cells #[.slice none 0 0] 30) = v8 at HP HB Br  hHeld ⊢
   refine rd2 3 9 (fun KK hK => ?_) (fun KK hK => ?_)
   ·
    go_simp
    go_at_call 14
    refine (RRow_any As ns cs xs fss V m cv raw _ HNs.out ((PSs.out _ HP.out).2.row.2.2.2) HOs.out HM.out (RowAt.up HV.out (PP.out _ HP.out).1.1) hml HVF.out).mono ?_
    rintro e v3 ⟨⟨Ar, cr, r, rfl, ho8, hf8, hs8, hl8⟩, hb8⟩
    have Or := Li (show OX _ Ar cr r from ⟨_, ho8⟩)
    have HFr := Li hf8
    clear ho8 hf8 hs8 hl8
    replace HP := Li (HK.out.1 _ _ HP.out hb8)
    replace HB := Li (Nat.le_trans HB.out hb8.size)
    replace Br := Li (Br.out.up hb8)
    clear hb8
    go_wp2_with fail
    refine hK.out _ _ (HP) (fun hHeld => ?_)
    clear hK KK
    try simp only [pnz]
    refine rd2 7 9 (fun KK hK => ?_) (fun KK hK => ?_)
    ·
     go_simp
     go_at_call 14
     refine (RRow_any At nt ct xt fst V m cv raw _ HNt.out ((PSt.out _ HP.out).2.row.2.2.2) HOt.out HM.out (RowAt.up HV.out (PP.out _ HP.out).1.1) hml HVF.out).mono ?_
     rintro e v7 ⟨⟨Aq, cq, q, rfl, ho8, hf8, hs8, hl8⟩, hb8⟩
     have Oq := Li (show OX _ Aq cq q from ⟨_, ho8⟩)
     have HFq := Li hf8
     clear ho8 hf8 hs8 hl8
     replace HP := Li (HK.out.1 _ _ HP.out hb8)
     replace HB := Li (Nat.le_trans HB.out hb8.size)
     replace Br := Li (Br.out.up hb8)
     replace Or := Li (Or.out.up hb8)
     clear hb8
     go_wp2_with fail
     refine hK.out _ _ (HP) (fun hHeld => ?_)
     clear hK KK
     try simp only [pnz]
     refine rd1 9 fun KK hK => ?_
     go_simp
     have zBq := HB.out
     have hb8 := al1 v7 (.cells #[.slice none 0 0] 30)
     have zlt := Br.out.lt
     replace HP := Li (HK.out.1 _ _ HP.out hb8)
     replace HB := Li (Nat.le_trans HB.out hb8.size)
     replace Br := Li (Br.out.up hb8)
     replace Or := Li (Or.out.up hb8)
     replace Oq := Li (Oq.out.up hb8)
     clear hb8
     have Bq := Li (CB.new v7 30 [.slice none 0 0])
     refine hK.out _ _ (HP) (fun hHeld => ?_)
     clear hK KK
     try simp only [pnz]
     generalize v7.heap.size = gBq at Bq zBq zlt ⊢
     generalize v7.alloc (.cells #[.slice none 0 0] 30) = v9 at HP HB Bq Br Or Oq hHeld ⊢
     refine rd1 10 fun KK hK => ?_
     refine step_store_cb rfl 30 (.tmp 17) (.tmp 91) rfl gBr [.slice Ar r.length cr] rfl rfl 30 [.slice none 0 0] 1 Br.out sizeRw rfl rfl (one_rw _ _ _) ?_
     intro v10 hc10 hg10 hz10
     replace HP := Li (HK.out.2 _ _ _ _ HP.out Br.out zBr hg10)
     have Qr := Li (show RX v10 gBr Ar cr _ from ⟨hc10, Or.out.put Br.out hg10⟩)
     replace Oq := Li (Oq.out.put Br.out hg10)
     replace Bq := Li (Bq.out.grown hg10 (by intro h; injection h with h; omega))
     refine hK.out _ _ (HP) (fun hHeld => ?_)
     clear hK KK
     try simp only [pnz]
     refine rd1 11 fun KK hK => ?_
     refine step_store_cb rfl 30 (.tmp 18) (.tmp 95) rfl gBq [.slice Aq q.length cq] rfl rfl 30 [.slice none 0 0] 1 Bq.out sizeRw rfl rfl (one_rw _ _ _) ?_
     intro v11 hc11 hg11 hz11
     replace HP := Li (HK.out.2 _ _ _ _ HP.out Bq.out zBq hg11)
     have Qq := Li (show RX v11 gBq Aq cq _ from ⟨hc11, Oq.out.put Bq.out hg11⟩)
     replace Qr := Li (show RX v11 gBr Ar cr _ from ⟨Qr.out.1.grown hg11 (by intro h; injection h with h; omega), Qr.out.2.put Bq.out hg11⟩)
     refine hK.out _ _ (HP) (fun hHeld => ?_)
     clear hK KK
     try simp only [pnz]
     refine wpAnyH_done (by kernel_rfl) ?_ _
     go_wp2_with fail
     go_meet
     exact ⟨_, _, _, _, _, _, r, q, ⟨rfl, rfl⟩, zBr, zBq, by omega, HFr, HFq, HP, Qr, Qq⟩
    ·
     go_simp
     have zBq := HB.out
     have hb8 := al1 v3 (.cells #[.slice none 0 0] 30)
     have zlt := Br.out.lt
     replace HP := Li (HK.out.1 _ _ HP.out hb8)
     replace HB := Li (Nat.le_trans HB.out hb8.size)
     replace Br := Li (Br.out.up hb8)
     replace Or := Li (Or.out.up hb8)
     clear hb8
     have Bq := Li (CB.new v3 30 [.slice none 0 0])
     refine hK.out _ _ (HP) (fun hHeld => ?_)
     clear hK KK
     try simp only [pnz]
     generalize v3.heap.size = gBq at Bq zBq zlt ⊢
     generalize v3.alloc (.cells #[.slice none 0 0] 30) = v9 at HP HB Bq Br Or hHeld ⊢
     refine rd1 7 fun KK hK => ?_
     go_simp
     go_at_call 14
     refine (RRow_any At nt ct xt fst V m cv raw _ HNt.out ((PSt.out _ HP.out).2.row.2.2.2) HOt.out HM.out (RowAt.up HV.out (PP.out _ HP.out).1.1) hml HVF.out).mono ?_
     rintro e v7 ⟨⟨Aq, cq, q, rfl, ho8, hf8, hs8, hl8⟩, hb8⟩
     have Oq := Li (show OX _ Aq cq q from ⟨_, ho8⟩)
     have HFq := Li hf8
     clear ho8 hf8 hs8 hl8
     replace HP := Li (HK.out.1 _ _ HP.out hb8)
     replace HB := Li (Nat.le_trans HB.out hb8.size)
     replace Br := Li (Br.out.up hb8)
     replace Or := Li (Or.out.up hb8)
     replace Bq := Li (Bq.out.up hb8)
     clear hb8
     go_wp2_with fail
     refine hK.out _ _ (HP) (fun hHeld => ?_)
     clear hK KK
     try simp only [pnz]
     refine rd1 10 fun KK hK => ?_
     refine step_store_cb rfl 30 (.tmp 17) (.tmp 91) rfl gBr [.slice Ar r.length cr] rfl rfl 30 [.slice none 0 0] 1 Br.out sizeRw rfl rfl (one_rw _ _ _) ?_
     intro v10 hc10 hg10 hz10
     replace HP := Li (HK.out.2 _ _ _ _ HP.out Br.out zBr hg10)
     have Qr := Li (show RX v10 gBr Ar cr _ from ⟨hc10, Or.out.put Br.out hg10⟩)
     replace Oq := Li (Oq.out.put Br.out hg10)
     replace Bq := Li (Bq.out.grown hg10 (by intro h; injection h with h; omega))
     refine hK.out _ _ (HP) (fun hHeld => ?_)
     clear hK KK
     try simp only [pnz]
     refine rd1 11 fun KK hK => ?_
     refine step_store_cb rfl 30 (.tmp 18) (.tmp 95) rfl gBq [.slice Aq q.length cq] rfl rfl 30 [.slice none 0 0] 1 Bq.out sizeRw rfl rfl (one_rw _ _ _) ?_
     intro v11 hc11 hg11 hz11
     replace HP := Li (HK.out.2 _ _ _ _ HP.out Bq.out zBq hg11)
     have Qq := Li (show RX v11 gBq Aq cq _ from ⟨hc11, Oq.out.put Bq.out hg11⟩)
     replace Qr := Li (show RX v11 gBr Ar cr _ from ⟨Qr.out.1.grown hg11 (by intro h; injection h with h; omega), Qr.out.2.put Bq.out hg11⟩)
     refine hK.out _ _ (HP) (fun hHeld => ?_)
     clear hK KK
     try simp only [pnz]
     refine wpAnyH_done (by kernel_rfl) ?_ _
     go_wp2_with fail
     go_meet
     exact ⟨_, _, _, _, _, _, r, q, ⟨rfl, rfl⟩, zBr, zBq, by omega, HFr, HFq, HP, Qr, Qq⟩
   ·
    go_simp
    have zBq := HB.out
    have hb8 := al1 v8 (.cells #[.slice none 0 0] 30)
    have zlt := Br.out.lt
    replace HP := Li (HK.out.1 _ _ HP.out hb8)
    replace HB := Li (Nat.le_trans HB.out hb8.size)
    replace Br := Li (Br.out.up hb8)
    clear hb8
    have Bq := Li (CB.new v8 30 [.slice none 0 0])
    refine hK.out _ _ (HP) (fun hHeld => ?_)
    clear hK KK
    try simp only [pnz]
    generalize v8.heap.size = gBq at Bq zBq zlt ⊢
    generalize v8.alloc (.cells #[.slice none 0 0] 30) = v9 at HP HB Bq Br hHeld ⊢
    refine rd1 3 fun KK hK => ?_
    go_simp
    go_at_call 14
    refine (RRow_any As ns cs xs fss V m cv raw _ HNs.out ((PSs.out _ HP.out).2.row.2.2.2) HOs.out HM.out (RowAt.up HV.out (PP.out _ HP.out).1.1) hml HVF.out).mono ?_
    rintro e v3 ⟨⟨Ar, cr, r, rfl, ho8, hf8, hs8, hl8⟩, hb8⟩
    have Or := Li (show OX _ Ar cr r from ⟨_, ho8⟩)
    have HFr := Li hf8
    clear ho8 hf8 hs8 hl8
    replace HP := Li (HK.out.1 _ _ HP.out hb8)
    replace HB := Li (Nat.le_trans HB.out hb8.size)
    replace Br := Li (Br.out.up hb8)
    replace Bq := Li (Bq.out.up hb8)
    clear hb8
    go_wp2_with fail
    refine hK.out _ _ (HP) (fun hHeld => ?_)
    clear hK KK
    try simp only [pnz]
    refine rd1 7 fun KK hK => ?_
    go_simp
    go_at_call 14
    refine (RRow_any At nt ct xt fst V m cv raw _ HNt.out ((PSt.out _ HP.out).2.row.2.2.2) HOt.out HM.out (RowAt.up HV.out (PP.out _ HP.out).1.1) hml HVF.out).mono ?_
    rintro e v7 ⟨⟨Aq, cq, q, rfl, ho8, hf8, hs8, hl8⟩, hb8⟩
    have Oq := Li (show OX _ Aq cq q from ⟨_, ho8⟩)
    have HFq := Li hf8
    clear ho8 hf8 hs8 hl8
    replace HP := Li (HK.out.1 _ _ HP.out hb8)
    replace HB := Li (Nat.le_trans HB.out hb8.size)
    replace Br := Li (Br.out.up hb8)
    replace Bq := Li (Bq.out.up hb8)
    replace Or := Li (Or.out.up hb8)
    clear hb8
    go_wp2_with fail
    refine hK.out _ _ (HP) (fun hHeld => ?_)
    clear hK KK
    try simp only [pnz]
    refine rd1 10 fun KK hK => ?_
    refine step_store_cb rfl 30 (.tmp 17) (.tmp 91) rfl gBr [.slice Ar r.length cr] rfl rfl 30 [.slice none 0 0] 1 Br.out sizeRw rfl rfl (one_rw _ _ _) ?_
    intro v10 hc10 hg10 hz10
    replace HP := Li (HK.out.2 _ _ _ _ HP.out Br.out zBr hg10)
    have Qr := Li (show RX v10 gBr Ar cr _ from ⟨hc10, Or.out.put Br.out hg10⟩)
    replace Oq := Li (Oq.out.put Br.out hg10)
    replace Bq := Li (Bq.out.grown hg10 (by intro h; injection h with h; omega))
    refine hK.out _ _ (HP) (fun hHeld => ?_)
    clear hK KK
    try simp only [pnz]
    refine rd1 11 fun KK hK => ?_
    refine step_store_cb rfl 30 (.tmp 18) (.tmp 95) rfl gBq [.slice Aq q.length cq] rfl rfl 30 [.slice none 0 0] 1 Bq.out sizeRw rfl rfl (one_rw _ _ _) ?_
    intro v11 hc11 hg11 hz11
    replace HP := Li (HK.out.2 _ _ _ _ HP.out Bq.out zBq hg11)
    have Qq := Li (show RX v11 gBq Aq cq _ from ⟨hc11, Oq.out.put Bq.out hg11⟩)
    replace Qr := Li (show RX v11 gBr Ar cr _ from ⟨Qr.out.1.grown hg11 (by intro h; injection h with h; omega), Qr.out.2.put Bq.out hg11⟩)
    refine hK.out _ _ (HP) (fun hHeld => ?_)
    clear hK KK
    try simp only [pnz]
    refine wpAnyH_done (by kernel_rfl) ?_ _
    go_wp2_with fail
    go_meet
    exact ⟨_, _, _, _, _, _, r, q, ⟨rfl, rfl⟩, zBr, zBq, by omega, HFr, HFq, HP, Qr, Qq⟩
  ·
   go_simp
   have zBq := HB.out
   have hb8 := al1 X0 (.cells #[.slice none 0 0] 30)
   replace HP := Li (HK.out.1 _ _ HP.out hb8)
   replace HB := Li (Nat.le_trans HB.out hb8.size)
   clear hb8
   have Bq := Li (CB.new X0 30 [.slice none 0 0])
   refine hK.out _ _ (HP) (fun hHeld => ?_)
   clear hK KK
   try simp only [pnz]
   generalize X0.heap.size = gBq at Bq zBq ⊢
   generalize X0.alloc (.cells #[.slice none 0 0] 30) = v9 at HP HB Bq  hHeld ⊢
   refine rd2 3 8 (fun KK hK => ?_) (fun KK hK => ?_)
   ·
    go_simp
    go_at_call 14
    refine (RRow_any As ns cs xs fss V m cv raw _ HNs.out ((PSs.out _ HP.out).2.row.2.2.2) HOs.out HM.out (RowAt.up HV.out (PP.out _ HP.out).1.1) hml HVF.out).mono ?_
    rintro e v3 ⟨⟨Ar, cr, r, rfl, ho8, hf8, hs8, hl8⟩, hb8⟩
    have Or := Li (show OX _ Ar cr r from ⟨_, ho8⟩)
    have HFr := Li hf8
    clear ho8 hf8 hs8 hl8
    replace HP := Li (HK.out.1 _ _ HP.out hb8)
    replace HB := Li (Nat.le_trans HB.out hb8.size)
    replace Bq := Li (Bq.out.up hb8)
    clear hb8
    go_wp2_with fail
    refine hK.out _ _ (HP) (fun hHeld => ?_)
    clear hK KK
    try simp only [pnz]
    refine rd2 7 8 (fun KK hK => ?_) (fun KK hK => ?_)
    ·
     go_simp
     go_at_call 14
     refine (RRow_any At nt ct xt fst V m cv raw _ HNt.out ((PSt.out _ HP.out).2.row.2.2.2) HOt.out HM.out (RowAt.up HV.out (PP.out _ HP.out).1.1) hml HVF.out).mono ?_
     rintro e v7 ⟨⟨Aq, cq, q, rfl, ho8, hf8, hs8, hl8⟩, hb8⟩
     have Oq := Li (show OX _ Aq cq q from ⟨_, ho8⟩)
     have HFq := Li hf8
     clear ho8 hf8 hs8 hl8
     replace HP := Li (HK.out.1 _ _ HP.out hb8)
     replace HB := Li (Nat.le_trans HB.out hb8.size)
     replace Bq := Li (Bq.out.up hb8)
     replace Or := Li (Or.out.up hb8)
     clear hb8
     go_wp2_with fail
     refine hK.out _ _ (HP) (fun hHeld => ?_)
     clear hK KK
     try simp only [pnz]
     refine rd1 8 fun KK hK => ?_
     go_simp
     have zBr := HB.out
     have hb8 := al1 v7 (.cells #[.slice none 0 0] 30)
     have zlt := Bq.out.lt
     replace HP := Li (HK.out.1 _ _ HP.out hb8)
     replace HB := Li (Nat.le_trans HB.out hb8.size)
     replace Bq := Li (Bq.out.up hb8)
     replace Or := Li (Or.out.up hb8)
     replace Oq := Li (Oq.out.up hb8)
     clear hb8
     have Br := Li (CB.new v7 30 [.slice none 0 0])
     refine hK.out _ _ (HP) (fun hHeld => ?_)
     clear hK KK
     try simp only [pnz]
     generalize v7.heap.size = gBr at Br zBr zlt ⊢
     generalize v7.alloc (.cells #[.slice none 0 0] 30) = v8 at HP HB Br Bq Or Oq hHeld ⊢
     refine rd1 10 fun KK hK => ?_
     refine step_store_cb rfl 30 (.tmp 17) (.tmp 91) rfl gBr [.slice Ar r.length cr] rfl rfl 30 [.slice none 0 0] 1 Br.out sizeRw rfl rfl (one_rw _ _ _) ?_
     intro v10 hc10 hg10 hz10
     replace HP := Li (HK.out.2 _ _ _ _ HP.out Br.out zBr hg10)
     have Qr := Li (show RX v10 gBr Ar cr _ from ⟨hc10, Or.out.put Br.out hg10⟩)
     replace Oq := Li (Oq.out.put Br.out hg10)
     replace Bq := Li (Bq.out.grown hg10 (by intro h; injection h with h; omega))
     refine hK.out _ _ (HP) (fun hHeld => ?_)
     clear hK KK
     try simp only [pnz]
     refine rd1 11 fun KK hK => ?_
     refine step_store_cb rfl 30 (.tmp 18) (.tmp 95) rfl gBq [.slice Aq q.length cq] rfl rfl 30 [.slice none 0 0] 1 Bq.out sizeRw rfl rfl (one_rw _ _ _) ?_
     intro v11 hc11 hg11 hz11
     replace HP := Li (HK.out.2 _ _ _ _ HP.out Bq.out zBq hg11)
     have Qq := Li (show RX v11 gBq Aq cq _ from ⟨hc11, Oq.out.put Bq.out hg11⟩)
     replace Qr := Li (show RX v11 gBr Ar cr _ from ⟨Qr.out.1.grown hg11 (by intro h; injection h with h; omega), Qr.out.2.put Bq.out hg11⟩)
     refine hK.out _ _ (HP) (fun hHeld => ?_)
     clear hK KK
     try simp only [pnz]
     refine wpAnyH_done (by kernel_rfl) ?_ _
     go_wp2_with fail
     go_meet
     exact ⟨_, _, _, _, _, _, r, q, ⟨rfl, rfl⟩, zBr, zBq, by omega, HFr, HFq, HP, Qr, Qq⟩
    ·
     go_simp
     have zBr := HB.out
     have hb8 := al1 v3 (.cells #[.slice none 0 0] 30)
     have zlt := Bq.out.lt
     replace HP := Li (HK.out.1 _ _ HP.out hb8)
     replace HB := Li (Nat.le_trans HB.out hb8.size)
     replace Bq := Li (Bq.out.up hb8)
     replace Or := Li (Or.out.up hb8)
     clear hb8
     have Br := Li (CB.new v3 30 [.slice none 0 0])
     refine hK.out _ _ (HP) (fun hHeld => ?_)
     clear hK KK
     try simp only [pnz]
     generalize v3.heap.size = gBr at Br zBr zlt ⊢
     generalize v3.alloc (.cells #[.slice none 0 0] 30) = v8 at HP HB Br Bq Or hHeld ⊢
     refine rd1 7 fun KK hK => ?_
     go_simp
     go_at_call 14
     refine (RRow_any At nt ct xt fst V m cv raw _ HNt.out ((PSt.out _ HP.out).2.row.2.2.2) HOt.out HM.out (RowAt.up HV.out (PP.out _ HP.out).1.1) hml HVF.out).mono ?_
     rintro e v7 ⟨⟨Aq, cq, q, rfl, ho8, hf8, hs8, hl8⟩, hb8⟩
     have Oq := Li (show OX _ Aq cq q from ⟨_, ho8⟩)
     have HFq := Li hf8
     clear ho8 hf8 hs8 hl8
     replace HP := Li (HK.out.1 _ _ HP.out hb8)
     replace HB := Li (Nat.le_trans HB.out hb8.size)
     replace Bq := Li (Bq.out.up hb8)
     replace Or := Li (Or.out.up hb8)
     replace Br := Li (Br.out.up hb8)
     clear hb8
     go_wp2_with fail
     refine hK.out _ _ (HP) (fun hHeld => ?_)
     clear hK KK
     try simp only [pnz]
     refine rd1 10 fun KK hK => ?_
     refine step_store_cb rfl 30 (.tmp 17) (.tmp 91) rfl gBr [.slice Ar r.length cr] rfl rfl 30 [.slice none 0 0] 1 Br.out sizeRw rfl rfl (one_rw _ _ _) ?_
     intro v10 hc10 hg10 hz10
     replace HP := Li (HK.out.2 _ _ _ _ HP.out Br.out zBr hg10)
     have Qr := Li (show RX v10 gBr Ar cr _ from ⟨hc10, Or.out.put Br.out hg10⟩)
     replace Oq := Li (Oq.out.put Br.out hg10)
     replace Bq := Li (Bq.out.grown hg10 (by intro h; injection h with h; omega))
     refine hK.out _ _ (HP) (fun hHeld => ?_)
     clear hK KK
     try simp only [pnz]
     refine rd1 11 fun KK hK => ?_
     refine step_store_cb rfl 30 (.tmp 18) (.tmp 95) rfl gBq [.slice Aq q.length cq] rfl rfl 30 [.slice none 0 0] 1 Bq.out sizeRw rfl rfl (one_rw _ _ _) ?_
     intro v11 hc11 hg11 hz11
     replace HP := Li (HK.out.2 _ _ _ _ HP.out Bq.out zBq hg11)
     have Qq := Li (show RX v11 gBq Aq cq _ from ⟨hc11, Oq.out.put Bq.out hg11⟩)
     replace Qr := Li (show RX v11 gBr Ar cr _ from ⟨Qr.out.1.grown hg11 (by intro h; injection h with h; omega), Qr.out.2.put Bq.out hg11⟩)
     refine hK.out _ _ (HP) (fun hHeld => ?_)
     clear hK KK
     try simp only [pnz]
     refine wpAnyH_done (by kernel_rfl) ?_ _
     go_wp2_with fail
     go_meet
     exact ⟨_, _, _, _, _, _, r, q, ⟨rfl, rfl⟩, zBr, zBq, by omega, HFr, HFq, HP, Qr, Qq⟩
   ·
    go_simp
    have zBr := HB.out
    have hb8 := al1 v9 (.cells #[.slice none 0 0] 30)
    have zlt := Bq.out.lt
    replace HP := Li (HK.out.1 _ _ HP.out hb8)
    replace HB := Li (Nat.le_trans HB.out hb8.size)
    replace Bq := Li (Bq.out.up hb8)
    clear hb8
    have Br := Li (CB.new v9 30 [.slice none 0 0])
    refine hK.out _ _ (HP) (fun hHeld => ?_)
    clear hK KK
    try simp only [pnz]
    generalize v9.heap.size = gBr at Br zBr zlt ⊢
    generalize v9.alloc (.cells #[.slice none 0 0] 30) = v8 at HP HB Br Bq hHeld ⊢
    refine rd1 3 fun KK hK => ?_
    go_simp
    go_at_call 14
    refine (RRow_any As ns cs xs fss V m cv raw _ HNs.out ((PSs.out _ HP.out).2.row.2.2.2) HOs.out HM.out (RowAt.up HV.out (PP.out _ HP.out).1.1) hml HVF.out).mono ?_
    rintro e v3 ⟨⟨Ar, cr, r, rfl, ho8, hf8, hs8, hl8⟩, hb8⟩
    have Or := Li (show OX _ Ar cr r from ⟨_, ho8⟩)
    have HFr := Li hf8
    clear ho8 hf8 hs8 hl8
    replace HP := Li (HK.out.1 _ _ HP.out hb8)
    replace HB := Li (Nat.le_trans HB.out hb8.size)
    replace Bq := Li (Bq.out.up hb8)
    replace Br := Li (Br.out.up hb8)
    clear hb8
    go_wp2_with fail
    refine hK.out _ _ (HP) (fun hHeld => ?_)
    clear hK KK
    try simp only [pnz]
    refine rd1 7 fun KK hK => ?_
    go_simp
    go_at_call 14
    refine (RRow_any At nt ct xt fst V m cv raw _ HNt.out ((PSt.out _ HP.out).2.row.2.2.2) HOt.out HM.out (RowAt.up HV.out (PP.out _ HP.out).1.1) hml HVF.out).mono ?_
    rintro e v7 ⟨⟨Aq, cq, q, rfl, ho8, hf8, hs8, hl8⟩, hb8⟩
    have Oq := Li (show OX _ Aq cq q from ⟨_, ho8⟩)
    have HFq := Li hf8
    clear ho8 hf8 hs8 hl8
    replace HP := Li (HK.out.1 _ _ HP.out hb8)
    replace HB := Li (Nat.le_trans HB.out hb8.size)
    replace Bq := Li (Bq.out.up hb8)
    replace Br := Li (Br.out.up hb8)
    replace Or := Li (Or.out.up hb8)
    clear hb8
    go_wp2_with fail
    refine hK.out _ _ (HP) (fun hHeld => ?_)
    clear hK KK
    try simp only [pnz]
    refine rd1 10 fun KK hK => ?_
    refine step_store_cb rfl 30 (.tmp 17) (.tmp 91) rfl gBr [.slice Ar r.length cr] rfl rfl 30 [.slice none 0 0] 1 Br.out sizeRw rfl rfl (one_rw _ _ _) ?_
    intro v10 hc10 hg10 hz10
    replace HP := Li (HK.out.2 _ _ _ _ HP.out Br.out zBr hg10)
    have Qr := Li (show RX v10 gBr Ar cr _ from ⟨hc10, Or.out.put Br.out hg10⟩)
    replace Oq := Li (Oq.out.put Br.out hg10)
    replace Bq := Li (Bq.out.grown hg10 (by intro h; injection h with h; omega))
    refine hK.out _ _ (HP) (fun hHeld => ?_)
    clear hK KK
    try simp only [pnz]
    refine rd1 11 fun KK hK => ?_
    refine step_store_cb rfl 30 (.tmp 18) (.tmp 95) rfl gBq [.slice Aq q.length cq] rfl rfl 30 [.slice none 0 0] 1 Bq.out sizeRw rfl rfl (one_rw _ _ _) ?_
    intro v11 hc11 hg11 hz11
    replace HP := Li (HK.out.2 _ _ _ _ HP.out Bq.out zBq hg11)
    have Qq := Li (show RX v11 gBq Aq cq _ from ⟨hc11, Oq.out.put Bq.out hg11⟩)
    replace Qr := Li (show RX v11 gBr Ar cr _ from ⟨Qr.out.1.grown hg11 (by intro h; injection h with h; omega), Qr.out.2.put Bq.out hg11⟩)
    refine hK.out _ _ (HP) (fun hHeld => ?_)
    clear hK KK
    try simp only [pnz]
    refine wpAnyH_done (by kernel_rfl) ?_ _
    go_wp2_with fail
    go_meet
    exact ⟨_, _, _, _, _, _, r, q, ⟨rfl, rfl⟩, zBr, zBq, by omega, HFr, HFq, HP, Qr, Qq⟩
 case rest =>
 obtain ⟨g17, g18, c17, c18, A17, A18, r, q, ⟨rfl, rfl⟩, hge, hge', hne, HFr, HFq, HP1, Q17, Q18⟩ := hcut
 have hh : ∃ P2 : World → Prop, Hid (Kp wc.heap.size P2) ∧ Hid (P2 wc) ∧ (∀ X, P2 X → P X) ∧ Hid (∀ X, P2 X → RX X g17 A17 c17 r) ∧ Hid (∀ X, P2 X → RX X g18 A18 c18 q) := ⟨fun X => (P X ∧ RX X g17 A17 c17 r) ∧ RX X g18 A18 c18 q, Li ((HK.out.row (Nat.le_of_lt (Nat.lt_of_le_of_lt hge Q17.out.1.lt)) Q17.out.1.lt).row (Nat.le_refl _) Q18.out.1.lt), Li ⟨⟨HP1.out, Q17.out⟩, Q18.out⟩, fun _ h => h.1.1, Li fun _ h => h.1.2, Li fun _ h => h.2⟩
 clear HP1 Q17 Q18 HP HK hge hge' hne
 obtain ⟨P, HK, HP, pp, PR17, PR18⟩ := hh
 replace PP := Li (fun X h => PP.out X (pp X h))
 replace LD := Li (fun X h => LD.out X (pp X h))
 replace PSs := Li (fun X h => PSs.out X (pp X h))
 replace PSt := Li (fun X h => PSt.out X (pp X h))
 clear pp
 generalize wc = W11 at *
 have HFr' := Li (show FitL (sAt M lo).fs r by rw [HEs.out]; exact HFr.out)
 have HFq' := Li (show FitL (sAt M hi).fs q by rw [HEt.out]; exact HFq.out)
 have l12 : lo ≤ hi := by omega
 have HSr := Li (sml (sAt_ok HGM.out lo) HFr'.out)
 have HSq := Li (sml (sAt_ok HGM.out hi) HFq'.out)
 obtain ⟨ra, hra⟩ : ∃ z, fwdG (sAt M lo) (segL M lo mid) r = z := ⟨_, rfl⟩
 have HFra := Li (show FitL (sAt M mid).fs ra by rw [← hra]; exact fwd_to HGM.out l1 HFr'.out)
 have HSra := Li (sml (sAt_ok HGM.out mid) HFra.out)
 obtain ⟨rw, hrw⟩ : ∃ z, fwdG (sAt M lo) (segL M lo hi) r = z := ⟨_, rfl⟩
 have HFrw := Li (show FitL (sAt M hi).fs rw by rw [← hrw]; exact fwd_to HGM.out l12 HFr'.out)
 have HSrw := Li (sml (sAt_ok HGM.out hi) HFrw.out)
 obtain ⟨rd, hrd⟩ : ∃ z, bakG (sAt M mid) (segL M mid hi) q = z := ⟨_, rfl⟩
 have HFrd := Li (show FitL (sAt M mid).fs rd by rw [← hrd]; exact bak_to HGM.out l2 HFq'.out)
 have HSrd := Li (sml (sAt_ok HGM.out mid) HFrd.out)
 obtain ⟨rb, hrb⟩ : ∃ z, bakG (sAt M lo) (segL M lo hi) q = z := ⟨_, rfl⟩
 have HFrb := Li (show FitL (sAt M lo).fs rb by rw [← hrb]; exact bak_to HGM.out l12 HFq'.out)
 have HSrb := Li (sml (sAt_ok HGM.out lo) HFrb.out)
 have E1 := Li (show trQ M r (lo : Int) (mid : Int) = (ra, 0) by rw [← hra]; exact tr_fwd HGM.out l1 (by omega) HFr'.out)
 have E2 := Li (show trQ M ra (mid : Int) (hi : Int) = (rw, 0) by rw [tr_fwd HGM.out l2 (by omega) HFra.out, ← hra, fwd_comp l1 l2, hrw])
 have E3 := Li (show trQ M r (lo : Int) (hi : Int) = (rw, 0) by rw [← hrw]; exact tr_fwd HGM.out l12 (by omega) HFr'.out)
 have E4 := Li (show trQ M q (hi : Int) (mid : Int) = (rd, 0) by rw [← hrd]; exact tr_bak HGM.out l2 (by omega) HFq'.out)
 have E5 := Li (show trQ M rd (mid : Int) (lo : Int) = (rb, 0) by rw [tr_bak HGM.out l1 (by omega) HFrd.out, ← hrd, bak_comp l1 l2, hrb])
 have E6 := Li (show trQ M q (hi : Int) (lo : Int) = (rb, 0) by rw [← hrb]; exact tr_bak HGM.out l12 (by omega) HFq'.out)
 have E7 := Li (show trQ M r (lo : Int) (lo : Int) = (r, 0) by rw [tr_fwd HGM.out (Nat.le_refl _) (by omega) HFr'.out, seg_nil]; rfl)
 clear hra hrw hrd hrb HFr HFq
 go_upto_region 11 with fail
 go_cut [19, 20] from 96 to 104 (fun u e wx => ∃ (g c : Nat) (A : Option Addr), (u = .pointer (some ⟨g, 0, none⟩) ∧ e = .int .i64 0) ∧ W11.heap.size ≤ g ∧ Hid (P wx) ∧ Hid (RX wx g A c ra))
 case first => as_aux_lemma =>
  have yr := And.intro ((PR17.out _ HP.out).1.cell 0 rfl) (PR17.out _ HP.out).1.lt
  go_wp2_with (go_at_call 23; refine (Translate_any A2 M.length c2 M A17 r.length c17 r lo mid _ rfl (PP.out _ HP.out).2.1.2.row.2.2.2 (by omega) hcap hcm (fun d hd => (HW.out d hd).cw) rfl (PR17.out _ HP.out).2.ces.1 (by have := HSr.out.1; omega) (big_of HSr.out.2) (PR17.out _ HP.out).2.ces.2.1 (PR17.out _ HP.out).2.ces.2.2 (PP.out _ HP.out).1.2).mono ?_; rintro e v9 ⟨⟨A9, c9, rfl, ho9⟩, hb9⟩; rw [E1.out] at ho9; rw [E1.out]; have O9 := Li (show OX _ A9 c9 ra from ⟨_, ho9⟩); have HP9 := Li (HK.out.1 _ _ HP.out hb9); have HB := Li hb9.size; clear ho9 hb9)
  go_meet
  exact ⟨_, c9, A9, ⟨rfl, rfl⟩, HB.out, Li (HK.out.1 _ _ HP9.out (al1 _ _)), Li ⟨CB.new _ _ _, O9.out.alloc _⟩⟩
 case rest =>
 obtain ⟨g19, c19, A19, ⟨rfl, rfl⟩, hge, HP1, QN⟩ := hcut
 have hh : ∃ P2 : World → Prop, Hid (Kp wc.heap.size P2) ∧ Hid (P2 wc) ∧ (∀ X, P2 X → P X) ∧ Hid (∀ X, P2 X → RX X g19 A19 c19 ra) := ⟨fun X => P X ∧ RX X g19 A19 c19 ra, Li (HK.out.row (Nat.le_of_lt (Nat.lt_of_le_of_lt hge QN.out.1.lt)) QN.out.1.lt), Li ⟨HP1.out, QN.out⟩, fun _ h => h.1, Li fun _ h => h.2⟩
 clear HP1 QN HP HK hge
 obtain ⟨P, HK, HP, pp, PR19⟩ := hh
 replace PP := Li (fun X h => PP.out X (pp X h))
 replace LD := Li (fun X h => LD.out X (pp X h))
 replace PSs := Li (fun X h => PSs.out X (pp X h))
 replace PSt := Li (fun X h => PSt.out X (pp X h))
 replace PR17 := Li (fun X h => PR17.out X (pp X h))
 replace PR18 := Li (fun X h => PR18.out X (pp X h))
 clear pp
 generalize wc = W12 at *
 go_upto_region 12 with fail
 go_cut [21, 22] from 105 to 113 (fun u e wx => ∃ (g c : Nat) (A : Option Addr), (u = .pointer (some ⟨g, 0, none⟩) ∧ e = .int .i64 0) ∧ W12.heap.size ≤ g ∧ Hid (P wx) ∧ Hid (RX wx g A c rw))
 case first => as_aux_lemma =>
  have yr := And.intro ((PR19.out _ HP.out).1.cell 0 rfl) (PR19.out _ HP.out).1.lt
  go_wp2_with (go_at_call 23; refine (Translate_any A2 M.length c2 M A19 ra.length c19 ra mid hi _ rfl (PP.out _ HP.out).2.1.2.row.2.2.2 (by omega) hcap hcm (fun d hd => (HW.out d hd).cw) rfl (PR19.out _ HP.out).2.ces.1 (by have := HSra.out.1; omega) (big_of HSra.out.2) (PR19.out _ HP.out).2.ces.2.1 (PR19.out _ HP.out).2.ces.2.2 (PP.out _ HP.out).1.2).mono ?_; rintro e v9 ⟨⟨A9, c9, rfl, ho9⟩, hb9⟩; rw [E2.out] at ho9; rw [E2.out]; have O9 := Li (show OX _ A9 c9 rw from ⟨_, ho9⟩); have HP9 := Li (HK.out.1 _ _ HP.out hb9); have HB := Li hb9.size; clear ho9 hb9)
  go_meet
  exact ⟨_, c9, A9, ⟨rfl, rfl⟩, HB.out, Li (HK.out.1 _ _ HP9.out (al1 _ _)), Li ⟨CB.new _ _ _, O9.out.alloc _⟩⟩
 case rest =>
 obtain ⟨g21, c21, A21, ⟨rfl, rfl⟩, hge, HP1, QN⟩ := hcut
 have hh : ∃ P2 : World → Prop, Hid (Kp wc.heap.size P2) ∧ Hid (P2 wc) ∧ (∀ X, P2 X → P X) ∧ Hid (∀ X, P2 X → RX X g21 A21 c21 rw) := ⟨fun X => P X ∧ RX X g21 A21 c21 rw, Li (HK.out.row (Nat.le_of_lt (Nat.lt_of_le_of_lt hge QN.out.1.lt)) QN.out.1.lt), Li ⟨HP1.out, QN.out⟩, fun _ h => h.1, Li fun _ h => h.2⟩
 clear HP1 QN HP HK hge
 obtain ⟨P, HK, HP, pp, PR21⟩ := hh
 replace PP := Li (fun X h => PP.out X (pp X h))
 replace LD := Li (fun X h => LD.out X (pp X h))
 replace PSs := Li (fun X h => PSs.out X (pp X h))
 replace PSt := Li (fun X h => PSt.out X (pp X h))
 replace PR17 := Li (fun X h => PR17.out X (pp X h))
 replace PR18 := Li (fun X h => PR18.out X (pp X h))
 replace PR19 := Li (fun X h => PR19.out X (pp X h))
 clear pp
 generalize wc = W13 at *
 go_upto_region 13 with fail
 go_cut [23, 24] from 114 to 122 (fun u e wx => ∃ (g c : Nat) (A : Option Addr), (u = .pointer (some ⟨g, 0, none⟩) ∧ e = .int .i64 0) ∧ W13.heap.size ≤ g ∧ Hid (P wx) ∧ Hid (RX wx g A c rw))
 case first => as_aux_lemma =>
  have yr := And.intro ((PR17.out _ HP.out).1.cell 0 rfl) (PR17.out _ HP.out).1.lt
  go_wp2_with (go_at_call 23; refine (Translate_any A2 M.length c2 M A17 r.length c17 r lo hi _ rfl (PP.out _ HP.out).2.1.2.row.2.2.2 (by omega) hcap hcm (fun d hd => (HW.out d hd).cw) rfl (PR17.out _ HP.out).2.ces.1 (by have := HSr.out.1; omega) (big_of HSr.out.2) (PR17.out _ HP.out).2.ces.2.1 (PR17.out _ HP.out).2.ces.2.2 (PP.out _ HP.out).1.2).mono ?_; rintro e v9 ⟨⟨A9, c9, rfl, ho9⟩, hb9⟩; rw [E3.out] at ho9; rw [E3.out]; have O9 := Li (show OX _ A9 c9 rw from ⟨_, ho9⟩); have HP9 := Li (HK.out.1 _ _ HP.out hb9); have HB := Li hb9.size; clear ho9 hb9)
  go_meet
  exact ⟨_, c9, A9, ⟨rfl, rfl⟩, HB.out, Li (HK.out.1 _ _ HP9.out (al1 _ _)), Li ⟨CB.new _ _ _, O9.out.alloc _⟩⟩
 case rest =>
 obtain ⟨g23, c23, A23, ⟨rfl, rfl⟩, hge, HP1, QN⟩ := hcut
 have hh : ∃ P2 : World → Prop, Hid (Kp wc.heap.size P2) ∧ Hid (P2 wc) ∧ (∀ X, P2 X → P X) ∧ Hid (∀ X, P2 X → RX X g23 A23 c23 rw) := ⟨fun X => P X ∧ RX X g23 A23 c23 rw, Li (HK.out.row (Nat.le_of_lt (Nat.lt_of_le_of_lt hge QN.out.1.lt)) QN.out.1.lt), Li ⟨HP1.out, QN.out⟩, fun _ h => h.1, Li fun _ h => h.2⟩
 clear HP1 QN HP HK hge
 obtain ⟨P, HK, HP, pp, PR23⟩ := hh
 replace PP := Li (fun X h => PP.out X (pp X h))
 replace LD := Li (fun X h => LD.out X (pp X h))
 replace PSs := Li (fun X h => PSs.out X (pp X h))
 replace PSt := Li (fun X h => PSt.out X (pp X h))
 replace PR17 := Li (fun X h => PR17.out X (pp X h))
 replace PR18 := Li (fun X h => PR18.out X (pp X h))
 replace PR19 := Li (fun X h => PR19.out X (pp X h))
 replace PR21 := Li (fun X h => PR21.out X (pp X h))
 clear pp
 generalize wc = W14 at *
 go_upto_region 14 with fail
 go_cut [25, 26] from 123 to 131 (fun u e wx => ∃ (g c : Nat) (A : Option Addr), (u = .pointer (some ⟨g, 0, none⟩) ∧ e = .int .i64 0) ∧ W14.heap.size ≤ g ∧ Hid (P wx) ∧ Hid (RX wx g A c rd))
 case first => as_aux_lemma =>
  have yr := And.intro ((PR18.out _ HP.out).1.cell 0 rfl) (PR18.out _ HP.out).1.lt
  go_wp2_with (go_at_call 23; refine (Translate_any A2 M.length c2 M A18 q.length c18 q hi mid _ rfl (PP.out _ HP.out).2.1.2.row.2.2.2 (by omega) hcap hcm (fun d hd => (HW.out d hd).cw) rfl (PR18.out _ HP.out).2.ces.1 (by have := HSq.out.1; omega) (big_of HSq.out.2) (PR18.out _ HP.out).2.ces.2.1 (PR18.out _ HP.out).2.ces.2.2 (PP.out _ HP.out).1.2).mono ?_; rintro e v9 ⟨⟨A9, c9, rfl, ho9⟩, hb9⟩; rw [E4.out] at ho9; rw [E4.out]; have O9 := Li (show OX _ A9 c9 rd from ⟨_, ho9⟩); have HP9 := Li (HK.out.1 _ _ HP.out hb9); have HB := Li hb9.size; clear ho9 hb9)
  go_meet
  exact ⟨_, c9, A9, ⟨rfl, rfl⟩, HB.out, Li (HK.out.1 _ _ HP9.out (al1 _ _)), Li ⟨CB.new _ _ _, O9.out.alloc _⟩⟩
 case rest =>
 obtain ⟨g25, c25, A25, ⟨rfl, rfl⟩, hge, HP1, QN⟩ := hcut
 have hh : ∃ P2 : World → Prop, Hid (Kp wc.heap.size P2) ∧ Hid (P2 wc) ∧ (∀ X, P2 X → P X) ∧ Hid (∀ X, P2 X → RX X g25 A25 c25 rd) := ⟨fun X => P X ∧ RX X g25 A25 c25 rd, Li (HK.out.row (Nat.le_of_lt (Nat.lt_of_le_of_lt hge QN.out.1.lt)) QN.out.1.lt), Li ⟨HP1.out, QN.out⟩, fun _ h => h.1, Li fun _ h => h.2⟩
 clear HP1 QN HP HK hge
 obtain ⟨P, HK, HP, pp, PR25⟩ := hh
 replace PP := Li (fun X h => PP.out X (pp X h))
 replace LD := Li (fun X h => LD.out X (pp X h))
 replace PSs := Li (fun X h => PSs.out X (pp X h))
 replace PSt := Li (fun X h => PSt.out X (pp X h))
 replace PR17 := Li (fun X h => PR17.out X (pp X h))
 replace PR18 := Li (fun X h => PR18.out X (pp X h))
 replace PR19 := Li (fun X h => PR19.out X (pp X h))
 replace PR21 := Li (fun X h => PR21.out X (pp X h))
 replace PR23 := Li (fun X h => PR23.out X (pp X h))
 clear pp
 generalize wc = W15 at *
 go_upto_region 15 with fail
 go_cut [27, 28] from 132 to 140 (fun u e wx => ∃ (g c : Nat) (A : Option Addr), (u = .pointer (some ⟨g, 0, none⟩) ∧ e = .int .i64 0) ∧ W15.heap.size ≤ g ∧ Hid (P wx) ∧ Hid (RX wx g A c rb))
 case first => as_aux_lemma =>
  have yr := And.intro ((PR25.out _ HP.out).1.cell 0 rfl) (PR25.out _ HP.out).1.lt
  go_wp2_with (go_at_call 23; refine (Translate_any A2 M.length c2 M A25 rd.length c25 rd mid lo _ rfl (PP.out _ HP.out).2.1.2.row.2.2.2 (by omega) hcap hcm (fun d hd => (HW.out d hd).cw) rfl (PR25.out _ HP.out).2.ces.1 (by have := HSrd.out.1; omega) (big_of HSrd.out.2) (PR25.out _ HP.out).2.ces.2.1 (PR25.out _ HP.out).2.ces.2.2 (PP.out _ HP.out).1.2).mono ?_; rintro e v9 ⟨⟨A9, c9, rfl, ho9⟩, hb9⟩; rw [E5.out] at ho9; rw [E5.out]; have O9 := Li (show OX _ A9 c9 rb from ⟨_, ho9⟩); have HP9 := Li (HK.out.1 _ _ HP.out hb9); have HB := Li hb9.size; clear ho9 hb9)
  go_meet
  exact ⟨_, c9, A9, ⟨rfl, rfl⟩, HB.out, Li (HK.out.1 _ _ HP9.out (al1 _ _)), Li ⟨CB.new _ _ _, O9.out.alloc _⟩⟩
 case rest =>
 obtain ⟨g27, c27, A27, ⟨rfl, rfl⟩, hge, HP1, QN⟩ := hcut
 have hh : ∃ P2 : World → Prop, Hid (Kp wc.heap.size P2) ∧ Hid (P2 wc) ∧ (∀ X, P2 X → P X) ∧ Hid (∀ X, P2 X → RX X g27 A27 c27 rb) := ⟨fun X => P X ∧ RX X g27 A27 c27 rb, Li (HK.out.row (Nat.le_of_lt (Nat.lt_of_le_of_lt hge QN.out.1.lt)) QN.out.1.lt), Li ⟨HP1.out, QN.out⟩, fun _ h => h.1, Li fun _ h => h.2⟩
 clear HP1 QN HP HK hge
 obtain ⟨P, HK, HP, pp, PR27⟩ := hh
 replace PP := Li (fun X h => PP.out X (pp X h))
 replace LD := Li (fun X h => LD.out X (pp X h))
 replace PSs := Li (fun X h => PSs.out X (pp X h))
 replace PSt := Li (fun X h => PSt.out X (pp X h))
 replace PR17 := Li (fun X h => PR17.out X (pp X h))
 replace PR18 := Li (fun X h => PR18.out X (pp X h))
 replace PR19 := Li (fun X h => PR19.out X (pp X h))
 replace PR21 := Li (fun X h => PR21.out X (pp X h))
 replace PR23 := Li (fun X h => PR23.out X (pp X h))
 replace PR25 := Li (fun X h => PR25.out X (pp X h))
 clear pp
 generalize wc = W16 at *
 go_upto_region 16 with fail
 go_cut [29, 30] from 141 to 149 (fun u e wx => ∃ (g c : Nat) (A : Option Addr), (u = .pointer (some ⟨g, 0, none⟩) ∧ e = .int .i64 0) ∧ W16.heap.size ≤ g ∧ Hid (P wx) ∧ Hid (RX wx g A c rb))
 case first => as_aux_lemma =>
  have yr := And.intro ((PR18.out _ HP.out).1.cell 0 rfl) (PR18.out _ HP.out).1.lt
  go_wp2_with (go_at_call 23; refine (Translate_any A2 M.length c2 M A18 q.length c18 q hi lo _ rfl (PP.out _ HP.out).2.1.2.row.2.2.2 (by omega) hcap hcm (fun d hd => (HW.out d hd).cw) rfl (PR18.out _ HP.out).2.ces.1 (by have := HSq.out.1; omega) (big_of HSq.out.2) (PR18.out _ HP.out).2.ces.2.1 (PR18.out _ HP.out).2.ces.2.2 (PP.out _ HP.out).1.2).mono ?_; rintro e v9 ⟨⟨A9, c9, rfl, ho9⟩, hb9⟩; rw [E6.out] at ho9; rw [E6.out]; have O9 := Li (show OX _ A9 c9 rb from ⟨_, ho9⟩); have HP9 := Li (HK.out.1 _ _ HP.out hb9); have HB := Li hb9.size; clear ho9 hb9)
  go_meet
  exact ⟨_, c9, A9, ⟨rfl, rfl⟩, HB.out, Li (HK.out.1 _ _ HP9.out (al1 _ _)), Li ⟨CB.new _ _ _, O9.out.alloc _⟩⟩
 case rest =>
 obtain ⟨g29, c29, A29, ⟨rfl, rfl⟩, hge, HP1, QN⟩ := hcut
 have hh : ∃ P2 : World → Prop, Hid (Kp wc.heap.size P2) ∧ Hid (P2 wc) ∧ (∀ X, P2 X → P X) ∧ Hid (∀ X, P2 X → RX X g29 A29 c29 rb) := ⟨fun X => P X ∧ RX X g29 A29 c29 rb, Li (HK.out.row (Nat.le_of_lt (Nat.lt_of_le_of_lt hge QN.out.1.lt)) QN.out.1.lt), Li ⟨HP1.out, QN.out⟩, fun _ h => h.1, Li fun _ h => h.2⟩
 clear HP1 QN HP HK hge
 obtain ⟨P, HK, HP, pp, PR29⟩ := hh
 replace PP := Li (fun X h => PP.out X (pp X h))
 replace LD := Li (fun X h => LD.out X (pp X h))
 replace PSs := Li (fun X h => PSs.out X (pp X h))
 replace PSt := Li (fun X h => PSt.out X (pp X h))
 replace PR17 := Li (fun X h => PR17.out X (pp X h))
 replace PR18 := Li (fun X h => PR18.out X (pp X h))
 replace PR19 := Li (fun X h => PR19.out X (pp X h))
 replace PR21 := Li (fun X h => PR21.out X (pp X h))
 replace PR23 := Li (fun X h => PR23.out X (pp X h))
 replace PR25 := Li (fun X h => PR25.out X (pp X h))
 replace PR27 := Li (fun X h => PR27.out X (pp X h))
 clear pp
 generalize wc = W17 at *
 go_upto_region 17 with fail
 go_cut [31, 32] from 150 to 158 (fun u e wx => ∃ (g c : Nat) (A : Option Addr), (u = .pointer (some ⟨g, 0, none⟩) ∧ e = .int .i64 0) ∧ W17.heap.size ≤ g ∧ Hid (P wx) ∧ Hid (RX wx g A c r))
 case first => as_aux_lemma =>
  have yr := And.intro ((PR17.out _ HP.out).1.cell 0 rfl) (PR17.out _ HP.out).1.lt
  go_wp2_with (go_at_call 23; refine (Translate_any A2 M.length c2 M A17 r.length c17 r lo lo _ rfl (PP.out _ HP.out).2.1.2.row.2.2.2 (by omega) hcap hcm (fun d hd => (HW.out d hd).cw) rfl (PR17.out _ HP.out).2.ces.1 (by have := HSr.out.1; omega) (big_of HSr.out.2) (PR17.out _ HP.out).2.ces.2.1 (PR17.out _ HP.out).2.ces.2.2 (PP.out _ HP.out).1.2).mono ?_; rintro e v9 ⟨⟨A9, c9, rfl, ho9⟩, hb9⟩; rw [E7.out] at ho9; rw [E7.out]; have O9 := Li (show OX _ A9 c9 r from ⟨_, ho9⟩); have HP9 := Li (HK.out.1 _ _ HP.out hb9); have HB := Li hb9.size; clear ho9 hb9)
  go_meet
  exact ⟨_, c9, A9, ⟨rfl, rfl⟩, HB.out, Li (HK.out.1 _ _ HP9.out (al1 _ _)), Li ⟨CB.new _ _ _, O9.out.alloc _⟩⟩
 case rest =>
 obtain ⟨g31, c31, A31, ⟨rfl, rfl⟩, hge, HP1, QN⟩ := hcut
 have hh : ∃ P2 : World → Prop, Hid (Kp wc.heap.size P2) ∧ Hid (P2 wc) ∧ (∀ X, P2 X → P X) ∧ Hid (∀ X, P2 X → RX X g31 A31 c31 r) := ⟨fun X => P X ∧ RX X g31 A31 c31 r, Li (HK.out.row (Nat.le_of_lt (Nat.lt_of_le_of_lt hge QN.out.1.lt)) QN.out.1.lt), Li ⟨HP1.out, QN.out⟩, fun _ h => h.1, Li fun _ h => h.2⟩
 clear HP1 QN HP HK hge
 obtain ⟨P, HK, HP, pp, PR31⟩ := hh
 replace PP := Li (fun X h => PP.out X (pp X h))
 replace LD := Li (fun X h => LD.out X (pp X h))
 replace PSs := Li (fun X h => PSs.out X (pp X h))
 replace PSt := Li (fun X h => PSt.out X (pp X h))
 replace PR17 := Li (fun X h => PR17.out X (pp X h))
 replace PR18 := Li (fun X h => PR18.out X (pp X h))
 replace PR19 := Li (fun X h => PR19.out X (pp X h))
 replace PR21 := Li (fun X h => PR21.out X (pp X h))
 replace PR23 := Li (fun X h => PR23.out X (pp X h))
 replace PR25 := Li (fun X h => PR25.out X (pp X h))
 replace PR27 := Li (fun X h => PR27.out X (pp X h))
 replace PR29 := Li (fun X h => PR29.out X (pp X h))
 clear pp
 generalize wc = W18 at *
 go_upto_region 18 with fail
 go_upto_region 19 with fail
 have tok1 : Hid True := Li trivial
 have y021 := (PR21.out _ HP.out).1.cell 0 rfl
 have z021 := (PR21.out _ HP.out).1.lt
 have y023 := (PR23.out _ HP.out).1.cell 0 rfl
 have z023 := (PR23.out _ HP.out).1.lt
 go_wp2_with (first | (have tk1 := tok1; go_at_call 15; refine (sameR A21 A23 c21 c23 rw _ (PR21.out _ HP.out).2.ces.1 (PR23.out _ HP.out).2 (by have := HSrw.out.1; omega)).mono ?_; rintro e u1 ⟨rfl, hb9⟩; have HQ1 := Li (HK.out.1 _ _ HP.out hb9); have y127 := (PR27.out _ HQ1.out).1.cell 0 rfl; have z127 := (PR27.out _ HQ1.out).1.lt; have y129 := (PR29.out _ HQ1.out).1.cell 0 rfl; have z129 := (PR29.out _ HQ1.out).1.lt; have tok2 : Hid True := Li trivial; clear hb9 tk1 tok1) | (have tk2 := tok2; go_at_call 15; refine (sameR A27 A29 c27 c29 rb _ (PR27.out _ HQ1.out).2.ces.1 (PR29.out _ HQ1.out).2 (by have := HSrb.out.1; omega)).mono ?_; rintro e u2 ⟨rfl, hb9⟩; have HQ2 := Li (HK.out.1 _ _ HQ1.out hb9); have y231 := (PR31.out _ HQ2.out).1.cell 0 rfl; have z231 := (PR31.out _ HQ2.out).1.lt; have y217 := (PR17.out _ HQ2.out).1.cell 0 rfl; have z217 := (PR17.out _ HQ2.out).1.lt; have tok3 : Hid True := Li trivial; clear hb9 tk2 tok2) | (have tk3 := tok3; go_at_call 15; refine (sameR A31 A17 c31 c17 r _ (PR31.out _ HQ2.out).2.ces.1 (PR17.out _ HQ2.out).2 (by have := HSr.out.1; omega)).mono ?_; rintro e u3 ⟨rfl, hb9⟩; have HQ3 := Li (HK.out.1 _ _ HQ2.out hb9); have tok4 : Hid True := Li trivial; clear hb9 tk3 tok3))
 go_ret
 exact ⟨rfl, (PP.out _ HQ3.out).1.1⟩
end Go.Proofs.YtfeemipnalgjnaaGreat.cmp
