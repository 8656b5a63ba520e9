/-
 LensOwn, walked.
-/
import Derived.Test.YtfeemipnalgjnaaGreatHd
import Derived.Test.YtfeemipnalgjnaaGreatHd
import Derived.Test.YtfeemipnalgjnaaGreatTrM
import Derived.Test.YtfeemipnalgjnaaGreatSnW
namespace Go.Proofs.YtfeemipnalgjnaaGreat.owl
open Go.RowKit Go.Proofs.YtfeemipnalgjnaaGreat

theorem sizeCe : (Tryz.prog.info? 66).map (·.size) = some 4 := by kernel_rfl
theorem ob_ne {v v' : Value} {N : Nat} {E : TypeId} {k : Nat} {X : World} {L : List (List Value)} (h : ∀ g, v.ownBlock = some g → g < N) (h' : Own E k X N v' L) : v.ownBlock = none ∨ v.ownBlock ≠ v'.ownBlock := by
 cases hv : v.ownBlock with
 | none => left; rfl
 | some g =>
  right
  intro e
  have h1 := (h'.lt g e.symm).1
  have h2 := h g hv
  omega
theorem ob_sym {v v' : Value} (h : v.ownBlock = none ∨ v.ownBlock ≠ v'.ownBlock) : v'.ownBlock = none ∨ v'.ownBlock ≠ v.ownBlock := by
 rcases h with h | h
 ·
  cases hv : v'.ownBlock with
  | none => left; rfl
  | some g => right; rw [h]; exact fun e => by cases e
 ·
  exact .inr (Ne.symm h)
/-- what the loops leave as it is -/
def PF (w : World) (K SL l8 l9 : List Value) (gS g6 g8 g9 b6 : Nat) (A4 A6 : Option Addr) (n4 c4 c6 : Nat) (fs : List Fd) (r : List Ce) (X : World) : Prop :=
 Below w.heap.size w X ∧ CB X w.heap.size 27 K ∧ CB X gS 35 SL ∧ Own 58 4 X w.heap.size (.slice A4 n4 c4) (fs.map Fd.cells) ∧ CB X g6 30 [.slice A6 r.length c6] ∧ Own 66 4 X b6 (.slice A6 r.length c6) (r.map Ce.cells) ∧ CB X g8 30 l8 ∧ CB X g9 30 l9
section
variable {w X Y : World} {K SL l8 l9 : List Value} {gS g6 g8 g9 b6 : Nat} {A4 A6 : Option Addr} {n4 c4 c6 : Nat} {fs : List Fd} {r : List Ce}
theorem PF.up (h : PF w K SL l8 l9 gS g6 g8 g9 b6 A4 A6 n4 c4 c6 fs r X) (hb : Below X.heap.size X Y) : PF w K SL l8 l9 gS g6 g8 g9 b6 A4 A6 n4 c4 c6 fs r Y :=
 ⟨below_step h.1 h.1.size hb, h.2.1.up hb, h.2.2.1.up hb, h.2.2.2.1.up hb, h.2.2.2.2.1.up hb, h.2.2.2.2.2.1.up hb, h.2.2.2.2.2.2.1.up hb, h.2.2.2.2.2.2.2.up hb⟩
theorem PF.put (h : PF w K SL l8 l9 gS g6 g8 g9 b6 A4 A6 n4 c4 c6 fs r X) {g n c base : Nat} {L : List (List Value)} (ho : Own 66 4 X base (.slice (some ⟨g, 0, none⟩) n c) L) (hb : w.heap.size ≤ base)
  (hn : (Value.slice A6 r.length c6).ownBlock = none ∨ (Value.slice A6 r.length c6).ownBlock ≠ (Value.slice (some ⟨g, 0, none⟩) n c).ownBlock) (hg : X.grownBy Y (some g)) : PF w K SL l8 l9 gS g6 g8 g9 b6 A4 A6 n4 c4 c6 fs r Y :=
 have hgb := ho.lt g rfl
 ⟨below_grown h.1 hg h.1.size (by omega), h.2.1.grown hg (ho.ne h.2.1 (by decide)), h.2.2.1.grown hg (ho.ne h.2.2.1 (by decide)), h.2.2.2.1.kept hg (h.2.2.2.1.ne2 ho (by decide)), h.2.2.2.2.1.grown hg (ho.ne h.2.2.2.2.1 (by decide)), h.2.2.2.2.2.1.kept hg hn, h.2.2.2.2.2.2.1.grown hg (ho.ne h.2.2.2.2.2.2.1 (by decide)), h.2.2.2.2.2.2.2.grown hg (ho.ne h.2.2.2.2.2.2.2 (by decide))⟩
end
theorem some_of {X : World} {b n c : Nat} {A : Option Addr} {L : List (List Value)} (h : Own 66 4 X b (.slice A n c) L) : 0 < L.length → ∃ g, A = some ⟨g, 0, none⟩ := by
 intro hl
 rcases h.shape with ⟨_, e⟩ | ⟨g, cap, e, _⟩
 ·
  subst e; simp at hl
 ·
  injection e with e1
  exact ⟨g, e1⟩
set_option maxHeartbeats 16000000 in
set_option maxRecDepth 20000 in
theorem walk (A : Option Addr) (n c : Nat) (l : List Ch) (ch : Ch) (V : Option Addr) (m cv : Nat) (raw : List Va) (w : World) (hn : n = l.length) (hs : Chs w w.heap.size A l) (hl : n ≤ 9223372036854775807) (hrw : ∀ d ∈ l, RW d) (hC : RW ch) (hm : m = raw.length) (hv : Vas w w.heap.size V raw) (hvf : ∀ u ∈ raw, u.Fine) (hml : m ≤ 9223372036854775807) (hG : GV w) :
  Calls Tryz.prog 9 #[.agg #[.slice A n c, .int .i64 ch.kind, .int .i64 ch.id, .int .i64 ch.wi, .string ch.nm, .string ch.ot, .int .i64 ch.ty, .int .i64 ch.pa, .string ch.sep, .slice V m cv]] w fun e w' => e = .returned (.bool true) ∧ Below w.heap.size w w' := by
 have HN := Li hn
 have HS := Li hs
 have HR := Li hrw
 have HC := Li hC
 have HM := Li hm
 have HV := Li hv
 have HVF := Li hvf
 have C0 := Li (CB.new w 27 [.slice A n c, .int .i64 ch.kind, .int .i64 ch.id, .int .i64 ch.wi, .string ch.nm, .string ch.ot, .int .i64 ch.ty, .int .i64 ch.pa, .string ch.sep, .slice V m cv])
 have B0 := Li (al1 w (.cells #[.slice A n c, .int .i64 ch.kind, .int .i64 ch.id, .int .i64 ch.wi, .string ch.nm, .string ch.ot, .int .i64 ch.ty, .int .i64 ch.pa, .string ch.sep, .slice V m cv] 27))
 have G0 := Li (hG.up (al1 w (.cells #[.slice A n c, .int .i64 ch.kind, .int .i64 ch.id, .int .i64 ch.wi, .string ch.nm, .string ch.ot, .int .i64 ch.ty, .int .i64 ch.pa, .string ch.sep, .slice V m cv] 27)))
 obtain ⟨⟨fs, x⟩, hso⟩ : ∃ s, sOf l = s := ⟨_, rfl⟩
 have HSO := Li hso
 have HO := Li (show Ok ⟨fs, x⟩ by rw [← hso]; exact sOf_ok l)
 obtain ⟨cd, hcd⟩ : ∃ cd, chgR ⟨fs, x⟩ ch = cd := ⟨_, rfl⟩
 have HCD := Li hcd
 have HCW := Li (show CW cd by rw [← hcd]; exact (chg_rw hC HO.out.big.2).cw)
 have hw0 := hG.lt
 clear hn hs hrw hC hm hv hvf hG hso hcd
 go_enter Tryz.func9, Tryz.ntmps9
 have c00 := C0.out.cell 0 rfl
 go_upto_if 16 with (first | (go_at_call 10; refine (sanity_any _ G0.out).mono ?_; rintro e w1 ⟨rfl, hb1⟩; have C1 := Li (C0.out.up hb1); have B1 := Li (below_step B0.out B0.out.size hb1); have G1 := Li (G0.out.up hb1); have z1 := C1.out.lt; have y10 := C1.out.cell 0 rfl; have y11 := C1.out.cell 1 rfl; have y12 := C1.out.cell 2 rfl; have y13 := C1.out.cell 3 rfl; have y14 := C1.out.cell 4 rfl; have y15 := C1.out.cell 5 rfl; have y16 := C1.out.cell 6 rfl; have y17 := C1.out.cell 7 rfl; have y18 := C1.out.cell 8 rfl; have y19 := C1.out.cell 9 rfl; clear hb1) | (go_at_call 11; refine (small_any A n c l ch V m cv raw _ HM.out (RowAt.up HV.out B1.out) hml).mono ?_; rintro e w2 ⟨⟨b, rfl⟩, hb2⟩; have C2 := Li (C1.out.up hb2); have B2 := Li (below_step B1.out B1.out.size hb2); have G2 := Li (G1.out.up hb2); have z2 := C2.out.lt; have y20 := C2.out.cell 0 rfl; have y21 := C2.out.cell 1 rfl; have y22 := C2.out.cell 2 rfl; have y23 := C2.out.cell 3 rfl; have y24 := C2.out.cell 4 rfl; have y25 := C2.out.cell 5 rfl; have y26 := C2.out.cell 6 rfl; have y27 := C2.out.cell 7 rfl; have y28 := C2.out.cell 8 rfl; have y29 := C2.out.cell 9 rfl; clear hb2))
 cases b with
 | false =>
  go_wp2
  go_ret
  exact ⟨rfl, B2.out⟩
 | true =>
 go_upto_region 5 with (go_at_call 12; refine (made_any A n c l ch V m cv raw _ HN.out (HS.out.up B2.out) hl HR.out HC.out).mono ?_; rintro e w3 ⟨⟨A4, n4, c4, rfl, hn4, ho4⟩, hb3⟩; rw [HSO.out] at hn4 ho4; rw [HSO.out, HCD.out]; have HN4 : Hid (n4 = fs.length) := hn4; have C3 := Li (C2.out.up hb3); have B3 := Li (below_step B2.out B2.out.size hb3); have G3 := Li (G2.out.up hb3); have O4 := Li (ho4.low (b := w.heap.size) B2.out.size); clear hb3 ho4 hn4)
 have h34 := al2 w3 (.cells #[.slice A4 n4 c4, .int .i64 x] 35) (.cells #[.int .i64 cd.kind, .int .i64 cd.id, .int .i64 cd.wi, .string cd.nm, .string cd.ot, .int .i64 cd.ty, .int .i64 cd.pa, .string cd.sep] 24)
 have hs5 : w.heap.size ≤ ((w3.alloc (.cells #[.slice A4 n4 c4, .int .i64 x] 35)).alloc (.cells #[.int .i64 cd.kind, .int .i64 cd.id, .int .i64 cd.wi, .string cd.nm, .string cd.ot, .int .i64 cd.ty, .int .i64 cd.pa, .string cd.sep] 24)).heap.size := Nat.le_trans B3.out.size h34.size
 have hh : ∃ P : World → Prop, Hid (Kp ((w3.alloc (.cells #[.slice A4 n4 c4, .int .i64 x] 35)).alloc (.cells #[.int .i64 cd.kind, .int .i64 cd.id, .int .i64 cd.wi, .string cd.nm, .string cd.ot, .int .i64 cd.ty, .int .i64 cd.pa, .string cd.sep] 24)).heap.size P) ∧ Hid (P ((w3.alloc (.cells #[.slice A4 n4 c4, .int .i64 x] 35)).alloc (.cells #[.int .i64 cd.kind, .int .i64 cd.id, .int .i64 cd.wi, .string cd.nm, .string cd.ot, .int .i64 cd.ty, .int .i64 cd.pa, .string cd.sep] 24))) ∧ Hid (∀ X, P X → (Below w.heap.size w X ∧ GV X) ∧ (CB X w.heap.size 27 [.slice A n c, .int .i64 ch.kind, .int .i64 ch.id, .int .i64 ch.wi, .string ch.nm, .string ch.ot, .int .i64 ch.ty, .int .i64 ch.pa, .string ch.sep, .slice V m cv] ∧ CB X w3.heap.size 35 [.slice A4 n4 c4, .int .i64 x]) ∧ CB X (w3.heap.size + 1) 24 [.int .i64 cd.kind, .int .i64 cd.id, .int .i64 cd.wi, .string cd.nm, .string cd.ot, .int .i64 cd.ty, .int .i64 cd.pa, .string cd.sep] ∧ Own 58 4 X w.heap.size (.slice A4 n4 c4) (fs.map Fd.cells)) :=
  ⟨fun X => (Below w.heap.size w X ∧ GV X) ∧ (CB X w.heap.size 27 [.slice A n c, .int .i64 ch.kind, .int .i64 ch.id, .int .i64 ch.wi, .string ch.nm, .string ch.ot, .int .i64 ch.ty, .int .i64 ch.pa, .string ch.sep, .slice V m cv] ∧ CB X w3.heap.size 35 [.slice A4 n4 c4, .int .i64 x]) ∧ CB X (w3.heap.size + 1) 24 [.int .i64 cd.kind, .int .i64 cd.id, .int .i64 cd.wi, .string cd.nm, .string cd.ot, .int .i64 cd.ty, .int .i64 cd.pa, .string cd.sep] ∧ Own 58 4 X w.heap.size (.slice A4 n4 c4) (fs.map Fd.cells), Li (((Kp.bel hs5).and (Kp.gv _ (by omega))).and (((Kp.cb (by decide)).and (Kp.cb (by decide))).and ((Kp.cb (by decide)).and (Kp.own (by decide))))), Li ⟨⟨below_step B3.out B3.out.size h34, G3.out.up h34⟩, ⟨C3.out.up h34, (CB.new w3 35 [.slice A4 n4 c4, .int .i64 x]).alloc _⟩, CB.new1 w3 (.cells #[.slice A4 n4 c4, .int .i64 x] 35) 24 [.int .i64 cd.kind, .int .i64 cd.id, .int .i64 cd.wi, .string cd.nm, .string cd.ot, .int .i64 cd.ty, .int .i64 cd.pa, .string cd.sep], O4.out.up h34⟩, Li fun _ h => h⟩
 clear C0 C1 C2 C3 B0 B1 B2 B3 G0 G1 G2 G3 O4 h34 hs5 z1 z2 c00 y10 y11 y12 y13 y14 y15 y16 y17 y18 y19 y20 y21 y22 y23 y24 y25 y26 y27 y28 y29
 obtain ⟨P, HK, HP, PP⟩ := hh
 generalize w3.heap.size = gS at *
 generalize (w3.alloc (.cells #[.slice A4 n4 c4, .int .i64 x] 35)).alloc (.cells #[.int .i64 cd.kind, .int .i64 cd.id, .int .i64 cd.wi, .string cd.nm, .string cd.ot, .int .i64 cd.ty, .int .i64 cd.pa, .string cd.sep] 24) = W5 at *
 have LD := Li (fun X (h : P X) => And.intro (PP.out X h).2.1.1.c10 (And.intro (PP.out X h).2.1.1.lt (And.intro (PP.out X h).2.1.2.c2 (And.intro (PP.out X h).2.1.2.lt (And.intro (PP.out X h).2.2.1.c8 (PP.out X h).2.2.1.lt)))))
 obtain ⟨M, hMl⟩ : ∃ M, madeR l 20 = M := ⟨_, rfl⟩
 have HML := Li hMl
 have hML : M.length ≤ 20 := by
  rw [← hMl]
  have := made_len (l := l.take 20) (s := Sc.new)
  rw [List.length_take] at this
  unfold madeR
  omega
 have HGM := Li (show goodG Sc.new M by rw [← hMl]; exact made_good l)
 have hMW := made_rw ok_new (fun c hc => HR.out c (List.mem_of_mem_take hc)) (l := l.take 20)
 rw [show madeG Sc.new (l.take 20) = M from hMl] at hMW
 have HW := Li hMW
 have HSA := Li (show sAt M M.length = ⟨fs, x⟩ by
  have h1 := (aft_at HGM.out M.length).1
  rw [List.take_length] at h1
  rw [← h1, ← HSO.out, ← hMl]
  rfl)
 clear hMl hMW
 have hld := LD.out _ HP.out
 go_cut [6] from 23 to 26 (fun u wx => ∃ (g c : Nat) (A : Option Addr) (r : List Ce), u = .pointer (some ⟨g, 0, none⟩) ∧ W5.heap.size ≤ g ∧ Hid (FitL fs r) ∧ Hid (r = rowD fs raw) ∧ Hid (r.length ≤ 64 ∧ ∀ q ∈ r, q.v.s.size ≤ 200) ∧ Hid (P wx) ∧ Hid (RX wx g A c r))
 case first =>
  go_wp2_with (go_at_call 14; refine (RRow_det A4 n4 c4 x fs V m cv raw _ HN4.out (PP.out _ HP.out).2.2.2.row.2.2.2 HO.out HM.out (RowAt.up HV.out (PP.out _ HP.out).1.1) hml HVF.out).mono ?_; rintro e v9 ⟨⟨A9, c9, r, rfl, ho8, hf8, hs8, hl8, hd8⟩, hb9⟩; have O9 := Li (show OX _ A9 c9 r from ⟨_, ho8⟩); have HFr := Li hf8; have HDr := Li hd8; have HSr := Li (And.intro hl8 hs8); have HP9 := Li (HK.out.1 _ _ HP.out hb9); have HB := Li hb9.size; clear ho8 hf8 hs8 hl8 hd8 hb9)
  go_meet
  exact ⟨_, c9, A9, r, rfl, HB.out, HFr, HDr, HSr, Li (HK.out.1 _ _ HP9.out (al1 _ _)), Li ⟨CB.new _ _ _, O9.out.alloc _⟩⟩
 case rest =>
 obtain ⟨g6, c6, A6, r, rfl, hge, HFr, HDr, HSr, HP1, QN⟩ := hcut
 clear hld
 have hh : ∃ P2 : World → Prop, Hid (Kp wc.heap.size P2) ∧ Hid (P2 wc) ∧ (∀ X, P2 X → P X) ∧ Hid (∀ X, P2 X → RX X g6 A6 c6 r) := ⟨fun X => P X ∧ RX X g6 A6 c6 r, Li (HK.out.row (Nat.le_of_lt (Nat.lt_of_le_of_lt hge QN.out.1.lt)) QN.out.1.lt), Li ⟨HP1.out, QN.out⟩, fun _ h => h.1, Li fun _ h => h.2⟩
 clear HP1 QN HP HK hge
 obtain ⟨P, HK, HP, pp, PR6⟩ := hh
 replace PP := Li (fun X h => PP.out X (pp X h))
 replace LD := Li (fun X h => LD.out X (pp X h))
 clear pp
 generalize wc = W6 at *
 have hld := LD.out _ HP.out
 go_upto_region 7 with (go_at_call 22; refine (RMade_any A n c 20 l _ HN.out (HS.out.up (PP.out _ HP.out).1.1) hl (by decide) HR.out).mono ?_; rintro e w3 ⟨⟨A2, c2, rfl, ho2⟩, hb3⟩; rw [HML.out] at ho2; rw [HML.out]; have HP3 := Li (HK.out.1 _ _ HP.out hb3); have HZ3 := Li hb3.size; have O3 := Li (ho2.low (b := w.heap.size) (PP.out _ HP.out).1.1.size); clear hb3 ho2)
 have hh : ∃ P2 : World → Prop, Hid (Kp w3.heap.size P2) ∧ Hid (P2 w3) ∧ (∀ X, P2 X → P X) ∧ Hid (∀ X, P2 X → Own 24 8 X w.heap.size (.slice A2 M.length c2) (M.map Ch.cells)) := ⟨fun X => P X ∧ Own 24 8 X w.heap.size (.slice A2 M.length c2) (M.map Ch.cells), Li ((HK.out.mono HZ3.out).and (Kp.own (by decide))), Li ⟨HP3.out, O3.out⟩, fun _ h => h.1, Li fun _ h => h.2⟩
 have hcap := O3.out.row.2.1
 rw [List.length_map] at hcap
 have hcm := O3.out.row.2.2.1
 clear HP HK HP3 O3 HZ3 hld
 obtain ⟨P, HK, HP, pp, PM⟩ := hh
 replace PP := Li (fun X h => PP.out X (pp X h))
 replace LD := Li (fun X h => LD.out X (pp X h))
 replace PR6 := Li (fun X h => PR6.out X (pp X h))
 clear pp
 generalize w3 = W7 at *
 have NB6 : Hid (∀ g, (Value.slice A6 r.length c6).ownBlock = some g → g < W7.heap.size) := by
  obtain ⟨b6, o6⟩ := (PR6.out _ HP.out).2
  exact Li fun g h => (o6.lt g h).2
 have HB7 := Li (PP.out _ HP.out).1.1.size
 obtain ⟨o1, ho1⟩ : ∃ o, fwdQ ⟨fs, x⟩ cd r = o := ⟨_, rfl⟩
 have HO1 := Li ho1
 have hO64 : o1.length ≤ 64 := by rw [← ho1]; exact (fq_small HO.out).1
 have hR64 := HSr.out.1
 clear ho1
 have hld := LD.out _ HP.out
 have yr := And.intro ((PR6.out _ HP.out).1.cell 0 rfl) (PR6.out _ HP.out).1.lt
 go_cut [8] from 30 to 33 (fun u wx => ∃ (g c : Nat) (A : Option Addr), u = .pointer (some ⟨g, 0, none⟩) ∧ W7.heap.size ≤ g ∧ Hid (P wx) ∧ Hid (RX wx g A c o1 ∧ Own 66 4 wx W7.heap.size (.slice A o1.length c) (o1.map Ce.cells)))
 case first =>
  go_wp2_with (go_at_call 16; refine (Forward_any A4 n4 c4 x fs cd A6 r.length c6 r _ HN4.out (PP.out _ HP.out).2.2.2.row.2.2.2 HO.out HCW.out rfl (PR6.out _ HP.out).2.ces.1 (by have := HSr.out.1; omega) (big_of HSr.out.2) (PR6.out _ HP.out).2.ces.2.1 (PR6.out _ HP.out).2.ces.2.2 (PP.out _ HP.out).1.2).mono ?_; rintro e v9 ⟨⟨A9, c9, rfl, ho9⟩, hb9⟩; rw [HO1.out] at ho9; rw [HO1.out]; have O9 := Li ho9; have HP9 := Li (HK.out.1 _ _ HP.out hb9); have HB := Li hb9.size; clear ho9 hb9)
  go_meet
  exact ⟨_, c9, A9, rfl, HB.out, Li (HK.out.1 _ _ HP9.out (al1 _ _)), Li ⟨⟨CB.new _ _ _, _, O9.out.alloc _⟩, O9.out.alloc _⟩⟩
 case rest =>
 obtain ⟨g8, c8, A8, rfl, hge, HP1, QN⟩ := hcut
 clear hld yr
 have hh : ∃ P2 : World → Prop, Hid (Kp wc.heap.size P2) ∧ Hid (P2 wc) ∧ (∀ X, P2 X → P X) ∧ Hid (∀ X, P2 X → RX X g8 A8 c8 o1) ∧ Hid (∀ X, P2 X → Own 66 4 X W7.heap.size (.slice A8 o1.length c8) (o1.map Ce.cells)) := ⟨fun X => (P X ∧ RX X g8 A8 c8 o1) ∧ Own 66 4 X W7.heap.size (.slice A8 o1.length c8) (o1.map Ce.cells), Li ((HK.out.row (Nat.le_of_lt (Nat.lt_of_le_of_lt hge QN.out.1.1.lt)) QN.out.1.1.lt).and (Kp.own (by decide))), Li ⟨⟨HP1.out, QN.out.1⟩, QN.out.2⟩, fun _ h => h.1.1, Li fun _ h => h.1.2, Li fun _ h => h.2⟩
 have HB8 := Li (show W7.heap.size ≤ wc.heap.size from Nat.le_of_lt (Nat.lt_of_le_of_lt hge QN.out.1.1.lt))
 clear HP1 QN HP HK hge
 obtain ⟨P, HK, HP, pp, PR8, PO8⟩ := hh
 replace PP := Li (fun X h => PP.out X (pp X h))
 replace LD := Li (fun X h => LD.out X (pp X h))
 replace PR6 := Li (fun X h => PR6.out X (pp X h))
 replace PM := Li (fun X h => PM.out X (pp X h))
 clear pp
 generalize wc = W8 at *
 have NB8 : Hid (∀ g, (Value.slice A8 o1.length c8).ownBlock = some g → g < W8.heap.size) := Li fun g h => ((PO8.out _ HP.out).lt g h).2
 have E1 := Li (show trQ M r (M.length : Int) (M.length : Int) = (r, 0) by rw [tr_fwd HGM.out (Nat.le_refl _) (Nat.le_refl _) (by rw [HSA.out]; exact HFr.out), seg_nil]; rfl)
 have yr := And.intro ((PR6.out _ HP.out).1.cell 0 rfl) (PR6.out _ HP.out).1.lt
 go_upto_region 8 with fail
 go_cut [9, 10] from 34 to 44 (fun u e wx => ∃ (g c : Nat) (A : Option Addr), (u = .pointer (some ⟨g, 0, none⟩) ∧ e = .int .i64 0) ∧ W8.heap.size ≤ g ∧ Hid (P wx) ∧ Hid (RX wx g A c r ∧ Own 66 4 wx W8.heap.size (.slice A r.length c) (r.map Ce.cells)))
 case first =>
  go_wp2_with (go_at_call 23; refine (Translate_any A2 M.length c2 M A6 r.length c6 r M.length M.length _ rfl (PM.out _ HP.out).row.2.2.2 (by omega) hcap hcm (fun d hd => (HW.out d hd).cw) rfl (PR6.out _ HP.out).2.ces.1 (by have := HSr.out.1; omega) (big_of HSr.out.2) (PR6.out _ HP.out).2.ces.2.1 (PR6.out _ HP.out).2.ces.2.2 (PP.out _ HP.out).1.2).mono ?_; rintro e v9 ⟨⟨A9, c9, rfl, ho9⟩, hb9⟩; rw [E1.out] at ho9; rw [E1.out]; have O9 := Li ho9; have HP9 := Li (HK.out.1 _ _ HP.out hb9); have HB := Li hb9.size; clear ho9 hb9)
  go_meet
  exact ⟨_, c9, A9, ⟨rfl, rfl⟩, HB.out, Li (HK.out.1 _ _ HP9.out (al1 _ _)), Li ⟨⟨CB.new _ _ _, _, O9.out.alloc _⟩, O9.out.alloc _⟩⟩
 case rest =>
 obtain ⟨g9, c9, A9, ⟨rfl, rfl⟩, hge, HP1, QN⟩ := hcut
 clear yr
 have hh : ∃ P2 : World → Prop, Hid (Kp wc.heap.size P2) ∧ Hid (P2 wc) ∧ (∀ X, P2 X → P X) ∧ Hid (∀ X, P2 X → RX X g9 A9 c9 r) ∧ Hid (∀ X, P2 X → Own 66 4 X W8.heap.size (.slice A9 r.length c9) (r.map Ce.cells)) := ⟨fun X => (P X ∧ RX X g9 A9 c9 r) ∧ Own 66 4 X W8.heap.size (.slice A9 r.length c9) (r.map Ce.cells), Li ((HK.out.row (Nat.le_of_lt (Nat.lt_of_le_of_lt hge QN.out.1.1.lt)) QN.out.1.1.lt).and (Kp.own (by decide))), Li ⟨⟨HP1.out, QN.out.1⟩, QN.out.2⟩, fun _ h => h.1.1, Li fun _ h => h.1.2, Li fun _ h => h.2⟩
 have HB9 := Li (show W8.heap.size ≤ wc.heap.size from Nat.le_of_lt (Nat.lt_of_le_of_lt hge QN.out.1.1.lt))
 clear HP1 QN HP HK hge
 obtain ⟨P, HK, HP, pp, PR9, PO9⟩ := hh
 replace PP := Li (fun X h => PP.out X (pp X h))
 replace LD := Li (fun X h => LD.out X (pp X h))
 replace PR6 := Li (fun X h => PR6.out X (pp X h))
 replace PM := Li (fun X h => PM.out X (pp X h))
 replace PR8 := Li (fun X h => PR8.out X (pp X h))
 replace PO8 := Li (fun X h => PO8.out X (pp X h))
 clear pp
 generalize wc = W9 at *
 have yr := And.intro ((PR6.out _ HP.out).1.cell 0 rfl) (And.intro (PR6.out _ HP.out).1.lt (And.intro ((PR9.out _ HP.out).1.cell 0 rfl) (PR9.out _ HP.out).1.lt))
 go_upto_region 12 with (go_at_call 15; refine (sameR A9 A6 c9 c6 r _ (PR9.out _ HP.out).2.ces.1 (PR6.out _ HP.out).2 (by have := HSr.out.1; omega)).mono ?_; rintro e w10 ⟨rfl, hb9⟩; have HP10 := Li (HK.out.1 _ _ HP.out hb9); clear hb9)
 have hx : ∃ b6, Hid (PF w [.slice A n c, .int .i64 ch.kind, .int .i64 ch.id, .int .i64 ch.wi, .string ch.nm, .string ch.ot, .int .i64 ch.ty, .int .i64 ch.pa, .string ch.sep, .slice V m cv] [.slice A4 n4 c4, .int .i64 x] [.slice A8 o1.length c8] [.slice A9 r.length c9] gS g6 g8 g9 b6 A4 A6 n4 c4 c6 fs r w10) := by
  obtain ⟨b6, o6⟩ := (PR6.out _ HP10.out).2
  exact ⟨b6, Li ⟨(PP.out _ HP10.out).1.1, (PP.out _ HP10.out).2.1.1, (PP.out _ HP10.out).2.1.2, (PP.out _ HP10.out).2.2.2, (PR6.out _ HP10.out).1, o6, (PR8.out _ HP10.out).1, (PR9.out _ HP10.out).1⟩⟩
 obtain ⟨b6, HPF⟩ := hx
 have O8 := Li (PO8.out _ HP10.out)
 have O9 := Li (PO9.out _ HP10.out)
 have S8 := Li (some_of (PO8.out _ HP10.out))
 have S9 := Li (some_of (PO9.out _ HP10.out))
 have N68 := Li (ob_ne NB6.out (PO8.out _ HP10.out))
 have N69 := Li (ob_ne (fun g h => Nat.lt_of_lt_of_le (NB6.out g h) HB8.out) (PO9.out _ HP10.out))
 have N89 := Li (ob_ne NB8.out (PO9.out _ HP10.out))
 have B8 := Li (show w.heap.size ≤ W8.heap.size from Nat.le_trans HB7.out HB8.out)
 clear HP HP10 HK PP LD PR6 PR8 PR9 PM PO8 PO9 NB6 NB8 yr HB8 HB9 E1 HO1 HFr
 generalize W7.heap.size = B7 at *
 generalize W8.heap.size = B8n at *
 go_loopw [11] (fun i wr => ∃ (k : Nat) (L : List (List Value)), k ≤ o1.length ∧ i = .int .i64 k ∧ Hid (L.length = o1.length) ∧ Hid (PF w [.slice A n c, .int .i64 ch.kind, .int .i64 ch.id, .int .i64 ch.wi, .string ch.nm, .string ch.ot, .int .i64 ch.ty, .int .i64 ch.pa, .string ch.sep, .slice V m cv] [.slice A4 n4 c4, .int .i64 x] [.slice A8 o1.length c8] [.slice A9 r.length c9] gS g6 g8 g9 b6 A4 A6 n4 c4 c6 fs r wr) ∧ Hid (Own 66 4 wr B7 (.slice A8 o1.length c8) L) ∧ Hid (Own 66 4 wr B8n (.slice A9 r.length c9) (r.map Ce.cells))) (fun i _ => o1.length - (intOf i).toNat)
 case atStart => exact ⟨0, o1.map Ce.cells, by omega, rfl, Li (by rw [List.length_map]), HPF, O8, O9⟩
 case round =>
  obtain ⟨k, L, hk, rfl, HL, HPF, HO8, HO9⟩ := hrel
  have y8 := HPF.out.2.2.2.2.2.2.1.cell 0 rfl
  have z8 := HPF.out.2.2.2.2.2.2.1.lt
  by_cases hlt : k < o1.length
  ·
   have i1 : (k : Int) < (o1.length : Int) := by omega
   have i0 : (0 : Int) ≤ (k : Int) := by omega
   obtain ⟨gb, hgb⟩ := S8.out (by rw [List.length_map]; omega)
   have HG := Li hgb
   have HO8' := Li (show Own 66 4 wr B7 (.slice (some ⟨gb, 0, none⟩) o1.length c8) L by rw [← hgb]; exact HO8.out)
   rw [hgb] at y8
   clear hgb
   go_wp2_with ((with_reducible show wpList _ _ _ (Oper.mk none (.store _ _ _) _ _ _ _ :: _) _ _); refine wpList_store_own rfl 66 (.tmp 64) (.tmp 63) rfl B7 gb o1.length c8 k _ L [.int .i64 0, .bool false, .int .i64 0, .string ⟨#[]⟩] rfl rfl rfl HO8'.out (by decide) (by rw [HL.out]; exact hlt) rfl sizeCe (one_ce ⟨0, ⟨false, 0, ⟨#[]⟩⟩⟩) ?_; intro w9 ho9 hg9 hz9; have HO9' := Li ho9; have HG9 := Li hg9; clear ho9 hg9 hz9)
   go_roundw
   case rel => exact ⟨k + 1, L.set k [.int .i64 0, .bool false, .int .i64 0, .string ⟨#[]⟩], by omega, by go_num, Li (by rw [List.length_set]; exact HL.out), Li (HPF.out.put HO8'.out HB7.out (by have := N68.out; rw [HG.out] at this; exact this) HG9.out), Li (by rw [HG.out]; exact HO9'.out), Li (HO9.out.kept HG9.out (by have := ob_sym N89.out; rw [HG.out] at this; exact this))⟩
   case measure => simp [intOf]; omega
  ·
   have i1 : ¬ (k : Int) < (o1.length : Int) := by omega
   clear O9 O8
   go_upto_region 16 with fail
   clear y8 z8
   go_loopw [12] (fun i wr => ∃ (q : Nat) (L : List (List Value)), q ≤ r.length ∧ i = .int .i64 q ∧ Hid (L.length = r.length) ∧ Hid (PF w [.slice A n c, .int .i64 ch.kind, .int .i64 ch.id, .int .i64 ch.wi, .string ch.nm, .string ch.ot, .int .i64 ch.ty, .int .i64 ch.pa, .string ch.sep, .slice V m cv] [.slice A4 n4 c4, .int .i64 x] [.slice A8 o1.length c8] [.slice A9 r.length c9] gS g6 g8 g9 b6 A4 A6 n4 c4 c6 fs r wr) ∧ Hid (Own 66 4 wr B8n (.slice A9 r.length c9) L)) (fun i _ => r.length - (intOf i).toNat)
   case atStart => exact ⟨0, r.map Ce.cells, by omega, rfl, Li (by rw [List.length_map]), HPF, HO9⟩
   case round =>
    obtain ⟨q, L2, hq, rfl, HL2, HPF2, HO92⟩ := hrel
    have y9 := HPF2.out.2.2.2.2.2.2.2.cell 0 rfl
    have z9 := HPF2.out.2.2.2.2.2.2.2.lt
    by_cases hlt : q < r.length
    ·
     have i1 : (q : Int) < (r.length : Int) := by omega
     have i0 : (0 : Int) ≤ (q : Int) := by omega
     obtain ⟨gb, hgb⟩ := S9.out (by rw [List.length_map]; omega)
     have HG := Li hgb
     have HO9x := Li (show Own 66 4 wr B8n (.slice (some ⟨gb, 0, none⟩) r.length c9) L2 by rw [← hgb]; exact HO92.out)
     rw [hgb] at y9
     clear hgb
     go_wp2_with ((with_reducible show wpList _ _ _ (Oper.mk none (.store _ _ _) _ _ _ _ :: _) _ _); refine wpList_store_own rfl 66 (.tmp 76) (.tmp 75) rfl B8n gb r.length c9 q _ L2 [.int .i64 0, .bool false, .int .i64 0, .string ⟨#[]⟩] rfl rfl rfl HO9x.out (by decide) (by rw [HL2.out]; exact hlt) rfl sizeCe (one_ce ⟨0, ⟨false, 0, ⟨#[]⟩⟩⟩) ?_; intro w9 ho9 hg9 hz9; have HO9' := Li ho9; have HG9 := Li hg9; clear ho9 hg9 hz9)
     go_roundw
     case rel => exact ⟨q + 1, L2.set q [.int .i64 0, .bool false, .int .i64 0, .string ⟨#[]⟩], by omega, by go_num, Li (by rw [List.length_set]; exact HL2.out), Li (HPF2.out.put HO9x.out B8.out (by have := N69.out; rw [HG.out] at this; exact this) HG9.out), Li (by rw [HG.out]; exact HO9'.out)⟩
     case measure => simp [intOf]; omega
    ·
     have i1 : ¬ (q : Int) < (r.length : Int) := by omega
     go_upto_region 19 with fail
     clear y9 z9 HO92 HL2 HL HPF HO8 HO9
     replace HPF := Li (show PF w [.slice A n c, .int .i64 ch.kind, .int .i64 ch.id, .int .i64 ch.wi, .string ch.nm, .string ch.ot, .int .i64 ch.ty, .int .i64 ch.pa, .string ch.sep, .slice V m cv] [.slice A4 n4 c4, .int .i64 x] [.slice A8 o1.length c8] [.slice A9 r.length c9] gS g6 g8 g9 b6 A4 A6 n4 c4 c6 fs r wr.drew from HPF2.out.up (bd _))
     refine wp_region_held_drew (S := fun w' => Hid (PF w [.slice A n c, .int .i64 ch.kind, .int .i64 ch.id, .int .i64 ch.wi, .string ch.nm, .string ch.ot, .int .i64 ch.ty, .int .i64 ch.pa, .string ch.sep, .slice V m cv] [.slice A4 n4 c4, .int .i64 x] [.slice A8 o1.length c8] [.slice A9 r.length c9] gS g6 g8 g9 b6 A4 A6 n4 c4 c6 fs r w')) (by kernel_rfl) HPF (fun hHeld => ?_)
     revert hHeld HPF
     clear HPF2
     generalize wr.drew = X0
     intro HP hHeld
     refine htf 0 (fun _ h => And.intro (h.out.2.2.2.2.1.cell 0 rfl) h.out.2.2.2.2.1.lt) ?_
     refine htf 1 (fun _ h => And.intro h.out.2.2.1.c2 h.out.2.2.1.lt) ?_
     refine htk 2 ?_
     refine htf 3 (fun _ h => And.intro h.out.2.1.c10 h.out.2.1.lt) ?_
     refine rd1 4 fun KK hK => ?_
     go_simp
     go_at_call 14
     refine (RRow_det A4 n4 c4 x fs V m cv raw _ HN4.out (HP.out.2.2.2.1.row.2.2.2) HO.out HM.out (RowAt.up HV.out HP.out.1) hml HVF.out).mono ?_
     rintro e v4 ⟨⟨A5, c5, r5, rfl, ho8, hf8, hs8, hl8, hd8⟩, hb8⟩
     obtain rfl : r5 = r := hd8.trans HDr.out.symm
     have O5 := Li (show OX _ A5 c5 r5 from ⟨_, ho8⟩)
     replace HP := Li (HP.out.up hb8)
     clear ho8 hf8 hs8 hl8 hd8 hb8
     go_wp2_with fail
     refine hK.out _ _ (HP) (fun hHeld => ?_)
     clear hK KK
     try simp only [pnz]
     refine rd1 5 fun KK hK => ?_
     go_simp
     go_at_call 15
     refine (sameR A6 A5 c6 c5 r5 _ (show OX _ A6 c6 r5 from ⟨_, HP.out.2.2.2.2.2.1⟩).ces.1 O5.out (by have := HSr.out.1; omega)).mono ?_
     rintro e v5 ⟨rfl, hb8⟩
     replace HP := Li (HP.out.up hb8)
     clear hb8 O5
     go_wp2_with fail
     refine hK.out _ _ (HP) (fun hHeld => ?_)
     clear hK KK
     try simp only [pnz]
     refine htk 6 ?_
     refine htk 7 ?_
     refine htk 8 ?_
     refine htk 9 ?_
     refine wpAnyH_done (by kernel_rfl) ?_ _
     go_wp2_with fail
     go_ret
     exact ⟨rfl, HP.out.1⟩
end Go.Proofs.YtfeemipnalgjnaaGreat.owl
