/-
 The law's own fixed examples hold.
-/
import Derived.Test.YtfeemipnalgjnaaGreatHd
import Derived.Test.YtfeemipnalgjnaaGreatHd
import Derived.Test.YtfeemipnalgjnaaGreatSnA
namespace Go.Proofs.YtfeemipnalgjnaaGreat
open Go.RowKit

set_option maxHeartbeats 16000000 in
set_option maxRecDepth 20000 in
theorem sanity_any (w : World) (hG : GV w) : Calls Tryz.prog 10 #[] w fun e w' => e = .returned (.bool true) ∧ Below w.heap.size w w' := by
 have h0 : SN w ((((w.alloc (.cells #[.int .i64 1, .string ⟨#[97]⟩, .int .i64 4, .int .i64 0, .int .i64 2, .string ⟨#[98]⟩, .int .i64 4, .int .i64 0] 58)).alloc (.cells #[.slice (some ⟨w.heap.size, 0, none⟩) 2 2, .int .i64 3] 35)).alloc (.cells #[.int .i64 6, .int .i64 1, .int .i64 0, .string ⟨#[99]⟩, .string ⟨#[100]⟩, .int .i64 0, .int .i64 0, .string ⟨#[45]⟩] 24)).alloc (.cells #[.int .i64 7, .int .i64 1, .int .i64 2, .string ⟨#[99]⟩, .string ⟨#[]⟩, .int .i64 0, .int .i64 0, .string ⟨#[45]⟩] 24)) := ⟨al4 w _ _ _ _, hG.up (al4 w _ _ _ _), (((CB.new w 58 [.int .i64 1, .string ⟨#[97]⟩, .int .i64 4, .int .i64 0, .int .i64 2, .string ⟨#[98]⟩, .int .i64 4, .int .i64 0]).alloc _).alloc _).alloc _, ((CB.new1 w (.cells #[.int .i64 1, .string ⟨#[97]⟩, .int .i64 4, .int .i64 0, .int .i64 2, .string ⟨#[98]⟩, .int .i64 4, .int .i64 0] 58) 35 [.slice (some ⟨w.heap.size, 0, none⟩) 2 2, .int .i64 3]).alloc _).alloc _, (CB.new2 w (.cells #[.int .i64 1, .string ⟨#[97]⟩, .int .i64 4, .int .i64 0, .int .i64 2, .string ⟨#[98]⟩, .int .i64 4, .int .i64 0] 58) (.cells #[.slice (some ⟨w.heap.size, 0, none⟩) 2 2, .int .i64 3] 35) 24 [.int .i64 6, .int .i64 1, .int .i64 0, .string ⟨#[99]⟩, .string ⟨#[100]⟩, .int .i64 0, .int .i64 0, .string ⟨#[45]⟩]).alloc _, cb_new3 w (.cells #[.int .i64 1, .string ⟨#[97]⟩, .int .i64 4, .int .i64 0, .int .i64 2, .string ⟨#[98]⟩, .int .i64 4, .int .i64 0] 58) (.cells #[.slice (some ⟨w.heap.size, 0, none⟩) 2 2, .int .i64 3] 35) (.cells #[.int .i64 6, .int .i64 1, .int .i64 0, .string ⟨#[99]⟩, .string ⟨#[100]⟩, .int .i64 0, .int .i64 0, .string ⟨#[45]⟩] 24) 24 [.int .i64 7, .int .i64 1, .int .i64 2, .string ⟨#[99]⟩, .string ⟨#[]⟩, .int .i64 0, .int .i64 0, .string ⟨#[45]⟩]⟩
 have HP := Li h0
 clear h0 hG
 go_enter Tryz.func10, Tryz.ntmps10
 go_upto_region 4 with fail
 generalize (((w.alloc (.cells #[.int .i64 1, .string ⟨#[97]⟩, .int .i64 4, .int .i64 0, .int .i64 2, .string ⟨#[98]⟩, .int .i64 4, .int .i64 0] 58)).alloc (.cells #[.slice (some ⟨w.heap.size, 0, none⟩) 2 2, .int .i64 3] 35)).alloc (.cells #[.int .i64 6, .int .i64 1, .int .i64 0, .string ⟨#[99]⟩, .string ⟨#[100]⟩, .int .i64 0, .int .i64 0, .string ⟨#[45]⟩] 24)).alloc (.cells #[.int .i64 7, .int .i64 1, .int .i64 2, .string ⟨#[99]⟩, .string ⟨#[]⟩, .int .i64 0, .int .i64 0, .string ⟨#[45]⟩] 24) = W4 at *
 obtain ⟨P, HK, HP, pS⟩ : ∃ P : World → Prop, Hid (Kp W4.heap.size P) ∧ Hid (P W4) ∧ ∀ X, P X → SN w X := ⟨SN w, Li (Kp.sn HP.out.w3), HP, fun _ h => h⟩
 go_cut [4] from 22 to 26 (fun u wx => ∃ (g c : Nat) (A : Option Addr), u = .pointer (some ⟨g, 0, none⟩) ∧ W4.heap.size ≤ g ∧ Hid (P wx) ∧ Hid (RX wx g A c q1))
 case first => as_aux_lemma =>
  replace HP : Hid (P W4.drew) := Li (HK.out.1 _ _ HP.out (bd _))
  have HB := Li (show W4.heap.size ≤ W4.drew.heap.size from Nat.le_refl _)
  refine wp_region_held_drew (S := fun w' => Hid (P w')) (by kernel_rfl) HP (fun hHeld => ?_)
  revert hHeld HP HB
  generalize W4.drew = X0
  intro HP HB hHeld
  refine htf 0 (fun _ h => SN.cs (pS _ h.out)) ?_
  refine htf 1 (fun _ h => SN.cs (pS _ h.out)) ?_
  refine rd2 2 5 (fun KK hK => ?_) (fun KK hK => ?_)
  ·
   go_simp
   have hb8 := al1 X0 (.cells #[.string ⟨#[97, 45, 98, 45, 99]⟩] 9)
   replace HP := Li (HK.out.1 _ _ HP.out hb8)
   replace HB := Li (Nat.le_trans HB.out hb8.size)
   clear hb8
   have B2 := Li (CB.new X0 9 [.string ⟨#[97, 45, 98, 45, 99]⟩])
   refine hK.out _ _ (HP) (fun hHeld => ?_)
   clear hK KK
   try simp only [pnz]
   generalize X0.heap.size = g2 at B2 ⊢
   generalize X0.alloc (.cells #[.string ⟨#[97, 45, 98, 45, 99]⟩] 9) = v2 at HP HB B2  hHeld ⊢
   refine rd2 3 5 (fun KK hK => ?_) (fun KK hK => ?_)
   ·
    go_simp
    go_at_call 30
    refine (tx1 1 ⟨#[97, 45, 98, 45, 99]⟩ t1 rfl g2 _ B2.out (by decide)).mono ?_
    rintro e v3 ⟨⟨A3, c3, rfl, ho3⟩, hb8⟩
    have O3 := Li ho3
    clear B2
    replace HP := Li (HK.out.1 _ _ HP.out hb8)
    replace HB := Li (Nat.le_trans HB.out hb8.size)
    clear hb8 ho3
    go_wp2_with fail
    refine hK.out _ _ (HP) (fun hHeld => ?_)
    clear hK KK
    try simp only [pnz]
    refine rd2 4 5 (fun KK hK => ?_) (fun KK hK => ?_)
    ·
     go_simp
     go_at_call 16
     refine (ex1 A3 c3 w _ (pS _ HP.out) O3.out).mono ?_
     rintro e v4 ⟨⟨A4, c4, rfl, ho4⟩, hb8⟩
     have O4 := Li ho4
     clear O3
     replace HP := Li (HK.out.1 _ _ HP.out hb8)
     replace HB := Li (Nat.le_trans HB.out hb8.size)
     clear hb8 ho4
     go_wp2_with fail
     refine hK.out _ _ (HP) (fun hHeld => ?_)
     clear hK KK
     try simp only [pnz]
     refine rd1 5 fun KK hK => ?_
     go_simp
     have z5 := HB.out
     have hb8 := al1 v4 (.cells #[.slice none 0 0] 30)
     replace HP := Li (HK.out.1 _ _ HP.out hb8)
     replace HB := Li (Nat.le_trans HB.out hb8.size)
     replace O4 := Li (O4.out.up hb8)
     clear hb8
     have B5 := Li (CB.new v4 30 [.slice none 0 0])
     refine hK.out _ _ (HP) (fun hHeld => ?_)
     clear hK KK
     try simp only [pnz]
     generalize v4.heap.size = g5 at B5 z5 ⊢
     generalize v4.alloc (.cells #[.slice none 0 0] 30) = v5 at HP HB B5 O4 hHeld ⊢
     refine rd1 6 fun KK hK => ?_
     refine step_store_cb rfl 30 (.tmp 4) (.tmp 26) rfl g5 [.slice A4 q1.length c4] rfl rfl 30 [.slice none 0 0] 1 B5.out sizeRw rfl rfl (one_rw _ _ _) ?_
     intro v6 hc6 hg6 hz6
     replace HP := Li (HK.out.2 _ _ _ _ HP.out B5.out z5 hg6)
     have QN := Li (show RX v6 g5 A4 c4 _ from ⟨hc6, O4.out.put B5.out hg6⟩)
     refine hK.out _ _ (HP) (fun hHeld => ?_)
     clear hK KK
     try simp only [pnz]
     refine wpAnyH_done (by kernel_rfl) ?_ _
     go_wp2_with fail
     go_meet
     exact ⟨_, _, _, rfl, z5, HP, QN⟩
    ·
     go_simp
     have z5 := HB.out
     have hb8 := al1 v3 (.cells #[.slice none 0 0] 30)
     replace HP := Li (HK.out.1 _ _ HP.out hb8)
     replace HB := Li (Nat.le_trans HB.out hb8.size)
     replace O3 := Li (O3.out.up hb8)
     clear hb8
     have B5 := Li (CB.new v3 30 [.slice none 0 0])
     refine hK.out _ _ (HP) (fun hHeld => ?_)
     clear hK KK
     try simp only [pnz]
     generalize v3.heap.size = g5 at B5 z5 ⊢
     generalize v3.alloc (.cells #[.slice none 0 0] 30) = v5 at HP HB B5 O3 hHeld ⊢
     refine rd1 4 fun KK hK => ?_
     go_simp
     go_at_call 16
     refine (ex1 A3 c3 w _ (pS _ HP.out) O3.out).mono ?_
     rintro e v4 ⟨⟨A4, c4, rfl, ho4⟩, hb8⟩
     have O4 := Li ho4
     clear O3
     replace HP := Li (HK.out.1 _ _ HP.out hb8)
     replace HB := Li (Nat.le_trans HB.out hb8.size)
     replace B5 := Li (B5.out.up hb8)
     clear hb8 ho4
     go_wp2_with fail
     refine hK.out _ _ (HP) (fun hHeld => ?_)
     clear hK KK
     try simp only [pnz]
     refine rd1 6 fun KK hK => ?_
     refine step_store_cb rfl 30 (.tmp 4) (.tmp 26) rfl g5 [.slice A4 q1.length c4] rfl rfl 30 [.slice none 0 0] 1 B5.out sizeRw rfl rfl (one_rw _ _ _) ?_
     intro v6 hc6 hg6 hz6
     replace HP := Li (HK.out.2 _ _ _ _ HP.out B5.out z5 hg6)
     have QN := Li (show RX v6 g5 A4 c4 _ from ⟨hc6, O4.out.put B5.out hg6⟩)
     refine hK.out _ _ (HP) (fun hHeld => ?_)
     clear hK KK
     try simp only [pnz]
     refine wpAnyH_done (by kernel_rfl) ?_ _
     go_wp2_with fail
     go_meet
     exact ⟨_, _, _, rfl, z5, HP, QN⟩
   ·
    go_simp
    have z5 := HB.out
    have hb8 := al1 v2 (.cells #[.slice none 0 0] 30)
    replace HP := Li (HK.out.1 _ _ HP.out hb8)
    replace HB := Li (Nat.le_trans HB.out hb8.size)
    replace B2 := Li (B2.out.up hb8)
    clear hb8
    have B5 := Li (CB.new v2 30 [.slice none 0 0])
    refine hK.out _ _ (HP) (fun hHeld => ?_)
    clear hK KK
    try simp only [pnz]
    generalize v2.heap.size = g5 at B5 z5 ⊢
    generalize v2.alloc (.cells #[.slice none 0 0] 30) = v5 at HP HB B5 B2 hHeld ⊢
    refine rd1 3 fun KK hK => ?_
    go_simp
    go_at_call 30
    refine (tx1 1 ⟨#[97, 45, 98, 45, 99]⟩ t1 rfl g2 _ B2.out (by decide)).mono ?_
    rintro e v3 ⟨⟨A3, c3, rfl, ho3⟩, hb8⟩
    have O3 := Li ho3
    clear B2
    replace HP := Li (HK.out.1 _ _ HP.out hb8)
    replace HB := Li (Nat.le_trans HB.out hb8.size)
    replace B5 := Li (B5.out.up hb8)
    clear hb8 ho3
    go_wp2_with fail
    refine hK.out _ _ (HP) (fun hHeld => ?_)
    clear hK KK
    try simp only [pnz]
    refine rd1 4 fun KK hK => ?_
    go_simp
    go_at_call 16
    refine (ex1 A3 c3 w _ (pS _ HP.out) O3.out).mono ?_
    rintro e v4 ⟨⟨A4, c4, rfl, ho4⟩, hb8⟩
    have O4 := Li ho4
    clear O3
    replace HP := Li (HK.out.1 _ _ HP.out hb8)
    replace HB := Li (Nat.le_trans HB.out hb8.size)
    replace B5 := Li (B5.out.up hb8)
    clear hb8 ho4
    go_wp2_with fail
    refine hK.out _ _ (HP) (fun hHeld => ?_)
    clear hK KK
    try simp only [pnz]
    refine rd1 6 fun KK hK => ?_
    refine step_store_cb rfl 30 (.tmp 4) (.tmp 26) rfl g5 [.slice A4 q1.length c4] rfl rfl 30 [.slice none 0 0] 1 B5.out sizeRw rfl rfl (one_rw _ _ _) ?_
    intro v6 hc6 hg6 hz6
    replace HP := Li (HK.out.2 _ _ _ _ HP.out B5.out z5 hg6)
    have QN := Li (show RX v6 g5 A4 c4 _ from ⟨hc6, O4.out.put B5.out hg6⟩)
    refine hK.out _ _ (HP) (fun hHeld => ?_)
    clear hK KK
    try simp only [pnz]
    refine wpAnyH_done (by kernel_rfl) ?_ _
    go_wp2_with fail
    go_meet
    exact ⟨_, _, _, rfl, z5, HP, QN⟩
  ·
   go_simp
   have z5 := HB.out
   have hb8 := al1 X0 (.cells #[.slice none 0 0] 30)
   replace HP := Li (HK.out.1 _ _ HP.out hb8)
   replace HB := Li (Nat.le_trans HB.out hb8.size)
   clear hb8
   have B5 := Li (CB.new X0 30 [.slice none 0 0])
   refine hK.out _ _ (HP) (fun hHeld => ?_)
   clear hK KK
   try simp only [pnz]
   generalize X0.heap.size = g5 at B5 z5 ⊢
   generalize X0.alloc (.cells #[.slice none 0 0] 30) = v5 at HP HB B5  hHeld ⊢
   refine rd1 2 fun KK hK => ?_
   go_simp
   have hb8 := al1 v5 (.cells #[.string ⟨#[97, 45, 98, 45, 99]⟩] 9)
   replace HP := Li (HK.out.1 _ _ HP.out hb8)
   replace HB := Li (Nat.le_trans HB.out hb8.size)
   replace B5 := Li (B5.out.up hb8)
   clear hb8
   have B2 := Li (CB.new v5 9 [.string ⟨#[97, 45, 98, 45, 99]⟩])
   refine hK.out _ _ (HP) (fun hHeld => ?_)
   clear hK KK
   try simp only [pnz]
   generalize v5.heap.size = g2 at B2 ⊢
   generalize v5.alloc (.cells #[.string ⟨#[97, 45, 98, 45, 99]⟩] 9) = v2 at HP HB B2 B5 hHeld ⊢
   refine rd1 3 fun KK hK => ?_
   go_simp
   go_at_call 30
   refine (tx1 1 ⟨#[97, 45, 98, 45, 99]⟩ t1 rfl g2 _ B2.out (by decide)).mono ?_
   rintro e v3 ⟨⟨A3, c3, rfl, ho3⟩, hb8⟩
   have O3 := Li ho3
   clear B2
   replace HP := Li (HK.out.1 _ _ HP.out hb8)
   replace HB := Li (Nat.le_trans HB.out hb8.size)
   replace B5 := Li (B5.out.up hb8)
   clear hb8 ho3
   go_wp2_with fail
   refine hK.out _ _ (HP) (fun hHeld => ?_)
   clear hK KK
   try simp only [pnz]
   refine rd1 4 fun KK hK => ?_
   go_simp
   go_at_call 16
   refine (ex1 A3 c3 w _ (pS _ HP.out) O3.out).mono ?_
   rintro e v4 ⟨⟨A4, c4, rfl, ho4⟩, hb8⟩
   have O4 := Li ho4
   clear O3
   replace HP := Li (HK.out.1 _ _ HP.out hb8)
   replace HB := Li (Nat.le_trans HB.out hb8.size)
   replace B5 := Li (B5.out.up hb8)
   clear hb8 ho4
   go_wp2_with fail
   refine hK.out _ _ (HP) (fun hHeld => ?_)
   clear hK KK
   try simp only [pnz]
   refine rd1 6 fun KK hK => ?_
   refine step_store_cb rfl 30 (.tmp 4) (.tmp 26) rfl g5 [.slice A4 q1.length c4] rfl rfl 30 [.slice none 0 0] 1 B5.out sizeRw rfl rfl (one_rw _ _ _) ?_
   intro v6 hc6 hg6 hz6
   replace HP := Li (HK.out.2 _ _ _ _ HP.out B5.out z5 hg6)
   have QN := Li (show RX v6 g5 A4 c4 _ from ⟨hc6, O4.out.put B5.out hg6⟩)
   refine hK.out _ _ (HP) (fun hHeld => ?_)
   clear hK KK
   try simp only [pnz]
   refine wpAnyH_done (by kernel_rfl) ?_ _
   go_wp2_with fail
   go_meet
   exact ⟨_, _, _, rfl, z5, HP, QN⟩
 case rest =>
  obtain ⟨g4, c4, A4, rfl, hge, HP1, QN⟩ := hcut
  have hh : ∃ P2 : World → Prop, Hid (Kp wc.heap.size P2) ∧ Hid (P2 wc) ∧ (∀ X, P2 X → P X) ∧ ∀ X, P2 X → RX X g4 A4 c4 q1 := ⟨fun X => P X ∧ RX X g4 A4 c4 q1, Li (HK.out.row (Nat.le_of_lt (Nat.lt_of_le_of_lt hge QN.out.1.lt)) QN.out.1.lt), Li ⟨HP1.out, QN.out⟩, fun _ h => h.1, fun _ h => h.2⟩
  clear HP1 QN HP HK hge
  obtain ⟨P, HK, HP, pp4, pr4⟩ := hh
  replace pS := fun X h => pS X (pp4 X h)
  clear pp4
  generalize wc = W5 at *
  go_upto_region 5 with fail
  go_cut [5] from 27 to 31 (fun u wx => ∃ (g c : Nat) (A : Option Addr), u = .pointer (some ⟨g, 0, none⟩) ∧ W5.heap.size ≤ g ∧ Hid (P wx) ∧ Hid (RX wx g A c q2))
  case first => as_aux_lemma =>
   replace HP : Hid (P W5.drew) := Li (HK.out.1 _ _ HP.out (bd _))
   have HB := Li (show W5.heap.size ≤ W5.drew.heap.size from Nat.le_refl _)
   refine wp_region_held_drew (S := fun w' => Hid (P w')) (by kernel_rfl) HP (fun hHeld => ?_)
   revert hHeld HP HB
   generalize W5.drew = X0
   intro HP HB hHeld
   refine htf 0 (fun _ h => SN.cs (pS _ h.out)) ?_
   refine htf 1 (fun _ h => SN.cs (pS _ h.out)) ?_
   refine rd2 2 5 (fun KK hK => ?_) (fun KK hK => ?_)
   ·
    go_simp
    have hb8 := al1 X0 (.cells #[.string ⟨#[97]⟩] 9)
    replace HP := Li (HK.out.1 _ _ HP.out hb8)
    replace HB := Li (Nat.le_trans HB.out hb8.size)
    clear hb8
    have B2 := Li (CB.new X0 9 [.string ⟨#[97]⟩])
    refine hK.out _ _ (HP) (fun hHeld => ?_)
    clear hK KK
    try simp only [pnz]
    generalize X0.heap.size = g2 at B2 ⊢
    generalize X0.alloc (.cells #[.string ⟨#[97]⟩] 9) = v2 at HP HB B2  hHeld ⊢
    refine rd2 3 5 (fun KK hK => ?_) (fun KK hK => ?_)
    ·
     go_simp
     go_at_call 30
     refine (tx1 3 ⟨#[97]⟩ t2 rfl g2 _ B2.out (by decide)).mono ?_
     rintro e v3 ⟨⟨A3, c3, rfl, ho3⟩, hb8⟩
     have O3 := Li ho3
     clear B2
     replace HP := Li (HK.out.1 _ _ HP.out hb8)
     replace HB := Li (Nat.le_trans HB.out hb8.size)
     clear hb8 ho3
     go_wp2_with fail
     refine hK.out _ _ (HP) (fun hHeld => ?_)
     clear hK KK
     try simp only [pnz]
     refine rd2 4 5 (fun KK hK => ?_) (fun KK hK => ?_)
     ·
      go_simp
      go_at_call 18
      refine (ex2 A3 c3 w _ (pS _ HP.out) O3.out).mono ?_
      rintro e v4 ⟨⟨A4, c4, rfl, ho4⟩, hb8⟩
      have O4 := Li ho4
      clear O3
      replace HP := Li (HK.out.1 _ _ HP.out hb8)
      replace HB := Li (Nat.le_trans HB.out hb8.size)
      clear hb8 ho4
      go_wp2_with fail
      refine hK.out _ _ (HP) (fun hHeld => ?_)
      clear hK KK
      try simp only [pnz]
      refine rd1 5 fun KK hK => ?_
      go_simp
      have z5 := HB.out
      have hb8 := al1 v4 (.cells #[.slice none 0 0] 30)
      replace HP := Li (HK.out.1 _ _ HP.out hb8)
      replace HB := Li (Nat.le_trans HB.out hb8.size)
      replace O4 := Li (O4.out.up hb8)
      clear hb8
      have B5 := Li (CB.new v4 30 [.slice none 0 0])
      refine hK.out _ _ (HP) (fun hHeld => ?_)
      clear hK KK
      try simp only [pnz]
      generalize v4.heap.size = g5 at B5 z5 ⊢
      generalize v4.alloc (.cells #[.slice none 0 0] 30) = v5 at HP HB B5 O4 hHeld ⊢
      refine rd1 6 fun KK hK => ?_
      refine step_store_cb rfl 30 (.tmp 5) (.tmp 31) rfl g5 [.slice A4 q2.length c4] rfl rfl 30 [.slice none 0 0] 1 B5.out sizeRw rfl rfl (one_rw _ _ _) ?_
      intro v6 hc6 hg6 hz6
      replace HP := Li (HK.out.2 _ _ _ _ HP.out B5.out z5 hg6)
      have QN := Li (show RX v6 g5 A4 c4 _ from ⟨hc6, O4.out.put B5.out hg6⟩)
      refine hK.out _ _ (HP) (fun hHeld => ?_)
      clear hK KK
      try simp only [pnz]
      refine wpAnyH_done (by kernel_rfl) ?_ _
      go_wp2_with fail
      go_meet
      exact ⟨_, _, _, rfl, z5, HP, QN⟩
     ·
      go_simp
      have z5 := HB.out
      have hb8 := al1 v3 (.cells #[.slice none 0 0] 30)
      replace HP := Li (HK.out.1 _ _ HP.out hb8)
      replace HB := Li (Nat.le_trans HB.out hb8.size)
      replace O3 := Li (O3.out.up hb8)
      clear hb8
      have B5 := Li (CB.new v3 30 [.slice none 0 0])
      refine hK.out _ _ (HP) (fun hHeld => ?_)
      clear hK KK
      try simp only [pnz]
      generalize v3.heap.size = g5 at B5 z5 ⊢
      generalize v3.alloc (.cells #[.slice none 0 0] 30) = v5 at HP HB B5 O3 hHeld ⊢
      refine rd1 4 fun KK hK => ?_
      go_simp
      go_at_call 18
      refine (ex2 A3 c3 w _ (pS _ HP.out) O3.out).mono ?_
      rintro e v4 ⟨⟨A4, c4, rfl, ho4⟩, hb8⟩
      have O4 := Li ho4
      clear O3
      replace HP := Li (HK.out.1 _ _ HP.out hb8)
      replace HB := Li (Nat.le_trans HB.out hb8.size)
      replace B5 := Li (B5.out.up hb8)
      clear hb8 ho4
      go_wp2_with fail
      refine hK.out _ _ (HP) (fun hHeld => ?_)
      clear hK KK
      try simp only [pnz]
      refine rd1 6 fun KK hK => ?_
      refine step_store_cb rfl 30 (.tmp 5) (.tmp 31) rfl g5 [.slice A4 q2.length c4] rfl rfl 30 [.slice none 0 0] 1 B5.out sizeRw rfl rfl (one_rw _ _ _) ?_
      intro v6 hc6 hg6 hz6
      replace HP := Li (HK.out.2 _ _ _ _ HP.out B5.out z5 hg6)
      have QN := Li (show RX v6 g5 A4 c4 _ from ⟨hc6, O4.out.put B5.out hg6⟩)
      refine hK.out _ _ (HP) (fun hHeld => ?_)
      clear hK KK
      try simp only [pnz]
      refine wpAnyH_done (by kernel_rfl) ?_ _
      go_wp2_with fail
      go_meet
      exact ⟨_, _, _, rfl, z5, HP, QN⟩
    ·
     go_simp
     have z5 := HB.out
     have hb8 := al1 v2 (.cells #[.slice none 0 0] 30)
     replace HP := Li (HK.out.1 _ _ HP.out hb8)
     replace HB := Li (Nat.le_trans HB.out hb8.size)
     replace B2 := Li (B2.out.up hb8)
     clear hb8
     have B5 := Li (CB.new v2 30 [.slice none 0 0])
     refine hK.out _ _ (HP) (fun hHeld => ?_)
     clear hK KK
     try simp only [pnz]
     generalize v2.heap.size = g5 at B5 z5 ⊢
     generalize v2.alloc (.cells #[.slice none 0 0] 30) = v5 at HP HB B5 B2 hHeld ⊢
     refine rd1 3 fun KK hK => ?_
     go_simp
     go_at_call 30
     refine (tx1 3 ⟨#[97]⟩ t2 rfl g2 _ B2.out (by decide)).mono ?_
     rintro e v3 ⟨⟨A3, c3, rfl, ho3⟩, hb8⟩
     have O3 := Li ho3
     clear B2
     replace HP := Li (HK.out.1 _ _ HP.out hb8)
     replace HB := Li (Nat.le_trans HB.out hb8.size)
     replace B5 := Li (B5.out.up hb8)
     clear hb8 ho3
     go_wp2_with fail
     refine hK.out _ _ (HP) (fun hHeld => ?_)
     clear hK KK
     try simp only [pnz]
     refine rd1 4 fun KK hK => ?_
     go_simp
     go_at_call 18
     refine (ex2 A3 c3 w _ (pS _ HP.out) O3.out).mono ?_
     rintro e v4 ⟨⟨A4, c4, rfl, ho4⟩, hb8⟩
     have O4 := Li ho4
     clear O3
     replace HP := Li (HK.out.1 _ _ HP.out hb8)
     replace HB := Li (Nat.le_trans HB.out hb8.size)
     replace B5 := Li (B5.out.up hb8)
     clear hb8 ho4
     go_wp2_with fail
     refine hK.out _ _ (HP) (fun hHeld => ?_)
     clear hK KK
     try simp only [pnz]
     refine rd1 6 fun KK hK => ?_
     refine step_store_cb rfl 30 (.tmp 5) (.tmp 31) rfl g5 [.slice A4 q2.length c4] rfl rfl 30 [.slice none 0 0] 1 B5.out sizeRw rfl rfl (one_rw _ _ _) ?_
     intro v6 hc6 hg6 hz6
     replace HP := Li (HK.out.2 _ _ _ _ HP.out B5.out z5 hg6)
     have QN := Li (show RX v6 g5 A4 c4 _ from ⟨hc6, O4.out.put B5.out hg6⟩)
     refine hK.out _ _ (HP) (fun hHeld => ?_)
     clear hK KK
     try simp only [pnz]
     refine wpAnyH_done (by kernel_rfl) ?_ _
     go_wp2_with fail
     go_meet
     exact ⟨_, _, _, rfl, z5, HP, QN⟩
   ·
    go_simp
    have z5 := HB.out
    have hb8 := al1 X0 (.cells #[.slice none 0 0] 30)
    replace HP := Li (HK.out.1 _ _ HP.out hb8)
    replace HB := Li (Nat.le_trans HB.out hb8.size)
    clear hb8
    have B5 := Li (CB.new X0 30 [.slice none 0 0])
    refine hK.out _ _ (HP) (fun hHeld => ?_)
    clear hK KK
    try simp only [pnz]
    generalize X0.heap.size = g5 at B5 z5 ⊢
    generalize X0.alloc (.cells #[.slice none 0 0] 30) = v5 at HP HB B5  hHeld ⊢
    refine rd1 2 fun KK hK => ?_
    go_simp
    have hb8 := al1 v5 (.cells #[.string ⟨#[97]⟩] 9)
    replace HP := Li (HK.out.1 _ _ HP.out hb8)
    replace HB := Li (Nat.le_trans HB.out hb8.size)
    replace B5 := Li (B5.out.up hb8)
    clear hb8
    have B2 := Li (CB.new v5 9 [.string ⟨#[97]⟩])
    refine hK.out _ _ (HP) (fun hHeld => ?_)
    clear hK KK
    try simp only [pnz]
    generalize v5.heap.size = g2 at B2 ⊢
    generalize v5.alloc (.cells #[.string ⟨#[97]⟩] 9) = v2 at HP HB B2 B5 hHeld ⊢
    refine rd1 3 fun KK hK => ?_
    go_simp
    go_at_call 30
    refine (tx1 3 ⟨#[97]⟩ t2 rfl g2 _ B2.out (by decide)).mono ?_
    rintro e v3 ⟨⟨A3, c3, rfl, ho3⟩, hb8⟩
    have O3 := Li ho3
    clear B2
    replace HP := Li (HK.out.1 _ _ HP.out hb8)
    replace HB := Li (Nat.le_trans HB.out hb8.size)
    replace B5 := Li (B5.out.up hb8)
    clear hb8 ho3
    go_wp2_with fail
    refine hK.out _ _ (HP) (fun hHeld => ?_)
    clear hK KK
    try simp only [pnz]
    refine rd1 4 fun KK hK => ?_
    go_simp
    go_at_call 18
    refine (ex2 A3 c3 w _ (pS _ HP.out) O3.out).mono ?_
    rintro e v4 ⟨⟨A4, c4, rfl, ho4⟩, hb8⟩
    have O4 := Li ho4
    clear O3
    replace HP := Li (HK.out.1 _ _ HP.out hb8)
    replace HB := Li (Nat.le_trans HB.out hb8.size)
    replace B5 := Li (B5.out.up hb8)
    clear hb8 ho4
    go_wp2_with fail
    refine hK.out _ _ (HP) (fun hHeld => ?_)
    clear hK KK
    try simp only [pnz]
    refine rd1 6 fun KK hK => ?_
    refine step_store_cb rfl 30 (.tmp 5) (.tmp 31) rfl g5 [.slice A4 q2.length c4] rfl rfl 30 [.slice none 0 0] 1 B5.out sizeRw rfl rfl (one_rw _ _ _) ?_
    intro v6 hc6 hg6 hz6
    replace HP := Li (HK.out.2 _ _ _ _ HP.out B5.out z5 hg6)
    have QN := Li (show RX v6 g5 A4 c4 _ from ⟨hc6, O4.out.put B5.out hg6⟩)
    refine hK.out _ _ (HP) (fun hHeld => ?_)
    clear hK KK
    try simp only [pnz]
    refine wpAnyH_done (by kernel_rfl) ?_ _
    go_wp2_with fail
    go_meet
    exact ⟨_, _, _, rfl, z5, HP, QN⟩
  case rest =>
   obtain ⟨g5, c5, A5, rfl, hge, HP1, QN⟩ := hcut
   have hh : ∃ P2 : World → Prop, Hid (Kp wc.heap.size P2) ∧ Hid (P2 wc) ∧ (∀ X, P2 X → P X) ∧ ∀ X, P2 X → RX X g5 A5 c5 q2 := ⟨fun X => P X ∧ RX X g5 A5 c5 q2, Li (HK.out.row (Nat.le_of_lt (Nat.lt_of_le_of_lt hge QN.out.1.lt)) QN.out.1.lt), Li ⟨HP1.out, QN.out⟩, fun _ h => h.1, fun _ h => h.2⟩
   clear HP1 QN HP HK hge
   obtain ⟨P, HK, HP, pp5, pr5⟩ := hh
   replace pr4 := fun X h => pr4 X (pp5 X h)
   replace pS := fun X h => pS X (pp5 X h)
   clear pp5
   generalize wc = W6 at *
   go_upto_region 6 with fail
   go_cut [6] from 32 to 36 (fun u wx => ∃ (g c : Nat) (A : Option Addr), u = .pointer (some ⟨g, 0, none⟩) ∧ W6.heap.size ≤ g ∧ Hid (P wx) ∧ Hid (RX wx g A c q3))
   case first => as_aux_lemma =>
    replace HP : Hid (P W6.drew) := Li (HK.out.1 _ _ HP.out (bd _))
    have HB := Li (show W6.heap.size ≤ W6.drew.heap.size from Nat.le_refl _)
    refine wp_region_held_drew (S := fun w' => Hid (P w')) (by kernel_rfl) HP (fun hHeld => ?_)
    revert hHeld HP HB
    generalize W6.drew = X0
    intro HP HB hHeld
    refine htf 0 (fun _ h => SN.cs (pS _ h.out)) ?_
    refine htf 1 (fun _ h => SN.cs (pS _ h.out)) ?_
    refine rd2 2 5 (fun KK hK => ?_) (fun KK hK => ?_)
    ·
     go_simp
     have hb8 := al1 X0 (.cells #[.string ⟨#[120]⟩] 9)
     replace HP := Li (HK.out.1 _ _ HP.out hb8)
     replace HB := Li (Nat.le_trans HB.out hb8.size)
     clear hb8
     have B2 := Li (CB.new X0 9 [.string ⟨#[120]⟩])
     refine hK.out _ _ (HP) (fun hHeld => ?_)
     clear hK KK
     try simp only [pnz]
     generalize X0.heap.size = g2 at B2 ⊢
     generalize X0.alloc (.cells #[.string ⟨#[120]⟩] 9) = v2 at HP HB B2  hHeld ⊢
     refine rd2 3 5 (fun KK hK => ?_) (fun KK hK => ?_)
     ·
      go_simp
      go_at_call 30
      refine (tx1 2 ⟨#[120]⟩ t3 rfl g2 _ B2.out (by decide)).mono ?_
      rintro e v3 ⟨⟨A3, c3, rfl, ho3⟩, hb8⟩
      have O3 := Li ho3
      clear B2
      replace HP := Li (HK.out.1 _ _ HP.out hb8)
      replace HB := Li (Nat.le_trans HB.out hb8.size)
      clear hb8 ho3
      go_wp2_with fail
      refine hK.out _ _ (HP) (fun hHeld => ?_)
      clear hK KK
      try simp only [pnz]
      refine rd2 4 5 (fun KK hK => ?_) (fun KK hK => ?_)
      ·
       go_simp
       go_at_call 16
       refine (ex3 A3 c3 w _ (pS _ HP.out) O3.out).mono ?_
       rintro e v4 ⟨⟨A4, c4, rfl, ho4⟩, hb8⟩
       have O4 := Li ho4
       clear O3
       replace HP := Li (HK.out.1 _ _ HP.out hb8)
       replace HB := Li (Nat.le_trans HB.out hb8.size)
       clear hb8 ho4
       go_wp2_with fail
       refine hK.out _ _ (HP) (fun hHeld => ?_)
       clear hK KK
       try simp only [pnz]
       refine rd1 5 fun KK hK => ?_
       go_simp
       have z5 := HB.out
       have hb8 := al1 v4 (.cells #[.slice none 0 0] 30)
       replace HP := Li (HK.out.1 _ _ HP.out hb8)
       replace HB := Li (Nat.le_trans HB.out hb8.size)
       replace O4 := Li (O4.out.up hb8)
       clear hb8
       have B5 := Li (CB.new v4 30 [.slice none 0 0])
       refine hK.out _ _ (HP) (fun hHeld => ?_)
       clear hK KK
       try simp only [pnz]
       generalize v4.heap.size = g5 at B5 z5 ⊢
       generalize v4.alloc (.cells #[.slice none 0 0] 30) = v5 at HP HB B5 O4 hHeld ⊢
       refine rd1 6 fun KK hK => ?_
       refine step_store_cb rfl 30 (.tmp 6) (.tmp 36) rfl g5 [.slice A4 q3.length c4] rfl rfl 30 [.slice none 0 0] 1 B5.out sizeRw rfl rfl (one_rw _ _ _) ?_
       intro v6 hc6 hg6 hz6
       replace HP := Li (HK.out.2 _ _ _ _ HP.out B5.out z5 hg6)
       have QN := Li (show RX v6 g5 A4 c4 _ from ⟨hc6, O4.out.put B5.out hg6⟩)
       refine hK.out _ _ (HP) (fun hHeld => ?_)
       clear hK KK
       try simp only [pnz]
       refine wpAnyH_done (by kernel_rfl) ?_ _
       go_wp2_with fail
       go_meet
       exact ⟨_, _, _, rfl, z5, HP, QN⟩
      ·
       go_simp
       have z5 := HB.out
       have hb8 := al1 v3 (.cells #[.slice none 0 0] 30)
       replace HP := Li (HK.out.1 _ _ HP.out hb8)
       replace HB := Li (Nat.le_trans HB.out hb8.size)
       replace O3 := Li (O3.out.up hb8)
       clear hb8
       have B5 := Li (CB.new v3 30 [.slice none 0 0])
       refine hK.out _ _ (HP) (fun hHeld => ?_)
       clear hK KK
       try simp only [pnz]
       generalize v3.heap.size = g5 at B5 z5 ⊢
       generalize v3.alloc (.cells #[.slice none 0 0] 30) = v5 at HP HB B5 O3 hHeld ⊢
       refine rd1 4 fun KK hK => ?_
       go_simp
       go_at_call 16
       refine (ex3 A3 c3 w _ (pS _ HP.out) O3.out).mono ?_
       rintro e v4 ⟨⟨A4, c4, rfl, ho4⟩, hb8⟩
       have O4 := Li ho4
       clear O3
       replace HP := Li (HK.out.1 _ _ HP.out hb8)
       replace HB := Li (Nat.le_trans HB.out hb8.size)
       replace B5 := Li (B5.out.up hb8)
       clear hb8 ho4
       go_wp2_with fail
       refine hK.out _ _ (HP) (fun hHeld => ?_)
       clear hK KK
       try simp only [pnz]
       refine rd1 6 fun KK hK => ?_
       refine step_store_cb rfl 30 (.tmp 6) (.tmp 36) rfl g5 [.slice A4 q3.length c4] rfl rfl 30 [.slice none 0 0] 1 B5.out sizeRw rfl rfl (one_rw _ _ _) ?_
       intro v6 hc6 hg6 hz6
       replace HP := Li (HK.out.2 _ _ _ _ HP.out B5.out z5 hg6)
       have QN := Li (show RX v6 g5 A4 c4 _ from ⟨hc6, O4.out.put B5.out hg6⟩)
       refine hK.out _ _ (HP) (fun hHeld => ?_)
       clear hK KK
       try simp only [pnz]
       refine wpAnyH_done (by kernel_rfl) ?_ _
       go_wp2_with fail
       go_meet
       exact ⟨_, _, _, rfl, z5, HP, QN⟩
     ·
      go_simp
      have z5 := HB.out
      have hb8 := al1 v2 (.cells #[.slice none 0 0] 30)
      replace HP := Li (HK.out.1 _ _ HP.out hb8)
      replace HB := Li (Nat.le_trans HB.out hb8.size)
      replace B2 := Li (B2.out.up hb8)
      clear hb8
      have B5 := Li (CB.new v2 30 [.slice none 0 0])
      refine hK.out _ _ (HP) (fun hHeld => ?_)
      clear hK KK
      try simp only [pnz]
      generalize v2.heap.size = g5 at B5 z5 ⊢
      generalize v2.alloc (.cells #[.slice none 0 0] 30) = v5 at HP HB B5 B2 hHeld ⊢
      refine rd1 3 fun KK hK => ?_
      go_simp
      go_at_call 30
      refine (tx1 2 ⟨#[120]⟩ t3 rfl g2 _ B2.out (by decide)).mono ?_
      rintro e v3 ⟨⟨A3, c3, rfl, ho3⟩, hb8⟩
      have O3 := Li ho3
      clear B2
      replace HP := Li (HK.out.1 _ _ HP.out hb8)
      replace HB := Li (Nat.le_trans HB.out hb8.size)
      replace B5 := Li (B5.out.up hb8)
      clear hb8 ho3
      go_wp2_with fail
      refine hK.out _ _ (HP) (fun hHeld => ?_)
      clear hK KK
      try simp only [pnz]
      refine rd1 4 fun KK hK => ?_
      go_simp
      go_at_call 16
      refine (ex3 A3 c3 w _ (pS _ HP.out) O3.out).mono ?_
      rintro e v4 ⟨⟨A4, c4, rfl, ho4⟩, hb8⟩
      have O4 := Li ho4
      clear O3
      replace HP := Li (HK.out.1 _ _ HP.out hb8)
      replace HB := Li (Nat.le_trans HB.out hb8.size)
      replace B5 := Li (B5.out.up hb8)
      clear hb8 ho4
      go_wp2_with fail
      refine hK.out _ _ (HP) (fun hHeld => ?_)
      clear hK KK
      try simp only [pnz]
      refine rd1 6 fun KK hK => ?_
      refine step_store_cb rfl 30 (.tmp 6) (.tmp 36) rfl g5 [.slice A4 q3.length c4] rfl rfl 30 [.slice none 0 0] 1 B5.out sizeRw rfl rfl (one_rw _ _ _) ?_
      intro v6 hc6 hg6 hz6
      replace HP := Li (HK.out.2 _ _ _ _ HP.out B5.out z5 hg6)
      have QN := Li (show RX v6 g5 A4 c4 _ from ⟨hc6, O4.out.put B5.out hg6⟩)
      refine hK.out _ _ (HP) (fun hHeld => ?_)
      clear hK KK
      try simp only [pnz]
      refine wpAnyH_done (by kernel_rfl) ?_ _
      go_wp2_with fail
      go_meet
      exact ⟨_, _, _, rfl, z5, HP, QN⟩
    ·
     go_simp
     have z5 := HB.out
     have hb8 := al1 X0 (.cells #[.slice none 0 0] 30)
     replace HP := Li (HK.out.1 _ _ HP.out hb8)
     replace HB := Li (Nat.le_trans HB.out hb8.size)
     clear hb8
     have B5 := Li (CB.new X0 30 [.slice none 0 0])
     refine hK.out _ _ (HP) (fun hHeld => ?_)
     clear hK KK
     try simp only [pnz]
     generalize X0.heap.size = g5 at B5 z5 ⊢
     generalize X0.alloc (.cells #[.slice none 0 0] 30) = v5 at HP HB B5  hHeld ⊢
     refine rd1 2 fun KK hK => ?_
     go_simp
     have hb8 := al1 v5 (.cells #[.string ⟨#[120]⟩] 9)
     replace HP := Li (HK.out.1 _ _ HP.out hb8)
     replace HB := Li (Nat.le_trans HB.out hb8.size)
     replace B5 := Li (B5.out.up hb8)
     clear hb8
     have B2 := Li (CB.new v5 9 [.string ⟨#[120]⟩])
     refine hK.out _ _ (HP) (fun hHeld => ?_)
     clear hK KK
     try simp only [pnz]
     generalize v5.heap.size = g2 at B2 ⊢
     generalize v5.alloc (.cells #[.string ⟨#[120]⟩] 9) = v2 at HP HB B2 B5 hHeld ⊢
     refine rd1 3 fun KK hK => ?_
     go_simp
     go_at_call 30
     refine (tx1 2 ⟨#[120]⟩ t3 rfl g2 _ B2.out (by decide)).mono ?_
     rintro e v3 ⟨⟨A3, c3, rfl, ho3⟩, hb8⟩
     have O3 := Li ho3
     clear B2
     replace HP := Li (HK.out.1 _ _ HP.out hb8)
     replace HB := Li (Nat.le_trans HB.out hb8.size)
     replace B5 := Li (B5.out.up hb8)
     clear hb8 ho3
     go_wp2_with fail
     refine hK.out _ _ (HP) (fun hHeld => ?_)
     clear hK KK
     try simp only [pnz]
     refine rd1 4 fun KK hK => ?_
     go_simp
     go_at_call 16
     refine (ex3 A3 c3 w _ (pS _ HP.out) O3.out).mono ?_
     rintro e v4 ⟨⟨A4, c4, rfl, ho4⟩, hb8⟩
     have O4 := Li ho4
     clear O3
     replace HP := Li (HK.out.1 _ _ HP.out hb8)
     replace HB := Li (Nat.le_trans HB.out hb8.size)
     replace B5 := Li (B5.out.up hb8)
     clear hb8 ho4
     go_wp2_with fail
     refine hK.out _ _ (HP) (fun hHeld => ?_)
     clear hK KK
     try simp only [pnz]
     refine rd1 6 fun KK hK => ?_
     refine step_store_cb rfl 30 (.tmp 6) (.tmp 36) rfl g5 [.slice A4 q3.length c4] rfl rfl 30 [.slice none 0 0] 1 B5.out sizeRw rfl rfl (one_rw _ _ _) ?_
     intro v6 hc6 hg6 hz6
     replace HP := Li (HK.out.2 _ _ _ _ HP.out B5.out z5 hg6)
     have QN := Li (show RX v6 g5 A4 c4 _ from ⟨hc6, O4.out.put B5.out hg6⟩)
     refine hK.out _ _ (HP) (fun hHeld => ?_)
     clear hK KK
     try simp only [pnz]
     refine wpAnyH_done (by kernel_rfl) ?_ _
     go_wp2_with fail
     go_meet
     exact ⟨_, _, _, rfl, z5, HP, QN⟩
   case rest =>
    obtain ⟨g6, c6, A6, rfl, hge, HP1, QN⟩ := hcut
    have hh : ∃ P2 : World → Prop, Hid (Kp wc.heap.size P2) ∧ Hid (P2 wc) ∧ (∀ X, P2 X → P X) ∧ ∀ X, P2 X → RX X g6 A6 c6 q3 := ⟨fun X => P X ∧ RX X g6 A6 c6 q3, Li (HK.out.row (Nat.le_of_lt (Nat.lt_of_le_of_lt hge QN.out.1.lt)) QN.out.1.lt), Li ⟨HP1.out, QN.out⟩, fun _ h => h.1, fun _ h => h.2⟩
    clear HP1 QN HP HK hge
    obtain ⟨P, HK, HP, pp6, pr6⟩ := hh
    replace pr4 := fun X h => pr4 X (pp6 X h)
    replace pr5 := fun X h => pr5 X (pp6 X h)
    replace pS := fun X h => pS X (pp6 X h)
    clear pp6
    generalize wc = W7 at *
    go_upto_region 7 with fail
    go_cut [7] from 37 to 41 (fun u wx => ∃ (g c : Nat) (A : Option Addr), u = .pointer (some ⟨g, 0, none⟩) ∧ W7.heap.size ≤ g ∧ Hid (P wx) ∧ Hid (RX wx g A c q4))
    case first => as_aux_lemma =>
     replace HP : Hid (P W7.drew) := Li (HK.out.1 _ _ HP.out (bd _))
     have HB := Li (show W7.heap.size ≤ W7.drew.heap.size from Nat.le_refl _)
     refine wp_region_held_drew (S := fun w' => Hid (P w')) (by kernel_rfl) HP (fun hHeld => ?_)
     revert hHeld HP HB
     generalize W7.drew = X0
     intro HP HB hHeld
     refine htf 0 (fun _ h => SN.cs (pS _ h.out)) ?_
     refine htf 1 (fun _ h => SN.cs (pS _ h.out)) ?_
     refine rd2 2 5 (fun KK hK => ?_) (fun KK hK => ?_)
     ·
      go_simp
      have hb8 := al1 X0 (.cells #[.string ⟨#[45, 120]⟩] 9)
      replace HP := Li (HK.out.1 _ _ HP.out hb8)
      replace HB := Li (Nat.le_trans HB.out hb8.size)
      clear hb8
      have B2 := Li (CB.new X0 9 [.string ⟨#[45, 120]⟩])
      refine hK.out _ _ (HP) (fun hHeld => ?_)
      clear hK KK
      try simp only [pnz]
      generalize X0.heap.size = g2 at B2 ⊢
      generalize X0.alloc (.cells #[.string ⟨#[45, 120]⟩] 9) = v2 at HP HB B2  hHeld ⊢
      refine rd2 3 5 (fun KK hK => ?_) (fun KK hK => ?_)
      ·
       go_simp
       go_at_call 30
       refine (tx1 3 ⟨#[45, 120]⟩ t4 rfl g2 _ B2.out (by decide)).mono ?_
       rintro e v3 ⟨⟨A3, c3, rfl, ho3⟩, hb8⟩
       have O3 := Li ho3
       clear B2
       replace HP := Li (HK.out.1 _ _ HP.out hb8)
       replace HB := Li (Nat.le_trans HB.out hb8.size)
       clear hb8 ho3
       go_wp2_with fail
       refine hK.out _ _ (HP) (fun hHeld => ?_)
       clear hK KK
       try simp only [pnz]
       refine rd2 4 5 (fun KK hK => ?_) (fun KK hK => ?_)
       ·
        go_simp
        go_at_call 18
        refine (ex4 A3 c3 w _ (pS _ HP.out) O3.out).mono ?_
        rintro e v4 ⟨⟨A4, c4, rfl, ho4⟩, hb8⟩
        have O4 := Li ho4
        clear O3
        replace HP := Li (HK.out.1 _ _ HP.out hb8)
        replace HB := Li (Nat.le_trans HB.out hb8.size)
        clear hb8 ho4
        go_wp2_with fail
        refine hK.out _ _ (HP) (fun hHeld => ?_)
        clear hK KK
        try simp only [pnz]
        refine rd1 5 fun KK hK => ?_
        go_simp
        have z5 := HB.out
        have hb8 := al1 v4 (.cells #[.slice none 0 0] 30)
        replace HP := Li (HK.out.1 _ _ HP.out hb8)
        replace HB := Li (Nat.le_trans HB.out hb8.size)
        replace O4 := Li (O4.out.up hb8)
        clear hb8
        have B5 := Li (CB.new v4 30 [.slice none 0 0])
        refine hK.out _ _ (HP) (fun hHeld => ?_)
        clear hK KK
        try simp only [pnz]
        generalize v4.heap.size = g5 at B5 z5 ⊢
        generalize v4.alloc (.cells #[.slice none 0 0] 30) = v5 at HP HB B5 O4 hHeld ⊢
        refine rd1 6 fun KK hK => ?_
        refine step_store_cb rfl 30 (.tmp 7) (.tmp 41) rfl g5 [.slice A4 q4.length c4] rfl rfl 30 [.slice none 0 0] 1 B5.out sizeRw rfl rfl (one_rw _ _ _) ?_
        intro v6 hc6 hg6 hz6
        replace HP := Li (HK.out.2 _ _ _ _ HP.out B5.out z5 hg6)
        have QN := Li (show RX v6 g5 A4 c4 _ from ⟨hc6, O4.out.put B5.out hg6⟩)
        refine hK.out _ _ (HP) (fun hHeld => ?_)
        clear hK KK
        try simp only [pnz]
        refine wpAnyH_done (by kernel_rfl) ?_ _
        go_wp2_with fail
        go_meet
        exact ⟨_, _, _, rfl, z5, HP, QN⟩
       ·
        go_simp
        have z5 := HB.out
        have hb8 := al1 v3 (.cells #[.slice none 0 0] 30)
        replace HP := Li (HK.out.1 _ _ HP.out hb8)
        replace HB := Li (Nat.le_trans HB.out hb8.size)
        replace O3 := Li (O3.out.up hb8)
        clear hb8
        have B5 := Li (CB.new v3 30 [.slice none 0 0])
        refine hK.out _ _ (HP) (fun hHeld => ?_)
        clear hK KK
        try simp only [pnz]
        generalize v3.heap.size = g5 at B5 z5 ⊢
        generalize v3.alloc (.cells #[.slice none 0 0] 30) = v5 at HP HB B5 O3 hHeld ⊢
        refine rd1 4 fun KK hK => ?_
        go_simp
        go_at_call 18
        refine (ex4 A3 c3 w _ (pS _ HP.out) O3.out).mono ?_
        rintro e v4 ⟨⟨A4, c4, rfl, ho4⟩, hb8⟩
        have O4 := Li ho4
        clear O3
        replace HP := Li (HK.out.1 _ _ HP.out hb8)
        replace HB := Li (Nat.le_trans HB.out hb8.size)
        replace B5 := Li (B5.out.up hb8)
        clear hb8 ho4
        go_wp2_with fail
        refine hK.out _ _ (HP) (fun hHeld => ?_)
        clear hK KK
        try simp only [pnz]
        refine rd1 6 fun KK hK => ?_
        refine step_store_cb rfl 30 (.tmp 7) (.tmp 41) rfl g5 [.slice A4 q4.length c4] rfl rfl 30 [.slice none 0 0] 1 B5.out sizeRw rfl rfl (one_rw _ _ _) ?_
        intro v6 hc6 hg6 hz6
        replace HP := Li (HK.out.2 _ _ _ _ HP.out B5.out z5 hg6)
        have QN := Li (show RX v6 g5 A4 c4 _ from ⟨hc6, O4.out.put B5.out hg6⟩)
        refine hK.out _ _ (HP) (fun hHeld => ?_)
        clear hK KK
        try simp only [pnz]
        refine wpAnyH_done (by kernel_rfl) ?_ _
        go_wp2_with fail
        go_meet
        exact ⟨_, _, _, rfl, z5, HP, QN⟩
      ·
       go_simp
       have z5 := HB.out
       have hb8 := al1 v2 (.cells #[.slice none 0 0] 30)
       replace HP := Li (HK.out.1 _ _ HP.out hb8)
       replace HB := Li (Nat.le_trans HB.out hb8.size)
       replace B2 := Li (B2.out.up hb8)
       clear hb8
       have B5 := Li (CB.new v2 30 [.slice none 0 0])
       refine hK.out _ _ (HP) (fun hHeld => ?_)
       clear hK KK
       try simp only [pnz]
       generalize v2.heap.size = g5 at B5 z5 ⊢
       generalize v2.alloc (.cells #[.slice none 0 0] 30) = v5 at HP HB B5 B2 hHeld ⊢
       refine rd1 3 fun KK hK => ?_
       go_simp
       go_at_call 30
       refine (tx1 3 ⟨#[45, 120]⟩ t4 rfl g2 _ B2.out (by decide)).mono ?_
       rintro e v3 ⟨⟨A3, c3, rfl, ho3⟩, hb8⟩
       have O3 := Li ho3
       clear B2
       replace HP := Li (HK.out.1 _ _ HP.out hb8)
       replace HB := Li (Nat.le_trans HB.out hb8.size)
       replace B5 := Li (B5.out.up hb8)
       clear hb8 ho3
       go_wp2_with fail
       refine hK.out _ _ (HP) (fun hHeld => ?_)
       clear hK KK
       try simp only [pnz]
       refine rd1 4 fun KK hK => ?_
       go_simp
       go_at_call 18
       refine (ex4 A3 c3 w _ (pS _ HP.out) O3.out).mono ?_
       rintro e v4 ⟨⟨A4, c4, rfl, ho4⟩, hb8⟩
       have O4 := Li ho4
       clear O3
       replace HP := Li (HK.out.1 _ _ HP.out hb8)
       replace HB := Li (Nat.le_trans HB.out hb8.size)
       replace B5 := Li (B5.out.up hb8)
       clear hb8 ho4
       go_wp2_with fail
       refine hK.out _ _ (HP) (fun hHeld => ?_)
       clear hK KK
       try simp only [pnz]
       refine rd1 6 fun KK hK => ?_
       refine step_store_cb rfl 30 (.tmp 7) (.tmp 41) rfl g5 [.slice A4 q4.length c4] rfl rfl 30 [.slice none 0 0] 1 B5.out sizeRw rfl rfl (one_rw _ _ _) ?_
       intro v6 hc6 hg6 hz6
       replace HP := Li (HK.out.2 _ _ _ _ HP.out B5.out z5 hg6)
       have QN := Li (show RX v6 g5 A4 c4 _ from ⟨hc6, O4.out.put B5.out hg6⟩)
       refine hK.out _ _ (HP) (fun hHeld => ?_)
       clear hK KK
       try simp only [pnz]
       refine wpAnyH_done (by kernel_rfl) ?_ _
       go_wp2_with fail
       go_meet
       exact ⟨_, _, _, rfl, z5, HP, QN⟩
     ·
      go_simp
      have z5 := HB.out
      have hb8 := al1 X0 (.cells #[.slice none 0 0] 30)
      replace HP := Li (HK.out.1 _ _ HP.out hb8)
      replace HB := Li (Nat.le_trans HB.out hb8.size)
      clear hb8
      have B5 := Li (CB.new X0 30 [.slice none 0 0])
      refine hK.out _ _ (HP) (fun hHeld => ?_)
      clear hK KK
      try simp only [pnz]
      generalize X0.heap.size = g5 at B5 z5 ⊢
      generalize X0.alloc (.cells #[.slice none 0 0] 30) = v5 at HP HB B5  hHeld ⊢
      refine rd1 2 fun KK hK => ?_
      go_simp
      have hb8 := al1 v5 (.cells #[.string ⟨#[45, 120]⟩] 9)
      replace HP := Li (HK.out.1 _ _ HP.out hb8)
      replace HB := Li (Nat.le_trans HB.out hb8.size)
      replace B5 := Li (B5.out.up hb8)
      clear hb8
      have B2 := Li (CB.new v5 9 [.string ⟨#[45, 120]⟩])
      refine hK.out _ _ (HP) (fun hHeld => ?_)
      clear hK KK
      try simp only [pnz]
      generalize v5.heap.size = g2 at B2 ⊢
      generalize v5.alloc (.cells #[.string ⟨#[45, 120]⟩] 9) = v2 at HP HB B2 B5 hHeld ⊢
      refine rd1 3 fun KK hK => ?_
      go_simp
      go_at_call 30
      refine (tx1 3 ⟨#[45, 120]⟩ t4 rfl g2 _ B2.out (by decide)).mono ?_
      rintro e v3 ⟨⟨A3, c3, rfl, ho3⟩, hb8⟩
      have O3 := Li ho3
      clear B2
      replace HP := Li (HK.out.1 _ _ HP.out hb8)
      replace HB := Li (Nat.le_trans HB.out hb8.size)
      replace B5 := Li (B5.out.up hb8)
      clear hb8 ho3
      go_wp2_with fail
      refine hK.out _ _ (HP) (fun hHeld => ?_)
      clear hK KK
      try simp only [pnz]
      refine rd1 4 fun KK hK => ?_
      go_simp
      go_at_call 18
      refine (ex4 A3 c3 w _ (pS _ HP.out) O3.out).mono ?_
      rintro e v4 ⟨⟨A4, c4, rfl, ho4⟩, hb8⟩
      have O4 := Li ho4
      clear O3
      replace HP := Li (HK.out.1 _ _ HP.out hb8)
      replace HB := Li (Nat.le_trans HB.out hb8.size)
      replace B5 := Li (B5.out.up hb8)
      clear hb8 ho4
      go_wp2_with fail
      refine hK.out _ _ (HP) (fun hHeld => ?_)
      clear hK KK
      try simp only [pnz]
      refine rd1 6 fun KK hK => ?_
      refine step_store_cb rfl 30 (.tmp 7) (.tmp 41) rfl g5 [.slice A4 q4.length c4] rfl rfl 30 [.slice none 0 0] 1 B5.out sizeRw rfl rfl (one_rw _ _ _) ?_
      intro v6 hc6 hg6 hz6
      replace HP := Li (HK.out.2 _ _ _ _ HP.out B5.out z5 hg6)
      have QN := Li (show RX v6 g5 A4 c4 _ from ⟨hc6, O4.out.put B5.out hg6⟩)
      refine hK.out _ _ (HP) (fun hHeld => ?_)
      clear hK KK
      try simp only [pnz]
      refine wpAnyH_done (by kernel_rfl) ?_ _
      go_wp2_with fail
      go_meet
      exact ⟨_, _, _, rfl, z5, HP, QN⟩
    case rest =>
     obtain ⟨g7, c7, A7, rfl, hge, HP1, QN⟩ := hcut
     have hh : ∃ P2 : World → Prop, Hid (Kp wc.heap.size P2) ∧ Hid (P2 wc) ∧ (∀ X, P2 X → P X) ∧ ∀ X, P2 X → RX X g7 A7 c7 q4 := ⟨fun X => P X ∧ RX X g7 A7 c7 q4, Li (HK.out.row (Nat.le_of_lt (Nat.lt_of_le_of_lt hge QN.out.1.lt)) QN.out.1.lt), Li ⟨HP1.out, QN.out⟩, fun _ h => h.1, fun _ h => h.2⟩
     clear HP1 QN HP HK hge
     obtain ⟨P, HK, HP, pp7, pr7⟩ := hh
     replace pr4 := fun X h => pr4 X (pp7 X h)
     replace pr5 := fun X h => pr5 X (pp7 X h)
     replace pr6 := fun X h => pr6 X (pp7 X h)
     replace pS := fun X h => pS X (pp7 X h)
     clear pp7
     generalize wc = W8 at *
     go_upto_region 9 with fail
     have hh : ∃ P2 : World → Prop, Hid (Kp (W8.alloc (.cells #[.int .i64 1, .int .i64 0, .int .i64 0, .string ⟨#[97]⟩, .string ⟨#[]⟩, .int .i64 4, .int .i64 0, .string ⟨#[]⟩] 24)).heap.size P2) ∧ Hid (P2 (W8.alloc (.cells #[.int .i64 1, .int .i64 0, .int .i64 0, .string ⟨#[97]⟩, .string ⟨#[]⟩, .int .i64 4, .int .i64 0, .string ⟨#[]⟩] 24))) ∧ (∀ X, P2 X → P X) ∧ ∀ X, P2 X → CB X W8.heap.size 24 [.int .i64 1, .int .i64 0, .int .i64 0, .string ⟨#[97]⟩, .string ⟨#[]⟩, .int .i64 4, .int .i64 0, .string ⟨#[]⟩] := ⟨fun X => P X ∧ CB X W8.heap.size 24 [.int .i64 1, .int .i64 0, .int .i64 0, .string ⟨#[97]⟩, .string ⟨#[]⟩, .int .i64 4, .int .i64 0, .string ⟨#[]⟩], Li ((HK.out.mono (al1 W8 (.cells #[.int .i64 1, .int .i64 0, .int .i64 0, .string ⟨#[97]⟩, .string ⟨#[]⟩, .int .i64 4, .int .i64 0, .string ⟨#[]⟩] 24)).size).box), Li ⟨HK.out.1 _ _ HP.out (al1 W8 (.cells #[.int .i64 1, .int .i64 0, .int .i64 0, .string ⟨#[97]⟩, .string ⟨#[]⟩, .int .i64 4, .int .i64 0, .string ⟨#[]⟩] 24)), CB.new W8 24 [.int .i64 1, .int .i64 0, .int .i64 0, .string ⟨#[97]⟩, .string ⟨#[]⟩, .int .i64 4, .int .i64 0, .string ⟨#[]⟩]⟩, fun _ h => h.1, fun _ h => h.2⟩
     clear HP HK
     obtain ⟨P, HK, HP, pp, pA⟩ := hh
     replace pr4 := fun X h => pr4 X (pp X h)
     replace pr5 := fun X h => pr5 X (pp X h)
     replace pr6 := fun X h => pr6 X (pp X h)
     replace pr7 := fun X h => pr7 X (pp X h)
     replace pS := fun X h => pS X (pp X h)
     clear pp
     generalize W8.heap.size = gA at *
     generalize W8.alloc (.cells #[.int .i64 1, .int .i64 0, .int .i64 0, .string ⟨#[97]⟩, .string ⟨#[]⟩, .int .i64 4, .int .i64 0, .string ⟨#[]⟩] 24) = W9 at *
     go_cut [9, 10] from 44 to 50 (fun u e wx => ∃ (g c : Nat) (A : Option Addr), (u = .pointer (some ⟨g, 0, none⟩) ∧ e = .int .i64 1) ∧ W9.heap.size ≤ g ∧ Hid (P wx) ∧ Hid (RX wx g A c []))
     case first => as_aux_lemma =>
      go_wp2_with (go_at_call 23; refine (ex5 gA _ (pA _ HP.out) (pS _ HP.out).2.1).mono ?_; rintro e v9 ⟨⟨A9, c9, rfl, ho9⟩, hb9⟩; have O9 := Li ho9; have HP9 := Li (HK.out.1 _ _ HP.out hb9); have HB := Li hb9.size; clear ho9 hb9)
      go_meet
      exact ⟨_, c9, A9, ⟨rfl, rfl⟩, HB.out, Li (HK.out.1 _ _ HP9.out (al1 _ _)), Li ⟨CB.new _ _ _, O9.out.alloc _⟩⟩
     case rest =>
      obtain ⟨g9, c9, A9, ⟨rfl, rfl⟩, hge, HP1, QN⟩ := hcut
      have hh : ∃ P2 : World → Prop, Hid (Kp wc.heap.size P2) ∧ Hid (P2 wc) ∧ (∀ X, P2 X → P X) ∧ ∀ X, P2 X → RX X g9 A9 c9 [] := ⟨fun X => P X ∧ RX X g9 A9 c9 [], Li (HK.out.row (Nat.le_of_lt (Nat.lt_of_le_of_lt hge QN.out.1.lt)) QN.out.1.lt), Li ⟨HP1.out, QN.out⟩, fun _ h => h.1, fun _ h => h.2⟩
      clear HP1 QN HP HK hge
      obtain ⟨P, HK, HP, pp, pr9⟩ := hh
      replace pr4 := fun X h => pr4 X (pp X h)
      replace pr5 := fun X h => pr5 X (pp X h)
      replace pr6 := fun X h => pr6 X (pp X h)
      replace pr7 := fun X h => pr7 X (pp X h)
      replace pS := fun X h => pS X (pp X h)
      replace pA := fun X h => pA X (pp X h)
      clear pp
      generalize wc = W10 at *
      go_upto_region 10 with fail
      go_cut [11, 12] from 51 to 58 (fun u e wx => ∃ (g c : Nat) (A : Option Addr), (u = .pointer (some ⟨g, 0, none⟩) ∧ e = .int .i64 7) ∧ W10.heap.size ≤ g ∧ Hid (P wx) ∧ Hid (RX wx g A c []))
      case first => as_aux_lemma =>
       have hT := Li (CB.new W10 9 [.string ⟨#[120]⟩])
       have HP7 := Li (HK.out.1 _ _ HP.out (al1 W10 (.cells #[.string ⟨#[120]⟩] 9)))
       go_wp2_with (first | (go_at_call 30; refine (tx1 1 ⟨#[120]⟩ t5 rfl W10.heap.size _ hT.out (by decide)).mono ?_; rintro e u9 ⟨⟨B9, d9, rfl, hp⟩, hq⟩; have PX := Li hp; have HP8 := Li (HK.out.1 _ _ HP7.out hq); have HQ := Li hq.size; clear hp hq hT) | (go_at_call 23; refine (ex6 B9 d9 gA _ (pA _ HP8.out) (pS _ HP8.out).2.1 PX.out).mono ?_; rintro e v9 ⟨⟨A9, c9, rfl, ho9⟩, hb9⟩; have O9 := Li ho9; have HP9 := Li (HK.out.1 _ _ HP8.out hb9); have HB := Li hb9.size; clear ho9 hb9))
       go_meet
       exact ⟨_, c9, A9, ⟨rfl, rfl⟩, Nat.le_trans (al1 W10 (.cells #[.string ⟨#[120]⟩] 9)).size (Nat.le_trans HQ.out HB.out), Li (HK.out.1 _ _ HP9.out (al1 _ _)), Li ⟨CB.new _ _ _, O9.out.alloc _⟩⟩
      case rest =>
       obtain ⟨g11, c11, A11, ⟨rfl, rfl⟩, hge, HP1, QN⟩ := hcut
       have hh : ∃ P2 : World → Prop, Hid (Kp wc.heap.size P2) ∧ Hid (P2 wc) ∧ (∀ X, P2 X → P X) ∧ ∀ X, P2 X → RX X g11 A11 c11 [] := ⟨fun X => P X ∧ RX X g11 A11 c11 [], Li (HK.out.row (Nat.le_of_lt (Nat.lt_of_le_of_lt hge QN.out.1.lt)) QN.out.1.lt), Li ⟨HP1.out, QN.out⟩, fun _ h => h.1, fun _ h => h.2⟩
       clear HP1 QN HP HK hge
       obtain ⟨P, HK, HP, pp, pr11⟩ := hh
       replace pr4 := fun X h => pr4 X (pp X h)
       replace pr5 := fun X h => pr5 X (pp X h)
       replace pr6 := fun X h => pr6 X (pp X h)
       replace pr7 := fun X h => pr7 X (pp X h)
       replace pr9 := fun X h => pr9 X (pp X h)
       replace pS := fun X h => pS X (pp X h)
       replace pA := fun X h => pA X (pp X h)
       clear pp
       generalize wc = W11 at *
       go_upto_region 11 with fail
       go_cut [13, 14] from 59 to 66 (fun u e wx => ∃ (g c : Nat) (A : Option Addr), (u = .pointer (some ⟨g, 0, none⟩) ∧ e = .int .i64 0) ∧ W11.heap.size ≤ g ∧ Hid (P wx) ∧ Hid (RX wx g A c []))
       case first => as_aux_lemma =>
        have hT := Li (CB.new W11 9 [.string ⟨#[120]⟩])
        have HP7 := Li (HK.out.1 _ _ HP.out (al1 W11 (.cells #[.string ⟨#[120]⟩] 9)))
        go_wp2_with (first | (go_at_call 30; refine (tx1 1 ⟨#[120]⟩ t5 rfl W11.heap.size _ hT.out (by decide)).mono ?_; rintro e u9 ⟨⟨B9, d9, rfl, hp⟩, hq⟩; have PX := Li hp; have HP8 := Li (HK.out.1 _ _ HP7.out hq); have HQ := Li hq.size; clear hp hq hT) | (go_at_call 23; refine (ex7 B9 d9 gA _ (pA _ HP8.out) (pS _ HP8.out).2.1 PX.out).mono ?_; rintro e v9 ⟨⟨A9, c9, rfl, ho9⟩, hb9⟩; have O9 := Li ho9; have HP9 := Li (HK.out.1 _ _ HP8.out hb9); have HB := Li hb9.size; clear ho9 hb9))
        go_meet
        exact ⟨_, c9, A9, ⟨rfl, rfl⟩, Nat.le_trans (al1 W11 (.cells #[.string ⟨#[120]⟩] 9)).size (Nat.le_trans HQ.out HB.out), Li (HK.out.1 _ _ HP9.out (al1 _ _)), Li ⟨CB.new _ _ _, O9.out.alloc _⟩⟩
       case rest =>
        obtain ⟨g13, c13, A13, ⟨rfl, rfl⟩, hge, HP1, QN⟩ := hcut
        have hh : ∃ P2 : World → Prop, Hid (Kp wc.heap.size P2) ∧ Hid (P2 wc) ∧ (∀ X, P2 X → P X) ∧ ∀ X, P2 X → RX X g13 A13 c13 [] := ⟨fun X => P X ∧ RX X g13 A13 c13 [], Li (HK.out.row (Nat.le_of_lt (Nat.lt_of_le_of_lt hge QN.out.1.lt)) QN.out.1.lt), Li ⟨HP1.out, QN.out⟩, fun _ h => h.1, fun _ h => h.2⟩
        clear HP1 QN HP HK hge
        obtain ⟨P, HK, HP, pp, pr13⟩ := hh
        replace pr4 := fun X h => pr4 X (pp X h)
        replace pr5 := fun X h => pr5 X (pp X h)
        replace pr6 := fun X h => pr6 X (pp X h)
        replace pr7 := fun X h => pr7 X (pp X h)
        replace pr9 := fun X h => pr9 X (pp X h)
        replace pr11 := fun X h => pr11 X (pp X h)
        replace pS := fun X h => pS X (pp X h)
        replace pA := fun X h => pA X (pp X h)
        clear pp
        generalize wc = W12 at *
        go_upto_region 12 with fail
        go_cut [15] from 67 to 71 (fun u wx => ∃ (g c : Nat) (A : Option Addr), u = .pointer (some ⟨g, 0, none⟩) ∧ W12.heap.size ≤ g ∧ Hid (P wx) ∧ Hid (RX wx g A c q6))
        case first => as_aux_lemma =>
         replace HP : Hid (P W12.drew) := Li (HK.out.1 _ _ HP.out (bd _))
         have HB := Li (show W12.heap.size ≤ W12.drew.heap.size from Nat.le_refl _)
         refine wp_region_held_drew (S := fun w' => Hid (P w')) (by kernel_rfl) HP (fun hHeld => ?_)
         revert hHeld HP HB
         generalize W12.drew = X0
         intro HP HB hHeld
         refine htf 0 (fun _ h => SN.cs (pS _ h.out)) ?_
         refine htk 1 ?_
         refine rd2 2 5 (fun KK hK => ?_) (fun KK hK => ?_)
         ·
          go_simp
          have hb8 := al1 X0 (.cells #[.string ⟨#[120]⟩, .string ⟨#[121]⟩] 9)
          replace HP := Li (HK.out.1 _ _ HP.out hb8)
          replace HB := Li (Nat.le_trans HB.out hb8.size)
          clear hb8
          have B2 := Li (CB.new X0 9 [.string ⟨#[120]⟩, .string ⟨#[121]⟩])
          refine hK.out _ _ (HP) (fun hHeld => ?_)
          clear hK KK
          try simp only [pnz]
          generalize X0.heap.size = g2 at B2 ⊢
          generalize X0.alloc (.cells #[.string ⟨#[120]⟩, .string ⟨#[121]⟩] 9) = v2 at HP HB B2  hHeld ⊢
          refine rd2 3 5 (fun KK hK => ?_) (fun KK hK => ?_)
          ·
           go_simp
           go_at_call 30
           refine (tx2 1 ⟨#[120]⟩ ⟨#[121]⟩ t6 rfl g2 _ B2.out (by decide)).mono ?_
           rintro e v3 ⟨⟨A3, c3, rfl, ho3⟩, hb8⟩
           have O3 := Li ho3
           clear B2
           replace HP := Li (HK.out.1 _ _ HP.out hb8)
           replace HB := Li (Nat.le_trans HB.out hb8.size)
           clear hb8 ho3
           go_wp2_with fail
           refine hK.out _ _ (HP) (fun hHeld => ?_)
           clear hK KK
           try simp only [pnz]
           refine rd2 4 5 (fun KK hK => ?_) (fun KK hK => ?_)
           ·
            go_simp
            go_at_call 16
            refine (ex8 A3 c3 w _ (pS _ HP.out) O3.out).mono ?_
            rintro e v4 ⟨⟨A4, c4, rfl, ho4⟩, hb8⟩
            have O4 := Li ho4
            clear O3
            replace HP := Li (HK.out.1 _ _ HP.out hb8)
            replace HB := Li (Nat.le_trans HB.out hb8.size)
            clear hb8 ho4
            go_wp2_with fail
            refine hK.out _ _ (HP) (fun hHeld => ?_)
            clear hK KK
            try simp only [pnz]
            refine rd1 5 fun KK hK => ?_
            go_simp
            have z5 := HB.out
            have hb8 := al1 v4 (.cells #[.slice none 0 0] 30)
            replace HP := Li (HK.out.1 _ _ HP.out hb8)
            replace HB := Li (Nat.le_trans HB.out hb8.size)
            replace O4 := Li (O4.out.up hb8)
            clear hb8
            have B5 := Li (CB.new v4 30 [.slice none 0 0])
            refine hK.out _ _ (HP) (fun hHeld => ?_)
            clear hK KK
            try simp only [pnz]
            generalize v4.heap.size = g5 at B5 z5 ⊢
            generalize v4.alloc (.cells #[.slice none 0 0] 30) = v5 at HP HB B5 O4 hHeld ⊢
            refine rd1 6 fun KK hK => ?_
            refine step_store_cb rfl 30 (.tmp 15) (.tmp 71) rfl g5 [.slice A4 q6.length c4] rfl rfl 30 [.slice none 0 0] 1 B5.out sizeRw rfl rfl (one_rw _ _ _) ?_
            intro v6 hc6 hg6 hz6
            replace HP := Li (HK.out.2 _ _ _ _ HP.out B5.out z5 hg6)
            have QN := Li (show RX v6 g5 A4 c4 _ from ⟨hc6, O4.out.put B5.out hg6⟩)
            refine hK.out _ _ (HP) (fun hHeld => ?_)
            clear hK KK
            try simp only [pnz]
            refine wpAnyH_done (by kernel_rfl) ?_ _
            go_wp2_with fail
            go_meet
            exact ⟨_, _, _, rfl, z5, HP, QN⟩
           ·
            go_simp
            have z5 := HB.out
            have hb8 := al1 v3 (.cells #[.slice none 0 0] 30)
            replace HP := Li (HK.out.1 _ _ HP.out hb8)
            replace HB := Li (Nat.le_trans HB.out hb8.size)
            replace O3 := Li (O3.out.up hb8)
            clear hb8
            have B5 := Li (CB.new v3 30 [.slice none 0 0])
            refine hK.out _ _ (HP) (fun hHeld => ?_)
            clear hK KK
            try simp only [pnz]
            generalize v3.heap.size = g5 at B5 z5 ⊢
            generalize v3.alloc (.cells #[.slice none 0 0] 30) = v5 at HP HB B5 O3 hHeld ⊢
            refine rd1 4 fun KK hK => ?_
            go_simp
            go_at_call 16
            refine (ex8 A3 c3 w _ (pS _ HP.out) O3.out).mono ?_
            rintro e v4 ⟨⟨A4, c4, rfl, ho4⟩, hb8⟩
            have O4 := Li ho4
            clear O3
            replace HP := Li (HK.out.1 _ _ HP.out hb8)
            replace HB := Li (Nat.le_trans HB.out hb8.size)
            replace B5 := Li (B5.out.up hb8)
            clear hb8 ho4
            go_wp2_with fail
            refine hK.out _ _ (HP) (fun hHeld => ?_)
            clear hK KK
            try simp only [pnz]
            refine rd1 6 fun KK hK => ?_
            refine step_store_cb rfl 30 (.tmp 15) (.tmp 71) rfl g5 [.slice A4 q6.length c4] rfl rfl 30 [.slice none 0 0] 1 B5.out sizeRw rfl rfl (one_rw _ _ _) ?_
            intro v6 hc6 hg6 hz6
            replace HP := Li (HK.out.2 _ _ _ _ HP.out B5.out z5 hg6)
            have QN := Li (show RX v6 g5 A4 c4 _ from ⟨hc6, O4.out.put B5.out hg6⟩)
            refine hK.out _ _ (HP) (fun hHeld => ?_)
            clear hK KK
            try simp only [pnz]
            refine wpAnyH_done (by kernel_rfl) ?_ _
            go_wp2_with fail
            go_meet
            exact ⟨_, _, _, rfl, z5, HP, QN⟩
          ·
           go_simp
           have z5 := HB.out
           have hb8 := al1 v2 (.cells #[.slice none 0 0] 30)
           replace HP := Li (HK.out.1 _ _ HP.out hb8)
           replace HB := Li (Nat.le_trans HB.out hb8.size)
           replace B2 := Li (B2.out.up hb8)
           clear hb8
           have B5 := Li (CB.new v2 30 [.slice none 0 0])
           refine hK.out _ _ (HP) (fun hHeld => ?_)
           clear hK KK
           try simp only [pnz]
           generalize v2.heap.size = g5 at B5 z5 ⊢
           generalize v2.alloc (.cells #[.slice none 0 0] 30) = v5 at HP HB B5 B2 hHeld ⊢
           refine rd1 3 fun KK hK => ?_
           go_simp
           go_at_call 30
           refine (tx2 1 ⟨#[120]⟩ ⟨#[121]⟩ t6 rfl g2 _ B2.out (by decide)).mono ?_
           rintro e v3 ⟨⟨A3, c3, rfl, ho3⟩, hb8⟩
           have O3 := Li ho3
           clear B2
           replace HP := Li (HK.out.1 _ _ HP.out hb8)
           replace HB := Li (Nat.le_trans HB.out hb8.size)
           replace B5 := Li (B5.out.up hb8)
           clear hb8 ho3
           go_wp2_with fail
           refine hK.out _ _ (HP) (fun hHeld => ?_)
           clear hK KK
           try simp only [pnz]
           refine rd1 4 fun KK hK => ?_
           go_simp
           go_at_call 16
           refine (ex8 A3 c3 w _ (pS _ HP.out) O3.out).mono ?_
           rintro e v4 ⟨⟨A4, c4, rfl, ho4⟩, hb8⟩
           have O4 := Li ho4
           clear O3
           replace HP := Li (HK.out.1 _ _ HP.out hb8)
           replace HB := Li (Nat.le_trans HB.out hb8.size)
           replace B5 := Li (B5.out.up hb8)
           clear hb8 ho4
           go_wp2_with fail
           refine hK.out _ _ (HP) (fun hHeld => ?_)
           clear hK KK
           try simp only [pnz]
           refine rd1 6 fun KK hK => ?_
           refine step_store_cb rfl 30 (.tmp 15) (.tmp 71) rfl g5 [.slice A4 q6.length c4] rfl rfl 30 [.slice none 0 0] 1 B5.out sizeRw rfl rfl (one_rw _ _ _) ?_
           intro v6 hc6 hg6 hz6
           replace HP := Li (HK.out.2 _ _ _ _ HP.out B5.out z5 hg6)
           have QN := Li (show RX v6 g5 A4 c4 _ from ⟨hc6, O4.out.put B5.out hg6⟩)
           refine hK.out _ _ (HP) (fun hHeld => ?_)
           clear hK KK
           try simp only [pnz]
           refine wpAnyH_done (by kernel_rfl) ?_ _
           go_wp2_with fail
           go_meet
           exact ⟨_, _, _, rfl, z5, HP, QN⟩
         ·
          go_simp
          have z5 := HB.out
          have hb8 := al1 X0 (.cells #[.slice none 0 0] 30)
          replace HP := Li (HK.out.1 _ _ HP.out hb8)
          replace HB := Li (Nat.le_trans HB.out hb8.size)
          clear hb8
          have B5 := Li (CB.new X0 30 [.slice none 0 0])
          refine hK.out _ _ (HP) (fun hHeld => ?_)
          clear hK KK
          try simp only [pnz]
          generalize X0.heap.size = g5 at B5 z5 ⊢
          generalize X0.alloc (.cells #[.slice none 0 0] 30) = v5 at HP HB B5  hHeld ⊢
          refine rd1 2 fun KK hK => ?_
          go_simp
          have hb8 := al1 v5 (.cells #[.string ⟨#[120]⟩, .string ⟨#[121]⟩] 9)
          replace HP := Li (HK.out.1 _ _ HP.out hb8)
          replace HB := Li (Nat.le_trans HB.out hb8.size)
          replace B5 := Li (B5.out.up hb8)
          clear hb8
          have B2 := Li (CB.new v5 9 [.string ⟨#[120]⟩, .string ⟨#[121]⟩])
          refine hK.out _ _ (HP) (fun hHeld => ?_)
          clear hK KK
          try simp only [pnz]
          generalize v5.heap.size = g2 at B2 ⊢
          generalize v5.alloc (.cells #[.string ⟨#[120]⟩, .string ⟨#[121]⟩] 9) = v2 at HP HB B2 B5 hHeld ⊢
          refine rd1 3 fun KK hK => ?_
          go_simp
          go_at_call 30
          refine (tx2 1 ⟨#[120]⟩ ⟨#[121]⟩ t6 rfl g2 _ B2.out (by decide)).mono ?_
          rintro e v3 ⟨⟨A3, c3, rfl, ho3⟩, hb8⟩
          have O3 := Li ho3
          clear B2
          replace HP := Li (HK.out.1 _ _ HP.out hb8)
          replace HB := Li (Nat.le_trans HB.out hb8.size)
          replace B5 := Li (B5.out.up hb8)
          clear hb8 ho3
          go_wp2_with fail
          refine hK.out _ _ (HP) (fun hHeld => ?_)
          clear hK KK
          try simp only [pnz]
          refine rd1 4 fun KK hK => ?_
          go_simp
          go_at_call 16
          refine (ex8 A3 c3 w _ (pS _ HP.out) O3.out).mono ?_
          rintro e v4 ⟨⟨A4, c4, rfl, ho4⟩, hb8⟩
          have O4 := Li ho4
          clear O3
          replace HP := Li (HK.out.1 _ _ HP.out hb8)
          replace HB := Li (Nat.le_trans HB.out hb8.size)
          replace B5 := Li (B5.out.up hb8)
          clear hb8 ho4
          go_wp2_with fail
          refine hK.out _ _ (HP) (fun hHeld => ?_)
          clear hK KK
          try simp only [pnz]
          refine rd1 6 fun KK hK => ?_
          refine step_store_cb rfl 30 (.tmp 15) (.tmp 71) rfl g5 [.slice A4 q6.length c4] rfl rfl 30 [.slice none 0 0] 1 B5.out sizeRw rfl rfl (one_rw _ _ _) ?_
          intro v6 hc6 hg6 hz6
          replace HP := Li (HK.out.2 _ _ _ _ HP.out B5.out z5 hg6)
          have QN := Li (show RX v6 g5 A4 c4 _ from ⟨hc6, O4.out.put B5.out hg6⟩)
          refine hK.out _ _ (HP) (fun hHeld => ?_)
          clear hK KK
          try simp only [pnz]
          refine wpAnyH_done (by kernel_rfl) ?_ _
          go_wp2_with fail
          go_meet
          exact ⟨_, _, _, rfl, z5, HP, QN⟩
        case rest =>
         obtain ⟨g15, c15, A15, rfl, hge, HP1, QN⟩ := hcut
         have hh : ∃ P2 : World → Prop, Hid (Kp wc.heap.size P2) ∧ Hid (P2 wc) ∧ (∀ X, P2 X → P X) ∧ ∀ X, P2 X → RX X g15 A15 c15 q6 := ⟨fun X => P X ∧ RX X g15 A15 c15 q6, Li (HK.out.row (Nat.le_of_lt (Nat.lt_of_le_of_lt hge QN.out.1.lt)) QN.out.1.lt), Li ⟨HP1.out, QN.out⟩, fun _ h => h.1, fun _ h => h.2⟩
         clear HP1 QN HP HK hge
         obtain ⟨P, HK, HP, pp15, pr15⟩ := hh
         replace pr4 := fun X h => pr4 X (pp15 X h)
         replace pr5 := fun X h => pr5 X (pp15 X h)
         replace pr6 := fun X h => pr6 X (pp15 X h)
         replace pr7 := fun X h => pr7 X (pp15 X h)
         replace pr9 := fun X h => pr9 X (pp15 X h)
         replace pr11 := fun X h => pr11 X (pp15 X h)
         replace pr13 := fun X h => pr13 X (pp15 X h)
         replace pS := fun X h => pS X (pp15 X h)
         replace pA := fun X h => pA X (pp15 X h)
         clear pp15
         generalize wc = W13 at *
         go_upto_region 13 with fail
         replace HP : Hid (P W13.drew) := Li (HK.out.1 _ _ HP.out (bd _))
         refine wp_region_held_drew (S := fun w' => Hid (P w')) (by kernel_rfl) HP (fun hHeld => ?_)
         revert hHeld HP
         generalize W13.drew = X0
         intro HP hHeld
         refine htf 0 (fun _ h => And.intro (show _ = some (Value.slice A4 (q1.length) c4) from (pr4 _ h.out).1.cell 0 rfl) (pr4 _ h.out).1.lt) ?_
         refine rd1 1 fun KK hK => ?_
         go_simp
         replace HP := Li (HK.out.1 _ _ HP.out (al1 X0 (.cells #[.string ⟨#[97]⟩, .string ⟨#[98, 45, 99]⟩] 9)))
         have TB := Li (CB.new X0 9 [.string ⟨#[97]⟩, .string ⟨#[98, 45, 99]⟩])
         refine hK.out _ _ (HP) (fun hHeld => ?_)
         clear hK KK
         try simp only [pnz]
         generalize X0.heap.size = kt at TB ⊢
         generalize X0.alloc (.cells #[.string ⟨#[97]⟩, .string ⟨#[98, 45, 99]⟩] 9) = v1 at TB HP hHeld ⊢
         refine rd1 2 fun KK hK => ?_
         go_simp
         go_at_call 30
         refine (tx2 3 ⟨#[97]⟩ ⟨#[98, 45, 99]⟩ q1 rfl kt _ TB.out (by decide)).mono ?_
         rintro e v2 ⟨⟨AT, cT, rfl, ho⟩, hb8⟩
         have OT := Li ho
         replace HP := Li (HK.out.1 _ _ HP.out hb8)
         clear hb8 ho TB
         go_wp2_with fail
         refine hK.out _ _ (HP) (fun hHeld => ?_)
         clear hK KK
         try simp only [pnz]
         refine rd1 3 fun KK hK => ?_
         go_simp
         go_at_call 15
         refine (sameR A4 AT c4 cT q1 _ (pr4 _ HP.out).2.ces.1 OT.out (by decide)).mono ?_
         rintro e v3 ⟨rfl, hb8⟩
         replace HP := Li (HK.out.1 _ _ HP.out hb8)
         clear hb8 OT
         try clear AT cT
         go_wp2_with fail
         refine hK.out _ _ (HP) (fun hHeld => ?_)
         clear hK KK
         try simp only [pnz]
         refine htk 4 ?_
         refine htf 5 (fun _ h => And.intro (show _ = some (Value.slice A5 (q2.length) c5) from (pr5 _ h.out).1.cell 0 rfl) (pr5 _ h.out).1.lt) ?_
         refine rd1 6 fun KK hK => ?_
         go_simp
         replace HP := Li (HK.out.1 _ _ HP.out (al1 v3 (.cells #[.string ⟨#[97]⟩] 9)))
         have TB := Li (CB.new v3 9 [.string ⟨#[97]⟩])
         refine hK.out _ _ (HP) (fun hHeld => ?_)
         clear hK KK
         try simp only [pnz]
         generalize v3.heap.size = kt at TB ⊢
         generalize v3.alloc (.cells #[.string ⟨#[97]⟩] 9) = v6 at TB HP hHeld ⊢
         refine rd1 7 fun KK hK => ?_
         go_simp
         go_at_call 30
         refine (tx1 1 ⟨#[97]⟩ q2 rfl kt _ TB.out (by decide)).mono ?_
         rintro e v7 ⟨⟨AT, cT, rfl, ho⟩, hb8⟩
         have OT := Li ho
         replace HP := Li (HK.out.1 _ _ HP.out hb8)
         clear hb8 ho TB
         go_wp2_with fail
         refine hK.out _ _ (HP) (fun hHeld => ?_)
         clear hK KK
         try simp only [pnz]
         refine rd1 8 fun KK hK => ?_
         go_simp
         go_at_call 15
         refine (sameR A5 AT c5 cT q2 _ (pr5 _ HP.out).2.ces.1 OT.out (by decide)).mono ?_
         rintro e v8 ⟨rfl, hb8⟩
         replace HP := Li (HK.out.1 _ _ HP.out hb8)
         clear hb8 OT
         try clear AT cT
         go_wp2_with fail
         refine hK.out _ _ (HP) (fun hHeld => ?_)
         clear hK KK
         try simp only [pnz]
         refine htk 9 ?_
         refine htk 10 ?_
         refine htf 11 (fun _ h => And.intro (show _ = some (Value.slice A6 (q3.length) c6) from (pr6 _ h.out).1.cell 0 rfl) (pr6 _ h.out).1.lt) ?_
         refine rd1 12 fun KK hK => ?_
         go_simp
         replace HP := Li (HK.out.1 _ _ HP.out (al1 v8 (.cells #[.string ⟨#[45, 120]⟩] 9)))
         have TB := Li (CB.new v8 9 [.string ⟨#[45, 120]⟩])
         refine hK.out _ _ (HP) (fun hHeld => ?_)
         clear hK KK
         try simp only [pnz]
         generalize v8.heap.size = kt at TB ⊢
         generalize v8.alloc (.cells #[.string ⟨#[45, 120]⟩] 9) = v12 at TB HP hHeld ⊢
         refine rd1 13 fun KK hK => ?_
         go_simp
         go_at_call 30
         refine (tx1 3 ⟨#[45, 120]⟩ q3 rfl kt _ TB.out (by decide)).mono ?_
         rintro e v13 ⟨⟨AT, cT, rfl, ho⟩, hb8⟩
         have OT := Li ho
         replace HP := Li (HK.out.1 _ _ HP.out hb8)
         clear hb8 ho TB
         go_wp2_with fail
         refine hK.out _ _ (HP) (fun hHeld => ?_)
         clear hK KK
         try simp only [pnz]
         refine rd1 14 fun KK hK => ?_
         go_simp
         go_at_call 15
         refine (sameR A6 AT c6 cT q3 _ (pr6 _ HP.out).2.ces.1 OT.out (by decide)).mono ?_
         rintro e v14 ⟨rfl, hb8⟩
         replace HP := Li (HK.out.1 _ _ HP.out hb8)
         clear hb8 OT
         try clear AT cT
         go_wp2_with fail
         refine hK.out _ _ (HP) (fun hHeld => ?_)
         clear hK KK
         try simp only [pnz]
         refine htk 15 ?_
         refine htk 16 ?_
         refine htf 17 (fun _ h => And.intro (show _ = some (Value.slice A7 (q4.length) c7) from (pr7 _ h.out).1.cell 0 rfl) (pr7 _ h.out).1.lt) ?_
         refine rd1 18 fun KK hK => ?_
         go_simp
         replace HP := Li (HK.out.1 _ _ HP.out (al1 v14 (.cells #[.string ⟨#[]⟩, .string ⟨#[120]⟩] 9)))
         have TB := Li (CB.new v14 9 [.string ⟨#[]⟩, .string ⟨#[120]⟩])
         refine hK.out _ _ (HP) (fun hHeld => ?_)
         clear hK KK
         try simp only [pnz]
         generalize v14.heap.size = kt at TB ⊢
         generalize v14.alloc (.cells #[.string ⟨#[]⟩, .string ⟨#[120]⟩] 9) = v18 at TB HP hHeld ⊢
         refine rd1 19 fun KK hK => ?_
         go_simp
         go_at_call 30
         refine (tx2 1 ⟨#[]⟩ ⟨#[120]⟩ q4 rfl kt _ TB.out (by decide)).mono ?_
         rintro e v19 ⟨⟨AT, cT, rfl, ho⟩, hb8⟩
         have OT := Li ho
         replace HP := Li (HK.out.1 _ _ HP.out hb8)
         clear hb8 ho TB
         go_wp2_with fail
         refine hK.out _ _ (HP) (fun hHeld => ?_)
         clear hK KK
         try simp only [pnz]
         refine rd1 20 fun KK hK => ?_
         go_simp
         go_at_call 15
         refine (sameR A7 AT c7 cT q4 _ (pr7 _ HP.out).2.ces.1 OT.out (by decide)).mono ?_
         rintro e v20 ⟨rfl, hb8⟩
         replace HP := Li (HK.out.1 _ _ HP.out hb8)
         clear hb8 OT
         try clear AT cT
         go_wp2_with fail
         refine hK.out _ _ (HP) (fun hHeld => ?_)
         clear hK KK
         try simp only [pnz]
         refine htk 21 ?_
         refine htk 22 ?_
         refine htf 23 (fun _ h => SN.cs (pS _ h.out)) ?_
         refine htf 24 (fun _ h => SN.cs (pS _ h.out)) ?_
         refine rd1 25 fun KK hK => ?_
         go_simp
         replace HP := Li (HK.out.1 _ _ HP.out (al1 v20 (.cells #[.string ⟨#[120]⟩] 9)))
         have TB := Li (CB.new v20 9 [.string ⟨#[120]⟩])
         refine hK.out _ _ (HP) (fun hHeld => ?_)
         clear hK KK
         try simp only [pnz]
         generalize v20.heap.size = kt at TB ⊢
         generalize v20.alloc (.cells #[.string ⟨#[120]⟩] 9) = v25 at TB HP hHeld ⊢
         refine rd1 26 fun KK hK => ?_
         go_simp
         go_at_call 30
         refine (tx1 2 ⟨#[120]⟩ t3 rfl kt _ TB.out (by decide)).mono ?_
         rintro e v26 ⟨⟨AT, cT, rfl, ho⟩, hb8⟩
         have OT := Li ho
         replace HP := Li (HK.out.1 _ _ HP.out hb8)
         clear hb8 ho TB
         go_wp2_with fail
         refine hK.out _ _ (HP) (fun hHeld => ?_)
         clear hK KK
         try simp only [pnz]
         refine rd1 27 fun KK hK => ?_
         go_simp
         go_at_call 20
         refine (ex9 AT cT w _ (pS _ HP.out) OT.out).mono ?_
         rintro e v27 ⟨rfl, hb8⟩
         replace HP := Li (HK.out.1 _ _ HP.out hb8)
         clear hb8 OT
         try clear AT cT
         go_wp2_with fail
         refine hK.out _ _ (HP) (fun hHeld => ?_)
         clear hK KK
         try simp only [pnz]
         refine htk 28 ?_
         refine htk 29 ?_
         refine htk 30 ?_
         refine htf 31 (fun _ h => SN.cs (pS _ h.out)) ?_
         refine htf 32 (fun _ h => SN.cs (pS _ h.out)) ?_
         refine rd1 33 fun KK hK => ?_
         go_simp
         replace HP := Li (HK.out.1 _ _ HP.out (al1 v27 (.cells #[.string ⟨#[97, 45, 98]⟩] 9)))
         have TB := Li (CB.new v27 9 [.string ⟨#[97, 45, 98]⟩])
         refine hK.out _ _ (HP) (fun hHeld => ?_)
         clear hK KK
         try simp only [pnz]
         generalize v27.heap.size = kt at TB ⊢
         generalize v27.alloc (.cells #[.string ⟨#[97, 45, 98]⟩] 9) = v33 at TB HP hHeld ⊢
         refine rd1 34 fun KK hK => ?_
         go_simp
         go_at_call 30
         refine (tx1 1 ⟨#[97, 45, 98]⟩ t7 rfl kt _ TB.out (by decide)).mono ?_
         rintro e v34 ⟨⟨AT, cT, rfl, ho⟩, hb8⟩
         have OT := Li ho
         replace HP := Li (HK.out.1 _ _ HP.out hb8)
         clear hb8 ho TB
         go_wp2_with fail
         refine hK.out _ _ (HP) (fun hHeld => ?_)
         clear hK KK
         try simp only [pnz]
         refine rd1 35 fun KK hK => ?_
         go_simp
         go_at_call 20
         refine (ex10 AT cT w _ (pS _ HP.out) OT.out).mono ?_
         rintro e v35 ⟨rfl, hb8⟩
         replace HP := Li (HK.out.1 _ _ HP.out hb8)
         clear hb8 OT
         try clear AT cT
         go_wp2_with fail
         refine hK.out _ _ (HP) (fun hHeld => ?_)
         clear hK KK
         try simp only [pnz]
         refine htk 36 ?_
         refine htk 37 ?_
         refine htk 38 ?_
         refine htk 39 ?_
         refine htk 40 ?_
         refine htk 41 ?_
         refine htk 42 ?_
         refine htk 43 ?_
         refine htk 44 ?_
         refine htk 45 ?_
         refine htk 46 ?_
         refine htk 47 ?_
         refine htk 48 ?_
         refine htk 49 ?_
         refine htk 50 ?_
         refine htf 51 (fun _ h => And.intro (show _ = some (Value.slice A13 (0) c13) from (pr13 _ h.out).1.cell 0 rfl) (pr13 _ h.out).1.lt) ?_
         refine htk 52 ?_
         refine htk 53 ?_
         refine htk 54 ?_
         refine htk 55 ?_
         refine htf 56 (fun _ h => And.intro (show _ = some (Value.slice A15 (q6.length) c15) from (pr15 _ h.out).1.cell 0 rfl) (pr15 _ h.out).1.lt) ?_
         refine rd1 57 fun KK hK => ?_
         go_simp
         replace HP := Li (HK.out.1 _ _ HP.out (al1 v35 (.cells #[.string ⟨#[121]⟩] 9)))
         have TB := Li (CB.new v35 9 [.string ⟨#[121]⟩])
         refine hK.out _ _ (HP) (fun hHeld => ?_)
         clear hK KK
         try simp only [pnz]
         generalize v35.heap.size = kt at TB ⊢
         generalize v35.alloc (.cells #[.string ⟨#[121]⟩] 9) = v57 at TB HP hHeld ⊢
         refine rd1 58 fun KK hK => ?_
         go_simp
         go_at_call 30
         refine (tx1 2 ⟨#[121]⟩ q6 rfl kt _ TB.out (by decide)).mono ?_
         rintro e v58 ⟨⟨AT, cT, rfl, ho⟩, hb8⟩
         have OT := Li ho
         replace HP := Li (HK.out.1 _ _ HP.out hb8)
         clear hb8 ho TB
         go_wp2_with fail
         refine hK.out _ _ (HP) (fun hHeld => ?_)
         clear hK KK
         try simp only [pnz]
         refine rd1 59 fun KK hK => ?_
         go_simp
         go_at_call 15
         refine (sameR A15 AT c15 cT q6 _ (pr15 _ HP.out).2.ces.1 OT.out (by decide)).mono ?_
         rintro e v59 ⟨rfl, hb8⟩
         replace HP := Li (HK.out.1 _ _ HP.out hb8)
         clear hb8 OT
         try clear AT cT
         go_wp2_with fail
         refine hK.out _ _ (HP) (fun hHeld => ?_)
         clear hK KK
         try simp only [pnz]
         refine htk 60 ?_
         refine htk 61 ?_
         refine htf 62 (fun _ h => SN.cs (pS _ h.out)) ?_
         refine htk 63 ?_
         refine rd1 64 fun KK hK => ?_
         go_simp
         replace HP := Li (HK.out.1 _ _ HP.out (al1 v59 (.cells #[.string ⟨#[120]⟩] 9)))
         have TB := Li (CB.new v59 9 [.string ⟨#[120]⟩])
         refine hK.out _ _ (HP) (fun hHeld => ?_)
         clear hK KK
         try simp only [pnz]
         generalize v59.heap.size = kt at TB ⊢
         generalize v59.alloc (.cells #[.string ⟨#[120]⟩] 9) = v64 at TB HP hHeld ⊢
         refine rd1 65 fun KK hK => ?_
         go_simp
         go_at_call 30
         refine (tx1 1 ⟨#[120]⟩ t5 rfl kt _ TB.out (by decide)).mono ?_
         rintro e v65 ⟨⟨AT, cT, rfl, ho⟩, hb8⟩
         have OT := Li ho
         replace HP := Li (HK.out.1 _ _ HP.out hb8)
         clear hb8 ho TB
         go_wp2_with fail
         refine hK.out _ _ (HP) (fun hHeld => ?_)
         clear hK KK
         try simp only [pnz]
         refine rd1 66 fun KK hK => ?_
         go_simp
         go_at_call 16
         refine (ex11 AT cT w _ (pS _ HP.out) OT.out).mono ?_
         rintro e v66 ⟨⟨AF, cF, rfl, ho⟩, hb8⟩
         replace HP := Li (HK.out.1 _ _ HP.out hb8)
         have hfr := run_field_row
         clear hb8 ho OT
         go_wp2_with fail
         refine hK.out _ _ (HP) (fun hHeld => ?_)
         clear hK KK
         try simp only [pnz]
         refine htk 67 ?_
         refine htk 68 ?_
         refine htk 69 ?_
         refine htk 70 ?_
         refine htk 71 ?_
         refine wpAnyH_done (by kernel_rfl) ?_ _
         go_wp2_with fail
         go_ret
         exact ⟨rfl, (pS _ HP.out).1⟩
end Go.Proofs.YtfeemipnalgjnaaGreat
