/-
  SchemaRowsKeepFitting, walked.
-/
import Derived.Test.YtpgbpfdedpppeaaSanW
import Derived.Test.YtpgbpfdedpppeaaRRow
namespace Go.Proofs.Ytpgbpfdedpppeaa.keep
open Go.RowKit Go.Proofs.Ytpgbpfdedpppeaa

theorem ces_of {w : World} {base : Nat} {A : Option Addr} {c : Nat} {r : List Ce} (h : Own 56 4 w base (.slice A r.length c) (r.map Ce.cells)) : Ces w w.heap.size A r := h.row.2.2.2
set_option maxHeartbeats 8000000 in
set_option maxRecDepth 20000 in
theorem walk (A : Option Addr) (cap : Nat) (L : List Ch) (V : Option Addr) (cv : Nat) (raw : List Va) (A0 : Option Addr) (cap0 : Nat) (L0 : List Ch) (W : World) (hE : Chs W W.heap.size A L) (hrw : ∀ d ∈ L, RW d) (hlc : L.length ≤ cap) (hcm : cap ≤ 9223372036854775807) (hV : Vas W W.heap.size V raw) (hvf : ∀ u ∈ raw, u.Fine) (hvc : raw.length ≤ cv) (hvm : cv ≤ 9223372036854775807) (hE0 : Chs W W.heap.size A0 L0) (hrw0 : ∀ d ∈ L0, RW d) (hlc0 : L0.length ≤ cap0) (hcm0 : cap0 ≤ 9223372036854775807) :
    Calls Try.prog 8 #[.slice A L.length cap, .slice V raw.length cv, .slice A0 L0.length cap0] W fun e W' => e = .returned (.bool true) ∧ Below W.heap.size W W' := by
  have HE := Lib.hid hE
  have HR := Lib.hid hrw
  have HV := Lib.hid hV
  have HVF := Lib.hid hvf
  have HE0 := Lib.hid hE0
  have HR0 := Lib.hid hrw0
  obtain ⟨M, hM⟩ : ∃ M, madeR L 20 = M := ⟨_, rfl⟩
  have hML : M.length ≤ 20 := by
    rw [← hM]
    have := made_len (l := L.take 20) (s := Sc.new)
    rw [List.length_take] at this
    unfold madeR
    omega
  obtain ⟨_, h2, _, h4, _⟩ := numbers (l := L) (n := 20) (k := 0)
  have hMW := made_rw ok_new (fun c hc => hrw c (List.mem_of_mem_take hc)) (l := L.take 20)
  rw [show madeG Sc.new (L.take 20) = M from hM] at hMW
  rw [hM] at h2 h4
  obtain ⟨⟨⟨fs, x⟩, iL, eL⟩, hqL⟩ : ∃ r, aftP M = r := ⟨_, rfl⟩
  rw [hqL] at h2 h4
  obtain rfl : eL = 0 := h2
  have HM := Lib.hid hM
  have HW := Lib.hid hMW
  have HQL := Lib.hid hqL
  have HOK := Lib.hid h4
  have hl2 : L.length ≤ 9223372036854775807 := by omega
  have hl3 : L0.length ≤ 9223372036854775807 := by omega
  have hvl : raw.length ≤ 9223372036854775807 := by omega
  have hMl : M.length ≤ 1000000 := by omega
  clear hE hrw hV hvf hE0 hrw0 hM hMW hqL h4
  go_enter Try.func8, Try.ntmps8
  go_wp2_with (first | (go_at_call 9; refine (sanity_any _).mono ?_; rintro e w1 ⟨rfl, hb1⟩; have B1 := Lib.hid hb1; clear hb1) | (go_at_call 10; refine (RMade_any A L.length cap 20 L _ rfl (HE.out.up B1.out) hl2 (by decide) HR.out).mono ?_; rintro e w2 ⟨⟨A2, c2, rfl, ho2⟩, hb2⟩; rw [HM.out] at ho2; rw [HM.out]; have B2 := Lib.hid (below_step B1.out B1.out.size hb2); have O2 := Lib.hid (ho2.low (b := W.heap.size) B1.out.size); clear hb2 ho2) | (go_at_call 11; refine (After_any A2 M.length c2 M _ rfl (show Chs w2 w2.heap.size A2 M from O2.out.row.2.2.2) hMl (fun d hd => (HW.out d hd).cw)).mono ?_; rintro e w3 ⟨⟨A3, n3, c3, rfl, hn3, ho3⟩, hb3⟩; rw [HQL.out] at hn3 ho3; rw [HQL.out]; obtain rfl : n3 = fs.length := hn3; have B3 := Lib.hid (below_step B2.out B2.out.size hb3); have P3 := Lib.hid (ho3.low (b := W.heap.size) B2.out.size); clear hb3 ho3) | (go_at_call 26; refine (RRow_any A3 fs.length c3 x fs V raw.length cv raw _ rfl ((show Fds w3 w3.heap.size A3 fs from P3.out.row.2.2.2).up (al1 _ _)) HOK.out rfl (RowAt.up HV.out (B3.out.alloc B3.out.size (.cells #[.slice A3 fs.length c3, .int .i64 x] 30))) hvl HVF.out).mono ?_; rintro e w4 ⟨⟨AR, cR, r, rfl, ho4, hf4, hs4, hl4⟩, hb4⟩; have hw4 : Below w3.heap.size w3 w4 := (al1 w3 (.cells #[.slice A3 fs.length c3, .int .i64 x] 30)).trans (hb4.mono (al1 w3 (.cells #[.slice A3 fs.length c3, .int .i64 x] 30)).size); have B4 := Lib.hid (below_step B3.out B3.out.size hw4); have P4 := Lib.hid (P3.out.up hw4); have S4 := Lib.hid ((CB.new w3 30 [.slice A3 fs.length c3, .int .i64 x]).up hb4); have R4 := Lib.hid (ho4.low (b := W.heap.size) (Nat.le_trans B3.out.size (al1 w3 (.cells #[.slice A3 fs.length c3, .int .i64 x] 30)).size)); have HF4 := Lib.hid hf4; have HS4 := Lib.hid hs4; have zS4 := S4.out.lt; have zB3 := B3.out.size; clear hb4 hw4 ho4 hf4 hs4))
  have RB4 := Lib.hid (CB.new w4 59 [.slice AR r.length cR])
  go_loopw [12, 13, 14, 15] (fun i _ _ _ wr => ∃ (q c' : Nat) (A' : Option Addr) (gs : List Fd) (y : Int), q ≤ L0.length ∧ i = .int .i64 q ∧ Hid (CB wr w3.heap.size 30 [.slice A' gs.length c', .int .i64 y]) ∧ Hid (CB wr w4.heap.size 59 [.slice AR r.length cR]) ∧ Hid (Own 41 4 wr W.heap.size (.slice A' gs.length c') (gs.map Fd.cells)) ∧ Hid (Own 56 4 wr W.heap.size (.slice AR r.length cR) (r.map Ce.cells)) ∧ Hid (Ok ⟨gs, y⟩) ∧ Hid (FitL gs r) ∧ Hid (Below W.heap.size W wr)) (fun i _ _ _ _ => L0.length - (intOf i).toNat)
  case atStart => exact ⟨0, c3, A3, fs, x, by omega, rfl, Lib.hid (S4.out.alloc _), RB4, Lib.hid (P4.out.alloc _), Lib.hid (R4.out.alloc _), HOK, HF4, Lib.hid (B4.out.alloc B4.out.size _)⟩
  case round =>
    obtain ⟨q, c', A', gs, y, hq, rfl, hb, hrb, hown, hrow, hok, hfit, hbel⟩ := hrel
    have s0 := hb.out.cell 0 rfl
    have s1 := hb.out.cell 1 rfl
    by_cases hlt : q < L0.length
    · have i1 : (q : Int) < (L0.length : Int) := by omega
      by_cases hl8 : (q : Int) < 8
      · obtain ⟨d, hf⟩ := getC_of (l := L0) (k := q) hlt
        have HRW := Lib.hid (HR0.out d (List.mem_of_getElem? hf))
        obtain ⟨b, off, rfl, hbl, k0, k1, k2, k3, k4, k5, k6, k7⟩ := (HE0.out.below hbel.out).one hf
        have hy2 : y ≤ 1073741824 := hok.out.big.2
        have hy1 : 1 ≤ y := hok.out.nx
        have hg64 : gs.length ≤ 64 := hok.out.big.1
        have hgl : gs.length ≤ 9223372036854775807 := by omega
        obtain ⟨cd, hcd⟩ : ∃ cd, chgR ⟨gs, y⟩ d = cd := ⟨_, rfl⟩
        have HCD := Lib.hid (show chgR ⟨gs, y⟩ ⟨d.kind, d.id, d.wi, d.nm, d.ot, d.ty, d.pa, d.sep⟩ = cd from hcd)
        have HCW := Lib.hid (show RW cd by rw [← hcd]; exact chg_rw HRW.out hy2)
        have hkd : 1 ≤ cd.kind ∧ cd.kind ≤ 7 := by
          rw [← hcd]
          have := mod_le d.kind (n := 7) (by decide)
          show 1 ≤ 1 + modR d.kind 7 ∧ 1 + modR d.kind 7 ≤ 7
          omega
        obtain ⟨⟨⟨ft, xt⟩, et⟩, hqt⟩ : ∃ r, applyP ⟨gs, y⟩ cd = r := ⟨_, rfl⟩
        have HQT := Lib.hid (show applyP ⟨gs, y⟩ ⟨cd.kind, cd.id, cd.wi, cd.nm, cd.ot, cd.ty, cd.pa, cd.sep⟩ = (⟨ft, xt⟩, et) from hqt)
        have HNL : Hid (AllN (fun s => s.size ≤ 9223372036854775807) gs) := fun f hf => nam_small (hok.out.nam.1 f hf)
        have zz := Lib.hid (show b < wr.heap.size from Nat.lt_of_lt_of_le hbl hbel.out.size)
        have HKD := Lib.hid hkd
        have K0 := Lib.hid k0
        have K1 := Lib.hid k1
        have K2 := Lib.hid k2
        have K3 := Lib.hid k3
        have K4 := Lib.hid k4
        have K5 := Lib.hid k5
        have K6 := Lib.hid k6
        have K7 := Lib.hid k7
        clear hf hcd hqt hbl hkd k0 k1 k2 k3 k4 k5 k6 k7
        go_upto_region 9 with fail
        go_cut [13] from 29 to 70 (fun p wx => ∃ g : Nat, p = .pointer (some ⟨g, 0, none⟩) ∧ wr.heap.size ≤ g ∧ Hid (CB wx g 24 cd.cells) ∧ Hid (Below wr.heap.size wr wx))
        case first => as_aux_lemma =>
          have zB := Lib.hid (bd wr)
          have zWW : wr.heap.size = wr.drew.heap.size := rfl
          have PD := Lib.hid hown.out.dr
          have HXL : Hid (∀ X, Below wr.drew.heap.size wr.drew X → X.cell? ⟨w3.heap.size, 0, none⟩ = some (.slice A' gs.length c') ∧ X.cell? ⟨w3.heap.size, 1, none⟩ = some (.int .i64 y) ∧ X.cell? ⟨b, off + q * 8, none⟩ = some (.int .i64 d.kind) ∧ X.cell? ⟨b, off + q * 8 + 1, none⟩ = some (.int .i64 d.id) ∧ X.cell? ⟨b, off + q * 8 + 2, none⟩ = some (.int .i64 d.wi) ∧ X.cell? ⟨b, off + q * 8 + 3, none⟩ = some (.string d.nm) ∧ X.cell? ⟨b, off + q * 8 + 4, none⟩ = some (.string d.ot) ∧ X.cell? ⟨b, off + q * 8 + 5, none⟩ = some (.int .i64 d.ty) ∧ X.cell? ⟨b, off + q * 8 + 6, none⟩ = some (.int .i64 d.pa) ∧ X.cell? ⟨b, off + q * 8 + 7, none⟩ = some (.string d.sep)) := fun X hX =>
            have hX' : Below wr.heap.size wr X := zB.out.trans hX
            ⟨(hb.out.up hX').cell 0 rfl, (hb.out.up hX').cell 1 rfl, (hX'.cell (p := ⟨b, off + q * 8, none⟩) zz.out).trans K0.out, (hX'.cell (p := ⟨b, off + q * 8 + 1, none⟩) zz.out).trans K1.out, (hX'.cell (p := ⟨b, off + q * 8 + 2, none⟩) zz.out).trans K2.out, (hX'.cell (p := ⟨b, off + q * 8 + 3, none⟩) zz.out).trans K3.out, (hX'.cell (p := ⟨b, off + q * 8 + 4, none⟩) zz.out).trans K4.out, (hX'.cell (p := ⟨b, off + q * 8 + 5, none⟩) zz.out).trans K5.out, (hX'.cell (p := ⟨b, off + q * 8 + 6, none⟩) zz.out).trans K6.out, (hX'.cell (p := ⟨b, off + q * 8 + 7, none⟩) zz.out).trans K7.out⟩
          refine wp_region_held_drew (S := fun w' => Hid (Below wr.drew.heap.size wr.drew w')) (by kernel_rfl) (Lib.hid (Below.refl _ _)) (fun hHeld => ?_)
          revert hHeld zB zWW PD HXL
          generalize wr.drew = W2
          intro zB zWW PD HXL hHeld
          refine hand_take (i := 0) (v := ?_) rfl (by kernel_rfl) (by kernel_rfl) (by kernel_rfl) (fun _ _ _ h => h) (Or.inl ⟨by rfl, ?_⟩) (by assumption) ?_
          rotate_left
          · intro wS hSw
            obtain ⟨y0, y1, x0, x1, x2, x3, x4, x5, x6, x7⟩ := HXL.out _ hSw.out
            clear hSw
            go_simp
            try with_reducible rfl
          try simp only [Act.put, List.setIfInBounds_toArray, List.set_cons_zero, List.set_cons_succ]
          refine hand_take (i := 1) (v := ?_) rfl (by kernel_rfl) (by kernel_rfl) (by kernel_rfl) (fun _ _ _ h => h) (Or.inl ⟨by rfl, ?_⟩) (by assumption) ?_
          rotate_left
          · intro wS hSw
            clear hSw
            go_simp
            try with_reducible rfl
          try simp only [Act.put, List.setIfInBounds_toArray, List.set_cons_zero, List.set_cons_succ]
          refine hand_take (i := 2) (v := ?_) rfl (by kernel_rfl) (by kernel_rfl) (by kernel_rfl) (fun _ _ _ h => h) (Or.inl ⟨by rfl, ?_⟩) (by assumption) ?_
          rotate_left
          · intro wS hSw
            clear hSw
            go_simp
            try with_reducible rfl
          try simp only [Act.put, List.setIfInBounds_toArray, List.set_cons_zero, List.set_cons_succ]
          refine hand_take (i := 3) (v := ?_) rfl (by kernel_rfl) (by kernel_rfl) (by kernel_rfl) (fun _ _ _ h => h) (Or.inl ⟨by rfl, ?_⟩) (by assumption) ?_
          rotate_left
          · intro wS hSw
            clear hSw
            go_simp
            try with_reducible rfl
          try simp only [Act.put, List.setIfInBounds_toArray, List.set_cons_zero, List.set_cons_succ]
          refine hand_take (i := 4) (v := ?_) rfl (by kernel_rfl) (by kernel_rfl) (by kernel_rfl) (fun _ _ _ h => h) (Or.inl ⟨by rfl, ?_⟩) (by assumption) ?_
          rotate_left
          · intro wS hSw
            obtain ⟨y0, y1, x0, x1, x2, x3, x4, x5, x6, x7⟩ := HXL.out _ hSw.out
            clear hSw
            go_simp
            try with_reducible rfl
          try simp only [Act.put, List.setIfInBounds_toArray, List.set_cons_zero, List.set_cons_succ]
          refine wpAnyH_ready (rs := [5, 6]) (by kernel_rfl) (by simp) ?_
          refine (hand_cons rfl (fun KK hK => ?_) (hand_cons rfl (fun KK hK => ?_) AllReadyH.nil))
          · go_simp
            go_at_call 16
            refine (RChange_any A' gs.length c' y gs d.kind d.id d.wi d.nm d.ot d.ty d.pa d.sep _ rfl ((show Fds W2 W2.heap.size A' gs from PD.out.row.2.2.2).up hHeld.out) hgl hy2 HRW.out.nm HRW.out.ot HRW.out.sep HRW.out.kind HRW.out.id HRW.out.wi HRW.out.ty HRW.out.pa).mono ?_
            rintro e v8 ⟨rfl, hb8⟩
            rw [HCD.out]
            have HB8 := Lib.hid (hHeld.out.trans (hb8.mono hHeld.out.size))
            have zB8 := HB8.out.size
            clear hb8
            go_wp2_with fail
            refine hK.out _ _ (HB8) (fun hHeld => ?_)
            clear hK KK
            try simp only [Act.put, List.setIfInBounds_toArray, List.set_cons_zero, List.set_cons_succ]
            refine wpAnyH_ready (rs := [6]) (by kernel_rfl) (by simp) ?_
            refine hand_cons rfl (fun KK hK => ?_) AllReadyH.nil
            go_simp
            have GZ := Lib.hid (CB.new v8 24 [.int .i64 0, .int .i64 0, .int .i64 0, .string ⟨#[]⟩, .string ⟨#[]⟩, .int .i64 0, .int .i64 0, .string ⟨#[]⟩])
            have HBA := Lib.hid (al_up (o := .cells #[.int .i64 0, .int .i64 0, .int .i64 0, .string ⟨#[]⟩, .string ⟨#[]⟩, .int .i64 0, .int .i64 0, .string ⟨#[]⟩] 24) hHeld.out)
            refine hK.out _ _ (HBA) (fun hHeld => ?_)
            clear hK KK
            try simp only [Act.put, List.setIfInBounds_toArray, List.set_cons_zero, List.set_cons_succ]
            refine wpAnyH_ready (rs := [7]) (by kernel_rfl) (by simp) ?_
            refine hand_cons rfl (fun KK hK => ?_) AllReadyH.nil
            refine step_store_cb rfl 24 (.tmp 13) (.tmp 44) rfl v8.heap.size cd.cells rfl rfl 24 [.int .i64 0, .int .i64 0, .int .i64 0, .string ⟨#[]⟩, .string ⟨#[]⟩, .int .i64 0, .int .i64 0, .string ⟨#[]⟩] 8 GZ.out sizeC rfl rfl (one_c _ _ _ _ _ _ _ _) ?_
            intro wz hcz hgz hzz
            have HBZ := Lib.hid (below_grown hHeld.out hgz hHeld.out.size (by omega))
            refine hK.out _ _ (HBZ) (fun hHeld => ?_)
            clear hK KK
            try simp only [Act.put]
            refine wpAnyH_done (by kernel_rfl) ?_ _
            go_wp2_with fail
            go_meet
            exact ⟨_, rfl, by omega, Lib.hid hcz, Lib.hid (zB.out.trans (HBZ.out.mono zB.out.size))⟩
          · go_simp
            have GZ := Lib.hid (CB.new W2 24 [.int .i64 0, .int .i64 0, .int .i64 0, .string ⟨#[]⟩, .string ⟨#[]⟩, .int .i64 0, .int .i64 0, .string ⟨#[]⟩])
            have HBA := Lib.hid (al_up (o := .cells #[.int .i64 0, .int .i64 0, .int .i64 0, .string ⟨#[]⟩, .string ⟨#[]⟩, .int .i64 0, .int .i64 0, .string ⟨#[]⟩] 24) hHeld.out)
            refine hK.out _ _ (HBA) (fun hHeld => ?_)
            clear hK KK
            try simp only [Act.put, List.setIfInBounds_toArray, List.set_cons_zero, List.set_cons_succ]
            refine wpAnyH_ready (rs := [5]) (by kernel_rfl) (by simp) ?_
            refine hand_cons rfl (fun KK hK => ?_) AllReadyH.nil
            go_simp
            go_at_call 16
            refine (RChange_any A' gs.length c' y gs d.kind d.id d.wi d.nm d.ot d.ty d.pa d.sep _ rfl ((show Fds W2 W2.heap.size A' gs from PD.out.row.2.2.2).up hHeld.out) hgl hy2 HRW.out.nm HRW.out.ot HRW.out.sep HRW.out.kind HRW.out.id HRW.out.wi HRW.out.ty HRW.out.pa).mono ?_
            rintro e v8 ⟨rfl, hb8⟩
            rw [HCD.out]
            have HB8 := Lib.hid (hHeld.out.trans (hb8.mono hHeld.out.size))
            have zB8 := HB8.out.size
            have GZ8 := Lib.hid (GZ.out.up hb8)
            clear hb8
            go_wp2_with fail
            refine hK.out _ _ (HB8) (fun hHeld => ?_)
            clear hK KK
            try simp only [Act.put, List.setIfInBounds_toArray, List.set_cons_zero, List.set_cons_succ]
            refine wpAnyH_ready (rs := [7]) (by kernel_rfl) (by simp) ?_
            refine hand_cons rfl (fun KK hK => ?_) AllReadyH.nil
            refine step_store_cb rfl 24 (.tmp 13) (.tmp 44) rfl W2.heap.size cd.cells rfl rfl 24 [.int .i64 0, .int .i64 0, .int .i64 0, .string ⟨#[]⟩, .string ⟨#[]⟩, .int .i64 0, .int .i64 0, .string ⟨#[]⟩] 8 GZ8.out sizeC rfl rfl (one_c _ _ _ _ _ _ _ _) ?_
            intro wz hcz hgz hzz
            have HBZ := Lib.hid (below_grown hHeld.out hgz hHeld.out.size (by omega))
            refine hK.out _ _ (HBZ) (fun hHeld => ?_)
            clear hK KK
            try simp only [Act.put]
            refine wpAnyH_done (by kernel_rfl) ?_ _
            go_wp2_with fail
            go_meet
            exact ⟨_, rfl, by omega, Lib.hid hcz, Lib.hid (zB.out.trans (HBZ.out.mono zB.out.size))⟩
        case rest =>
          obtain ⟨g, rfl, hge, G9, hbz⟩ := hcut
          generalize wc = w9 at *
          have S9 := Lib.hid (hb.out.up hbz.out)
          have T9 := Lib.hid (hrb.out.up hbz.out)
          have P9 := Lib.hid (hown.out.up hbz.out)
          have R9 := Lib.hid (hrow.out.up hbz.out)
          have B9 := Lib.hid (below_step hbel.out hbel.out.size hbz.out)
          have t0 := S9.out.cell 0 rfl
          have t1 := S9.out.cell 1 rfl
          have g0 := G9.out.cell 0 rfl
          have g1 := G9.out.cell 1 rfl
          have g2 := G9.out.cell 2 rfl
          have g3 := G9.out.cell 3 rfl
          have g4 := G9.out.cell 4 rfl
          have g5 := G9.out.cell 5 rfl
          have g6 := G9.out.cell 6 rfl
          have g7 := G9.out.cell 7 rfl
          clear hbz s0 s1
          by_cases h2 : cd.kind = 2
          · have e2 : (cd.kind == 2) = true := by simpa using h2
            clear h2
            go_wp2
            go_roundw
            case rel => exact ⟨q + 1, c', A', gs, y, by omega, by go_num, S9, T9, P9, R9, hok, hfit, B9⟩
            case measure => simp [intOf]; omega
          have e2 : (cd.kind == 2) = false := by simpa using h2
          by_cases h6 : cd.kind = 6
          · have e6 : (cd.kind == 6) = true := by simpa using h6
            clear h2 h6
            go_wp2
            go_roundw
            case rel => exact ⟨q + 1, c', A', gs, y, by omega, by go_num, S9, T9, P9, R9, hok, hfit, B9⟩
            case measure => simp [intOf]; omega
          have e6 : (cd.kind == 6) = false := by simpa using h6
          by_cases h7 : cd.kind = 7
          · have e7 : (cd.kind == 7) = true := by simpa using h7
            clear h2 h6 h7
            go_wp2
            go_roundw
            case rel => exact ⟨q + 1, c', A', gs, y, by omega, by go_num, S9, T9, P9, R9, hok, hfit, B9⟩
            case measure => simp [intOf]; omega
          have e7 : (cd.kind == 7) = false := by simpa using h7
          have hg0 : gs.length ≤ 1000 := by omega
          have hy0 : 0 ≤ y := by omega
          have hy3 : y ≤ 2305843009213693952 := by omega
          have hrl : r.length ≤ 9223372036854775807 := by omega
          have HSZ : Hid (∀ c ∈ r, c.v.s.size ≤ 9223372036854775807) := fun c hc => by have := HS4.out c hc; omega
          have HFG := Lib.hid (fitl_go (s := ⟨gs, y⟩) hok.out hfit.out)
          have hqt2 := HQT.out
          by_cases he : et = 0
          · subst he
            have hok2 := (ok_apply hok.out (c := ⟨cd.kind, cd.id, cd.wi, cd.nm, cd.ot, cd.ty, cd.pa, cd.sep⟩) (by rw [hqt2])).1
            rw [hqt2] at hok2
            have HO2 := Lib.hid hok2
            have HFT' := Lib.hid (fitl_wide (wide_apply hok.out hqt2 HKD.out h2 h6 h7) hfit.out)
            have HFT := Lib.hid (fitl_go (s := ⟨ft, xt⟩) hok2 HFT'.out)
            have HL7 := Lib.hid (show ft.length ≤ 9223372036854775807 by have := hok2.big.1; simp only at this; omega)
            clear h2 h6 h7 hqt2 hok2
            go_wp2_with (first | (go_at_call 14; refine (Apply_any A' gs.length c' y gs cd.kind cd.id cd.wi cd.nm cd.ot cd.ty cd.pa cd.sep _ rfl (show Fds w9 w9.heap.size A' gs from P9.out.row.2.2.2) hg0 hy0 hy3 HCW.out.sep HNL.out HCW.out.nm HCW.out.ot HCW.out.kind).mono ?_; rintro e w10 ⟨⟨A7, n7, c7, rfl, hn7, ho7⟩, hb10⟩; rw [HQT.out] at hn7 ho7; rw [HQT.out]; obtain rfl : n7 = ft.length := hn7; have B10 := Lib.hid (below_step B9.out B9.out.size hb10); have S10 := Lib.hid (S9.out.up hb10); have T10 := Lib.hid (T9.out.up hb10); have P10 := Lib.hid (P9.out.up hb10); have R10 := Lib.hid (R9.out.up hb10); have U10 := Lib.hid (ho7.low (b := W.heap.size) B9.out.size); have zS10 := S10.out.lt; have zT10 := T10.out.lt; have a0 := S10.out.cell 0 rfl; have a1 := S10.out.cell 1 rfl; have a2 := T10.out.cell 0 rfl; clear hb10 ho7) | ((with_reducible show wpList _ _ _ (Oper.mk none (.store _ _ _) _ _ _ _ :: _) _ _); refine wpList_store_cb rfl 30 (.tmp 8) (.tmp 66) rfl w3.heap.size [.slice A7 ft.length c7, .int .i64 xt] rfl rfl 30 [.slice A' gs.length c', .int .i64 y] 2 (S10.out.alloc _) sizeS rfl rfl (one_s _ _ _ _) ?_; intro w11 hc11 hg11 hz11; have S11 := Lib.hid hc11; have T11 := Lib.hid ((T10.out.alloc (.cells #[.slice A7 ft.length c7, .int .i64 xt] 30)).grown hg11 (fun h => by injection h with h; omega)); have U11 := Lib.hid ((U10.out.alloc (.cells #[.slice A7 ft.length c7, .int .i64 xt] 30)).kept hg11 (.inr (Own.ne U10.out S10.out (by decide)).symm)); have R11 := Lib.hid ((R10.out.alloc (.cells #[.slice A7 ft.length c7, .int .i64 xt] 30)).kept hg11 (.inr (Own.ne R10.out S10.out (by decide)).symm)); have B11 := Lib.hid (below_grown (B10.out.alloc B10.out.size (.cells #[.slice A7 ft.length c7, .int .i64 xt] 30)) hg11 ((B10.out.alloc B10.out.size (.cells #[.slice A7 ft.length c7, .int .i64 xt] 30)).size) (by omega)); have b0 := S11.out.cell 0 rfl; have b1 := S11.out.cell 1 rfl; have b2 := T11.out.cell 0 rfl; clear hc11 hg11 hz11) | (go_at_call 27; refine (Fits_any A7 ft.length c7 xt ft AR r.length cR r _ rfl (show Fds w11 w11.heap.size A7 ft from U11.out.row.2.2.2) HL7.out rfl (ces_of R11.out) hrl HSZ.out).mono ?_; rintro e w12 ⟨rfl, hb12⟩; rw [HFT.out]; have B12 := Lib.hid (below_step B11.out B11.out.size hb12); have S12 := Lib.hid (S11.out.up hb12); have T12 := Lib.hid (T11.out.up hb12); have U12 := Lib.hid (U11.out.up hb12); have R12 := Lib.hid (R11.out.up hb12); clear hb12))
            go_roundw
            case rel => exact ⟨q + 1, c7, A7, ft, xt, by omega, by go_num, S12, T12, U12, R12, HO2, HFT', B12⟩
            case measure => simp [intOf]; omega
          · have e1 : (et == 0) = false := by simpa using he
            clear h2 h6 h7 hqt2 he
            go_wp2_with (first | (go_at_call 14; refine (Apply_any A' gs.length c' y gs cd.kind cd.id cd.wi cd.nm cd.ot cd.ty cd.pa cd.sep _ rfl (show Fds w9 w9.heap.size A' gs from P9.out.row.2.2.2) hg0 hy0 hy3 HCW.out.sep HNL.out HCW.out.nm HCW.out.ot HCW.out.kind).mono ?_; rintro e w10 ⟨⟨A7, n7, c7, rfl, hn7, ho7⟩, hb10⟩; rw [HQT.out] at hn7 ho7; rw [HQT.out]; obtain rfl : n7 = ft.length := hn7; have B10 := Lib.hid (below_step B9.out B9.out.size hb10); have S10 := Lib.hid (S9.out.up hb10); have T10 := Lib.hid (T9.out.up hb10); have P10 := Lib.hid (P9.out.up hb10); have R10 := Lib.hid (R9.out.up hb10); have U10 := Lib.hid (ho7.low (b := W.heap.size) B9.out.size); have zS10 := S10.out.lt; have zT10 := T10.out.lt; have a0 := S10.out.cell 0 rfl; have a1 := S10.out.cell 1 rfl; have a2 := T10.out.cell 0 rfl; clear hb10 ho7) | (go_at_call 27; refine (Fits_any A' gs.length c' y gs AR r.length cR r _ rfl ((show Fds w10 w10.heap.size A' gs from P10.out.row.2.2.2).up (al1 _ _)) hgl rfl ((ces_of R10.out).up (al1 _ _)) hrl HSZ.out).mono ?_; rintro e w12 ⟨rfl, hb12⟩; rw [HFG.out]; have hw12 : Below w10.heap.size w10 w12 := (al1 w10 (.cells #[.slice A7 ft.length c7, .int .i64 xt] 30)).trans (hb12.mono (al1 w10 (.cells #[.slice A7 ft.length c7, .int .i64 xt] 30)).size); have B12 := Lib.hid (below_step B10.out B10.out.size hw12); have S12 := Lib.hid (S10.out.up hw12); have T12 := Lib.hid (T10.out.up hw12); have P12 := Lib.hid (P10.out.up hw12); have R12 := Lib.hid (R10.out.up hw12); clear hb12 hw12))
            go_roundw
            case rel => exact ⟨q + 1, c', A', gs, y, by omega, by go_num, S12, T12, P12, R12, hok, hfit, B12⟩
            case measure => simp [intOf]; omega
      · go_wp2
        go_ret
        exact ⟨rfl, hbel.out⟩
    · have i1 : ¬ (q : Int) < (L0.length : Int) := by omega
      go_wp2
      go_ret
      exact ⟨rfl, hbel.out⟩
end Go.Proofs.Ytpgbpfdedpppeaa.keep
