/-
  The reference's After, by a contract.
-/
import Derived.Test.YtpgbpfdedpppeaaRMde
import Derived.Test.YtpgbpfdedpppeaaAftP
namespace Go.Proofs.Ytpgbpfdedpppeaa
open Go.RowKit

set_option maxHeartbeats 4000000 in
set_option maxRecDepth 20000 in
theorem RAfter_any (A : Option Addr) (n c : Nat) (m : List Ch) (w : World) (hn : n = m.length) (hs : Chs w w.heap.size A m) (hl : n ≤ 1000000) (hrw : ∀ d ∈ m, RW d) :
    Calls Try.prog 12 #[.slice A n c] w fun e w' => ResA w w' (aftP m) e ∧ Below w.heap.size w w' := by
  have HN := Lib.hid hn
  have HS := Lib.hid hs
  have HR := Lib.hid hrw
  clear hn hs hrw
  have R0 := Lib.hid (CB.new w 30 [.slice none 0 0, .int .i64 0])
  have B0 := Lib.hid (al1 w (.cells #[.slice none 0 0, .int .i64 0] 30))
  go_enter Try.func12, Try.ntmps12
  go_wp2_with (go_at_call 31; refine (RNew_any _).mono ?_; rintro e w1 ⟨rfl, hb1⟩; have R1 := Lib.hid (R0.out.up hb1); have B1 := Lib.hid (below_step B0.out B0.out.size hb1); have z1 := R1.out.lt; clear hb1)
  go_loopw [6, 7, 8] (fun j _ _ wr => ∃ (k n' c' : Nat) (A' : Option Addr) (x : Int) (fs : List Fd), k ≤ n ∧ j = .int .i64 k ∧ Hid (CB wr w.heap.size 30 [.slice none 0 0, .int .i64 0]) ∧ Hid (CB wr w1.heap.size 30 [.slice A' n' c', .int .i64 x]) ∧ Hid (Own 41 4 wr w.heap.size (.slice A' n' c') (fs.map Fd.cells)) ∧ Hid (n' = fs.length) ∧ Hid (Ok ⟨fs, x⟩) ∧ Hid (Below w.heap.size w wr) ∧ Hid (aft ⟨fs, x⟩ k (m.drop k) = aftP m)) (fun j _ _ _ => n - (intOf j).toNat)
  case atStart => exact ⟨0, 0, 0, none, 1, [], by omega, rfl, R1.out.alloc _, CB.new _ _ _, Own.nil _ _ _ _, rfl, ok_new, B1.out.alloc B1.out.size _, rfl⟩
  case round =>
    obtain ⟨k, n', c', A', x, fs, hk, rfl, hr, ht, hown, hnf, hok, hbel, hgo⟩ := hrel
    have hzr := hr.out.lt
    have hzt := ht.out.lt
    have t0 := ht.out.cell 0 rfl
    have t1 := ht.out.cell 1 rfl
    by_cases hlt : k < n
    · have i1 : (k : Int) < (n : Int) := by omega
      obtain ⟨d, hf⟩ := getC_of (l := m) (k := k) (by rw [← HN.out]; exact hlt)
      have hd := Lib.hid (drop_cons hf)
      obtain ⟨b, off, hA, hbl, c0, c1, c2, c3, c4, c5, c6, c7⟩ := (HS.out.below hbel.out).one hf
      subst hA
      have HRW := Lib.hid (HR.out d (List.mem_of_getElem? hf))
      have HX0 := Lib.hid (show 0 ≤ x by have := hok.out.nx; simp only at this; omega)
      have HX1 := Lib.hid (show x ≤ 2305843009213693952 by have := hok.out.big.2; simp only at this; omega)
      have HL0 := Lib.hid (show n' ≤ 1000 by rw [hnf.out]; have := hok.out.big.1; simp only at this; omega)
      have HNL : Hid (AllN (fun s => s.size ≤ 9223372036854775807) fs) := fun f hf => nam_small (hok.out.nam.1 f hf)
      have zL := Lib.hid (show b < wr.heap.size from by have := hbel.out.size; omega)
      obtain ⟨⟨⟨fs2, x2⟩, er⟩, hq⟩ : ∃ r, applyR ⟨fs, x⟩ ⟨d.kind, d.id, d.wi, d.nm, d.ot, d.ty, d.pa, d.sep⟩ = r := ⟨_, rfl⟩
      have hqp : applyP ⟨fs, x⟩ d = (⟨fs2, x2⟩, er) := by rw [apply_eq hok.out]; exact hq
      have HQ := Lib.hid hq
      have HQP := Lib.hid hqp
      have zWb : w.heap.size ≤ wr.heap.size := hbel.out.size
      clear hf hq hqp hbl
      have C0 := Lib.hid c0
      have C1 := Lib.hid c1
      have C2 := Lib.hid c2
      have C3 := Lib.hid c3
      have C4 := Lib.hid c4
      have C5 := Lib.hid c5
      have C6 := Lib.hid c6
      have C7 := Lib.hid c7
      clear c0 c1 c2 c3 c4 c5 c6 c7
      go_upto_region 5 with fail
      go_cut [7, 8] from 10 to 30 (fun p e wx => ∃ (g c7 : Nat) (A7 : Option Addr), p = .pointer (some ⟨g, 0, none⟩) ∧ e = .int .i64 er ∧ wr.heap.size ≤ g ∧ Hid (CB wx g 30 [.slice A7 fs2.length c7, .int .i64 x2]) ∧ Hid (Own 41 4 wx w.heap.size (.slice A7 fs2.length c7) (fs2.map Fd.cells)) ∧ Hid (Below wr.heap.size wr wx))
      case first =>
        refine wp_region_held_drew (S := fun w' => Hid (Below wr.drew.heap.size wr.drew w')) (by kernel_rfl) (Lib.hid (Below.refl _ _)) (fun hHeld => ?_)
        have T1 := Lib.hid (ht.out.up (bd wr))
        have zW : wr.heap.size = wr.drew.heap.size := rfl
        have zB := Lib.hid (bd wr)
        have zL1 := Lib.hid (show b < wr.drew.heap.size from zL.out)
        replace zWb : w.heap.size ≤ wr.drew.heap.size := zWb
        have c10 := Lib.hid (show wr.drew.cell? ⟨b, off + k * 8, none⟩ = _ from C0.out)
        have c11 := Lib.hid (show wr.drew.cell? ⟨b, off + k * 8 + 1, none⟩ = _ from C1.out)
        have c12 := Lib.hid (show wr.drew.cell? ⟨b, off + k * 8 + 2, none⟩ = _ from C2.out)
        have c13 := Lib.hid (show wr.drew.cell? ⟨b, off + k * 8 + 3, none⟩ = _ from C3.out)
        have c14 := Lib.hid (show wr.drew.cell? ⟨b, off + k * 8 + 4, none⟩ = _ from C4.out)
        have c15 := Lib.hid (show wr.drew.cell? ⟨b, off + k * 8 + 5, none⟩ = _ from C5.out)
        have c16 := Lib.hid (show wr.drew.cell? ⟨b, off + k * 8 + 6, none⟩ = _ from C6.out)
        have c17 := Lib.hid (show wr.drew.cell? ⟨b, off + k * 8 + 7, none⟩ = _ from C7.out)
        revert hHeld
        revert T1 zW zB zL1 zWb c10 c11 c12 c13 c14 c15 c16 c17
        generalize wr.drew = W1
        intro T1 zW zB zL1 zWb c10 c11 c12 c13 c14 c15 c16 c17 hHeld
        have zT1 := Lib.hid T1.out.lt
        have t10 := Lib.hid (T1.out.cell 0 rfl)
        have t11 := Lib.hid (T1.out.cell 1 rfl)
        refine hand_take (i := 0) (v := ?_) rfl (by kernel_rfl) (by kernel_rfl) (by kernel_rfl) (fun _ _ _ h => h) (Or.inl ⟨by rfl, ?_⟩) (by assumption) ?_
        rotate_left
        · intro wS hSw
          have hx0 := (hSw.out.cell (p := ⟨w1.heap.size, 0, none⟩) zT1.out).trans t10.out; have hx1 := (hSw.out.cell (p := ⟨w1.heap.size, 1, none⟩) zT1.out).trans t11.out
          clear hSw
          go_simp
          try with_reducible rfl
        try simp only [Act.put, List.setIfInBounds_toArray, List.set_cons_zero, List.set_cons_succ]
        refine hand_take (i := 1) (v := ?_) rfl (by kernel_rfl) (by kernel_rfl) (by kernel_rfl) (fun _ _ _ h => h) (Or.inl ⟨by rfl, ?_⟩) (by assumption) ?_
        rotate_left
        · intro wS hSw
          clear hSw
          go_simp
          try with_reducible rfl
        try simp only [Act.put, List.setIfInBounds_toArray, List.set_cons_zero, List.set_cons_succ]
        refine hand_take (i := 2) (v := ?_) rfl (by kernel_rfl) (by kernel_rfl) (by kernel_rfl) (fun _ _ _ h => h) (Or.inl ⟨by rfl, ?_⟩) (by assumption) ?_
        rotate_left
        · intro wS hSw
          clear hSw
          go_simp
          try with_reducible rfl
        try simp only [Act.put, List.setIfInBounds_toArray, List.set_cons_zero, List.set_cons_succ]
        refine hand_take (i := 3) (v := ?_) rfl (by kernel_rfl) (by kernel_rfl) (by kernel_rfl) (fun _ _ _ h => h) (Or.inl ⟨by rfl, ?_⟩) (by assumption) ?_
        rotate_left
        · intro wS hSw
          clear hSw
          go_simp
          try with_reducible rfl
        try simp only [Act.put, List.setIfInBounds_toArray, List.set_cons_zero, List.set_cons_succ]
        refine hand_take (i := 4) (v := ?_) rfl (by kernel_rfl) (by kernel_rfl) (by kernel_rfl) (fun _ _ _ h => h) (Or.inl ⟨by rfl, ?_⟩) (by assumption) ?_
        rotate_left
        · intro wS hSw
          have hx0 := (hSw.out.cell (p := ⟨b, off + k * 8, none⟩) zL1.out).trans c10.out; have hx1 := (hSw.out.cell (p := ⟨b, off + k * 8 + 1, none⟩) zL1.out).trans c11.out; have hx2 := (hSw.out.cell (p := ⟨b, off + k * 8 + 2, none⟩) zL1.out).trans c12.out; have hx3 := (hSw.out.cell (p := ⟨b, off + k * 8 + 3, none⟩) zL1.out).trans c13.out; have hx4 := (hSw.out.cell (p := ⟨b, off + k * 8 + 4, none⟩) zL1.out).trans c14.out; have hx5 := (hSw.out.cell (p := ⟨b, off + k * 8 + 5, none⟩) zL1.out).trans c15.out; have hx6 := (hSw.out.cell (p := ⟨b, off + k * 8 + 6, none⟩) zL1.out).trans c16.out; have hx7 := (hSw.out.cell (p := ⟨b, off + k * 8 + 7, none⟩) zL1.out).trans c17.out
          clear hSw
          go_simp
          try with_reducible rfl
        try simp only [Act.put, List.setIfInBounds_toArray, List.set_cons_zero, List.set_cons_succ]
        refine wpAnyH_ready (rs := [5, 9]) (by kernel_rfl) (by simp) ?_
        refine (hand_cons rfl (fun KK hK => ?_) (hand_cons rfl (fun KK hK => ?_) AllReadyH.nil))
        · go_simp
          go_at_call 15
          refine (RApply_any A' n' c' x fs d.kind d.id d.wi d.nm d.ot d.ty d.pa d.sep _ hnf.out ((show Fds wr wr.heap.size A' fs from hown.out.row.2.2.2).up (zB.out.trans (hHeld.out.mono zB.out.size))) HL0.out HX0.out HX1.out HRW.out.nm HRW.out.ot HRW.out.sep HNL.out).mono ?_
          rintro e w8 ⟨⟨A7, m7, c7, rfl, hm7, ho7⟩, hb8⟩
          rw [HQ.out] at hm7 ho7
          rw [HQ.out]
          obtain rfl : m7 = fs2.length := hm7
          have HB8 := Lib.hid (hHeld.out.trans (hb8.mono hHeld.out.size))
          have zB8 := HB8.out.size
          have U8 := Lib.hid (ho7.low (b := w.heap.size) (Nat.le_trans zWb hHeld.out.size))
          clear hb8 ho7
          go_wp2_with fail
          refine hK.out _ _ (HB8) (fun hHeld => ?_)
          clear hK KK
          try simp only [Act.put, List.setIfInBounds_toArray, List.set_cons_zero, List.set_cons_succ]
          refine hand_take (i := 6) (v := ?_) rfl (by kernel_rfl) (by kernel_rfl) (by kernel_rfl) (fun _ _ _ h => h) (Or.inl ⟨by rfl, ?_⟩) (by assumption) ?_
          rotate_left
          · intro wS hSw
            clear hSw
            go_simp
            try with_reducible rfl
          try simp only [Act.put, List.setIfInBounds_toArray, List.set_cons_zero, List.set_cons_succ]
          refine hand_take (i := 7) (v := ?_) rfl (by kernel_rfl) (by kernel_rfl) (by kernel_rfl) (fun _ _ _ h => h) (Or.inl ⟨by rfl, ?_⟩) (by assumption) ?_
          rotate_left
          · intro wS hSw
            clear hSw
            go_simp
            try with_reducible rfl
          try simp only [Act.put, List.setIfInBounds_toArray, List.set_cons_zero, List.set_cons_succ]
          refine hand_take (i := 8) (v := ?_) rfl (by kernel_rfl) (by kernel_rfl) (by kernel_rfl) (fun _ _ _ h => h) (Or.inl ⟨by rfl, ?_⟩) (by assumption) ?_
          rotate_left
          · intro wS hSw
            clear hSw
            go_simp
            try with_reducible rfl
          try simp only [Act.put, List.setIfInBounds_toArray, List.set_cons_zero, List.set_cons_succ]
          refine wpAnyH_ready (rs := [9]) (by kernel_rfl) (by simp) ?_
          refine hand_cons rfl (fun KK hK => ?_) AllReadyH.nil
          go_simp
          have GZ := Lib.hid (CB.new w8 30 [.slice none 0 0, .int .i64 0])
          have HBA := Lib.hid (al_up (o := .cells #[.slice none 0 0, .int .i64 0] 30) hHeld.out)
          refine hK.out _ _ (HBA) (fun hHeld => ?_)
          clear hK KK
          try simp only [Act.put, List.setIfInBounds_toArray, List.set_cons_zero, List.set_cons_succ]
          refine wpAnyH_ready (rs := [10]) (by kernel_rfl) (by simp) ?_
          refine hand_cons rfl (fun KK hK => ?_) AllReadyH.nil
          refine step_store_cb rfl 30 (.tmp 7) (.tmp 23) rfl w8.heap.size [.slice A7 fs2.length c7, .int .i64 x2] rfl rfl 30 [.slice none 0 0, .int .i64 0] 2 GZ.out sizeS rfl rfl (one_s _ _ _ _) ?_
          intro wz hcz hgz hzz
          have HBZ := Lib.hid (below_grown hHeld.out hgz hHeld.out.size (by omega))
          have UZ := Lib.hid (Own.kept (U8.out.alloc _) hgz (.inr (Own.ne (U8.out.alloc _) GZ.out (by decide)).symm))
          refine hK.out _ _ (HBZ) (fun hHeld => ?_)
          clear hK KK
          try simp only [Act.put]
          refine hand_take (i := 11) (v := ?_) rfl (by kernel_rfl) (by kernel_rfl) (by kernel_rfl) (fun _ _ _ h => h) (Or.inl ⟨by rfl, ?_⟩) (by assumption) ?_
          rotate_left
          · intro wS hSw
            clear hSw
            go_simp
            try with_reducible rfl
          try simp only [Act.put, List.setIfInBounds_toArray, List.set_cons_zero, List.set_cons_succ]
          refine wpAnyH_done (by kernel_rfl) ?_ _
          go_wp2_with fail
          go_meet
          exact ⟨_, _, _, rfl, rfl, by omega, Lib.hid hcz, UZ, Lib.hid (zB.out.trans (HBZ.out.mono zB.out.size))⟩
        · go_simp
          have GZ := Lib.hid (CB.new W1 30 [.slice none 0 0, .int .i64 0])
          have HBA := Lib.hid (al_up (o := .cells #[.slice none 0 0, .int .i64 0] 30) hHeld.out)
          refine hK.out _ _ (HBA) (fun hHeld => ?_)
          clear hK KK
          try simp only [Act.put, List.setIfInBounds_toArray, List.set_cons_zero, List.set_cons_succ]
          refine wpAnyH_ready (rs := [5]) (by kernel_rfl) (by simp) ?_
          refine hand_cons rfl (fun KK hK => ?_) AllReadyH.nil
          go_simp
          go_at_call 15
          refine (RApply_any A' n' c' x fs d.kind d.id d.wi d.nm d.ot d.ty d.pa d.sep _ hnf.out ((show Fds wr wr.heap.size A' fs from hown.out.row.2.2.2).up (zB.out.trans (hHeld.out.mono zB.out.size))) HL0.out HX0.out HX1.out HRW.out.nm HRW.out.ot HRW.out.sep HNL.out).mono ?_
          rintro e w8 ⟨⟨A7, m7, c7, rfl, hm7, ho7⟩, hb8⟩
          rw [HQ.out] at hm7 ho7
          rw [HQ.out]
          obtain rfl : m7 = fs2.length := hm7
          have HB8 := Lib.hid (hHeld.out.trans (hb8.mono hHeld.out.size))
          have zB8 := HB8.out.size
          have U8 := Lib.hid (ho7.low (b := w.heap.size) (Nat.le_trans zWb hHeld.out.size))
          have GZ8 := Lib.hid (GZ.out.up hb8)
          clear hb8 ho7
          go_wp2_with fail
          refine hK.out _ _ (HB8) (fun hHeld => ?_)
          clear hK KK
          try simp only [Act.put, List.setIfInBounds_toArray, List.set_cons_zero, List.set_cons_succ]
          refine hand_take (i := 6) (v := ?_) rfl (by kernel_rfl) (by kernel_rfl) (by kernel_rfl) (fun _ _ _ h => h) (Or.inl ⟨by rfl, ?_⟩) (by assumption) ?_
          rotate_left
          · intro wS hSw
            clear hSw
            go_simp
            try with_reducible rfl
          try simp only [Act.put, List.setIfInBounds_toArray, List.set_cons_zero, List.set_cons_succ]
          refine hand_take (i := 7) (v := ?_) rfl (by kernel_rfl) (by kernel_rfl) (by kernel_rfl) (fun _ _ _ h => h) (Or.inl ⟨by rfl, ?_⟩) (by assumption) ?_
          rotate_left
          · intro wS hSw
            clear hSw
            go_simp
            try with_reducible rfl
          try simp only [Act.put, List.setIfInBounds_toArray, List.set_cons_zero, List.set_cons_succ]
          refine hand_take (i := 8) (v := ?_) rfl (by kernel_rfl) (by kernel_rfl) (by kernel_rfl) (fun _ _ _ h => h) (Or.inl ⟨by rfl, ?_⟩) (by assumption) ?_
          rotate_left
          · intro wS hSw
            clear hSw
            go_simp
            try with_reducible rfl
          try simp only [Act.put, List.setIfInBounds_toArray, List.set_cons_zero, List.set_cons_succ]
          refine wpAnyH_ready (rs := [10]) (by kernel_rfl) (by simp) ?_
          refine hand_cons rfl (fun KK hK => ?_) AllReadyH.nil
          refine step_store_cb rfl 30 (.tmp 7) (.tmp 23) rfl W1.heap.size [.slice A7 fs2.length c7, .int .i64 x2] rfl rfl 30 [.slice none 0 0, .int .i64 0] 2 GZ8.out sizeS rfl rfl (one_s _ _ _ _) ?_
          intro wz hcz hgz hzz
          have HBZ := Lib.hid (below_grown hHeld.out hgz hHeld.out.size (by omega))
          have UZ := Lib.hid (Own.kept U8.out hgz (.inr (Own.ne U8.out GZ8.out (by decide)).symm))
          refine hK.out _ _ (HBZ) (fun hHeld => ?_)
          clear hK KK
          try simp only [Act.put]
          refine hand_take (i := 11) (v := ?_) rfl (by kernel_rfl) (by kernel_rfl) (by kernel_rfl) (fun _ _ _ h => h) (Or.inl ⟨by rfl, ?_⟩) (by assumption) ?_
          rotate_left
          · intro wS hSw
            clear hSw
            go_simp
            try with_reducible rfl
          try simp only [Act.put, List.setIfInBounds_toArray, List.set_cons_zero, List.set_cons_succ]
          refine wpAnyH_done (by kernel_rfl) ?_ _
          go_wp2_with fail
          go_meet
          exact ⟨_, _, _, rfl, rfl, by omega, Lib.hid hcz, UZ, Lib.hid (zB.out.trans (HBZ.out.mono zB.out.size))⟩
      case rest =>
        obtain ⟨g, c7, A7, rfl, rfl, hge, G2, U2, hbz⟩ := hcut
        have B2 := Lib.hid (below_step hbel.out hbel.out.size hbz.out)
        have T2 := Lib.hid (ht.out.up hbz.out)
        have O2 := Lib.hid (hown.out.up hbz.out)
        have R2 := Lib.hid (hr.out.up hbz.out)
        have t20 := T2.out.cell 0 rfl
        have t21 := T2.out.cell 1 rfl
        have g20 := G2.out.cell 0 rfl
        have g21 := G2.out.cell 1 rfl
        have zT2 := T2.out.lt
        have zR2 := R2.out.lt
        have zG2 := G2.out.lt
        clear hbz t0 t1
        by_cases he : er = 0
        · subst he
          have HG := Lib.hid (aft_go hd.out hgo.out (by rw [HQP.out]))
          have HI := Lib.hid (ok_apply hok.out (c := d) (by rw [HQP.out])).1
          rw [HQP.out] at HG HI
          go_wp2_with (first | ((with_reducible show wpList _ _ _ (Oper.mk none (.store _ _ _) _ _ _ _ :: _) _ _); refine wpList_store_cb rfl 30 (.tmp 5) (.tmp 30) rfl w1.heap.size [.slice A7 fs2.length c7, .int .i64 x2] rfl rfl 30 [.slice A' n' c', .int .i64 x] 2 T2.out sizeS rfl rfl (one_s _ _ _ _) ?_; intro w9 hc9 hg9 hz9))
          go_roundw
          case rel => exact ⟨k + 1, fs2.length, c7, A7, x2, fs2, by omega, by go_num, R2.out.grown hg9 (fun h => by injection h with h; omega), hc9, U2.out.kept hg9 (.inr (Own.ne U2.out T2.out (by decide)).symm), rfl, HI, below_grown B2.out hg9 B2.out.size (by omega), by show _ = _; have h := HG.out; push_cast; exact h⟩
          case measure => simp [intOf]; omega
        · have e1 : (er != 0) = true := by simpa using he
          have HG := Lib.hid (aft_stop hd.out hgo.out (by rw [HQP.out]; exact he))
          rw [HQP.out] at HG
          clear he
          go_wp2_with (first | ((with_reducible show wpList _ _ _ (Oper.mk none (.store _ _ _) _ _ _ _ :: _) _ _); refine wpList_store_cb rfl 30 (.tmp 2) (.tmp 27) rfl w.heap.size [.slice A' n' c', .int .i64 x] rfl rfl 30 [.slice none 0 0, .int .i64 0] 2 R2.out sizeS rfl rfl (one_s _ _ _ _) ?_; intro w9 hc9 hg9 hz9))
          refine bodyPost_ret (res_cell3 Try.results12 rfl rfl rfl hc9 Try.underlying30 sizeS rfl) rfl ⟨?_, below_grown B2.out hg9 B2.out.size (by omega)⟩
          rw [HG.out]
          exact ⟨A', n', c', rfl, hnf.out, O2.out.kept hg9 (.inr (Own.ne O2.out R2.out (by decide)).symm)⟩
    · have i1 : ¬ (k : Int) < (n : Int) := by omega
      have HG := Lib.hid (aft_end (by rw [← HN.out]; omega) hgo.out)
      have hkn : k = n := by omega
      subst hkn
      go_wp2_with (first | ((with_reducible show wpList _ _ _ (Oper.mk none (.store _ _ _) _ _ _ _ :: _) _ _); refine wpList_store_cb rfl 30 (.tmp 2) (.tmp 31) rfl w.heap.size [.slice A' n' c', .int .i64 x] rfl rfl 30 [.slice none 0 0, .int .i64 0] 2 hr.out sizeS rfl rfl (one_s _ _ _ _) ?_; intro w9 hc9 hg9 hz9))
      refine bodyPost_ret (res_cell3 Try.results12 rfl rfl rfl hc9 Try.underlying30 sizeS rfl) rfl ⟨?_, below_grown hbel.out hg9 (by omega) (by omega)⟩
      rw [HG.out]
      exact ⟨A', n', c', rfl, hnf.out, hown.out.kept hg9 (.inr (Own.ne hown.out hr.out (by decide)).symm)⟩
end Go.Proofs.Ytpgbpfdedpppeaa
