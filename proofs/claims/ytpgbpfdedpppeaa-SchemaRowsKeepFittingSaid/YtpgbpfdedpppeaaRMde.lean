/-
  The reference's Made, by a contract.
-/
import Derived.Test.YtpgbpfdedpppeaaRChg
import Derived.Test.YtpgbpfdedpppeaaRApp
namespace Go.Proofs.Ytpgbpfdedpppeaa
open Go.RowKit

theorem infoCh : (Try.prog.info? 24).map (fun i => (i.zero, i.size, i.bytes)) = some (some (.agg #[.int .i64 0, .int .i64 0, .int .i64 0, .string ⟨#[]⟩, .string ⟨#[]⟩, .int .i64 0, .int .i64 0, .string ⟨#[]⟩]), 8, 88) := by kernel_rfl
theorem nameR_small (s : ByteArray) (h : s.size ≤ 9223372036854775807) : (nameR s).size ≤ 9223372036854775807 := by
  unfold nameR
  split
  · exact h
  · have h6 : s.size % 6 = 0 ∨ s.size % 6 = 1 ∨ s.size % 6 = 2 ∨ s.size % 6 = 3 ∨ s.size % 6 = 4 ∨ s.size % 6 = 5 := by omega
    rcases h6 with h | h | h | h | h | h <;> rw [h] <;> exact Nat.le_of_ble_eq_true rfl
theorem lit_wf (n : Int) (h : -9223372036854775808 ≤ n ∧ n ≤ 9223372036854775807) : (Lit.int .i64 n).wf = true := by
  have := wrap64_wf n
  rwa [w64_in n h] at this
/-- a raw change of a program -/
structure RW (c : Ch) : Prop where
  kind : (Lit.int .i64 c.kind).wf = true
  id : (Lit.int .i64 c.id).wf = true
  wi : (Lit.int .i64 c.wi).wf = true
  ty : (Lit.int .i64 c.ty).wf = true
  pa : (Lit.int .i64 c.pa).wf = true
  nm : c.nm.size ≤ 9223372036854775807
  ot : c.ot.size ≤ 9223372036854775807
  sep : c.sep.size ≤ 9223372036854775807
theorem chg_rw {s : Sc} {c : Ch} (h : RW c) (hx : s.next ≤ 1073741824) : RW (chgR s c) := by
  have m1 := mod_le c.kind (n := 7) (by decide)
  have m2 := mod_le c.id hx
  have m3 := mod_le c.wi hx
  have m4 := mod_le c.ty (n := 6) (by decide)
  have m5 := mod_le c.pa hx
  refine ⟨lit_wf _ (by show _ ≤ 1 + _ ∧ 1 + _ ≤ _; omega), lit_wf _ (by show _ ≤ 1 + _ ∧ 1 + _ ≤ _; omega), lit_wf _ (by show _ ≤ 1 + _ ∧ 1 + _ ≤ _; omega), lit_wf _ (by show _ ≤ 1 + _ ∧ 1 + _ ≤ _; omega), lit_wf _ ?_, nameR_small _ h.nm, nameR_small _ h.ot, ?_⟩
  · show _ ≤ (if _ then _ else _) ∧ (if _ then _ else _) ≤ _
    split <;> omega
  · show (if _ then _ else _ : ByteArray).size ≤ _
    split
    · exact h.sep
    · exact Nat.le_of_ble_eq_true rfl
theorem RW.cw {c : Ch} (h : RW c) : CW c := ⟨h.kind, h.nm, h.ot, h.sep⟩
theorem made_rw : ∀ {l : List Ch} {s : Sc}, Ok s → (∀ c ∈ l, RW c) → ∀ c ∈ madeG s l, RW c
  | [], _, _, _, _, h => by simp [madeG] at h
  | d :: r, s, ho, hl, c, hc => by
    unfold madeG at hc
    split at hc
    · next he =>
      rcases List.mem_cons.1 hc with rfl | hc
      · exact chg_rw (hl d (by simp)) ho.big.2
      · have he' := he
        rw [← apply_eq ho] at he' hc
        exact made_rw (ok_apply ho he').1 (fun c h => hl c (by simp [h])) c hc
    · exact made_rw ho (fun c h => hl c (by simp [h])) c hc
theorem nam_small {b : ByteArray} (h : namB b = true) : b.size ≤ 9223372036854775807 := by
  unfold namB at h
  simp only [Bool.and_eq_true, decide_eq_true_iff] at h
  omega
theorem made_go {fs fs2 : List Fd} {x x2 : Int} {acc r T : List Ch} {k : Nat} {d cd : Ch} (hd : T.drop k = d :: T.drop (k + 1)) (h : acc ++ madeG ⟨fs, x⟩ (T.drop k) = r) (hc : chgR ⟨fs, x⟩ d = cd) (hq : applyR ⟨fs, x⟩ cd = (⟨fs2, x2⟩, 0)) : (acc ++ [cd]) ++ madeG ⟨fs2, x2⟩ (T.drop (k + 1)) = r := by
  rw [← h, hd, madeG, hc, hq, if_pos rfl]
  simp
theorem made_no {fs fs2 : List Fd} {x x2 er : Int} {acc r T : List Ch} {k : Nat} {d cd : Ch} (hd : T.drop k = d :: T.drop (k + 1)) (h : acc ++ madeG ⟨fs, x⟩ (T.drop k) = r) (hc : chgR ⟨fs, x⟩ d = cd) (hq : applyR ⟨fs, x⟩ cd = (⟨fs2, x2⟩, er)) (he : ¬ er = 0) : acc ++ madeG ⟨fs, x⟩ (T.drop (k + 1)) = r := by
  rw [← h, hd, madeG, hc, hq, if_neg he]
theorem made_end {fs : List Fd} {x : Int} {acc r T : List Ch} {k : Nat} (hk : T.length ≤ k) (h : acc ++ madeG ⟨fs, x⟩ (T.drop k) = r) : acc = r := by
  rw [← h, List.drop_of_length_le hk, madeG, List.append_nil]
theorem made_ok {fs fs2 : List Fd} {x x2 : Int} {cd : Ch} (ho : Ok ⟨fs, x⟩) (hq : applyR ⟨fs, x⟩ cd = (⟨fs2, x2⟩, 0)) : Ok ⟨fs2, x2⟩ := by
  rw [← apply_eq ho] at hq
  have := (ok_apply ho (c := cd) (by rw [hq])).1
  rwa [hq] at this
theorem Own.ne2 {E E' : TypeId} {k k' : Nat} {w : World} {base base' : Nat} {v v' : Value} {L L' : List (List Value)} (h : Own E k w base v L) (h' : Own E' k' w base' v' L') (ht : E ≠ E') : v.ownBlock = none ∨ v.ownBlock ≠ v'.ownBlock := by
  rcases h.1.2 with ⟨e, _⟩ | ⟨g, cap, cur, e, _, hg, _⟩
  · left; rw [e]; rfl
  · right
    rcases h'.1.2 with ⟨e', _⟩ | ⟨g', cap', cur', e', _, hg', _⟩
    · rw [e, e']
      simp [Value.ownBlock]
    · rw [e, e']
      intro hx
      have hx' : some g = some g' := hx
      injection hx' with hx'
      subst hx'
      rw [hg] at hg'
      have := Option.some.inj hg'
      injection this with _ h2
      exact ht h2
theorem one_ch (d : Ch) : ∀ u ∈ d.cells, u.oneCell' = true := one_c _ _ _ _ _ _ _ _
/-- append(v, c): v the call's own row of changes. -/
theorem push_ch {w wr : World} {ops : Array Oper} {rest : List Oper} {o : Oper} {a : Act} {Q : Exit → Act → World → Prop} (hgd : o.guard = none) (d x : Operand)
    (ho : o.op = .call { callee := .builtin .append, args := #[d, x], argTypes := #[22, 22] }) (base : Nat) (v : Value) (acc : List Ch) (f : Ch) (N : Nat) (hs : a.eval d = v) (hx : a.eval x = .slice (some ⟨N, 0, none⟩) 1 1)
    (hN : N = wr.heap.size) (hw : w = wr.alloc (.cells #[.int .i64 f.kind, .int .i64 f.id, .int .i64 f.wi, .string f.nm, .string f.ot, .int .i64 f.ty, .int .i64 f.pa, .string f.sep] 24)) (hr : Own 24 8 wr base v (acc.map Ch.cells)) (hroom : acc.length ≤ 1000000) (hbase : base ≤ wr.heap.size)
    (hK : ∀ A' c' w', Own 24 8 w' base (.slice A' (acc.length + 1) c') ((acc ++ [f]).map Ch.cells) → wr.grownBy w' v.ownBlock → Below base wr w' → wpList Try.prog ops Q rest (a.put o.dst (.slice A' (acc.length + 1) c')) w') : wpList Try.prog ops Q (o :: rest) a w := by
  refine wpList_push hgd d x ho Try.underlying22 infoCh rfl (by decide) base v (acc.map Ch.cells) f.cells N hs hx hN hw hr rfl (one_ch f) (by simp; omega) (by decide) hbase ?_
  intro A' c' w' h1 h2 h3
  have e : (acc.map Ch.cells ++ [f.cells]).length = acc.length + 1 := by simp
  rw [e] at h1 ⊢
  exact hK A' c' w' (by simpa using h1) h2 h3

set_option maxHeartbeats 4000000 in
set_option maxRecDepth 20000 in
theorem RMade_any (A : Option Addr) (n c K : Nat) (m : List Ch) (w : World) (hn : n = m.length) (hs : Chs w w.heap.size A m) (hl : n ≤ 9223372036854775807) (hK : K ≤ 1000) (hrw : ∀ d ∈ m, RW d) :
    Calls Try.prog 10 #[.slice A n c, .int .i64 (K : Int)] w fun e w' => (∃ A' c', e = .returned (.slice A' (madeR m K).length c') ∧ Own 24 8 w' w.heap.size (.slice A' (madeR m K).length c') ((madeR m K).map Ch.cells)) ∧ Below w.heap.size w w' := by
  have HN := Lib.hid hn
  have HS := Lib.hid hs
  have HR := Lib.hid hrw
  obtain ⟨T, hT⟩ : ∃ T, m.take K = T := ⟨_, rfl⟩
  have HT := Lib.hid hT
  have hTl : T.length = min K n := by rw [← hT, List.length_take, hn]
  clear hn hs hrw hT
  go_enter Try.func10, Try.ntmps10
  go_wp2_with (go_at_call 31; refine (RNew_any _).mono ?_; rintro e w1 ⟨rfl, hb1⟩; have B1 := Lib.hid hb1; have z1 := hb1.size; clear hb1)
  go_loopw [6, 7] (fun v j wr => ∃ (k n' c' cv : Nat) (A' Av : Option Addr) (x : Int) (fs : List Fd) (acc : List Ch), k ≤ T.length ∧ acc.length ≤ k ∧ v = .slice Av acc.length cv ∧ j = .int .i64 k ∧ Hid (CB wr w1.heap.size 30 [.slice A' n' c', .int .i64 x]) ∧ Hid (Own 41 4 wr w.heap.size (.slice A' n' c') (fs.map Fd.cells)) ∧ Hid (n' = fs.length) ∧ Hid (Ok ⟨fs, x⟩) ∧ Hid (Own 24 8 wr w.heap.size (.slice Av acc.length cv) (acc.map Ch.cells)) ∧ Hid (Below w.heap.size w wr) ∧ Hid (acc ++ madeG ⟨fs, x⟩ (T.drop k) = madeR m K)) (fun _ j _ => T.length - (intOf j).toNat)
  case atStart => exact ⟨0, 0, 0, 0, none, some ⟨w1.heap.size + 1, 0, none⟩, 1, [], [], by omega, by simp, rfl, rfl, (CB.new _ _ _).alloc _, ((Own.nil _ _ _ _).alloc _), rfl, ok_new, (own_empty1 w1 _ _ rfl).low z1, (B1.out.alloc z1 _).alloc (by rw [asz]; omega) _, by show [] ++ madeG Sc.new (T.drop 0) = _; rw [← HT.out]; rfl⟩
  case round =>
    obtain ⟨k, n', c', cv, A', Av, x, fs, acc, hk, hak, rfl, rfl, ht, hown, hnf, hok, hv, hbel, hgo⟩ := hrel
    have hzt := ht.out.lt
    by_cases hlt : k < T.length
    · have i1 : (k : Int) < (n : Int) := by omega
      have i2 : (k : Int) < (K : Int) := by omega
      obtain ⟨d, hf⟩ := getC_of (l := T) (k := k) hlt
      have hd := Lib.hid (drop_cons hf)
      have hfm : m[k]? = some d := by
        rw [← HT.out, List.getElem?_take] at hf
        rwa [if_pos (by omega)] at hf
      obtain ⟨b, off, hA, hbl, c0, c1, c2, c3, c4, c5, c6, c7⟩ := (HS.out.below hbel.out).one hfm
      subst hA
      have HRW := Lib.hid (HR.out d (List.mem_of_getElem? hfm))
      obtain ⟨cd, hcd⟩ : ∃ cd, chgR ⟨fs, x⟩ d = cd := ⟨_, rfl⟩
      have HCD := Lib.hid (show chgR ⟨fs, x⟩ ⟨d.kind, d.id, d.wi, d.nm, d.ot, d.ty, d.pa, d.sep⟩ = cd from hcd)
      have HX1 := Lib.hid (show x ≤ 1073741824 from hok.out.big.2)
      have HL2 := Lib.hid (show n' ≤ 9223372036854775807 by rw [hnf.out]; have := hok.out.big.1; simp only at this; omega)
      have HCW := Lib.hid (show RW cd by rw [← hcd]; exact chg_rw HRW.out HX1.out)
      have zL := Lib.hid (show b < wr.heap.size from by have := hbel.out.size; omega)
      have C0 := Lib.hid c0
      have C1 := Lib.hid c1
      have C2 := Lib.hid c2
      have C3 := Lib.hid c3
      have C4 := Lib.hid c4
      have C5 := Lib.hid c5
      have C6 := Lib.hid c6
      have C7 := Lib.hid c7
      clear hf hfm hcd c0 c1 c2 c3 c4 c5 c6 c7 hbl
      go_upto_region 6 with fail
      go_cut [8] from 13 to 42 (fun p wx => ∃ g : Nat, p = .pointer (some ⟨g, 0, none⟩) ∧ wr.heap.size ≤ g ∧ Hid (CB wx g 24 cd.cells) ∧ Hid (Below wr.heap.size wr wx))
      case first =>
        refine wp_region_held_drew (S := fun w' => Hid (Below wr.drew.heap.size wr.drew w')) (by kernel_rfl) (Lib.hid (Below.refl _ _)) (fun hHeld => ?_)
        have T1 := Lib.hid (ht.out.up (bd wr))
        have zW : wr.heap.size = wr.drew.heap.size := rfl
        have zB := Lib.hid (bd wr)
        have zL1 := Lib.hid (show b < wr.drew.heap.size from zL.out)
        have c10 := Lib.hid (show wr.drew.cell? ⟨b, off + k * 8, none⟩ = _ from C0.out)
        have c11 := Lib.hid (show wr.drew.cell? ⟨b, off + k * 8 + 1, none⟩ = _ from C1.out)
        have c12 := Lib.hid (show wr.drew.cell? ⟨b, off + k * 8 + 2, none⟩ = _ from C2.out)
        have c13 := Lib.hid (show wr.drew.cell? ⟨b, off + k * 8 + 3, none⟩ = _ from C3.out)
        have c14 := Lib.hid (show wr.drew.cell? ⟨b, off + k * 8 + 4, none⟩ = _ from C4.out)
        have c15 := Lib.hid (show wr.drew.cell? ⟨b, off + k * 8 + 5, none⟩ = _ from C5.out)
        have c16 := Lib.hid (show wr.drew.cell? ⟨b, off + k * 8 + 6, none⟩ = _ from C6.out)
        have c17 := Lib.hid (show wr.drew.cell? ⟨b, off + k * 8 + 7, none⟩ = _ from C7.out)
        revert hHeld T1 zW zB zL1 c10 c11 c12 c13 c14 c15 c16 c17
        generalize wr.drew = W1
        intro hHeld T1 zW zB zL1 c10 c11 c12 c13 c14 c15 c16 c17
        have zT1 := Lib.hid T1.out.lt
        have t10 := Lib.hid (T1.out.cell 0 rfl)
        have t11 := Lib.hid (T1.out.cell 1 rfl)
        refine hand_take (i := 0) (v := ?_) rfl (by kernel_rfl) (by kernel_rfl) (by kernel_rfl) (fun _ _ _ h => h) (Or.inl ⟨by rfl, ?_⟩) (by assumption) ?_
        rotate_left
        · intro wS hSw
          have hx0 := (hSw.out.cell (p := ⟨w1.heap.size, 0, none⟩) zT1.out).trans t10.out; have hx1 := (hSw.out.cell (p := ⟨w1.heap.size, 1, none⟩) zT1.out).trans t11.out
          clear hSw
          go_simp
          try with_reducible rfl
        try simp only [Act.put, List.setIfInBounds_toArray, List.set_cons_zero, List.set_cons_succ]
        refine hand_take (i := 1) (v := ?_) rfl (by kernel_rfl) (by kernel_rfl) (by kernel_rfl) (fun _ _ _ h => h) (Or.inl ⟨by rfl, ?_⟩) (by assumption) ?_
        rotate_left
        · intro wS hSw
          clear hSw
          go_simp
          try with_reducible rfl
        try simp only [Act.put, List.setIfInBounds_toArray, List.set_cons_zero, List.set_cons_succ]
        refine hand_take (i := 2) (v := ?_) rfl (by kernel_rfl) (by kernel_rfl) (by kernel_rfl) (fun _ _ _ h => h) (Or.inl ⟨by rfl, ?_⟩) (by assumption) ?_
        rotate_left
        · intro wS hSw
          clear hSw
          go_simp
          try with_reducible rfl
        try simp only [Act.put, List.setIfInBounds_toArray, List.set_cons_zero, List.set_cons_succ]
        refine hand_take (i := 3) (v := ?_) rfl (by kernel_rfl) (by kernel_rfl) (by kernel_rfl) (fun _ _ _ h => h) (Or.inl ⟨by rfl, ?_⟩) (by assumption) ?_
        rotate_left
        · intro wS hSw
          clear hSw
          go_simp
          try with_reducible rfl
        try simp only [Act.put, List.setIfInBounds_toArray, List.set_cons_zero, List.set_cons_succ]
        refine hand_take (i := 4) (v := ?_) rfl (by kernel_rfl) (by kernel_rfl) (by kernel_rfl) (fun _ _ _ h => h) (Or.inl ⟨by rfl, ?_⟩) (by assumption) ?_
        rotate_left
        · intro wS hSw
          have hx0 := (hSw.out.cell (p := ⟨b, off + k * 8, none⟩) zL1.out).trans c10.out; have hx1 := (hSw.out.cell (p := ⟨b, off + k * 8 + 1, none⟩) zL1.out).trans c11.out; have hx2 := (hSw.out.cell (p := ⟨b, off + k * 8 + 2, none⟩) zL1.out).trans c12.out; have hx3 := (hSw.out.cell (p := ⟨b, off + k * 8 + 3, none⟩) zL1.out).trans c13.out; have hx4 := (hSw.out.cell (p := ⟨b, off + k * 8 + 4, none⟩) zL1.out).trans c14.out; have hx5 := (hSw.out.cell (p := ⟨b, off + k * 8 + 5, none⟩) zL1.out).trans c15.out; have hx6 := (hSw.out.cell (p := ⟨b, off + k * 8 + 6, none⟩) zL1.out).trans c16.out; have hx7 := (hSw.out.cell (p := ⟨b, off + k * 8 + 7, none⟩) zL1.out).trans c17.out
          clear hSw
          go_simp
          try with_reducible rfl
        try simp only [Act.put, List.setIfInBounds_toArray, List.set_cons_zero, List.set_cons_succ]
        refine wpAnyH_ready (rs := [5, 6]) (by kernel_rfl) (by simp) ?_
        refine (hand_cons rfl (fun KK hK => ?_) (hand_cons rfl (fun KK hK => ?_) AllReadyH.nil))
        · go_simp
          go_at_call 16
          refine (RChange_any A' n' c' x fs d.kind d.id d.wi d.nm d.ot d.ty d.pa d.sep _ hnf.out ((show Fds wr wr.heap.size A' fs from hown.out.row.2.2.2).up (zB.out.trans (hHeld.out.mono zB.out.size))) HL2.out HX1.out HRW.out.nm HRW.out.ot HRW.out.sep HRW.out.kind HRW.out.id HRW.out.wi HRW.out.ty HRW.out.pa).mono ?_
          rintro e w8 ⟨rfl, hb8⟩
          rw [HCD.out]
          have HB8 := Lib.hid (hHeld.out.trans (hb8.mono hHeld.out.size))
          have zB8 := HB8.out.size
          clear hb8
          go_wp2_with fail
          refine hK.out _ _ (HB8) (fun hHeld => ?_)
          clear hK KK
          try simp only [Act.put, List.setIfInBounds_toArray, List.set_cons_zero, List.set_cons_succ]
          refine wpAnyH_ready (rs := [6]) (by kernel_rfl) (by simp) ?_
          refine hand_cons rfl (fun KK hK => ?_) AllReadyH.nil
          go_simp
          have GZ := Lib.hid (CB.new w8 24 [.int .i64 0, .int .i64 0, .int .i64 0, .string ⟨#[]⟩, .string ⟨#[]⟩, .int .i64 0, .int .i64 0, .string ⟨#[]⟩])
          have HBA := Lib.hid (al_up (o := .cells #[.int .i64 0, .int .i64 0, .int .i64 0, .string ⟨#[]⟩, .string ⟨#[]⟩, .int .i64 0, .int .i64 0, .string ⟨#[]⟩] 24) hHeld.out)
          refine hK.out _ _ (HBA) (fun hHeld => ?_)
          clear hK KK
          try simp only [Act.put, List.setIfInBounds_toArray, List.set_cons_zero, List.set_cons_succ]
          refine wpAnyH_ready (rs := [7]) (by kernel_rfl) (by simp) ?_
          refine hand_cons rfl (fun KK hK => ?_) AllReadyH.nil
          refine step_store_cb rfl 24 (.tmp 8) (.tmp 29) rfl w8.heap.size cd.cells rfl rfl 24 [.int .i64 0, .int .i64 0, .int .i64 0, .string ⟨#[]⟩, .string ⟨#[]⟩, .int .i64 0, .int .i64 0, .string ⟨#[]⟩] 8 GZ.out sizeC rfl rfl (one_c _ _ _ _ _ _ _ _) ?_
          intro wz hcz hgz hzz
          have HBZ := Lib.hid (below_grown hHeld.out hgz hHeld.out.size (by omega))
          refine hK.out _ _ (HBZ) (fun hHeld => ?_)
          clear hK KK
          try simp only [Act.put]
          refine wpAnyH_done (by kernel_rfl) ?_ _
          go_wp2_with fail
          go_meet
          exact ⟨_, rfl, by omega, Lib.hid hcz, Lib.hid (zB.out.trans (HBZ.out.mono (by omega)))⟩
        · go_simp
          have GZ := Lib.hid (CB.new W1 24 [.int .i64 0, .int .i64 0, .int .i64 0, .string ⟨#[]⟩, .string ⟨#[]⟩, .int .i64 0, .int .i64 0, .string ⟨#[]⟩])
          have HBA := Lib.hid (al_up (o := .cells #[.int .i64 0, .int .i64 0, .int .i64 0, .string ⟨#[]⟩, .string ⟨#[]⟩, .int .i64 0, .int .i64 0, .string ⟨#[]⟩] 24) hHeld.out)
          refine hK.out _ _ (HBA) (fun hHeld => ?_)
          clear hK KK
          try simp only [Act.put, List.setIfInBounds_toArray, List.set_cons_zero, List.set_cons_succ]
          refine wpAnyH_ready (rs := [5]) (by kernel_rfl) (by simp) ?_
          refine hand_cons rfl (fun KK hK => ?_) AllReadyH.nil
          go_simp
          go_at_call 16
          refine (RChange_any A' n' c' x fs d.kind d.id d.wi d.nm d.ot d.ty d.pa d.sep _ hnf.out ((show Fds wr wr.heap.size A' fs from hown.out.row.2.2.2).up (zB.out.trans (hHeld.out.mono zB.out.size))) HL2.out HX1.out HRW.out.nm HRW.out.ot HRW.out.sep HRW.out.kind HRW.out.id HRW.out.wi HRW.out.ty HRW.out.pa).mono ?_
          rintro e w8 ⟨rfl, hb8⟩
          rw [HCD.out]
          have HB8 := Lib.hid (hHeld.out.trans (hb8.mono hHeld.out.size))
          have zB8 := HB8.out.size
          have GZ8 := Lib.hid (GZ.out.up hb8)
          clear hb8
          go_wp2_with fail
          refine hK.out _ _ (HB8) (fun hHeld => ?_)
          clear hK KK
          try simp only [Act.put, List.setIfInBounds_toArray, List.set_cons_zero, List.set_cons_succ]
          refine wpAnyH_ready (rs := [7]) (by kernel_rfl) (by simp) ?_
          refine hand_cons rfl (fun KK hK => ?_) AllReadyH.nil
          refine step_store_cb rfl 24 (.tmp 8) (.tmp 29) rfl W1.heap.size cd.cells rfl rfl 24 [.int .i64 0, .int .i64 0, .int .i64 0, .string ⟨#[]⟩, .string ⟨#[]⟩, .int .i64 0, .int .i64 0, .string ⟨#[]⟩] 8 GZ8.out sizeC rfl rfl (one_c _ _ _ _ _ _ _ _) ?_
          intro wz hcz hgz hzz
          have HBZ := Lib.hid (below_grown hHeld.out hgz hHeld.out.size (by omega))
          refine hK.out _ _ (HBZ) (fun hHeld => ?_)
          clear hK KK
          try simp only [Act.put]
          refine wpAnyH_done (by kernel_rfl) ?_ _
          go_wp2_with fail
          go_meet
          exact ⟨_, rfl, by omega, Lib.hid hcz, Lib.hid (zB.out.trans (HBZ.out.mono (by omega)))⟩
      case rest =>
        obtain ⟨g, rfl, hge, G2, hbz⟩ := hcut
        have B2 := Lib.hid (below_step hbel.out hbel.out.size hbz.out)
        have T2 := Lib.hid (ht.out.up hbz.out)
        have O2 := Lib.hid (hown.out.up hbz.out)
        have V2 := Lib.hid (hv.out.up hbz.out)
        have t20 := T2.out.cell 0 rfl
        have t21 := T2.out.cell 1 rfl
        have g20 := G2.out.cell 0 rfl
        have g21 := G2.out.cell 1 rfl
        have g22 := G2.out.cell 2 rfl
        have g23 := G2.out.cell 3 rfl
        have g24 := G2.out.cell 4 rfl
        have g25 := G2.out.cell 5 rfl
        have g26 := G2.out.cell 6 rfl
        have g27 := G2.out.cell 7 rfl
        have HA := Lib.hid (RApply_any A' n' c' x fs cd.kind cd.id cd.wi cd.nm cd.ot cd.ty cd.pa cd.sep wc hnf.out (show Fds wc wc.heap.size A' fs from O2.out.row.2.2.2) (by rw [hnf.out]; have := hok.out.big.1; simp only at this; omega) (by have := hok.out.nx; simp only at this; omega) (by have := HX1.out; omega) HCW.out.nm HCW.out.ot HCW.out.sep (fun f hf => nam_small (hok.out.nam.1 f hf)))
        obtain ⟨⟨⟨fs2, x2⟩, er⟩, hq⟩ : ∃ r, applyR ⟨fs, x⟩ ⟨cd.kind, cd.id, cd.wi, cd.nm, cd.ot, cd.ty, cd.pa, cd.sep⟩ = r := ⟨_, rfl⟩
        have HQ := Lib.hid hq
        have hzg : w1.heap.size < g := by omega
        clear hq hbz
        by_cases he : er = 0
        · subst he
          have HI := Lib.hid (made_ok hok.out HQ.out)
          have HG := Lib.hid (made_go hd.out hgo.out HCD.out HQ.out)
          go_wp2_with (first | (go_at_call 15; refine HA.out.mono ?_; rintro e w7 ⟨⟨A7, m7, c7, rfl, hm7, ho7⟩, hb7⟩; rw [HQ.out] at hm7 ho7; rw [HQ.out]; have T7 := Lib.hid (T2.out.up hb7); have G7 := Lib.hid (G2.out.up hb7); have V7 := Lib.hid (V2.out.up hb7); have O7 := Lib.hid (ho7.low (b := w.heap.size) B2.out.size); have M7 := Lib.hid hm7; have U7 := Lib.hid (O2.out.up hb7); have B7 := Lib.hid (below_step B2.out B2.out.size hb7); have zT7 := T7.out.lt; have zG7 := G7.out.lt; clear hm7 ho7 hb7) | ((with_reducible show wpList _ _ _ (Oper.mk none (.store _ _ _) _ _ _ _ :: _) _ _); refine wpList_store_cb rfl 30 (.tmp 5) (.tmp 38) rfl w1.heap.size [.slice A7 m7 c7, .int .i64 x2] rfl rfl 30 [.slice A' n' c', .int .i64 x] 2 (T7.out.alloc _) sizeS rfl rfl (one_s _ _ _ _) ?_; intro w9 hc9 hg9 hz9; have G9 := Lib.hid ((G7.out.alloc _).grown hg9 (fun h => by injection h with h; omega)); have V9 := Lib.hid ((V7.out.alloc _).kept hg9 (.inr (Own.ne V7.out T7.out (by decide)).symm)); have O9 := Lib.hid ((O7.out.alloc _).kept hg9 (.inr (Own.ne O7.out T7.out (by decide)).symm)); have T9 := Lib.hid hc9; have B9 := Lib.hid (below_grown (B7.out.alloc B7.out.size _) hg9 ((B7.out.alloc B7.out.size _).size) (by omega)); have g90 := G9.out.cell 0 rfl; have g91 := G9.out.cell 1 rfl; have g92 := G9.out.cell 2 rfl; have g93 := G9.out.cell 3 rfl; have g94 := G9.out.cell 4 rfl; have g95 := G9.out.cell 5 rfl; have g96 := G9.out.cell 6 rfl; have g97 := G9.out.cell 7 rfl; clear hc9 hg9 hz9) | (at_builtin; refine push_ch (wr := w9) rfl (.tmp 39) (.tmp 41) rfl w.heap.size (.slice Av acc.length cv) acc cd w9.heap.size rfl rfl rfl rfl V9.out (by omega) B9.out.size ?_; intro A10 c10 w10 ho10 hg10 hb10; have T10 := Lib.hid (T9.out.grown hg10 (Own.ne V9.out T9.out (by decide))); have O10 := Lib.hid (O9.out.kept hg10 (Own.ne2 O9.out V9.out (by decide))); have B10 := Lib.hid (B9.out.trans hb10); have V10 := Lib.hid ho10; clear ho10 hg10 hb10))
          go_roundw
          case rel => exact ⟨k + 1, m7, c7, c10, A7, A10, x2, fs2, acc ++ [cd], by omega, by simp; omega, by simp, by go_num, T10, O10, M7, HI, by show Hid (Own _ _ _ _ (.slice A10 (acc ++ [cd]).length c10) _); rw [List.length_append]; exact V10, B10, HG⟩
          case measure => simp [intOf]; omega
        · have e1 : (er == 0) = false := by simpa using he
          have HG := Lib.hid (made_no hd.out hgo.out HCD.out HQ.out he)
          clear he
          go_wp2_with (first | (go_at_call 15; refine HA.out.mono ?_; rintro e w7 ⟨⟨A7, m7, c7, rfl, hm7, ho7⟩, hb7⟩; rw [HQ.out] at hm7 ho7; rw [HQ.out]; have T7 := Lib.hid (T2.out.up hb7); have G7 := Lib.hid (G2.out.up hb7); have V7 := Lib.hid (V2.out.up hb7); have O7 := Lib.hid (ho7.low (b := w.heap.size) B2.out.size); have M7 := Lib.hid hm7; have U7 := Lib.hid (O2.out.up hb7); have B7 := Lib.hid (below_step B2.out B2.out.size hb7); have zT7 := T7.out.lt; have zG7 := G7.out.lt; clear hm7 ho7 hb7))
          go_roundw
          case rel => exact ⟨k + 1, n', c', cv, A', Av, x, fs, acc, by omega, by omega, rfl, by go_num, T7.out.alloc _, U7.out.alloc _, hnf, hok, V7.out.alloc _, B7.out.alloc B7.out.size _, HG⟩
          case measure => simp [intOf]; omega
    · have HG := Lib.hid (made_end (by omega) hgo.out)
      have hkk : k = T.length := by omega
      by_cases hkn : (k : Int) < (n : Int)
      · have i2 : ¬ (k : Int) < (K : Int) := by omega
        go_wp2
        all_goals (first | (exfalso; omega) | skip)
        all_goals
          go_ret
          rw [← HG.out]
          exact ⟨⟨Av, cv, rfl, hv.out⟩, hbel.out⟩
      · go_wp2
        go_ret
        rw [← HG.out]
        exact ⟨⟨Av, cv, rfl, hv.out⟩, hbel.out⟩
end Go.Proofs.Ytpgbpfdedpppeaa
