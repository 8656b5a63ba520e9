/-
  SchemaStaysValid, walked.
-/
import Derived.Test.YtpgbpfdedpppeaaSanW
import Derived.Test.YtpgbpfdedpppeaaRVld
import Derived.Test.YtpgbpfdedpppeaaHand
import Derived.Deep.CutRange
import Derived.Deep.DeepCutAuto
namespace Go.Proofs.Ytpgbpfdedpppeaa.stay
open Go.RowKit Go.Proofs.Ytpgbpfdedpppeaa

theorem apply_two {s : Sc} (ho : Ok s) {c : Ch} {f : List Fd} {y e : Int} (h : applyP s c = (⟨f, y⟩, e)) : (e = 0 ∧ Ok ⟨f, y⟩) ∨ (e ≠ 0 ∧ f = [] ∧ y = 0) := by
  by_cases he : e = 0
  · left
    have := (ok_apply ho (c := c) (by rw [h]; exact he)).1
    rw [h] at this
    exact ⟨he, this⟩
  · right
    have := err_apply (s := s) (c := c) (by rw [h]; exact he)
    rw [h] at this
    simp only [Sc.zero, Sc.mk.injEq] at this
    exact ⟨he, this.1, this.2⟩
theorem two_len {f : List Fd} {y e : Int} (h : (e = 0 ∧ Ok ⟨f, y⟩) ∨ (e ≠ 0 ∧ f = [] ∧ y = 0)) : f.length ≤ 9223372036854775807 := by
  rcases h with ⟨_, h⟩ | ⟨_, rfl, _⟩
  · have := h.big.1
    simp only at this
    omega
  · simp
set_option maxHeartbeats 8000000 in
set_option maxRecDepth 20000 in
theorem walk (A : Option Addr) (cap : Nat) (L : List Ch) (cc : Ch) (W : World) (hE : Chs W W.heap.size A L) (hrw : ∀ d ∈ L, RW d) (hlc : L.length ≤ cap) (hcm : cap ≤ 9223372036854775807) (hcc : RW cc) :
    Calls Try.prog 4 #[.slice A L.length cap, cc.val] W fun e W' => e = .returned (.bool true) ∧ Below W.heap.size W W' := by
  obtain ⟨kd, id, wi, nm, ot, ty, pa, sep⟩ := cc
  have hkd := hcc.kind
  have hid := hcc.id
  have hwi := hcc.wi
  have hty := hcc.ty
  have hpa := hcc.pa
  have hnm : nm.size ≤ 9223372036854775807 := hcc.nm
  have hot : ot.size ≤ 9223372036854775807 := hcc.ot
  have hsp : sep.size ≤ 9223372036854775807 := hcc.sep
  have HE := Lib.hid hE
  have HR := Lib.hid hrw
  have HCC := Lib.hid hcc
  obtain ⟨M, hM⟩ : ∃ M, madeR L 40 = M := ⟨_, rfl⟩
  have hML : M.length ≤ 40 := by
    rw [← hM]
    have := made_len (l := L.take 40) (s := Sc.new)
    rw [List.length_take] at this
    unfold madeR
    omega
  obtain ⟨_, h2, _, h4, _⟩ := numbers (l := L) (n := 40) (k := 0)
  have hMW := made_rw ok_new (fun c hc => hrw c (List.mem_of_mem_take hc)) (l := L.take 40)
  rw [show madeG Sc.new (L.take 40) = M from hM] at hMW
  rw [hM] at h2 h4
  obtain ⟨⟨⟨fs, x⟩, iL, eL⟩, hqL⟩ : ∃ r, aftP M = r := ⟨_, rfl⟩
  rw [hqL] at h2 h4
  obtain rfl : eL = 0 := h2
  have hlL : fs.length ≤ 64 := h4.big.1
  have hx2 : x ≤ 1073741824 := h4.big.2
  have hx3 : 1 ≤ x := h4.nx
  obtain ⟨⟨⟨ft, xt⟩, et⟩, hqt⟩ : ∃ r, applyP ⟨fs, x⟩ ⟨kd, id, wi, nm, ot, ty, pa, sep⟩ = r := ⟨_, rfl⟩
  obtain ⟨cd, hcd⟩ : ∃ r, chgR ⟨fs, x⟩ ⟨kd, id, wi, nm, ot, ty, pa, sep⟩ = r := ⟨_, rfl⟩
  obtain ⟨⟨⟨fu, xu⟩, eu⟩, hqu⟩ : ∃ r, applyP ⟨fs, x⟩ ⟨cd.kind, cd.id, cd.wi, cd.nm, cd.ot, cd.ty, cd.pa, cd.sep⟩ = r := ⟨_, rfl⟩
  have htt := apply_two h4 hqt
  have huu := apply_two h4 hqu
  have hlt := two_len htt
  have hlu := two_len huu
  have hcw : RW cd := by rw [← hcd]; exact chg_rw hcc hx2
  have HM := Lib.hid hM
  have HW := Lib.hid hMW
  have HQL := Lib.hid hqL
  have HOK := Lib.hid h4
  have HQT := Lib.hid hqt
  have HQU := Lib.hid hqu
  have HCD := Lib.hid hcd
  have HTT := Lib.hid htt
  have HUU := Lib.hid huu
  have HCW := Lib.hid hcw
  have HNL : Hid (AllN (fun s => s.size ≤ 9223372036854775807) fs) := fun f hf => nam_small (h4.nam.1 f hf)
  have hl2 : L.length ≤ 9223372036854775807 := by omega
  have hMl : M.length ≤ 1000000 := by omega
  have hfl : fs.length ≤ 9223372036854775807 := by omega
  have hl0 : fs.length ≤ 1000 := by omega
  have hx0 : 0 ≤ x := by omega
  have hx1 : x ≤ 2305843009213693952 := by omega
  have C0 := Lib.hid (CB.new W 24 [.int .i64 kd, .int .i64 id, .int .i64 wi, .string nm, .string ot, .int .i64 ty, .int .i64 pa, .string sep])
  have B0 := Lib.hid (al1 W (.cells #[.int .i64 kd, .int .i64 id, .int .i64 wi, .string nm, .string ot, .int .i64 ty, .int .i64 pa, .string sep] 24))
  clear hE hrw hM hMW hqL h4 hqt hqu hcd htt huu hcw hcc
  by_cases hb1 : (100 : Int) < (nm.size : Int)
  · have d1 : decide ((100 : Int) < (nm.size : Int)) = true := decide_eq_true hb1
    clear hb1
    go_enter Try.func4, Try.ntmps4
    go_wp2_with (first | (go_at_call 9; refine (sanity_any _).mono ?_; rintro e w1 ⟨rfl, hb1⟩; have B1 := Lib.hid (below_step B0.out B0.out.size hb1); have C1 := Lib.hid (C0.out.up hb1); have q3 := C1.out.cell 3 rfl; have q4 := C1.out.cell 4 rfl; have q7 := C1.out.cell 7 rfl; clear hb1))
    go_ret
    exact ⟨rfl, B1.out⟩
  have d1 : decide ((100 : Int) < (nm.size : Int)) = false := decide_eq_false hb1
  by_cases hb2 : (100 : Int) < (ot.size : Int)
  · have d2 : decide ((100 : Int) < (ot.size : Int)) = true := decide_eq_true hb2
    clear hb1 hb2
    go_enter Try.func4, Try.ntmps4
    go_wp2_with (first | (go_at_call 9; refine (sanity_any _).mono ?_; rintro e w1 ⟨rfl, hb1⟩; have B1 := Lib.hid (below_step B0.out B0.out.size hb1); have C1 := Lib.hid (C0.out.up hb1); have q3 := C1.out.cell 3 rfl; have q4 := C1.out.cell 4 rfl; have q7 := C1.out.cell 7 rfl; clear hb1))
    go_ret
    exact ⟨rfl, B1.out⟩
  have d2 : decide ((100 : Int) < (ot.size : Int)) = false := decide_eq_false hb2
  by_cases hb3 : (100 : Int) < (sep.size : Int)
  · have d3 : decide ((100 : Int) < (sep.size : Int)) = true := decide_eq_true hb3
    clear hb1 hb2 hb3
    go_enter Try.func4, Try.ntmps4
    go_wp2_with (first | (go_at_call 9; refine (sanity_any _).mono ?_; rintro e w1 ⟨rfl, hb1⟩; have B1 := Lib.hid (below_step B0.out B0.out.size hb1); have C1 := Lib.hid (C0.out.up hb1); have q3 := C1.out.cell 3 rfl; have q4 := C1.out.cell 4 rfl; have q7 := C1.out.cell 7 rfl; clear hb1))
    go_ret
    exact ⟨rfl, B1.out⟩
  have d3 : decide ((100 : Int) < (sep.size : Int)) = false := decide_eq_false hb3
  clear hb1 hb2 hb3
  go_enter Try.func4, Try.ntmps4
  go_upto_region 8 with (first | (go_at_call 9; refine (sanity_any _).mono ?_; rintro e w1 ⟨rfl, hb1⟩; have B1 := Lib.hid (below_step B0.out B0.out.size hb1); have C1 := Lib.hid (C0.out.up hb1); have q3 := C1.out.cell 3 rfl; have q4 := C1.out.cell 4 rfl; have q7 := C1.out.cell 7 rfl; clear hb1) | (go_at_call 10; refine (RMade_any A L.length cap 40 L _ rfl (HE.out.up B1.out) hl2 (by decide) HR.out).mono ?_; rintro e w2 ⟨⟨A2, c2, rfl, ho2⟩, hb2⟩; rw [HM.out] at ho2; rw [HM.out]; have B2 := Lib.hid (below_step B1.out B1.out.size hb2); have C2 := Lib.hid (C1.out.up hb2); have O2 := Lib.hid (ho2.low (b := W.heap.size) B1.out.size); clear hb2 ho2) | (go_at_call 11; refine (After_any A2 M.length c2 M _ rfl (show Chs w2 w2.heap.size A2 M from O2.out.row.2.2.2) hMl (fun d hd => (HW.out d hd).cw)).mono ?_; rintro e w3 ⟨⟨A3, n3, c3, rfl, hn3, ho3⟩, hb3⟩; rw [HQL.out] at hn3 ho3; rw [HQL.out]; obtain rfl : n3 = fs.length := hn3; have B3 := Lib.hid (below_step B2.out B2.out.size hb3); have C3 := Lib.hid (C2.out.up hb3); have P3 := Lib.hid (ho3.low (b := W.heap.size) B2.out.size); have zC3 := C3.out.lt; have k30 := C3.out.cell 0 rfl; have k31 := C3.out.cell 1 rfl; have k32 := C3.out.cell 2 rfl; have k33 := C3.out.cell 3 rfl; have k34 := C3.out.cell 4 rfl; have k35 := C3.out.cell 5 rfl; have k36 := C3.out.cell 6 rfl; have k37 := C3.out.cell 7 rfl; clear hb3 ho3) | (go_at_call 14; refine (Apply_any A3 fs.length c3 x fs kd id wi nm ot ty pa sep _ rfl ((show Fds w3 w3.heap.size A3 fs from P3.out.row.2.2.2).up (al1 _ _)) hl0 hx0 hx1 hsp HNL.out hnm hot hkd).mono ?_; rintro e w7 ⟨⟨A7, n7, c7, rfl, hn7, ho7⟩, hb7⟩; rw [HQT.out] at hn7 ho7; rw [HQT.out]; obtain rfl : n7 = ft.length := hn7; have hw7 := (al1 w3 (.cells #[.slice A3 fs.length c3, .int .i64 x] 30)).trans (hb7.mono (al1 w3 (.cells #[.slice A3 fs.length c3, .int .i64 x] 30)).size); have B7 := Lib.hid (below_step B3.out B3.out.size hw7); have C7 := Lib.hid (C3.out.up hw7); have P7 := Lib.hid (P3.out.up hw7); have S7 := Lib.hid ((CB.new w3 30 [.slice A3 fs.length c3, .int .i64 x]).up hb7); have T7 := Lib.hid (ho7.low (b := W.heap.size) (Nat.le_trans B3.out.size (al1 _ _).size)); clear hb7 hw7 ho7))
  clear d1 d2 d3
  have XT8 := Lib.hid (CB.new w7 30 [.slice A7 ft.length c7, .int .i64 xt])
  have C8 := Lib.hid (C7.out.alloc (.cells #[.slice A7 ft.length c7, .int .i64 xt] 30))
  have P8 := Lib.hid (P7.out.alloc (.cells #[.slice A7 ft.length c7, .int .i64 xt] 30))
  have S8 := Lib.hid (S7.out.alloc (.cells #[.slice A7 ft.length c7, .int .i64 xt] 30))
  have T8 := Lib.hid (T7.out.alloc (.cells #[.slice A7 ft.length c7, .int .i64 xt] 30))
  have B8 := Lib.hid (B7.out.alloc B7.out.size (.cells #[.slice A7 ft.length c7, .int .i64 xt] 30))
  clear C7 P7 S7 T7 B7
  revert XT8 C8 P8 S8 T8 B8
  generalize w7.alloc (.cells #[.slice A7 ft.length c7, .int .i64 xt] 30) = W1
  intro XT8 C8 P8 S8 T8 B8
  have zW : W.heap.size ≤ W1.heap.size := B8.out.size
  go_cut [11, 12] (fun p e wx => ∃ (gu c8 : Nat) (A8 : Option Addr), p = .pointer (some ⟨gu, 0, none⟩) ∧ e = .int .i64 eu ∧ W1.heap.size ≤ gu ∧ Hid (CB wx gu 30 [.slice A8 fu.length c8, .int .i64 xu]) ∧ Hid (Own 41 4 wx W.heap.size (.slice A8 fu.length c8) (fu.map Fd.cells)) ∧ Hid (Below W1.heap.size W1 wx))
  case first =>
    have PD := Lib.hid P8.out.dr
    have SD := Lib.hid S8.out.dr
    have CD := Lib.hid C8.out.dr
    have zB := Lib.hid (bd W1)
    have zW2 : W.heap.size ≤ W1.drew.heap.size := zW
    have zWW : W1.heap.size = W1.drew.heap.size := rfl
    refine wp_region_held_drew (S := fun w' => Hid (Below W1.drew.heap.size W1.drew w')) (by kernel_rfl) (Lib.hid (Below.refl _ _)) (fun hHeld => ?_)
    revert hHeld PD SD CD zB zW2 zWW
    generalize W1.drew = W2
    intro PD SD CD zB zW2 zWW hHeld
    have HSS : Hid (∀ X, Below W2.heap.size W2 X → X.cell? ⟨w3.heap.size, 0, none⟩ = some (.slice A3 fs.length c3) ∧ X.cell? ⟨w3.heap.size, 1, none⟩ = some (.int .i64 x) ∧ X.cell? ⟨W.heap.size, 0, none⟩ = some (.int .i64 kd) ∧ X.cell? ⟨W.heap.size, 1, none⟩ = some (.int .i64 id) ∧ X.cell? ⟨W.heap.size, 2, none⟩ = some (.int .i64 wi) ∧ X.cell? ⟨W.heap.size, 3, none⟩ = some (.string nm) ∧ X.cell? ⟨W.heap.size, 4, none⟩ = some (.string ot) ∧ X.cell? ⟨W.heap.size, 5, none⟩ = some (.int .i64 ty) ∧ X.cell? ⟨W.heap.size, 6, none⟩ = some (.int .i64 pa) ∧ X.cell? ⟨W.heap.size, 7, none⟩ = some (.string sep)) := fun X hX =>
      ⟨(SD.out.up hX).cell 0 rfl, (SD.out.up hX).cell 1 rfl, (CD.out.up hX).cell 0 rfl, (CD.out.up hX).cell 1 rfl, (CD.out.up hX).cell 2 rfl, (CD.out.up hX).cell 3 rfl, (CD.out.up hX).cell 4 rfl, (CD.out.up hX).cell 5 rfl, (CD.out.up hX).cell 6 rfl, (CD.out.up hX).cell 7 rfl⟩
    refine hand_take (i := 0) (v := ?_) rfl (by kernel_rfl) (by kernel_rfl) (by kernel_rfl) (fun _ _ _ h => h) (Or.inl ⟨by rfl, ?_⟩) (by assumption) ?_
    rotate_left
    · intro wS hSw
      obtain ⟨y0, y1, x0, x1, x2, x3, x4, x5, x6, x7⟩ := HSS.out _ hSw.out
      clear hSw
      go_simp
      try with_reducible rfl
    try simp only [Act.put, List.setIfInBounds_toArray, List.set_cons_zero, List.set_cons_succ]
    refine hand_take (i := 1) (v := ?_) rfl (by kernel_rfl) (by kernel_rfl) (by kernel_rfl) (fun _ _ _ h => h) (Or.inl ⟨by rfl, ?_⟩) (by assumption) ?_
    rotate_left
    · intro wS hSw
      obtain ⟨y0, y1, x0, x1, x2, x3, x4, x5, x6, x7⟩ := HSS.out _ hSw.out
      clear hSw
      go_simp
      try with_reducible rfl
    try simp only [Act.put, List.setIfInBounds_toArray, List.set_cons_zero, List.set_cons_succ]
    refine hand_take (i := 2) (v := ?_) rfl (by kernel_rfl) (by kernel_rfl) (by kernel_rfl) (fun _ _ _ h => h) (Or.inl ⟨by rfl, ?_⟩) (by assumption) ?_
    rotate_left
    · intro wS hSw
      obtain ⟨y0, y1, x0, x1, x2, x3, x4, x5, x6, x7⟩ := HSS.out _ hSw.out
      clear hSw
      go_simp
      try with_reducible rfl
    try simp only [Act.put, List.setIfInBounds_toArray, List.set_cons_zero, List.set_cons_succ]
    refine wpAnyH_ready (rs := [3, 8]) (by kernel_rfl) (by simp) ?_
    refine (hand_cons rfl (fun KK hK => ?_) (hand_cons rfl (fun KK hK => ?_) AllReadyH.nil))
    · go_simp
      go_at_call 16
      refine (RChange_any A3 fs.length c3 x fs kd id wi nm ot ty pa sep _ rfl ((show Fds W2 W2.heap.size A3 fs from PD.out.row.2.2.2).up hHeld.out) hfl hx2 hnm hot hsp hkd hid hwi hty hpa).mono ?_
      rintro e w9 ⟨rfl, hb9⟩
      rw [HCD.out]
      have HB9 := Lib.hid (hHeld.out.trans (hb9.mono hHeld.out.size))
      have zB9 := HB9.out.size
      clear hb9
      go_wp2_with fail
      refine hK.out _ _ (HB9) (fun hHeld => ?_)
      clear hK KK
      try simp only [Act.put, List.setIfInBounds_toArray, List.set_cons_zero, List.set_cons_succ]
      refine wpAnyH_ready (rs := [4, 8]) (by kernel_rfl) (by simp) ?_
      refine (hand_cons rfl (fun KK hK => ?_) (hand_cons rfl (fun KK hK => ?_) AllReadyH.nil))
      · go_simp
        go_at_call 14
        refine (Apply_any A3 fs.length c3 x fs cd.kind cd.id cd.wi cd.nm cd.ot cd.ty cd.pa cd.sep _ rfl ((show Fds W2 W2.heap.size A3 fs from PD.out.row.2.2.2).up hHeld.out) hl0 hx0 hx1 HCW.out.sep HNL.out HCW.out.nm HCW.out.ot HCW.out.kind).mono ?_
        rintro e w10 ⟨⟨A8, n8, c8, rfl, hn8, ho8⟩, hb10⟩
        rw [HQU.out] at hn8 ho8
        rw [HQU.out]
        obtain rfl : n8 = fu.length := hn8
        have HB10 := Lib.hid (hHeld.out.trans (hb10.mono hHeld.out.size))
        have zB10 := HB10.out.size
        have U10 := Lib.hid (ho8.low (b := W.heap.size) (Nat.le_trans zW2 (hHeld.out.size)))
        clear ho8
        clear hb10
        go_wp2_with fail
        refine hK.out _ _ (HB10) (fun hHeld => ?_)
        clear hK KK
        try simp only [Act.put, List.setIfInBounds_toArray, List.set_cons_zero, List.set_cons_succ]
        refine hand_take (i := 5) (v := ?_) rfl (by kernel_rfl) (by kernel_rfl) (by kernel_rfl) (fun _ _ _ h => h) (Or.inl ⟨by rfl, ?_⟩) (by assumption) ?_
        rotate_left
        · intro wS hSw
          clear hSw
          go_simp
          try with_reducible rfl
        try simp only [Act.put, List.setIfInBounds_toArray, List.set_cons_zero, List.set_cons_succ]
        refine hand_take (i := 6) (v := ?_) rfl (by kernel_rfl) (by kernel_rfl) (by kernel_rfl) (fun _ _ _ h => h) (Or.inl ⟨by rfl, ?_⟩) (by assumption) ?_
        rotate_left
        · intro wS hSw
          clear hSw
          go_simp
          try with_reducible rfl
        try simp only [Act.put, List.setIfInBounds_toArray, List.set_cons_zero, List.set_cons_succ]
        refine hand_take (i := 7) (v := ?_) rfl (by kernel_rfl) (by kernel_rfl) (by kernel_rfl) (fun _ _ _ h => h) (Or.inl ⟨by rfl, ?_⟩) (by assumption) ?_
        rotate_left
        · intro wS hSw
          clear hSw
          go_simp
          try with_reducible rfl
        try simp only [Act.put, List.setIfInBounds_toArray, List.set_cons_zero, List.set_cons_succ]
        refine wpAnyH_ready (rs := [8]) (by kernel_rfl) (by simp) ?_
        refine hand_cons rfl (fun KK hK => ?_) AllReadyH.nil
        go_simp
        have GZ := Lib.hid (CB.new w10 30 [.slice none 0 0, .int .i64 0])
        have HBA := Lib.hid (al_up (o := .cells #[.slice none 0 0, .int .i64 0] 30) hHeld.out)
        refine hK.out _ _ (HBA) (fun hHeld => ?_)
        clear hK KK
        try simp only [Act.put, List.setIfInBounds_toArray, List.set_cons_zero, List.set_cons_succ]
        refine wpAnyH_ready (rs := [9]) (by kernel_rfl) (by simp) ?_
        refine hand_cons rfl (fun KK hK => ?_) AllReadyH.nil
        refine step_store_cb rfl 30 (.tmp 11) (.tmp 55) rfl w10.heap.size [.slice A8 fu.length c8, .int .i64 xu] rfl rfl 30 [.slice none 0 0, .int .i64 0] 2 GZ.out sizeS rfl rfl (one_s _ _ _ _) ?_
        intro wz hcz hgz hzz
        have HBZ := Lib.hid (below_grown hHeld.out hgz hHeld.out.size (by omega))
        have UZ := Lib.hid (Own.kept (U10.out.alloc _) hgz (.inr (Own.ne (U10.out.alloc _) GZ.out (by decide)).symm))
        refine hK.out _ _ (HBZ) (fun hHeld => ?_)
        clear hK KK
        try simp only [Act.put]
        refine hand_take (i := 10) (v := ?_) rfl (by kernel_rfl) (by kernel_rfl) (by kernel_rfl) (fun _ _ _ h => h) (Or.inl ⟨by rfl, ?_⟩) (by assumption) ?_
        rotate_left
        · intro wS hSw
          clear hSw
          go_simp
          try with_reducible rfl
        try simp only [Act.put, List.setIfInBounds_toArray, List.set_cons_zero, List.set_cons_succ]
        refine wpAnyH_done (by kernel_rfl) ?_ _
        go_wp2_with fail
        go_meet
        exact ⟨_, _, _, rfl, rfl, by omega, Lib.hid hcz, UZ, Lib.hid (zB.out.trans (HBZ.out.mono zB.out.size))⟩
      · go_simp
        have GZ := Lib.hid (CB.new w9 30 [.slice none 0 0, .int .i64 0])
        have HBA := Lib.hid (al_up (o := .cells #[.slice none 0 0, .int .i64 0] 30) hHeld.out)
        refine hK.out _ _ (HBA) (fun hHeld => ?_)
        clear hK KK
        try simp only [Act.put, List.setIfInBounds_toArray, List.set_cons_zero, List.set_cons_succ]
        refine wpAnyH_ready (rs := [4]) (by kernel_rfl) (by simp) ?_
        refine hand_cons rfl (fun KK hK => ?_) AllReadyH.nil
        go_simp
        go_at_call 14
        refine (Apply_any A3 fs.length c3 x fs cd.kind cd.id cd.wi cd.nm cd.ot cd.ty cd.pa cd.sep _ rfl ((show Fds W2 W2.heap.size A3 fs from PD.out.row.2.2.2).up hHeld.out) hl0 hx0 hx1 HCW.out.sep HNL.out HCW.out.nm HCW.out.ot HCW.out.kind).mono ?_
        rintro e w10 ⟨⟨A8, n8, c8, rfl, hn8, ho8⟩, hb10⟩
        rw [HQU.out] at hn8 ho8
        rw [HQU.out]
        obtain rfl : n8 = fu.length := hn8
        have HB10 := Lib.hid (hHeld.out.trans (hb10.mono hHeld.out.size))
        have zB10 := HB10.out.size
        have GZ10 := Lib.hid (GZ.out.up hb10)
        have U10 := Lib.hid (ho8.low (b := W.heap.size) (Nat.le_trans zW2 (hHeld.out.size)))
        clear ho8
        clear hb10
        go_wp2_with fail
        refine hK.out _ _ (HB10) (fun hHeld => ?_)
        clear hK KK
        try simp only [Act.put, List.setIfInBounds_toArray, List.set_cons_zero, List.set_cons_succ]
        refine hand_take (i := 5) (v := ?_) rfl (by kernel_rfl) (by kernel_rfl) (by kernel_rfl) (fun _ _ _ h => h) (Or.inl ⟨by rfl, ?_⟩) (by assumption) ?_
        rotate_left
        · intro wS hSw
          clear hSw
          go_simp
          try with_reducible rfl
        try simp only [Act.put, List.setIfInBounds_toArray, List.set_cons_zero, List.set_cons_succ]
        refine hand_take (i := 6) (v := ?_) rfl (by kernel_rfl) (by kernel_rfl) (by kernel_rfl) (fun _ _ _ h => h) (Or.inl ⟨by rfl, ?_⟩) (by assumption) ?_
        rotate_left
        · intro wS hSw
          clear hSw
          go_simp
          try with_reducible rfl
        try simp only [Act.put, List.setIfInBounds_toArray, List.set_cons_zero, List.set_cons_succ]
        refine hand_take (i := 7) (v := ?_) rfl (by kernel_rfl) (by kernel_rfl) (by kernel_rfl) (fun _ _ _ h => h) (Or.inl ⟨by rfl, ?_⟩) (by assumption) ?_
        rotate_left
        · intro wS hSw
          clear hSw
          go_simp
          try with_reducible rfl
        try simp only [Act.put, List.setIfInBounds_toArray, List.set_cons_zero, List.set_cons_succ]
        refine wpAnyH_ready (rs := [9]) (by kernel_rfl) (by simp) ?_
        refine hand_cons rfl (fun KK hK => ?_) AllReadyH.nil
        refine step_store_cb rfl 30 (.tmp 11) (.tmp 55) rfl w9.heap.size [.slice A8 fu.length c8, .int .i64 xu] rfl rfl 30 [.slice none 0 0, .int .i64 0] 2 GZ10.out sizeS rfl rfl (one_s _ _ _ _) ?_
        intro wz hcz hgz hzz
        have HBZ := Lib.hid (below_grown hHeld.out hgz hHeld.out.size (by omega))
        have UZ := Lib.hid (Own.kept U10.out hgz (.inr (Own.ne U10.out GZ10.out (by decide)).symm))
        refine hK.out _ _ (HBZ) (fun hHeld => ?_)
        clear hK KK
        try simp only [Act.put]
        refine hand_take (i := 10) (v := ?_) rfl (by kernel_rfl) (by kernel_rfl) (by kernel_rfl) (fun _ _ _ h => h) (Or.inl ⟨by rfl, ?_⟩) (by assumption) ?_
        rotate_left
        · intro wS hSw
          clear hSw
          go_simp
          try with_reducible rfl
        try simp only [Act.put, List.setIfInBounds_toArray, List.set_cons_zero, List.set_cons_succ]
        refine wpAnyH_done (by kernel_rfl) ?_ _
        go_wp2_with fail
        go_meet
        exact ⟨_, _, _, rfl, rfl, by omega, Lib.hid hcz, UZ, Lib.hid (zB.out.trans (HBZ.out.mono zB.out.size))⟩
    · go_simp
      have GZ := Lib.hid (CB.new W2 30 [.slice none 0 0, .int .i64 0])
      have HBA := Lib.hid (al_up (o := .cells #[.slice none 0 0, .int .i64 0] 30) hHeld.out)
      refine hK.out _ _ (HBA) (fun hHeld => ?_)
      clear hK KK
      try simp only [Act.put, List.setIfInBounds_toArray, List.set_cons_zero, List.set_cons_succ]
      refine wpAnyH_ready (rs := [3]) (by kernel_rfl) (by simp) ?_
      refine hand_cons rfl (fun KK hK => ?_) AllReadyH.nil
      go_simp
      go_at_call 16
      refine (RChange_any A3 fs.length c3 x fs kd id wi nm ot ty pa sep _ rfl ((show Fds W2 W2.heap.size A3 fs from PD.out.row.2.2.2).up hHeld.out) hfl hx2 hnm hot hsp hkd hid hwi hty hpa).mono ?_
      rintro e w9 ⟨rfl, hb9⟩
      rw [HCD.out]
      have HB9 := Lib.hid (hHeld.out.trans (hb9.mono hHeld.out.size))
      have zB9 := HB9.out.size
      have GZ9 := Lib.hid (GZ.out.up hb9)
      clear hb9
      go_wp2_with fail
      refine hK.out _ _ (HB9) (fun hHeld => ?_)
      clear hK KK
      try simp only [Act.put, List.setIfInBounds_toArray, List.set_cons_zero, List.set_cons_succ]
      refine wpAnyH_ready (rs := [4]) (by kernel_rfl) (by simp) ?_
      refine hand_cons rfl (fun KK hK => ?_) AllReadyH.nil
      go_simp
      go_at_call 14
      refine (Apply_any A3 fs.length c3 x fs cd.kind cd.id cd.wi cd.nm cd.ot cd.ty cd.pa cd.sep _ rfl ((show Fds W2 W2.heap.size A3 fs from PD.out.row.2.2.2).up hHeld.out) hl0 hx0 hx1 HCW.out.sep HNL.out HCW.out.nm HCW.out.ot HCW.out.kind).mono ?_
      rintro e w10 ⟨⟨A8, n8, c8, rfl, hn8, ho8⟩, hb10⟩
      rw [HQU.out] at hn8 ho8
      rw [HQU.out]
      obtain rfl : n8 = fu.length := hn8
      have HB10 := Lib.hid (hHeld.out.trans (hb10.mono hHeld.out.size))
      have zB10 := HB10.out.size
      have GZ10 := Lib.hid (GZ9.out.up hb10)
      have U10 := Lib.hid (ho8.low (b := W.heap.size) (Nat.le_trans zW2 (hHeld.out.size)))
      clear ho8
      clear hb10
      go_wp2_with fail
      refine hK.out _ _ (HB10) (fun hHeld => ?_)
      clear hK KK
      try simp only [Act.put, List.setIfInBounds_toArray, List.set_cons_zero, List.set_cons_succ]
      refine hand_take (i := 5) (v := ?_) rfl (by kernel_rfl) (by kernel_rfl) (by kernel_rfl) (fun _ _ _ h => h) (Or.inl ⟨by rfl, ?_⟩) (by assumption) ?_
      rotate_left
      · intro wS hSw
        clear hSw
        go_simp
        try with_reducible rfl
      try simp only [Act.put, List.setIfInBounds_toArray, List.set_cons_zero, List.set_cons_succ]
      refine hand_take (i := 6) (v := ?_) rfl (by kernel_rfl) (by kernel_rfl) (by kernel_rfl) (fun _ _ _ h => h) (Or.inl ⟨by rfl, ?_⟩) (by assumption) ?_
      rotate_left
      · intro wS hSw
        clear hSw
        go_simp
        try with_reducible rfl
      try simp only [Act.put, List.setIfInBounds_toArray, List.set_cons_zero, List.set_cons_succ]
      refine hand_take (i := 7) (v := ?_) rfl (by kernel_rfl) (by kernel_rfl) (by kernel_rfl) (fun _ _ _ h => h) (Or.inl ⟨by rfl, ?_⟩) (by assumption) ?_
      rotate_left
      · intro wS hSw
        clear hSw
        go_simp
        try with_reducible rfl
      try simp only [Act.put, List.setIfInBounds_toArray, List.set_cons_zero, List.set_cons_succ]
      refine wpAnyH_ready (rs := [9]) (by kernel_rfl) (by simp) ?_
      refine hand_cons rfl (fun KK hK => ?_) AllReadyH.nil
      refine step_store_cb rfl 30 (.tmp 11) (.tmp 55) rfl W2.heap.size [.slice A8 fu.length c8, .int .i64 xu] rfl rfl 30 [.slice none 0 0, .int .i64 0] 2 GZ10.out sizeS rfl rfl (one_s _ _ _ _) ?_
      intro wz hcz hgz hzz
      have HBZ := Lib.hid (below_grown hHeld.out hgz hHeld.out.size (by omega))
      have UZ := Lib.hid (Own.kept U10.out hgz (.inr (Own.ne U10.out GZ10.out (by decide)).symm))
      refine hK.out _ _ (HBZ) (fun hHeld => ?_)
      clear hK KK
      try simp only [Act.put]
      refine hand_take (i := 10) (v := ?_) rfl (by kernel_rfl) (by kernel_rfl) (by kernel_rfl) (fun _ _ _ h => h) (Or.inl ⟨by rfl, ?_⟩) (by assumption) ?_
      rotate_left
      · intro wS hSw
        clear hSw
        go_simp
        try with_reducible rfl
      try simp only [Act.put, List.setIfInBounds_toArray, List.set_cons_zero, List.set_cons_succ]
      refine wpAnyH_done (by kernel_rfl) ?_ _
      go_wp2_with fail
      go_meet
      exact ⟨_, _, _, rfl, rfl, by omega, Lib.hid hcz, UZ, Lib.hid (zB.out.trans (HBZ.out.mono zB.out.size))⟩
  case rest =>
    obtain ⟨gu, c8, A8, rfl, rfl, hgu, XU20, OU20, hbz⟩ := hcut
    generalize wc = w20 at *
    have XS20 := Lib.hid (S8.out.up hbz.out)
    have XT20 := Lib.hid (XT8.out.up hbz.out)
    have OS20 := Lib.hid (P8.out.up hbz.out)
    have OT20 := Lib.hid (T8.out.up hbz.out)
    have B20 := Lib.hid (below_step B8.out B8.out.size hbz.out)
    have tk20 : Hid True := Lib.hid trivial
    have zXS20 := XS20.out.lt
    have jXS200 := XS20.out.cell 0 rfl
    have jXS201 := XS20.out.cell 1 rfl
    have zXT20 := XT20.out.lt
    have jXT200 := XT20.out.cell 0 rfl
    have jXT201 := XT20.out.cell 1 rfl
    have zXU20 := XU20.out.lt
    have jXU200 := XU20.out.cell 0 rfl
    have jXU201 := XU20.out.cell 1 rfl
    clear hbz
    rcases HTT.out with ⟨rfl, h1⟩ | ⟨h1, h2, h3⟩
    · have HOT := Lib.hid h1
      clear h1
      rcases HUU.out with ⟨rfl, h4⟩ | ⟨h4, h5, h6⟩
      · have HOU := Lib.hid h4
        clear h4
        go_wp2_with (first | (have tt := tk20; go_at_call 25; refine (RValid_ok A3 fs.length c3 x fs _ rfl (show Fds w20 w20.heap.size A3 fs from OS20.out.row.2.2.2) HOK.out).mono ?_; rintro e w21 ⟨rfl, hb21⟩; have XS21 := Lib.hid (XS20.out.up hb21); have XT21 := Lib.hid (XT20.out.up hb21); have XU21 := Lib.hid (XU20.out.up hb21); have OS21 := Lib.hid (OS20.out.up hb21); have OT21 := Lib.hid (OT20.out.up hb21); have OU21 := Lib.hid (OU20.out.up hb21); have B21 := Lib.hid (below_step B20.out B20.out.size hb21); have zXS21 := XS21.out.lt; have jXS210 := XS21.out.cell 0 rfl; have jXS211 := XS21.out.cell 1 rfl; have zXT21 := XT21.out.lt; have jXT210 := XT21.out.cell 0 rfl; have jXT211 := XT21.out.cell 1 rfl; have zXU21 := XU21.out.lt; have jXU210 := XU21.out.cell 0 rfl; have jXU211 := XU21.out.cell 1 rfl; have tk21 : Hid True := Lib.hid trivial; clear hb21 tt tk20) | (have tt := tk21; go_at_call 25; refine (RValid_ok A7 ft.length c7 xt ft _ rfl (show Fds w21 w21.heap.size A7 ft from OT21.out.row.2.2.2) HOT.out).mono ?_; rintro e w22 ⟨rfl, hb22⟩; have XS22 := Lib.hid (XS21.out.up hb22); have XT22 := Lib.hid (XT21.out.up hb22); have XU22 := Lib.hid (XU21.out.up hb22); have OS22 := Lib.hid (OS21.out.up hb22); have OT22 := Lib.hid (OT21.out.up hb22); have OU22 := Lib.hid (OU21.out.up hb22); have B22 := Lib.hid (below_step B21.out B21.out.size hb22); have zXS22 := XS22.out.lt; have jXS220 := XS22.out.cell 0 rfl; have jXS221 := XS22.out.cell 1 rfl; have zXT22 := XT22.out.lt; have jXT220 := XT22.out.cell 0 rfl; have jXT221 := XT22.out.cell 1 rfl; have zXU22 := XU22.out.lt; have jXU220 := XU22.out.cell 0 rfl; have jXU221 := XU22.out.cell 1 rfl; have tk22 : Hid True := Lib.hid trivial; clear hb22 tt tk21) | (have tt := tk22; go_at_call 25; refine (RValid_ok A8 fu.length c8 xu fu _ rfl (show Fds w22 w22.heap.size A8 fu from OU22.out.row.2.2.2) HOU.out).mono ?_; rintro e w23 ⟨rfl, hb23⟩; have XS23 := Lib.hid (XS22.out.up hb23); have XT23 := Lib.hid (XT22.out.up hb23); have XU23 := Lib.hid (XU22.out.up hb23); have OS23 := Lib.hid (OS22.out.up hb23); have OT23 := Lib.hid (OT22.out.up hb23); have OU23 := Lib.hid (OU22.out.up hb23); have B23 := Lib.hid (below_step B22.out B22.out.size hb23); have zXS23 := XS23.out.lt; have jXS230 := XS23.out.cell 0 rfl; have jXS231 := XS23.out.cell 1 rfl; have zXT23 := XT23.out.lt; have jXT230 := XT23.out.cell 0 rfl; have jXT231 := XT23.out.cell 1 rfl; have zXU23 := XU23.out.lt; have jXU230 := XU23.out.cell 0 rfl; have jXU231 := XU23.out.cell 1 rfl; have tk23 : Hid True := Lib.hid trivial; clear hb23 tt tk22))
        go_ret
        exact ⟨rfl, B23.out⟩
      · have HSU := Lib.hid (show sameS ⟨fu, xu⟩ ⟨[], 0⟩ = true from (sameS_iff _ _).2 (by rw [h5, h6]))
        have e1 : (eu != 0) = true := by simpa using h4
        clear h4 h5 h6
        go_wp2_with (first | (have tt := tk20; go_at_call 25; refine (RValid_ok A3 fs.length c3 x fs _ rfl (show Fds w20 w20.heap.size A3 fs from OS20.out.row.2.2.2) HOK.out).mono ?_; rintro e w21 ⟨rfl, hb21⟩; have XS21 := Lib.hid (XS20.out.up hb21); have XT21 := Lib.hid (XT20.out.up hb21); have XU21 := Lib.hid (XU20.out.up hb21); have OS21 := Lib.hid (OS20.out.up hb21); have OT21 := Lib.hid (OT20.out.up hb21); have OU21 := Lib.hid (OU20.out.up hb21); have B21 := Lib.hid (below_step B20.out B20.out.size hb21); have zXS21 := XS21.out.lt; have jXS210 := XS21.out.cell 0 rfl; have jXS211 := XS21.out.cell 1 rfl; have zXT21 := XT21.out.lt; have jXT210 := XT21.out.cell 0 rfl; have jXT211 := XT21.out.cell 1 rfl; have zXU21 := XU21.out.lt; have jXU210 := XU21.out.cell 0 rfl; have jXU211 := XU21.out.cell 1 rfl; have tk21 : Hid True := Lib.hid trivial; clear hb21 tt tk20) | (have tt := tk21; go_at_call 25; refine (RValid_ok A7 ft.length c7 xt ft _ rfl (show Fds w21 w21.heap.size A7 ft from OT21.out.row.2.2.2) HOT.out).mono ?_; rintro e w22 ⟨rfl, hb22⟩; have XS22 := Lib.hid (XS21.out.up hb22); have XT22 := Lib.hid (XT21.out.up hb22); have XU22 := Lib.hid (XU21.out.up hb22); have OS22 := Lib.hid (OS21.out.up hb22); have OT22 := Lib.hid (OT21.out.up hb22); have OU22 := Lib.hid (OU21.out.up hb22); have B22 := Lib.hid (below_step B21.out B21.out.size hb22); have zXS22 := XS22.out.lt; have jXS220 := XS22.out.cell 0 rfl; have jXS221 := XS22.out.cell 1 rfl; have zXT22 := XT22.out.lt; have jXT220 := XT22.out.cell 0 rfl; have jXT221 := XT22.out.cell 1 rfl; have zXU22 := XU22.out.lt; have jXU220 := XU22.out.cell 0 rfl; have jXU221 := XU22.out.cell 1 rfl; have tk22 : Hid True := Lib.hid trivial; clear hb22 tt tk21) | (have tt := tk22; go_at_call 13; refine (RSame_any A8 fu.length c8 xu fu none 0 0 0 [] _ rfl (show Fds w22 w22.heap.size A8 fu from OU22.out.row.2.2.2) rfl Fds.nil hlu (by decide)).mono ?_; rintro e w23 ⟨rfl, hb23⟩; rw [HSU.out]; have XS23 := Lib.hid (XS22.out.up hb23); have XT23 := Lib.hid (XT22.out.up hb23); have XU23 := Lib.hid (XU22.out.up hb23); have OS23 := Lib.hid (OS22.out.up hb23); have OT23 := Lib.hid (OT22.out.up hb23); have OU23 := Lib.hid (OU22.out.up hb23); have B23 := Lib.hid (below_step B22.out B22.out.size hb23); have zXS23 := XS23.out.lt; have jXS230 := XS23.out.cell 0 rfl; have jXS231 := XS23.out.cell 1 rfl; have zXT23 := XT23.out.lt; have jXT230 := XT23.out.cell 0 rfl; have jXT231 := XT23.out.cell 1 rfl; have zXU23 := XU23.out.lt; have jXU230 := XU23.out.cell 0 rfl; have jXU231 := XU23.out.cell 1 rfl; have tk23 : Hid True := Lib.hid trivial; clear hb23 tt tk22))
        go_ret
        exact ⟨rfl, B23.out⟩
    · have HST := Lib.hid (show sameS ⟨ft, xt⟩ ⟨[], 0⟩ = true from (sameS_iff _ _).2 (by rw [h2, h3]))
      have e0 : (et != 0) = true := by simpa using h1
      clear h1 h2 h3
      rcases HUU.out with ⟨rfl, h4⟩ | ⟨h4, h5, h6⟩
      · have HOU := Lib.hid h4
        clear h4
        go_wp2_with (first | (have tt := tk20; go_at_call 25; refine (RValid_ok A3 fs.length c3 x fs _ rfl (show Fds w20 w20.heap.size A3 fs from OS20.out.row.2.2.2) HOK.out).mono ?_; rintro e w21 ⟨rfl, hb21⟩; have XS21 := Lib.hid (XS20.out.up hb21); have XT21 := Lib.hid (XT20.out.up hb21); have XU21 := Lib.hid (XU20.out.up hb21); have OS21 := Lib.hid (OS20.out.up hb21); have OT21 := Lib.hid (OT20.out.up hb21); have OU21 := Lib.hid (OU20.out.up hb21); have B21 := Lib.hid (below_step B20.out B20.out.size hb21); have zXS21 := XS21.out.lt; have jXS210 := XS21.out.cell 0 rfl; have jXS211 := XS21.out.cell 1 rfl; have zXT21 := XT21.out.lt; have jXT210 := XT21.out.cell 0 rfl; have jXT211 := XT21.out.cell 1 rfl; have zXU21 := XU21.out.lt; have jXU210 := XU21.out.cell 0 rfl; have jXU211 := XU21.out.cell 1 rfl; have tk21 : Hid True := Lib.hid trivial; clear hb21 tt tk20) | (have tt := tk21; go_at_call 13; refine (RSame_any A7 ft.length c7 xt ft none 0 0 0 [] _ rfl (show Fds w21 w21.heap.size A7 ft from OT21.out.row.2.2.2) rfl Fds.nil hlt (by decide)).mono ?_; rintro e w22 ⟨rfl, hb22⟩; rw [HST.out]; have XS22 := Lib.hid (XS21.out.up hb22); have XT22 := Lib.hid (XT21.out.up hb22); have XU22 := Lib.hid (XU21.out.up hb22); have OS22 := Lib.hid (OS21.out.up hb22); have OT22 := Lib.hid (OT21.out.up hb22); have OU22 := Lib.hid (OU21.out.up hb22); have B22 := Lib.hid (below_step B21.out B21.out.size hb22); have zXS22 := XS22.out.lt; have jXS220 := XS22.out.cell 0 rfl; have jXS221 := XS22.out.cell 1 rfl; have zXT22 := XT22.out.lt; have jXT220 := XT22.out.cell 0 rfl; have jXT221 := XT22.out.cell 1 rfl; have zXU22 := XU22.out.lt; have jXU220 := XU22.out.cell 0 rfl; have jXU221 := XU22.out.cell 1 rfl; have tk22 : Hid True := Lib.hid trivial; clear hb22 tt tk21) | (have tt := tk22; go_at_call 25; refine (RValid_ok A8 fu.length c8 xu fu _ rfl (show Fds w22 w22.heap.size A8 fu from OU22.out.row.2.2.2) HOU.out).mono ?_; rintro e w23 ⟨rfl, hb23⟩; have XS23 := Lib.hid (XS22.out.up hb23); have XT23 := Lib.hid (XT22.out.up hb23); have XU23 := Lib.hid (XU22.out.up hb23); have OS23 := Lib.hid (OS22.out.up hb23); have OT23 := Lib.hid (OT22.out.up hb23); have OU23 := Lib.hid (OU22.out.up hb23); have B23 := Lib.hid (below_step B22.out B22.out.size hb23); have zXS23 := XS23.out.lt; have jXS230 := XS23.out.cell 0 rfl; have jXS231 := XS23.out.cell 1 rfl; have zXT23 := XT23.out.lt; have jXT230 := XT23.out.cell 0 rfl; have jXT231 := XT23.out.cell 1 rfl; have zXU23 := XU23.out.lt; have jXU230 := XU23.out.cell 0 rfl; have jXU231 := XU23.out.cell 1 rfl; have tk23 : Hid True := Lib.hid trivial; clear hb23 tt tk22))
        go_ret
        exact ⟨rfl, B23.out⟩
      · have HSU := Lib.hid (show sameS ⟨fu, xu⟩ ⟨[], 0⟩ = true from (sameS_iff _ _).2 (by rw [h5, h6]))
        have e1 : (eu != 0) = true := by simpa using h4
        clear h4 h5 h6
        go_wp2_with (first | (have tt := tk20; go_at_call 25; refine (RValid_ok A3 fs.length c3 x fs _ rfl (show Fds w20 w20.heap.size A3 fs from OS20.out.row.2.2.2) HOK.out).mono ?_; rintro e w21 ⟨rfl, hb21⟩; have XS21 := Lib.hid (XS20.out.up hb21); have XT21 := Lib.hid (XT20.out.up hb21); have XU21 := Lib.hid (XU20.out.up hb21); have OS21 := Lib.hid (OS20.out.up hb21); have OT21 := Lib.hid (OT20.out.up hb21); have OU21 := Lib.hid (OU20.out.up hb21); have B21 := Lib.hid (below_step B20.out B20.out.size hb21); have zXS21 := XS21.out.lt; have jXS210 := XS21.out.cell 0 rfl; have jXS211 := XS21.out.cell 1 rfl; have zXT21 := XT21.out.lt; have jXT210 := XT21.out.cell 0 rfl; have jXT211 := XT21.out.cell 1 rfl; have zXU21 := XU21.out.lt; have jXU210 := XU21.out.cell 0 rfl; have jXU211 := XU21.out.cell 1 rfl; have tk21 : Hid True := Lib.hid trivial; clear hb21 tt tk20) | (have tt := tk21; go_at_call 13; refine (RSame_any A7 ft.length c7 xt ft none 0 0 0 [] _ rfl (show Fds w21 w21.heap.size A7 ft from OT21.out.row.2.2.2) rfl Fds.nil hlt (by decide)).mono ?_; rintro e w22 ⟨rfl, hb22⟩; rw [HST.out]; have XS22 := Lib.hid (XS21.out.up hb22); have XT22 := Lib.hid (XT21.out.up hb22); have XU22 := Lib.hid (XU21.out.up hb22); have OS22 := Lib.hid (OS21.out.up hb22); have OT22 := Lib.hid (OT21.out.up hb22); have OU22 := Lib.hid (OU21.out.up hb22); have B22 := Lib.hid (below_step B21.out B21.out.size hb22); have zXS22 := XS22.out.lt; have jXS220 := XS22.out.cell 0 rfl; have jXS221 := XS22.out.cell 1 rfl; have zXT22 := XT22.out.lt; have jXT220 := XT22.out.cell 0 rfl; have jXT221 := XT22.out.cell 1 rfl; have zXU22 := XU22.out.lt; have jXU220 := XU22.out.cell 0 rfl; have jXU221 := XU22.out.cell 1 rfl; have tk22 : Hid True := Lib.hid trivial; clear hb22 tt tk21) | (have tt := tk22; go_at_call 13; refine (RSame_any A8 fu.length c8 xu fu none 0 0 0 [] _ rfl (show Fds w22 w22.heap.size A8 fu from OU22.out.row.2.2.2) rfl Fds.nil hlu (by decide)).mono ?_; rintro e w23 ⟨rfl, hb23⟩; rw [HSU.out]; have XS23 := Lib.hid (XS22.out.up hb23); have XT23 := Lib.hid (XT22.out.up hb23); have XU23 := Lib.hid (XU22.out.up hb23); have OS23 := Lib.hid (OS22.out.up hb23); have OT23 := Lib.hid (OT22.out.up hb23); have OU23 := Lib.hid (OU22.out.up hb23); have B23 := Lib.hid (below_step B22.out B22.out.size hb23); have zXS23 := XS23.out.lt; have jXS230 := XS23.out.cell 0 rfl; have jXS231 := XS23.out.cell 1 rfl; have zXT23 := XT23.out.lt; have jXT230 := XT23.out.cell 0 rfl; have jXT231 := XT23.out.cell 1 rfl; have zXU23 := XU23.out.lt; have jXU230 := XU23.out.cell 0 rfl; have jXU231 := XU23.out.cell 1 rfl; have tk23 : Hid True := Lib.hid trivial; clear hb23 tt tk22))
        go_ret
        exact ⟨rfl, B23.out⟩
end Go.Proofs.Ytpgbpfdedpppeaa.stay
