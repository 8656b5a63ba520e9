/-
  The reference's Change, by a contract.
-/
import Derived.Test.YtpgbpfdedpppeaaRMod
import Derived.Test.YtpgbpfdedpppeaaRGrp
import Derived.Test.YtpgbpfdedpppeaaRJoi
import Derived.Test.YtpgbpfdedpppeaaAftP
import Derived.Test.YtpgbpfdedpppeaaHand
import Derived.Deep.CutRange
import Derived.IntWalk
import Derived.Deep.DeepCutAuto
namespace Go.Proofs.Ytpgbpfdedpppeaa
open Go.RowKit

theorem mod_le (x : Int) {n : Int} (hn : n ≤ 1073741824) : 0 ≤ modR x n ∧ modR x n ≤ 1073741824 ∧ (0 < n → modR x n < n) := by
  unfold modR
  by_cases h : n ≤ 0
  · rw [if_pos h]; omega
  · rw [if_neg h]
    have h0 : 0 < n := by omega
    have h1 := Int.lt_tmod_of_pos x h0
    have h2 := Int.tmod_nonneg (a := x.tmod n + n) n (by omega)
    have h3 := Int.tmod_lt_of_pos (x.tmod n + n) h0
    omega
set_option maxHeartbeats 4000000 in
set_option maxRecDepth 20000 in
theorem RChange_any (A : Option Addr) (n c : Nat) (x : Int) (l : List Fd) (kd id wi : Int) (nm ot : ByteArray) (ty pa : Int) (sep : ByteArray) (w : World) (hn : n = l.length) (hs : Fds w w.heap.size A l) (hl2 : n ≤ 9223372036854775807) (hx1 : x ≤ 1073741824) (hnm : nm.size ≤ 9223372036854775807) (hot : ot.size ≤ 9223372036854775807) (hsep : sep.size ≤ 9223372036854775807) (hkd : (Lit.int .i64 kd).wf = true) (hid : (Lit.int .i64 id).wf = true) (hwi : (Lit.int .i64 wi).wf = true) (hty : (Lit.int .i64 ty).wf = true) (hpa : (Lit.int .i64 pa).wf = true) :
    Calls Try.prog 16 #[.agg #[.slice A n c, .int .i64 x], .agg #[.int .i64 kd, .int .i64 id, .int .i64 wi, .string nm, .string ot, .int .i64 ty, .int .i64 pa, .string sep]] w fun e w' => e = .returned (chgR ⟨l, x⟩ ⟨kd, id, wi, nm, ot, ty, pa, sep⟩).val ∧ Below w.heap.size w w' := by
  have HN := Lib.hid hn
  have HS := Lib.hid hs
  clear hn hs
  have hwr : ∀ y : Int, 0 ≤ y ∧ y ≤ 1073741824 → IntKind.i64.wrap (1 + y) = 1 + y := fun y hy => IntWalk.i64_in _ (by omega)
  obtain ⟨m1, hm1⟩ : ∃ m, modR kd 7 = m := ⟨_, rfl⟩
  obtain ⟨m2, hm2⟩ : ∃ m, modR id x = m := ⟨_, rfl⟩
  obtain ⟨m3, hm3⟩ : ∃ m, modR wi x = m := ⟨_, rfl⟩
  obtain ⟨m4, hm4⟩ : ∃ m, modR ty 6 = m := ⟨_, rfl⟩
  obtain ⟨m5, hm5⟩ : ∃ m, modR pa x = m := ⟨_, rfl⟩
  obtain ⟨n1, hn1⟩ : ∃ m, nameR nm = m := ⟨_, rfl⟩
  obtain ⟨n2, hn2⟩ : ∃ m, nameR ot = m := ⟨_, rfl⟩
  obtain ⟨bG, hbG⟩ : ∃ b, grpB l m5 = b := ⟨_, rfl⟩
  obtain ⟨bS, hbS⟩ : ∃ b, sepB sep = b := ⟨_, rfl⟩
  have W1' := hwr m1 (by have := mod_le kd (n := 7) (by decide); rw [hm1] at this; omega)
  have W2' := hwr m2 (by have := mod_le id hx1; rw [hm2] at this; omega)
  have W3' := hwr m3 (by have := mod_le wi hx1; rw [hm3] at this; omega)
  have W4' := hwr m4 (by have := mod_le ty (n := 6) (by decide); rw [hm4] at this; omega)
  have W5 := Lib.hid (trivial)
  have HE : Hid (chgR ⟨l, x⟩ ⟨kd, id, wi, nm, ot, ty, pa, sep⟩ = ⟨1 + m1, 1 + m2, 1 + m3, n1, n2, 1 + m4, if bG = true then m5 else 0, if bS = true then sep else ⟨#[45]⟩⟩) := by
    show _ = _
    unfold chgR
    simp only [hm1, hm2, hm3, hm4, hm5, hn1, hn2, hbG, hbS]
  have M1 := Lib.hid hm1
  have M2 := Lib.hid hm2
  have M3 := Lib.hid hm3
  have M4 := Lib.hid hm4
  have M5 := Lib.hid hm5
  have N1 := Lib.hid hn1
  have N2 := Lib.hid hn2
  have HG := Lib.hid hbG
  have HP := Lib.hid hbS
  have V1 := Lib.hid W1'
  have V2 := Lib.hid W2'
  have V3 := Lib.hid W3'
  have V4 := Lib.hid W4'
  clear hm1 hm2 hm3 hm4 hm5 hn1 hn2 hbG hbS W1' W2' W3' W4' hwr W5
  have hq1 := ((CB.new w 30 [.slice A n c, .int .i64 x]).alloc (.cells #[.int .i64 kd, .int .i64 id, .int .i64 wi, .string nm, .string ot, .int .i64 ty, .int .i64 pa, .string sep] 24)).alloc (.cells #[.int .i64 0, .int .i64 0, .int .i64 0, .string ⟨#[]⟩, .string ⟨#[]⟩, .int .i64 0, .int .i64 0, .string ⟨#[]⟩] 24)
  have hq2 := (CB.new1 w (.cells #[.slice A n c, .int .i64 x] 30) 24 [.int .i64 kd, .int .i64 id, .int .i64 wi, .string nm, .string ot, .int .i64 ty, .int .i64 pa, .string sep]).alloc (.cells #[.int .i64 0, .int .i64 0, .int .i64 0, .string ⟨#[]⟩, .string ⟨#[]⟩, .int .i64 0, .int .i64 0, .string ⟨#[]⟩] 24)
  have hq3 := CB.new2 w (.cells #[.slice A n c, .int .i64 x] 30) (.cells #[.int .i64 kd, .int .i64 id, .int .i64 wi, .string nm, .string ot, .int .i64 ty, .int .i64 pa, .string sep] 24) 24 [.int .i64 0, .int .i64 0, .int .i64 0, .string ⟨#[]⟩, .string ⟨#[]⟩, .int .i64 0, .int .i64 0, .string ⟨#[]⟩]
  have hqb := al3 w (.cells #[.slice A n c, .int .i64 x] 30) (.cells #[.int .i64 kd, .int .i64 id, .int .i64 wi, .string nm, .string ot, .int .i64 ty, .int .i64 pa, .string sep] 24) (.cells #[.int .i64 0, .int .i64 0, .int .i64 0, .string ⟨#[]⟩, .string ⟨#[]⟩, .int .i64 0, .int .i64 0, .string ⟨#[]⟩] 24)
  go_enter Try.func16, Try.ntmps16
  go_upto_region 1 with fail
  generalize ((w.alloc (.cells #[.slice A n c, .int .i64 x] 30)).alloc (.cells #[.int .i64 kd, .int .i64 id, .int .i64 wi, .string nm, .string ot, .int .i64 ty, .int .i64 pa, .string sep] 24)).alloc (.cells #[.int .i64 0, .int .i64 0, .int .i64 0, .string ⟨#[]⟩, .string ⟨#[]⟩, .int .i64 0, .int .i64 0, .string ⟨#[]⟩] 24) = W0 at *
  have S0 := Lib.hid hq1
  have C0 := Lib.hid hq2
  have R0 := Lib.hid hq3
  have B0 := Lib.hid hqb
  clear hq1 hq2 hq3 hqb
  go_cut [5] (fun p wx => ∃ g : Nat, p = .pointer (some ⟨g, 0, none⟩) ∧ W0.heap.size ≤ g ∧ Hid (CB wx g 24 [.int .i64 (1 + m1), .int .i64 (1 + m2), .int .i64 (1 + m3), .string n1, .string n2, .int .i64 (1 + m4), .int .i64 m5, .string sep]) ∧ Hid (Below W0.heap.size W0 wx))
  case first =>
    refine wp_region_held_drew (S := fun w' => Hid (Below W0.drew.heap.size W0.drew w')) (by kernel_rfl) (Lib.hid (Below.refl _ _)) (fun hHeld => ?_)
    have S1 := Lib.hid (S0.out.up (bd W0))
    have C1 := Lib.hid (C0.out.up (bd W0))
    have zW : W0.heap.size = W0.drew.heap.size := rfl
    have zB := Lib.hid (bd W0)
    revert hHeld S1 C1 zW zB
    generalize W0.drew = W1
    intro hHeld S1 C1 zW zB
    have zC1 := Lib.hid C1.out.lt
    have zS1 := Lib.hid S1.out.lt
    have s11 := Lib.hid (S1.out.cell 1 rfl)
    have c10 := Lib.hid (C1.out.cell 0 rfl)
    have c11 := Lib.hid (C1.out.cell 1 rfl)
    have c12 := Lib.hid (C1.out.cell 2 rfl)
    have c13 := Lib.hid (C1.out.cell 3 rfl)
    have c14 := Lib.hid (C1.out.cell 4 rfl)
    have c15 := Lib.hid (C1.out.cell 5 rfl)
    have c16 := Lib.hid (C1.out.cell 6 rfl)
    have c17 := Lib.hid (C1.out.cell 7 rfl)
    refine hand_take (i := 0) (v := ?_) rfl (by kernel_rfl) (by kernel_rfl) (by kernel_rfl) (fun _ _ _ h => h) (Or.inl ⟨by rfl, ?_⟩) (by assumption) ?_
    rotate_left
    · intro wS hSw
      clear hSw
      go_simp
      try with_reducible rfl
    try simp only [Act.put, List.setIfInBounds_toArray, List.set_cons_zero, List.set_cons_succ]
    refine hand_take (i := 1) (v := ?_) rfl (by kernel_rfl) (by kernel_rfl) (by kernel_rfl) (fun _ _ _ h => h) (Or.inl ⟨by rfl, ?_⟩) (by assumption) ?_
    rotate_left
    · intro wS hSw
      have hx := (hSw.out.cell (p := ⟨w.heap.size + 1, 0, none⟩) zC1.out).trans (c10.out)
      clear hSw
      go_simp
      try with_reducible rfl
    try simp only [Act.put, List.setIfInBounds_toArray, List.set_cons_zero, List.set_cons_succ]
    refine hand_take (i := 4) (v := ?_) rfl (by kernel_rfl) (by kernel_rfl) (by kernel_rfl) (fun _ _ _ h => h) (Or.inl ⟨by rfl, ?_⟩) (by assumption) ?_
    rotate_left
    · intro wS hSw
      clear hSw
      go_simp
      try with_reducible rfl
    try simp only [Act.put, List.setIfInBounds_toArray, List.set_cons_zero, List.set_cons_succ]
    refine hand_take (i := 5) (v := ?_) rfl (by kernel_rfl) (by kernel_rfl) (by kernel_rfl) (fun _ _ _ h => h) (Or.inl ⟨by rfl, ?_⟩) (by assumption) ?_
    rotate_left
    · intro wS hSw
      have hx := (hSw.out.cell (p := ⟨w.heap.size + 1, 1, none⟩) zC1.out).trans (c11.out)
      clear hSw
      go_simp
      try with_reducible rfl
    try simp only [Act.put, List.setIfInBounds_toArray, List.set_cons_zero, List.set_cons_succ]
    refine hand_take (i := 6) (v := ?_) rfl (by kernel_rfl) (by kernel_rfl) (by kernel_rfl) (fun _ _ _ h => h) (Or.inl ⟨by rfl, ?_⟩) (by assumption) ?_
    rotate_left
    · intro wS hSw
      clear hSw
      go_simp
      try with_reducible rfl
    try simp only [Act.put, List.setIfInBounds_toArray, List.set_cons_zero, List.set_cons_succ]
    refine hand_take (i := 7) (v := ?_) rfl (by kernel_rfl) (by kernel_rfl) (by kernel_rfl) (fun _ _ _ h => h) (Or.inl ⟨by rfl, ?_⟩) (by assumption) ?_
    rotate_left
    · intro wS hSw
      have hx := (hSw.out.cell (p := ⟨w.heap.size, 1, none⟩) zS1.out).trans (s11.out)
      clear hSw
      go_simp
      try with_reducible rfl
    try simp only [Act.put, List.setIfInBounds_toArray, List.set_cons_zero, List.set_cons_succ]
    refine hand_take (i := 10) (v := ?_) rfl (by kernel_rfl) (by kernel_rfl) (by kernel_rfl) (fun _ _ _ h => h) (Or.inl ⟨by rfl, ?_⟩) (by assumption) ?_
    rotate_left
    · intro wS hSw
      clear hSw
      go_simp
      try with_reducible rfl
    try simp only [Act.put, List.setIfInBounds_toArray, List.set_cons_zero, List.set_cons_succ]
    refine hand_take (i := 11) (v := ?_) rfl (by kernel_rfl) (by kernel_rfl) (by kernel_rfl) (fun _ _ _ h => h) (Or.inl ⟨by rfl, ?_⟩) (by assumption) ?_
    rotate_left
    · intro wS hSw
      have hx := (hSw.out.cell (p := ⟨w.heap.size + 1, 2, none⟩) zC1.out).trans (c12.out)
      clear hSw
      go_simp
      try with_reducible rfl
    try simp only [Act.put, List.setIfInBounds_toArray, List.set_cons_zero, List.set_cons_succ]
    refine hand_take (i := 12) (v := ?_) rfl (by kernel_rfl) (by kernel_rfl) (by kernel_rfl) (fun _ _ _ h => h) (Or.inl ⟨by rfl, ?_⟩) (by assumption) ?_
    rotate_left
    · intro wS hSw
      clear hSw
      go_simp
      try with_reducible rfl
    try simp only [Act.put, List.setIfInBounds_toArray, List.set_cons_zero, List.set_cons_succ]
    refine hand_take (i := 13) (v := ?_) rfl (by kernel_rfl) (by kernel_rfl) (by kernel_rfl) (fun _ _ _ h => h) (Or.inl ⟨by rfl, ?_⟩) (by assumption) ?_
    rotate_left
    · intro wS hSw
      have hx := (hSw.out.cell (p := ⟨w.heap.size, 1, none⟩) zS1.out).trans (s11.out)
      clear hSw
      go_simp
      try with_reducible rfl
    try simp only [Act.put, List.setIfInBounds_toArray, List.set_cons_zero, List.set_cons_succ]
    refine hand_take (i := 16) (v := ?_) rfl (by kernel_rfl) (by kernel_rfl) (by kernel_rfl) (fun _ _ _ h => h) (Or.inl ⟨by rfl, ?_⟩) (by assumption) ?_
    rotate_left
    · intro wS hSw
      clear hSw
      go_simp
      try with_reducible rfl
    try simp only [Act.put, List.setIfInBounds_toArray, List.set_cons_zero, List.set_cons_succ]
    refine hand_take (i := 17) (v := ?_) rfl (by kernel_rfl) (by kernel_rfl) (by kernel_rfl) (fun _ _ _ h => h) (Or.inl ⟨by rfl, ?_⟩) (by assumption) ?_
    rotate_left
    · intro wS hSw
      have hx := (hSw.out.cell (p := ⟨w.heap.size + 1, 3, none⟩) zC1.out).trans (c13.out)
      clear hSw
      go_simp
      try with_reducible rfl
    try simp only [Act.put, List.setIfInBounds_toArray, List.set_cons_zero, List.set_cons_succ]
    refine hand_take (i := 19) (v := ?_) rfl (by kernel_rfl) (by kernel_rfl) (by kernel_rfl) (fun _ _ _ h => h) (Or.inl ⟨by rfl, ?_⟩) (by assumption) ?_
    rotate_left
    · intro wS hSw
      clear hSw
      go_simp
      try with_reducible rfl
    try simp only [Act.put, List.setIfInBounds_toArray, List.set_cons_zero, List.set_cons_succ]
    refine hand_take (i := 20) (v := ?_) rfl (by kernel_rfl) (by kernel_rfl) (by kernel_rfl) (fun _ _ _ h => h) (Or.inl ⟨by rfl, ?_⟩) (by assumption) ?_
    rotate_left
    · intro wS hSw
      have hx := (hSw.out.cell (p := ⟨w.heap.size + 1, 4, none⟩) zC1.out).trans (c14.out)
      clear hSw
      go_simp
      try with_reducible rfl
    try simp only [Act.put, List.setIfInBounds_toArray, List.set_cons_zero, List.set_cons_succ]
    refine hand_take (i := 22) (v := ?_) rfl (by kernel_rfl) (by kernel_rfl) (by kernel_rfl) (fun _ _ _ h => h) (Or.inl ⟨by rfl, ?_⟩) (by assumption) ?_
    rotate_left
    · intro wS hSw
      clear hSw
      go_simp
      try with_reducible rfl
    try simp only [Act.put, List.setIfInBounds_toArray, List.set_cons_zero, List.set_cons_succ]
    refine hand_take (i := 23) (v := ?_) rfl (by kernel_rfl) (by kernel_rfl) (by kernel_rfl) (fun _ _ _ h => h) (Or.inl ⟨by rfl, ?_⟩) (by assumption) ?_
    rotate_left
    · intro wS hSw
      have hx := (hSw.out.cell (p := ⟨w.heap.size + 1, 5, none⟩) zC1.out).trans (c15.out)
      clear hSw
      go_simp
      try with_reducible rfl
    try simp only [Act.put, List.setIfInBounds_toArray, List.set_cons_zero, List.set_cons_succ]
    refine hand_take (i := 26) (v := ?_) rfl (by kernel_rfl) (by kernel_rfl) (by kernel_rfl) (fun _ _ _ h => h) (Or.inl ⟨by rfl, ?_⟩) (by assumption) ?_
    rotate_left
    · intro wS hSw
      clear hSw
      go_simp
      try with_reducible rfl
    try simp only [Act.put, List.setIfInBounds_toArray, List.set_cons_zero, List.set_cons_succ]
    refine hand_take (i := 27) (v := ?_) rfl (by kernel_rfl) (by kernel_rfl) (by kernel_rfl) (fun _ _ _ h => h) (Or.inl ⟨by rfl, ?_⟩) (by assumption) ?_
    rotate_left
    · intro wS hSw
      have hx := (hSw.out.cell (p := ⟨w.heap.size + 1, 6, none⟩) zC1.out).trans (c16.out)
      clear hSw
      go_simp
      try with_reducible rfl
    try simp only [Act.put, List.setIfInBounds_toArray, List.set_cons_zero, List.set_cons_succ]
    refine hand_take (i := 28) (v := ?_) rfl (by kernel_rfl) (by kernel_rfl) (by kernel_rfl) (fun _ _ _ h => h) (Or.inl ⟨by rfl, ?_⟩) (by assumption) ?_
    rotate_left
    · intro wS hSw
      clear hSw
      go_simp
      try with_reducible rfl
    try simp only [Act.put, List.setIfInBounds_toArray, List.set_cons_zero, List.set_cons_succ]
    refine hand_take (i := 29) (v := ?_) rfl (by kernel_rfl) (by kernel_rfl) (by kernel_rfl) (fun _ _ _ h => h) (Or.inl ⟨by rfl, ?_⟩) (by assumption) ?_
    rotate_left
    · intro wS hSw
      have hx := (hSw.out.cell (p := ⟨w.heap.size, 1, none⟩) zS1.out).trans (s11.out)
      clear hSw
      go_simp
      try with_reducible rfl
    try simp only [Act.put, List.setIfInBounds_toArray, List.set_cons_zero, List.set_cons_succ]
    refine hand_take (i := 31) (v := ?_) rfl (by kernel_rfl) (by kernel_rfl) (by kernel_rfl) (fun _ _ _ h => h) (Or.inl ⟨by rfl, ?_⟩) (by assumption) ?_
    rotate_left
    · intro wS hSw
      clear hSw
      go_simp
      try with_reducible rfl
    try simp only [Act.put, List.setIfInBounds_toArray, List.set_cons_zero, List.set_cons_succ]
    refine hand_take (i := 32) (v := ?_) rfl (by kernel_rfl) (by kernel_rfl) (by kernel_rfl) (fun _ _ _ h => h) (Or.inl ⟨by rfl, ?_⟩) (by assumption) ?_
    rotate_left
    · intro wS hSw
      have hx := (hSw.out.cell (p := ⟨w.heap.size + 1, 7, none⟩) zC1.out).trans (c17.out)
      clear hSw
      go_simp
      try with_reducible rfl
    try simp only [Act.put, List.setIfInBounds_toArray, List.set_cons_zero, List.set_cons_succ]
    refine wpAnyH_ready (rs := [2, 34]) (by kernel_rfl) (by simp) ?_
    refine (hand_cons rfl (fun KK hK => ?_) (hand_cons rfl (fun KK hK => ?_) AllReadyH.nil))
    · go_simp
      go_at_call 40
      refine (Rmod_any kd 7 _ hkd (by decide)).mono ?_
      rintro e w7 ⟨rfl, hw7⟩
      rw [M1.out]
      subst w7
      go_wp2_with fail
      refine hK.out _ _ (hHeld) (fun hHeld => ?_)
      clear hK KK
      try simp only [Act.put, List.setIfInBounds_toArray, List.set_cons_zero, List.set_cons_succ]
      refine hand_take (i := 3) (v := .int .i64 (1 + m1)) rfl (by kernel_rfl) (by kernel_rfl) (by kernel_rfl) (fun _ _ _ h => h) (Or.inl ⟨by rfl, ?_⟩) (by assumption) ?_
      · intro wS hSw
        have hv := V1.out <;> (go_simp; try first | with_reducible rfl | simp only [*])
      try simp only [Act.put, List.setIfInBounds_toArray, List.set_cons_zero, List.set_cons_succ]
      refine wpAnyH_ready (rs := [8, 34]) (by kernel_rfl) (by simp) ?_
      refine (hand_cons rfl (fun KK hK => ?_) (hand_cons rfl (fun KK hK => ?_) AllReadyH.nil))
      · go_simp
        go_at_call 40
        refine (Rmod_any id x _ hid hx1).mono ?_
        rintro e w7 ⟨rfl, hw7⟩
        rw [M2.out]
        subst w7
        go_wp2_with fail
        refine hK.out _ _ (hHeld) (fun hHeld => ?_)
        clear hK KK
        try simp only [Act.put, List.setIfInBounds_toArray, List.set_cons_zero, List.set_cons_succ]
        refine hand_take (i := 9) (v := .int .i64 (1 + m2)) rfl (by kernel_rfl) (by kernel_rfl) (by kernel_rfl) (fun _ _ _ h => h) (Or.inl ⟨by rfl, ?_⟩) (by assumption) ?_
        · intro wS hSw
          have hv := V2.out <;> (go_simp; try first | with_reducible rfl | simp only [*])
        try simp only [Act.put, List.setIfInBounds_toArray, List.set_cons_zero, List.set_cons_succ]
        refine wpAnyH_ready (rs := [14, 34]) (by kernel_rfl) (by simp) ?_
        refine (hand_cons rfl (fun KK hK => ?_) (hand_cons rfl (fun KK hK => ?_) AllReadyH.nil))
        · go_simp
          go_at_call 40
          refine (Rmod_any wi x _ hwi hx1).mono ?_
          rintro e w7 ⟨rfl, hw7⟩
          rw [M3.out]
          subst w7
          go_wp2_with fail
          refine hK.out _ _ (hHeld) (fun hHeld => ?_)
          clear hK KK
          try simp only [Act.put, List.setIfInBounds_toArray, List.set_cons_zero, List.set_cons_succ]
          refine hand_take (i := 15) (v := .int .i64 (1 + m3)) rfl (by kernel_rfl) (by kernel_rfl) (by kernel_rfl) (fun _ _ _ h => h) (Or.inl ⟨by rfl, ?_⟩) (by assumption) ?_
          · intro wS hSw
            have hv := V3.out <;> (go_simp; try first | with_reducible rfl | simp only [*])
          try simp only [Act.put, List.setIfInBounds_toArray, List.set_cons_zero, List.set_cons_succ]
          refine wpAnyH_ready (rs := [18, 34]) (by kernel_rfl) (by simp) ?_
          refine (hand_cons rfl (fun KK hK => ?_) (hand_cons rfl (fun KK hK => ?_) AllReadyH.nil))
          · go_simp
            go_at_call 41
            refine (Rname_any nm _ hnm).mono ?_
            rintro e w8 ⟨rfl, hb8⟩
            rw [N1.out]
            have HB8 := Lib.hid (hHeld.out.trans (hb8.mono hHeld.out.size))
            have zB8 := HB8.out.size
            clear hb8
            go_wp2_with fail
            refine hK.out _ _ (HB8) (fun hHeld => ?_)
            clear hK KK
            try simp only [Act.put, List.setIfInBounds_toArray, List.set_cons_zero, List.set_cons_succ]
            refine wpAnyH_ready (rs := [21, 34]) (by kernel_rfl) (by simp) ?_
            refine (hand_cons rfl (fun KK hK => ?_) (hand_cons rfl (fun KK hK => ?_) AllReadyH.nil))
            · go_simp
              go_at_call 41
              refine (Rname_any ot _ hot).mono ?_
              rintro e w9 ⟨rfl, hb9⟩
              rw [N2.out]
              have HB9 := Lib.hid (hHeld.out.trans (hb9.mono hHeld.out.size))
              have zB9 := HB9.out.size
              clear hb9
              go_wp2_with fail
              refine hK.out _ _ (HB9) (fun hHeld => ?_)
              clear hK KK
              try simp only [Act.put, List.setIfInBounds_toArray, List.set_cons_zero, List.set_cons_succ]
              refine wpAnyH_ready (rs := [24, 34]) (by kernel_rfl) (by simp) ?_
              refine (hand_cons rfl (fun KK hK => ?_) (hand_cons rfl (fun KK hK => ?_) AllReadyH.nil))
              · go_simp
                go_at_call 40
                refine (Rmod_any ty 6 _ hty (by decide)).mono ?_
                rintro e w7 ⟨rfl, hw7⟩
                rw [M4.out]
                subst w7
                go_wp2_with fail
                refine hK.out _ _ (hHeld) (fun hHeld => ?_)
                clear hK KK
                try simp only [Act.put, List.setIfInBounds_toArray, List.set_cons_zero, List.set_cons_succ]
                refine hand_take (i := 25) (v := .int .i64 (1 + m4)) rfl (by kernel_rfl) (by kernel_rfl) (by kernel_rfl) (fun _ _ _ h => h) (Or.inl ⟨by rfl, ?_⟩) (by assumption) ?_
                · intro wS hSw
                  have hv := V4.out <;> (go_simp; try first | with_reducible rfl | simp only [*])
                try simp only [Act.put, List.setIfInBounds_toArray, List.set_cons_zero, List.set_cons_succ]
                refine wpAnyH_ready (rs := [30, 34]) (by kernel_rfl) (by simp) ?_
                refine (hand_cons rfl (fun KK hK => ?_) (hand_cons rfl (fun KK hK => ?_) AllReadyH.nil))
                · go_simp
                  go_at_call 40
                  refine (Rmod_any pa x _ hpa hx1).mono ?_
                  rintro e w7 ⟨rfl, hw7⟩
                  rw [M5.out]
                  subst w7
                  go_wp2_with fail
                  refine hK.out _ _ (hHeld) (fun hHeld => ?_)
                  clear hK KK
                  try simp only [Act.put, List.setIfInBounds_toArray, List.set_cons_zero, List.set_cons_succ]
                  refine hand_take (i := 33) (v := .agg #[.int .i64 (1 + m1), .int .i64 (1 + m2), .int .i64 (1 + m3), .string n1, .string n2, .int .i64 (1 + m4), .int .i64 m5, .string sep]) rfl (by kernel_rfl) (by kernel_rfl) (by kernel_rfl) (fun _ _ _ h => h) (Or.inl ⟨by rfl, ?_⟩) (by assumption) ?_
                  · intro wS hSw
                    go_simp
                    try first | with_reducible rfl | simp only [*]
                  try simp only [Act.put, List.setIfInBounds_toArray, List.set_cons_zero, List.set_cons_succ]
                  refine wpAnyH_ready (rs := [34]) (by kernel_rfl) (by simp) ?_
                  refine hand_cons rfl (fun KK hK => ?_) AllReadyH.nil
                  go_simp
                  have GZ := Lib.hid (CB.new w9 24 [.int .i64 0, .int .i64 0, .int .i64 0, .string ⟨#[]⟩, .string ⟨#[]⟩, .int .i64 0, .int .i64 0, .string ⟨#[]⟩])
                  have HBA := Lib.hid (al_up (o := .cells #[.int .i64 0, .int .i64 0, .int .i64 0, .string ⟨#[]⟩, .string ⟨#[]⟩, .int .i64 0, .int .i64 0, .string ⟨#[]⟩] 24) hHeld.out)
                  refine hK.out _ _ (HBA) (fun hHeld => ?_)
                  clear hK KK
                  try simp only [Act.put, List.setIfInBounds_toArray, List.set_cons_zero, List.set_cons_succ]
                  refine wpAnyH_ready (rs := [35]) (by kernel_rfl) (by simp) ?_
                  refine hand_cons rfl (fun KK hK => ?_) AllReadyH.nil
                  refine step_store_cb rfl 24 (.tmp 5) (.tmp 39) rfl w9.heap.size [.int .i64 (1 + m1), .int .i64 (1 + m2), .int .i64 (1 + m3), .string n1, .string n2, .int .i64 (1 + m4), .int .i64 m5, .string sep] rfl rfl 24 [.int .i64 0, .int .i64 0, .int .i64 0, .string ⟨#[]⟩, .string ⟨#[]⟩, .int .i64 0, .int .i64 0, .string ⟨#[]⟩] 8 GZ.out sizeC rfl rfl (one_c _ _ _ _ _ _ _ _) ?_
                  intro wz hcz hgz hzz
                  have HBZ := Lib.hid (below_grown hHeld.out hgz hHeld.out.size (by omega))
                  refine hK.out _ _ (HBZ) (fun hHeld => ?_)
                  clear hK KK
                  try simp only [Act.put]
                  refine wpAnyH_done (by kernel_rfl) ?_ _
                  go_wp2_with fail
                  go_meet
                  exact ⟨_, rfl, by omega, Lib.hid hcz, Lib.hid (zB.out.trans (HBZ.out.mono (by omega)))⟩
                · go_simp
                  have GZ := Lib.hid (CB.new w9 24 [.int .i64 0, .int .i64 0, .int .i64 0, .string ⟨#[]⟩, .string ⟨#[]⟩, .int .i64 0, .int .i64 0, .string ⟨#[]⟩])
                  have HBA := Lib.hid (al_up (o := .cells #[.int .i64 0, .int .i64 0, .int .i64 0, .string ⟨#[]⟩, .string ⟨#[]⟩, .int .i64 0, .int .i64 0, .string ⟨#[]⟩] 24) hHeld.out)
                  refine hK.out _ _ (HBA) (fun hHeld => ?_)
                  clear hK KK
                  try simp only [Act.put, List.setIfInBounds_toArray, List.set_cons_zero, List.set_cons_succ]
                  refine wpAnyH_ready (rs := [30]) (by kernel_rfl) (by simp) ?_
                  refine hand_cons rfl (fun KK hK => ?_) AllReadyH.nil
                  go_simp
                  go_at_call 40
                  refine (Rmod_any pa x _ hpa hx1).mono ?_
                  rintro e w7 ⟨rfl, hw7⟩
                  rw [M5.out]
                  subst w7
                  go_wp2_with fail
                  refine hK.out _ _ (hHeld) (fun hHeld => ?_)
                  clear hK KK
                  try simp only [Act.put, List.setIfInBounds_toArray, List.set_cons_zero, List.set_cons_succ]
                  refine hand_take (i := 33) (v := .agg #[.int .i64 (1 + m1), .int .i64 (1 + m2), .int .i64 (1 + m3), .string n1, .string n2, .int .i64 (1 + m4), .int .i64 m5, .string sep]) rfl (by kernel_rfl) (by kernel_rfl) (by kernel_rfl) (fun _ _ _ h => h) (Or.inl ⟨by rfl, ?_⟩) (by assumption) ?_
                  · intro wS hSw
                    go_simp
                    try first | with_reducible rfl | simp only [*]
                  try simp only [Act.put, List.setIfInBounds_toArray, List.set_cons_zero, List.set_cons_succ]
                  refine wpAnyH_ready (rs := [35]) (by kernel_rfl) (by simp) ?_
                  refine hand_cons rfl (fun KK hK => ?_) AllReadyH.nil
                  refine step_store_cb rfl 24 (.tmp 5) (.tmp 39) rfl w9.heap.size [.int .i64 (1 + m1), .int .i64 (1 + m2), .int .i64 (1 + m3), .string n1, .string n2, .int .i64 (1 + m4), .int .i64 m5, .string sep] rfl rfl 24 [.int .i64 0, .int .i64 0, .int .i64 0, .string ⟨#[]⟩, .string ⟨#[]⟩, .int .i64 0, .int .i64 0, .string ⟨#[]⟩] 8 GZ.out sizeC rfl rfl (one_c _ _ _ _ _ _ _ _) ?_
                  intro wz hcz hgz hzz
                  have HBZ := Lib.hid (below_grown hHeld.out hgz hHeld.out.size (by omega))
                  refine hK.out _ _ (HBZ) (fun hHeld => ?_)
                  clear hK KK
                  try simp only [Act.put]
                  refine wpAnyH_done (by kernel_rfl) ?_ _
                  go_wp2_with fail
                  go_meet
                  exact ⟨_, rfl, by omega, Lib.hid hcz, Lib.hid (zB.out.trans (HBZ.out.mono (by omega)))⟩
              · go_simp
                have GZ := Lib.hid (CB.new w9 24 [.int .i64 0, .int .i64 0, .int .i64 0, .string ⟨#[]⟩, .string ⟨#[]⟩, .int .i64 0, .int .i64 0, .string ⟨#[]⟩])
                have HBA := Lib.hid (al_up (o := .cells #[.int .i64 0, .int .i64 0, .int .i64 0, .string ⟨#[]⟩, .string ⟨#[]⟩, .int .i64 0, .int .i64 0, .string ⟨#[]⟩] 24) hHeld.out)
                refine hK.out _ _ (HBA) (fun hHeld => ?_)
                clear hK KK
                try simp only [Act.put, List.setIfInBounds_toArray, List.set_cons_zero, List.set_cons_succ]
                refine wpAnyH_ready (rs := [24]) (by kernel_rfl) (by simp) ?_
                refine hand_cons rfl (fun KK hK => ?_) AllReadyH.nil
                go_simp
                go_at_call 40
                refine (Rmod_any ty 6 _ hty (by decide)).mono ?_
                rintro e w7 ⟨rfl, hw7⟩
                rw [M4.out]
                subst w7
                go_wp2_with fail
                refine hK.out _ _ (hHeld) (fun hHeld => ?_)
                clear hK KK
                try simp only [Act.put, List.setIfInBounds_toArray, List.set_cons_zero, List.set_cons_succ]
                refine hand_take (i := 25) (v := .int .i64 (1 + m4)) rfl (by kernel_rfl) (by kernel_rfl) (by kernel_rfl) (fun _ _ _ h => h) (Or.inl ⟨by rfl, ?_⟩) (by assumption) ?_
                · intro wS hSw
                  have hv := V4.out <;> (go_simp; try first | with_reducible rfl | simp only [*])
                try simp only [Act.put, List.setIfInBounds_toArray, List.set_cons_zero, List.set_cons_succ]
                refine wpAnyH_ready (rs := [30]) (by kernel_rfl) (by simp) ?_
                refine hand_cons rfl (fun KK hK => ?_) AllReadyH.nil
                go_simp
                go_at_call 40
                refine (Rmod_any pa x _ hpa hx1).mono ?_
                rintro e w7 ⟨rfl, hw7⟩
                rw [M5.out]
                subst w7
                go_wp2_with fail
                refine hK.out _ _ (hHeld) (fun hHeld => ?_)
                clear hK KK
                try simp only [Act.put, List.setIfInBounds_toArray, List.set_cons_zero, List.set_cons_succ]
                refine hand_take (i := 33) (v := .agg #[.int .i64 (1 + m1), .int .i64 (1 + m2), .int .i64 (1 + m3), .string n1, .string n2, .int .i64 (1 + m4), .int .i64 m5, .string sep]) rfl (by kernel_rfl) (by kernel_rfl) (by kernel_rfl) (fun _ _ _ h => h) (Or.inl ⟨by rfl, ?_⟩) (by assumption) ?_
                · intro wS hSw
                  go_simp
                  try first | with_reducible rfl | simp only [*]
                try simp only [Act.put, List.setIfInBounds_toArray, List.set_cons_zero, List.set_cons_succ]
                refine wpAnyH_ready (rs := [35]) (by kernel_rfl) (by simp) ?_
                refine hand_cons rfl (fun KK hK => ?_) AllReadyH.nil
                refine step_store_cb rfl 24 (.tmp 5) (.tmp 39) rfl w9.heap.size [.int .i64 (1 + m1), .int .i64 (1 + m2), .int .i64 (1 + m3), .string n1, .string n2, .int .i64 (1 + m4), .int .i64 m5, .string sep] rfl rfl 24 [.int .i64 0, .int .i64 0, .int .i64 0, .string ⟨#[]⟩, .string ⟨#[]⟩, .int .i64 0, .int .i64 0, .string ⟨#[]⟩] 8 GZ.out sizeC rfl rfl (one_c _ _ _ _ _ _ _ _) ?_
                intro wz hcz hgz hzz
                have HBZ := Lib.hid (below_grown hHeld.out hgz hHeld.out.size (by omega))
                refine hK.out _ _ (HBZ) (fun hHeld => ?_)
                clear hK KK
                try simp only [Act.put]
                refine wpAnyH_done (by kernel_rfl) ?_ _
                go_wp2_with fail
                go_meet
                exact ⟨_, rfl, by omega, Lib.hid hcz, Lib.hid (zB.out.trans (HBZ.out.mono (by omega)))⟩
            · go_simp
              have GZ := Lib.hid (CB.new w8 24 [.int .i64 0, .int .i64 0, .int .i64 0, .string ⟨#[]⟩, .string ⟨#[]⟩, .int .i64 0, .int .i64 0, .string ⟨#[]⟩])
              have HBA := Lib.hid (al_up (o := .cells #[.int .i64 0, .int .i64 0, .int .i64 0, .string ⟨#[]⟩, .string ⟨#[]⟩, .int .i64 0, .int .i64 0, .string ⟨#[]⟩] 24) hHeld.out)
              refine hK.out _ _ (HBA) (fun hHeld => ?_)
              clear hK KK
              try simp only [Act.put, List.setIfInBounds_toArray, List.set_cons_zero, List.set_cons_succ]
              refine wpAnyH_ready (rs := [21]) (by kernel_rfl) (by simp) ?_
              refine hand_cons rfl (fun KK hK => ?_) AllReadyH.nil
              go_simp
              go_at_call 41
              refine (Rname_any ot _ hot).mono ?_
              rintro e w9 ⟨rfl, hb9⟩
              rw [N2.out]
              have HB9 := Lib.hid (hHeld.out.trans (hb9.mono hHeld.out.size))
              have zB9 := HB9.out.size
              have GZ9 := Lib.hid (GZ.out.up hb9)
              clear hb9
              go_wp2_with fail
              refine hK.out _ _ (HB9) (fun hHeld => ?_)
              clear hK KK
              try simp only [Act.put, List.setIfInBounds_toArray, List.set_cons_zero, List.set_cons_succ]
              refine wpAnyH_ready (rs := [24]) (by kernel_rfl) (by simp) ?_
              refine hand_cons rfl (fun KK hK => ?_) AllReadyH.nil
              go_simp
              go_at_call 40
              refine (Rmod_any ty 6 _ hty (by decide)).mono ?_
              rintro e w7 ⟨rfl, hw7⟩
              rw [M4.out]
              subst w7
              go_wp2_with fail
              refine hK.out _ _ (hHeld) (fun hHeld => ?_)
              clear hK KK
              try simp only [Act.put, List.setIfInBounds_toArray, List.set_cons_zero, List.set_cons_succ]
              refine hand_take (i := 25) (v := .int .i64 (1 + m4)) rfl (by kernel_rfl) (by kernel_rfl) (by kernel_rfl) (fun _ _ _ h => h) (Or.inl ⟨by rfl, ?_⟩) (by assumption) ?_
              · intro wS hSw
                have hv := V4.out <;> (go_simp; try first | with_reducible rfl | simp only [*])
              try simp only [Act.put, List.setIfInBounds_toArray, List.set_cons_zero, List.set_cons_succ]
              refine wpAnyH_ready (rs := [30]) (by kernel_rfl) (by simp) ?_
              refine hand_cons rfl (fun KK hK => ?_) AllReadyH.nil
              go_simp
              go_at_call 40
              refine (Rmod_any pa x _ hpa hx1).mono ?_
              rintro e w7 ⟨rfl, hw7⟩
              rw [M5.out]
              subst w7
              go_wp2_with fail
              refine hK.out _ _ (hHeld) (fun hHeld => ?_)
              clear hK KK
              try simp only [Act.put, List.setIfInBounds_toArray, List.set_cons_zero, List.set_cons_succ]
              refine hand_take (i := 33) (v := .agg #[.int .i64 (1 + m1), .int .i64 (1 + m2), .int .i64 (1 + m3), .string n1, .string n2, .int .i64 (1 + m4), .int .i64 m5, .string sep]) rfl (by kernel_rfl) (by kernel_rfl) (by kernel_rfl) (fun _ _ _ h => h) (Or.inl ⟨by rfl, ?_⟩) (by assumption) ?_
              · intro wS hSw
                go_simp
                try first | with_reducible rfl | simp only [*]
              try simp only [Act.put, List.setIfInBounds_toArray, List.set_cons_zero, List.set_cons_succ]
              refine wpAnyH_ready (rs := [35]) (by kernel_rfl) (by simp) ?_
              refine hand_cons rfl (fun KK hK => ?_) AllReadyH.nil
              refine step_store_cb rfl 24 (.tmp 5) (.tmp 39) rfl w8.heap.size [.int .i64 (1 + m1), .int .i64 (1 + m2), .int .i64 (1 + m3), .string n1, .string n2, .int .i64 (1 + m4), .int .i64 m5, .string sep] rfl rfl 24 [.int .i64 0, .int .i64 0, .int .i64 0, .string ⟨#[]⟩, .string ⟨#[]⟩, .int .i64 0, .int .i64 0, .string ⟨#[]⟩] 8 GZ9.out sizeC rfl rfl (one_c _ _ _ _ _ _ _ _) ?_
              intro wz hcz hgz hzz
              have HBZ := Lib.hid (below_grown hHeld.out hgz hHeld.out.size (by omega))
              refine hK.out _ _ (HBZ) (fun hHeld => ?_)
              clear hK KK
              try simp only [Act.put]
              refine wpAnyH_done (by kernel_rfl) ?_ _
              go_wp2_with fail
              go_meet
              exact ⟨_, rfl, by omega, Lib.hid hcz, Lib.hid (zB.out.trans (HBZ.out.mono (by omega)))⟩
          · go_simp
            have GZ := Lib.hid (CB.new W1 24 [.int .i64 0, .int .i64 0, .int .i64 0, .string ⟨#[]⟩, .string ⟨#[]⟩, .int .i64 0, .int .i64 0, .string ⟨#[]⟩])
            have HBA := Lib.hid (al_up (o := .cells #[.int .i64 0, .int .i64 0, .int .i64 0, .string ⟨#[]⟩, .string ⟨#[]⟩, .int .i64 0, .int .i64 0, .string ⟨#[]⟩] 24) hHeld.out)
            refine hK.out _ _ (HBA) (fun hHeld => ?_)
            clear hK KK
            try simp only [Act.put, List.setIfInBounds_toArray, List.set_cons_zero, List.set_cons_succ]
            refine wpAnyH_ready (rs := [18]) (by kernel_rfl) (by simp) ?_
            refine hand_cons rfl (fun KK hK => ?_) AllReadyH.nil
            go_simp
            go_at_call 41
            refine (Rname_any nm _ hnm).mono ?_
            rintro e w8 ⟨rfl, hb8⟩
            rw [N1.out]
            have HB8 := Lib.hid (hHeld.out.trans (hb8.mono hHeld.out.size))
            have zB8 := HB8.out.size
            have GZ8 := Lib.hid (GZ.out.up hb8)
            clear hb8
            go_wp2_with fail
            refine hK.out _ _ (HB8) (fun hHeld => ?_)
            clear hK KK
            try simp only [Act.put, List.setIfInBounds_toArray, List.set_cons_zero, List.set_cons_succ]
            refine wpAnyH_ready (rs := [21]) (by kernel_rfl) (by simp) ?_
            refine hand_cons rfl (fun KK hK => ?_) AllReadyH.nil
            go_simp
            go_at_call 41
            refine (Rname_any ot _ hot).mono ?_
            rintro e w9 ⟨rfl, hb9⟩
            rw [N2.out]
            have HB9 := Lib.hid (hHeld.out.trans (hb9.mono hHeld.out.size))
            have zB9 := HB9.out.size
            have GZ9 := Lib.hid (GZ8.out.up hb9)
            clear hb9
            go_wp2_with fail
            refine hK.out _ _ (HB9) (fun hHeld => ?_)
            clear hK KK
            try simp only [Act.put, List.setIfInBounds_toArray, List.set_cons_zero, List.set_cons_succ]
            refine wpAnyH_ready (rs := [24]) (by kernel_rfl) (by simp) ?_
            refine hand_cons rfl (fun KK hK => ?_) AllReadyH.nil
            go_simp
            go_at_call 40
            refine (Rmod_any ty 6 _ hty (by decide)).mono ?_
            rintro e w7 ⟨rfl, hw7⟩
            rw [M4.out]
            subst w7
            go_wp2_with fail
            refine hK.out _ _ (hHeld) (fun hHeld => ?_)
            clear hK KK
            try simp only [Act.put, List.setIfInBounds_toArray, List.set_cons_zero, List.set_cons_succ]
            refine hand_take (i := 25) (v := .int .i64 (1 + m4)) rfl (by kernel_rfl) (by kernel_rfl) (by kernel_rfl) (fun _ _ _ h => h) (Or.inl ⟨by rfl, ?_⟩) (by assumption) ?_
            · intro wS hSw
              have hv := V4.out <;> (go_simp; try first | with_reducible rfl | simp only [*])
            try simp only [Act.put, List.setIfInBounds_toArray, List.set_cons_zero, List.set_cons_succ]
            refine wpAnyH_ready (rs := [30]) (by kernel_rfl) (by simp) ?_
            refine hand_cons rfl (fun KK hK => ?_) AllReadyH.nil
            go_simp
            go_at_call 40
            refine (Rmod_any pa x _ hpa hx1).mono ?_
            rintro e w7 ⟨rfl, hw7⟩
            rw [M5.out]
            subst w7
            go_wp2_with fail
            refine hK.out _ _ (hHeld) (fun hHeld => ?_)
            clear hK KK
            try simp only [Act.put, List.setIfInBounds_toArray, List.set_cons_zero, List.set_cons_succ]
            refine hand_take (i := 33) (v := .agg #[.int .i64 (1 + m1), .int .i64 (1 + m2), .int .i64 (1 + m3), .string n1, .string n2, .int .i64 (1 + m4), .int .i64 m5, .string sep]) rfl (by kernel_rfl) (by kernel_rfl) (by kernel_rfl) (fun _ _ _ h => h) (Or.inl ⟨by rfl, ?_⟩) (by assumption) ?_
            · intro wS hSw
              go_simp
              try first | with_reducible rfl | simp only [*]
            try simp only [Act.put, List.setIfInBounds_toArray, List.set_cons_zero, List.set_cons_succ]
            refine wpAnyH_ready (rs := [35]) (by kernel_rfl) (by simp) ?_
            refine hand_cons rfl (fun KK hK => ?_) AllReadyH.nil
            refine step_store_cb rfl 24 (.tmp 5) (.tmp 39) rfl W1.heap.size [.int .i64 (1 + m1), .int .i64 (1 + m2), .int .i64 (1 + m3), .string n1, .string n2, .int .i64 (1 + m4), .int .i64 m5, .string sep] rfl rfl 24 [.int .i64 0, .int .i64 0, .int .i64 0, .string ⟨#[]⟩, .string ⟨#[]⟩, .int .i64 0, .int .i64 0, .string ⟨#[]⟩] 8 GZ9.out sizeC rfl rfl (one_c _ _ _ _ _ _ _ _) ?_
            intro wz hcz hgz hzz
            have HBZ := Lib.hid (below_grown hHeld.out hgz hHeld.out.size (by omega))
            refine hK.out _ _ (HBZ) (fun hHeld => ?_)
            clear hK KK
            try simp only [Act.put]
            refine wpAnyH_done (by kernel_rfl) ?_ _
            go_wp2_with fail
            go_meet
            exact ⟨_, rfl, by omega, Lib.hid hcz, Lib.hid (zB.out.trans (HBZ.out.mono (by omega)))⟩
        · go_simp
          have GZ := Lib.hid (CB.new W1 24 [.int .i64 0, .int .i64 0, .int .i64 0, .string ⟨#[]⟩, .string ⟨#[]⟩, .int .i64 0, .int .i64 0, .string ⟨#[]⟩])
          have HBA := Lib.hid (al_up (o := .cells #[.int .i64 0, .int .i64 0, .int .i64 0, .string ⟨#[]⟩, .string ⟨#[]⟩, .int .i64 0, .int .i64 0, .string ⟨#[]⟩] 24) hHeld.out)
          refine hK.out _ _ (HBA) (fun hHeld => ?_)
          clear hK KK
          try simp only [Act.put, List.setIfInBounds_toArray, List.set_cons_zero, List.set_cons_succ]
          refine wpAnyH_ready (rs := [14]) (by kernel_rfl) (by simp) ?_
          refine hand_cons rfl (fun KK hK => ?_) AllReadyH.nil
          go_simp
          go_at_call 40
          refine (Rmod_any wi x _ hwi hx1).mono ?_
          rintro e w7 ⟨rfl, hw7⟩
          rw [M3.out]
          subst w7
          go_wp2_with fail
          refine hK.out _ _ (hHeld) (fun hHeld => ?_)
          clear hK KK
          try simp only [Act.put, List.setIfInBounds_toArray, List.set_cons_zero, List.set_cons_succ]
          refine hand_take (i := 15) (v := .int .i64 (1 + m3)) rfl (by kernel_rfl) (by kernel_rfl) (by kernel_rfl) (fun _ _ _ h => h) (Or.inl ⟨by rfl, ?_⟩) (by assumption) ?_
          · intro wS hSw
            have hv := V3.out <;> (go_simp; try first | with_reducible rfl | simp only [*])
          try simp only [Act.put, List.setIfInBounds_toArray, List.set_cons_zero, List.set_cons_succ]
          refine wpAnyH_ready (rs := [18]) (by kernel_rfl) (by simp) ?_
          refine hand_cons rfl (fun KK hK => ?_) AllReadyH.nil
          go_simp
          go_at_call 41
          refine (Rname_any nm _ hnm).mono ?_
          rintro e w8 ⟨rfl, hb8⟩
          rw [N1.out]
          have HB8 := Lib.hid (hHeld.out.trans (hb8.mono hHeld.out.size))
          have zB8 := HB8.out.size
          have GZ8 := Lib.hid (GZ.out.up hb8)
          clear hb8
          go_wp2_with fail
          refine hK.out _ _ (HB8) (fun hHeld => ?_)
          clear hK KK
          try simp only [Act.put, List.setIfInBounds_toArray, List.set_cons_zero, List.set_cons_succ]
          refine wpAnyH_ready (rs := [21]) (by kernel_rfl) (by simp) ?_
          refine hand_cons rfl (fun KK hK => ?_) AllReadyH.nil
          go_simp
          go_at_call 41
          refine (Rname_any ot _ hot).mono ?_
          rintro e w9 ⟨rfl, hb9⟩
          rw [N2.out]
          have HB9 := Lib.hid (hHeld.out.trans (hb9.mono hHeld.out.size))
          have zB9 := HB9.out.size
          have GZ9 := Lib.hid (GZ8.out.up hb9)
          clear hb9
          go_wp2_with fail
          refine hK.out _ _ (HB9) (fun hHeld => ?_)
          clear hK KK
          try simp only [Act.put, List.setIfInBounds_toArray, List.set_cons_zero, List.set_cons_succ]
          refine wpAnyH_ready (rs := [24]) (by kernel_rfl) (by simp) ?_
          refine hand_cons rfl (fun KK hK => ?_) AllReadyH.nil
          go_simp
          go_at_call 40
          refine (Rmod_any ty 6 _ hty (by decide)).mono ?_
          rintro e w7 ⟨rfl, hw7⟩
          rw [M4.out]
          subst w7
          go_wp2_with fail
          refine hK.out _ _ (hHeld) (fun hHeld => ?_)
          clear hK KK
          try simp only [Act.put, List.setIfInBounds_toArray, List.set_cons_zero, List.set_cons_succ]
          refine hand_take (i := 25) (v := .int .i64 (1 + m4)) rfl (by kernel_rfl) (by kernel_rfl) (by kernel_rfl) (fun _ _ _ h => h) (Or.inl ⟨by rfl, ?_⟩) (by assumption) ?_
          · intro wS hSw
            have hv := V4.out <;> (go_simp; try first | with_reducible rfl | simp only [*])
          try simp only [Act.put, List.setIfInBounds_toArray, List.set_cons_zero, List.set_cons_succ]
          refine wpAnyH_ready (rs := [30]) (by kernel_rfl) (by simp) ?_
          refine hand_cons rfl (fun KK hK => ?_) AllReadyH.nil
          go_simp
          go_at_call 40
          refine (Rmod_any pa x _ hpa hx1).mono ?_
          rintro e w7 ⟨rfl, hw7⟩
          rw [M5.out]
          subst w7
          go_wp2_with fail
          refine hK.out _ _ (hHeld) (fun hHeld => ?_)
          clear hK KK
          try simp only [Act.put, List.setIfInBounds_toArray, List.set_cons_zero, List.set_cons_succ]
          refine hand_take (i := 33) (v := .agg #[.int .i64 (1 + m1), .int .i64 (1 + m2), .int .i64 (1 + m3), .string n1, .string n2, .int .i64 (1 + m4), .int .i64 m5, .string sep]) rfl (by kernel_rfl) (by kernel_rfl) (by kernel_rfl) (fun _ _ _ h => h) (Or.inl ⟨by rfl, ?_⟩) (by assumption) ?_
          · intro wS hSw
            go_simp
            try first | with_reducible rfl | simp only [*]
          try simp only [Act.put, List.setIfInBounds_toArray, List.set_cons_zero, List.set_cons_succ]
          refine wpAnyH_ready (rs := [35]) (by kernel_rfl) (by simp) ?_
          refine hand_cons rfl (fun KK hK => ?_) AllReadyH.nil
          refine step_store_cb rfl 24 (.tmp 5) (.tmp 39) rfl W1.heap.size [.int .i64 (1 + m1), .int .i64 (1 + m2), .int .i64 (1 + m3), .string n1, .string n2, .int .i64 (1 + m4), .int .i64 m5, .string sep] rfl rfl 24 [.int .i64 0, .int .i64 0, .int .i64 0, .string ⟨#[]⟩, .string ⟨#[]⟩, .int .i64 0, .int .i64 0, .string ⟨#[]⟩] 8 GZ9.out sizeC rfl rfl (one_c _ _ _ _ _ _ _ _) ?_
          intro wz hcz hgz hzz
          have HBZ := Lib.hid (below_grown hHeld.out hgz hHeld.out.size (by omega))
          refine hK.out _ _ (HBZ) (fun hHeld => ?_)
          clear hK KK
          try simp only [Act.put]
          refine wpAnyH_done (by kernel_rfl) ?_ _
          go_wp2_with fail
          go_meet
          exact ⟨_, rfl, by omega, Lib.hid hcz, Lib.hid (zB.out.trans (HBZ.out.mono (by omega)))⟩
      · go_simp
        have GZ := Lib.hid (CB.new W1 24 [.int .i64 0, .int .i64 0, .int .i64 0, .string ⟨#[]⟩, .string ⟨#[]⟩, .int .i64 0, .int .i64 0, .string ⟨#[]⟩])
        have HBA := Lib.hid (al_up (o := .cells #[.int .i64 0, .int .i64 0, .int .i64 0, .string ⟨#[]⟩, .string ⟨#[]⟩, .int .i64 0, .int .i64 0, .string ⟨#[]⟩] 24) hHeld.out)
        refine hK.out _ _ (HBA) (fun hHeld => ?_)
        clear hK KK
        try simp only [Act.put, List.setIfInBounds_toArray, List.set_cons_zero, List.set_cons_succ]
        refine wpAnyH_ready (rs := [8]) (by kernel_rfl) (by simp) ?_
        refine hand_cons rfl (fun KK hK => ?_) AllReadyH.nil
        go_simp
        go_at_call 40
        refine (Rmod_any id x _ hid hx1).mono ?_
        rintro e w7 ⟨rfl, hw7⟩
        rw [M2.out]
        subst w7
        go_wp2_with fail
        refine hK.out _ _ (hHeld) (fun hHeld => ?_)
        clear hK KK
        try simp only [Act.put, List.setIfInBounds_toArray, List.set_cons_zero, List.set_cons_succ]
        refine hand_take (i := 9) (v := .int .i64 (1 + m2)) rfl (by kernel_rfl) (by kernel_rfl) (by kernel_rfl) (fun _ _ _ h => h) (Or.inl ⟨by rfl, ?_⟩) (by assumption) ?_
        · intro wS hSw
          have hv := V2.out <;> (go_simp; try first | with_reducible rfl | simp only [*])
        try simp only [Act.put, List.setIfInBounds_toArray, List.set_cons_zero, List.set_cons_succ]
        refine wpAnyH_ready (rs := [14]) (by kernel_rfl) (by simp) ?_
        refine hand_cons rfl (fun KK hK => ?_) AllReadyH.nil
        go_simp
        go_at_call 40
        refine (Rmod_any wi x _ hwi hx1).mono ?_
        rintro e w7 ⟨rfl, hw7⟩
        rw [M3.out]
        subst w7
        go_wp2_with fail
        refine hK.out _ _ (hHeld) (fun hHeld => ?_)
        clear hK KK
        try simp only [Act.put, List.setIfInBounds_toArray, List.set_cons_zero, List.set_cons_succ]
        refine hand_take (i := 15) (v := .int .i64 (1 + m3)) rfl (by kernel_rfl) (by kernel_rfl) (by kernel_rfl) (fun _ _ _ h => h) (Or.inl ⟨by rfl, ?_⟩) (by assumption) ?_
        · intro wS hSw
          have hv := V3.out <;> (go_simp; try first | with_reducible rfl | simp only [*])
        try simp only [Act.put, List.setIfInBounds_toArray, List.set_cons_zero, List.set_cons_succ]
        refine wpAnyH_ready (rs := [18]) (by kernel_rfl) (by simp) ?_
        refine hand_cons rfl (fun KK hK => ?_) AllReadyH.nil
        go_simp
        go_at_call 41
        refine (Rname_any nm _ hnm).mono ?_
        rintro e w8 ⟨rfl, hb8⟩
        rw [N1.out]
        have HB8 := Lib.hid (hHeld.out.trans (hb8.mono hHeld.out.size))
        have zB8 := HB8.out.size
        have GZ8 := Lib.hid (GZ.out.up hb8)
        clear hb8
        go_wp2_with fail
        refine hK.out _ _ (HB8) (fun hHeld => ?_)
        clear hK KK
        try simp only [Act.put, List.setIfInBounds_toArray, List.set_cons_zero, List.set_cons_succ]
        refine wpAnyH_ready (rs := [21]) (by kernel_rfl) (by simp) ?_
        refine hand_cons rfl (fun KK hK => ?_) AllReadyH.nil
        go_simp
        go_at_call 41
        refine (Rname_any ot _ hot).mono ?_
        rintro e w9 ⟨rfl, hb9⟩
        rw [N2.out]
        have HB9 := Lib.hid (hHeld.out.trans (hb9.mono hHeld.out.size))
        have zB9 := HB9.out.size
        have GZ9 := Lib.hid (GZ8.out.up hb9)
        clear hb9
        go_wp2_with fail
        refine hK.out _ _ (HB9) (fun hHeld => ?_)
        clear hK KK
        try simp only [Act.put, List.setIfInBounds_toArray, List.set_cons_zero, List.set_cons_succ]
        refine wpAnyH_ready (rs := [24]) (by kernel_rfl) (by simp) ?_
        refine hand_cons rfl (fun KK hK => ?_) AllReadyH.nil
        go_simp
        go_at_call 40
        refine (Rmod_any ty 6 _ hty (by decide)).mono ?_
        rintro e w7 ⟨rfl, hw7⟩
        rw [M4.out]
        subst w7
        go_wp2_with fail
        refine hK.out _ _ (hHeld) (fun hHeld => ?_)
        clear hK KK
        try simp only [Act.put, List.setIfInBounds_toArray, List.set_cons_zero, List.set_cons_succ]
        refine hand_take (i := 25) (v := .int .i64 (1 + m4)) rfl (by kernel_rfl) (by kernel_rfl) (by kernel_rfl) (fun _ _ _ h => h) (Or.inl ⟨by rfl, ?_⟩) (by assumption) ?_
        · intro wS hSw
          have hv := V4.out <;> (go_simp; try first | with_reducible rfl | simp only [*])
        try simp only [Act.put, List.setIfInBounds_toArray, List.set_cons_zero, List.set_cons_succ]
        refine wpAnyH_ready (rs := [30]) (by kernel_rfl) (by simp) ?_
        refine hand_cons rfl (fun KK hK => ?_) AllReadyH.nil
        go_simp
        go_at_call 40
        refine (Rmod_any pa x _ hpa hx1).mono ?_
        rintro e w7 ⟨rfl, hw7⟩
        rw [M5.out]
        subst w7
        go_wp2_with fail
        refine hK.out _ _ (hHeld) (fun hHeld => ?_)
        clear hK KK
        try simp only [Act.put, List.setIfInBounds_toArray, List.set_cons_zero, List.set_cons_succ]
        refine hand_take (i := 33) (v := .agg #[.int .i64 (1 + m1), .int .i64 (1 + m2), .int .i64 (1 + m3), .string n1, .string n2, .int .i64 (1 + m4), .int .i64 m5, .string sep]) rfl (by kernel_rfl) (by kernel_rfl) (by kernel_rfl) (fun _ _ _ h => h) (Or.inl ⟨by rfl, ?_⟩) (by assumption) ?_
        · intro wS hSw
          go_simp
          try first | with_reducible rfl | simp only [*]
        try simp only [Act.put, List.setIfInBounds_toArray, List.set_cons_zero, List.set_cons_succ]
        refine wpAnyH_ready (rs := [35]) (by kernel_rfl) (by simp) ?_
        refine hand_cons rfl (fun KK hK => ?_) AllReadyH.nil
        refine step_store_cb rfl 24 (.tmp 5) (.tmp 39) rfl W1.heap.size [.int .i64 (1 + m1), .int .i64 (1 + m2), .int .i64 (1 + m3), .string n1, .string n2, .int .i64 (1 + m4), .int .i64 m5, .string sep] rfl rfl 24 [.int .i64 0, .int .i64 0, .int .i64 0, .string ⟨#[]⟩, .string ⟨#[]⟩, .int .i64 0, .int .i64 0, .string ⟨#[]⟩] 8 GZ9.out sizeC rfl rfl (one_c _ _ _ _ _ _ _ _) ?_
        intro wz hcz hgz hzz
        have HBZ := Lib.hid (below_grown hHeld.out hgz hHeld.out.size (by omega))
        refine hK.out _ _ (HBZ) (fun hHeld => ?_)
        clear hK KK
        try simp only [Act.put]
        refine wpAnyH_done (by kernel_rfl) ?_ _
        go_wp2_with fail
        go_meet
        exact ⟨_, rfl, by omega, Lib.hid hcz, Lib.hid (zB.out.trans (HBZ.out.mono (by omega)))⟩
    · go_simp
      have GZ := Lib.hid (CB.new W1 24 [.int .i64 0, .int .i64 0, .int .i64 0, .string ⟨#[]⟩, .string ⟨#[]⟩, .int .i64 0, .int .i64 0, .string ⟨#[]⟩])
      have HBA := Lib.hid (al_up (o := .cells #[.int .i64 0, .int .i64 0, .int .i64 0, .string ⟨#[]⟩, .string ⟨#[]⟩, .int .i64 0, .int .i64 0, .string ⟨#[]⟩] 24) hHeld.out)
      refine hK.out _ _ (HBA) (fun hHeld => ?_)
      clear hK KK
      try simp only [Act.put, List.setIfInBounds_toArray, List.set_cons_zero, List.set_cons_succ]
      refine wpAnyH_ready (rs := [2]) (by kernel_rfl) (by simp) ?_
      refine hand_cons rfl (fun KK hK => ?_) AllReadyH.nil
      go_simp
      go_at_call 40
      refine (Rmod_any kd 7 _ hkd (by decide)).mono ?_
      rintro e w7 ⟨rfl, hw7⟩
      rw [M1.out]
      subst w7
      go_wp2_with fail
      refine hK.out _ _ (hHeld) (fun hHeld => ?_)
      clear hK KK
      try simp only [Act.put, List.setIfInBounds_toArray, List.set_cons_zero, List.set_cons_succ]
      refine hand_take (i := 3) (v := .int .i64 (1 + m1)) rfl (by kernel_rfl) (by kernel_rfl) (by kernel_rfl) (fun _ _ _ h => h) (Or.inl ⟨by rfl, ?_⟩) (by assumption) ?_
      · intro wS hSw
        have hv := V1.out <;> (go_simp; try first | with_reducible rfl | simp only [*])
      try simp only [Act.put, List.setIfInBounds_toArray, List.set_cons_zero, List.set_cons_succ]
      refine wpAnyH_ready (rs := [8]) (by kernel_rfl) (by simp) ?_
      refine hand_cons rfl (fun KK hK => ?_) AllReadyH.nil
      go_simp
      go_at_call 40
      refine (Rmod_any id x _ hid hx1).mono ?_
      rintro e w7 ⟨rfl, hw7⟩
      rw [M2.out]
      subst w7
      go_wp2_with fail
      refine hK.out _ _ (hHeld) (fun hHeld => ?_)
      clear hK KK
      try simp only [Act.put, List.setIfInBounds_toArray, List.set_cons_zero, List.set_cons_succ]
      refine hand_take (i := 9) (v := .int .i64 (1 + m2)) rfl (by kernel_rfl) (by kernel_rfl) (by kernel_rfl) (fun _ _ _ h => h) (Or.inl ⟨by rfl, ?_⟩) (by assumption) ?_
      · intro wS hSw
        have hv := V2.out <;> (go_simp; try first | with_reducible rfl | simp only [*])
      try simp only [Act.put, List.setIfInBounds_toArray, List.set_cons_zero, List.set_cons_succ]
      refine wpAnyH_ready (rs := [14]) (by kernel_rfl) (by simp) ?_
      refine hand_cons rfl (fun KK hK => ?_) AllReadyH.nil
      go_simp
      go_at_call 40
      refine (Rmod_any wi x _ hwi hx1).mono ?_
      rintro e w7 ⟨rfl, hw7⟩
      rw [M3.out]
      subst w7
      go_wp2_with fail
      refine hK.out _ _ (hHeld) (fun hHeld => ?_)
      clear hK KK
      try simp only [Act.put, List.setIfInBounds_toArray, List.set_cons_zero, List.set_cons_succ]
      refine hand_take (i := 15) (v := .int .i64 (1 + m3)) rfl (by kernel_rfl) (by kernel_rfl) (by kernel_rfl) (fun _ _ _ h => h) (Or.inl ⟨by rfl, ?_⟩) (by assumption) ?_
      · intro wS hSw
        have hv := V3.out <;> (go_simp; try first | with_reducible rfl | simp only [*])
      try simp only [Act.put, List.setIfInBounds_toArray, List.set_cons_zero, List.set_cons_succ]
      refine wpAnyH_ready (rs := [18]) (by kernel_rfl) (by simp) ?_
      refine hand_cons rfl (fun KK hK => ?_) AllReadyH.nil
      go_simp
      go_at_call 41
      refine (Rname_any nm _ hnm).mono ?_
      rintro e w8 ⟨rfl, hb8⟩
      rw [N1.out]
      have HB8 := Lib.hid (hHeld.out.trans (hb8.mono hHeld.out.size))
      have zB8 := HB8.out.size
      have GZ8 := Lib.hid (GZ.out.up hb8)
      clear hb8
      go_wp2_with fail
      refine hK.out _ _ (HB8) (fun hHeld => ?_)
      clear hK KK
      try simp only [Act.put, List.setIfInBounds_toArray, List.set_cons_zero, List.set_cons_succ]
      refine wpAnyH_ready (rs := [21]) (by kernel_rfl) (by simp) ?_
      refine hand_cons rfl (fun KK hK => ?_) AllReadyH.nil
      go_simp
      go_at_call 41
      refine (Rname_any ot _ hot).mono ?_
      rintro e w9 ⟨rfl, hb9⟩
      rw [N2.out]
      have HB9 := Lib.hid (hHeld.out.trans (hb9.mono hHeld.out.size))
      have zB9 := HB9.out.size
      have GZ9 := Lib.hid (GZ8.out.up hb9)
      clear hb9
      go_wp2_with fail
      refine hK.out _ _ (HB9) (fun hHeld => ?_)
      clear hK KK
      try simp only [Act.put, List.setIfInBounds_toArray, List.set_cons_zero, List.set_cons_succ]
      refine wpAnyH_ready (rs := [24]) (by kernel_rfl) (by simp) ?_
      refine hand_cons rfl (fun KK hK => ?_) AllReadyH.nil
      go_simp
      go_at_call 40
      refine (Rmod_any ty 6 _ hty (by decide)).mono ?_
      rintro e w7 ⟨rfl, hw7⟩
      rw [M4.out]
      subst w7
      go_wp2_with fail
      refine hK.out _ _ (hHeld) (fun hHeld => ?_)
      clear hK KK
      try simp only [Act.put, List.setIfInBounds_toArray, List.set_cons_zero, List.set_cons_succ]
      refine hand_take (i := 25) (v := .int .i64 (1 + m4)) rfl (by kernel_rfl) (by kernel_rfl) (by kernel_rfl) (fun _ _ _ h => h) (Or.inl ⟨by rfl, ?_⟩) (by assumption) ?_
      · intro wS hSw
        have hv := V4.out <;> (go_simp; try first | with_reducible rfl | simp only [*])
      try simp only [Act.put, List.setIfInBounds_toArray, List.set_cons_zero, List.set_cons_succ]
      refine wpAnyH_ready (rs := [30]) (by kernel_rfl) (by simp) ?_
      refine hand_cons rfl (fun KK hK => ?_) AllReadyH.nil
      go_simp
      go_at_call 40
      refine (Rmod_any pa x _ hpa hx1).mono ?_
      rintro e w7 ⟨rfl, hw7⟩
      rw [M5.out]
      subst w7
      go_wp2_with fail
      refine hK.out _ _ (hHeld) (fun hHeld => ?_)
      clear hK KK
      try simp only [Act.put, List.setIfInBounds_toArray, List.set_cons_zero, List.set_cons_succ]
      refine hand_take (i := 33) (v := .agg #[.int .i64 (1 + m1), .int .i64 (1 + m2), .int .i64 (1 + m3), .string n1, .string n2, .int .i64 (1 + m4), .int .i64 m5, .string sep]) rfl (by kernel_rfl) (by kernel_rfl) (by kernel_rfl) (fun _ _ _ h => h) (Or.inl ⟨by rfl, ?_⟩) (by assumption) ?_
      · intro wS hSw
        go_simp
        try first | with_reducible rfl | simp only [*]
      try simp only [Act.put, List.setIfInBounds_toArray, List.set_cons_zero, List.set_cons_succ]
      refine wpAnyH_ready (rs := [35]) (by kernel_rfl) (by simp) ?_
      refine hand_cons rfl (fun KK hK => ?_) AllReadyH.nil
      refine step_store_cb rfl 24 (.tmp 5) (.tmp 39) rfl W1.heap.size [.int .i64 (1 + m1), .int .i64 (1 + m2), .int .i64 (1 + m3), .string n1, .string n2, .int .i64 (1 + m4), .int .i64 m5, .string sep] rfl rfl 24 [.int .i64 0, .int .i64 0, .int .i64 0, .string ⟨#[]⟩, .string ⟨#[]⟩, .int .i64 0, .int .i64 0, .string ⟨#[]⟩] 8 GZ9.out sizeC rfl rfl (one_c _ _ _ _ _ _ _ _) ?_
      intro wz hcz hgz hzz
      have HBZ := Lib.hid (below_grown hHeld.out hgz hHeld.out.size (by omega))
      refine hK.out _ _ (HBZ) (fun hHeld => ?_)
      clear hK KK
      try simp only [Act.put]
      refine wpAnyH_done (by kernel_rfl) ?_ _
      go_wp2_with fail
      go_meet
      exact ⟨_, rfl, by omega, Lib.hid hcz, Lib.hid (zB.out.trans (HBZ.out.mono (by omega)))⟩
  case rest =>
    obtain ⟨g, rfl, hge, Z2, hbz⟩ := hcut
    have B2 := Lib.hid (below_step B0.out B0.out.size hbz.out)
    have S2 := Lib.hid (S0.out.up hbz.out)
    have C2 := Lib.hid (C0.out.up hbz.out)
    have R2 := Lib.hid (R0.out.up hbz.out)
    have zR0 := R0.out.lt
    have c27 := C2.out.cell 7 rfl
    have s20 := S2.out.cell 0 rfl
    have s21 := S2.out.cell 1 rfl
    have z26 := Z2.out.cell 6 rfl
    have z27 := Z2.out.cell 7 rfl
    have f27 := Z2.out.frozen 7
    have zg2 := Z2.out.lt
    have zS2 := S2.out.lt
    have zC2 := C2.out.lt
    have zR2 := R2.out.lt
    clear hbz
    have ng0 : ¬ w.heap.size = g := by omega
    have ng1 : ¬ w.heap.size + 1 = g := by omega
    have ng2 : ¬ w.heap.size + 1 + 1 = g := by omega
    have ng3 : ¬ g = w.heap.size := by omega
    have ng4 : ¬ g = w.heap.size + 1 := by omega
    have ng5 : ¬ g = w.heap.size + 1 + 1 := by omega
    cases bS with
    | true =>
      cases bG with
      | true =>
        have Z3 : Hid (CB wc g 24 [.int .i64 (1 + m1), .int .i64 (1 + m2), .int .i64 (1 + m3), .string n1, .string n2, .int .i64 (1 + m4), .int .i64 m5, .string sep]) := Z2
        have S3 : Hid (CB wc w.heap.size 30 [.slice A n c, .int .i64 x]) := S2
        have R3 : Hid (CB wc (w.heap.size + 1 + 1) 24 [.int .i64 0, .int .i64 0, .int .i64 0, .string ⟨#[]⟩, .string ⟨#[]⟩, .int .i64 0, .int .i64 0, .string ⟨#[]⟩]) := R2
        have B3 : Hid (Below w.heap.size w wc) := B2
        have zg3 := Z3.out.lt
        have zS3 := S3.out.lt
        go_wp2_with (first | (go_at_call 42; refine (RSep_any sep _ _ HP.out hsep).mono ?_; rintro e w7 ⟨rfl, hw7⟩; subst w7) | (go_at_call 43; refine (Rgroup_any A n c x l m5 _ HN.out (HS.out.up B3.out) hl2).mono ?_; rintro e w8 ⟨rfl, hb8⟩; rw [HG.out]; have Z8 := Lib.hid (Z3.out.up hb8); have R8 := Lib.hid (R3.out.up hb8); have B8 := Lib.hid (below_step B3.out B3.out.size hb8); have z80 := Z8.out.cell 0 rfl; have z81 := Z8.out.cell 1 rfl; have z82 := Z8.out.cell 2 rfl; have z83 := Z8.out.cell 3 rfl; have z84 := Z8.out.cell 4 rfl; have z85 := Z8.out.cell 5 rfl; have z86 := Z8.out.cell 6 rfl; have z87 := Z8.out.cell 7 rfl; have f86 := Z8.out.frozen 6; have zg8 := Z8.out.lt; have zR8 := R8.out.lt; clear hb8) | ((with_reducible show wpList _ _ _ (Oper.mk none (.store _ _ _) _ _ _ _ :: _) _ _); refine wpList_store_cb rfl 24 (.tmp 4) (.tmp 51) rfl (w.heap.size + 1 + 1) [.int .i64 (1 + m1), .int .i64 (1 + m2), .int .i64 (1 + m3), .string n1, .string n2, .int .i64 (1 + m4), .int .i64 m5, .string sep] rfl rfl 24 [.int .i64 0, .int .i64 0, .int .i64 0, .string ⟨#[]⟩, .string ⟨#[]⟩, .int .i64 0, .int .i64 0, .string ⟨#[]⟩] 8 (R8.out) sizeC rfl rfl (one_c _ _ _ _ _ _ _ _) ?_; intro wz hcz hgz hzz))
        refine bodyPost_ret (res_cell1 Try.results16 rfl hcz Try.underlying24 sizeC rfl) rfl ⟨?_, below_grown B8.out hgz (by omega) (by omega)⟩
        rw [HE.out]
        rfl
      | false =>
        have Z3 : Hid (CB wc g 24 [.int .i64 (1 + m1), .int .i64 (1 + m2), .int .i64 (1 + m3), .string n1, .string n2, .int .i64 (1 + m4), .int .i64 m5, .string sep]) := Z2
        have S3 : Hid (CB wc w.heap.size 30 [.slice A n c, .int .i64 x]) := S2
        have R3 : Hid (CB wc (w.heap.size + 1 + 1) 24 [.int .i64 0, .int .i64 0, .int .i64 0, .string ⟨#[]⟩, .string ⟨#[]⟩, .int .i64 0, .int .i64 0, .string ⟨#[]⟩]) := R2
        have B3 : Hid (Below w.heap.size w wc) := B2
        have zg3 := Z3.out.lt
        have zS3 := S3.out.lt
        go_wp2_with (first | (go_at_call 42; refine (RSep_any sep _ _ HP.out hsep).mono ?_; rintro e w7 ⟨rfl, hw7⟩; subst w7) | (go_at_call 43; refine (Rgroup_any A n c x l m5 _ HN.out (HS.out.up B3.out) hl2).mono ?_; rintro e w8 ⟨rfl, hb8⟩; rw [HG.out]; have Z8 := Lib.hid (Z3.out.up hb8); have R8 := Lib.hid (R3.out.up hb8); have B8 := Lib.hid (below_step B3.out B3.out.size hb8); have z80 := Z8.out.cell 0 rfl; have z81 := Z8.out.cell 1 rfl; have z82 := Z8.out.cell 2 rfl; have z83 := Z8.out.cell 3 rfl; have z84 := Z8.out.cell 4 rfl; have z85 := Z8.out.cell 5 rfl; have z86 := Z8.out.cell 6 rfl; have z87 := Z8.out.cell 7 rfl; have f86 := Z8.out.frozen 6; have zg8 := Z8.out.lt; have zR8 := R8.out.lt; clear hb8) | ((with_reducible show wpList _ _ _ (Oper.mk none (.store _ _ _) _ _ _ _ :: _) _ _); refine wpList_store_cb rfl 24 (.tmp 4) (.tmp 51) rfl (w.heap.size + 1 + 1) [.int .i64 (1 + m1), .int .i64 (1 + m2), .int .i64 (1 + m3), .string n1, .string n2, .int .i64 (1 + m4), .int .i64 0, .string sep] rfl rfl 24 [.int .i64 0, .int .i64 0, .int .i64 0, .string ⟨#[]⟩, .string ⟨#[]⟩, .int .i64 0, .int .i64 0, .string ⟨#[]⟩] 8 (R8.out.set_other 6 _ (by omega)) sizeC rfl rfl (one_c _ _ _ _ _ _ _ _) ?_; intro wz hcz hgz hzz))
        refine bodyPost_ret (res_cell1 Try.results16 rfl hcz Try.underlying24 sizeC rfl) rfl ⟨?_, below_grown (B8.out.setCell (p := ⟨g, 6, none⟩) (by show w.heap.size ≤ g; omega) _) hgz (B8.out.setCell (p := ⟨g, 6, none⟩) (by show w.heap.size ≤ g; omega) _).size (by omega)⟩
        rw [HE.out]
        rfl
    | false =>
      cases bG with
      | true =>
        have Z3 : Hid (CB (wc.setCell ⟨g, 7, none⟩ (.string ⟨#[45]⟩)) g 24 [.int .i64 (1 + m1), .int .i64 (1 + m2), .int .i64 (1 + m3), .string n1, .string n2, .int .i64 (1 + m4), .int .i64 m5, .string ⟨#[45]⟩]) := Lib.hid (Z2.out.set_ 7 _)
        have S3 : Hid (CB (wc.setCell ⟨g, 7, none⟩ (.string ⟨#[45]⟩)) w.heap.size 30 [.slice A n c, .int .i64 x]) := Lib.hid (S2.out.set_other 7 _ (by omega))
        have R3 : Hid (CB (wc.setCell ⟨g, 7, none⟩ (.string ⟨#[45]⟩)) (w.heap.size + 1 + 1) 24 [.int .i64 0, .int .i64 0, .int .i64 0, .string ⟨#[]⟩, .string ⟨#[]⟩, .int .i64 0, .int .i64 0, .string ⟨#[]⟩]) := Lib.hid (R2.out.set_other 7 _ (by omega))
        have B3 : Hid (Below w.heap.size w (wc.setCell ⟨g, 7, none⟩ (.string ⟨#[45]⟩))) := Lib.hid (B2.out.setCell (p := ⟨g, 7, none⟩) (by show w.heap.size ≤ g; omega) _)
        have zg3 := Z3.out.lt
        have zS3 := S3.out.lt
        go_wp2_with (first | (go_at_call 42; refine (RSep_any sep _ _ HP.out hsep).mono ?_; rintro e w7 ⟨rfl, hw7⟩; subst w7) | (go_at_call 43; refine (Rgroup_any A n c x l m5 _ HN.out (HS.out.up B3.out) hl2).mono ?_; rintro e w8 ⟨rfl, hb8⟩; rw [HG.out]; have Z8 := Lib.hid (Z3.out.up hb8); have R8 := Lib.hid (R3.out.up hb8); have B8 := Lib.hid (below_step B3.out B3.out.size hb8); have z80 := Z8.out.cell 0 rfl; have z81 := Z8.out.cell 1 rfl; have z82 := Z8.out.cell 2 rfl; have z83 := Z8.out.cell 3 rfl; have z84 := Z8.out.cell 4 rfl; have z85 := Z8.out.cell 5 rfl; have z86 := Z8.out.cell 6 rfl; have z87 := Z8.out.cell 7 rfl; have f86 := Z8.out.frozen 6; have zg8 := Z8.out.lt; have zR8 := R8.out.lt; clear hb8) | ((with_reducible show wpList _ _ _ (Oper.mk none (.store _ _ _) _ _ _ _ :: _) _ _); refine wpList_store_cb rfl 24 (.tmp 4) (.tmp 51) rfl (w.heap.size + 1 + 1) [.int .i64 (1 + m1), .int .i64 (1 + m2), .int .i64 (1 + m3), .string n1, .string n2, .int .i64 (1 + m4), .int .i64 m5, .string ⟨#[45]⟩] rfl rfl 24 [.int .i64 0, .int .i64 0, .int .i64 0, .string ⟨#[]⟩, .string ⟨#[]⟩, .int .i64 0, .int .i64 0, .string ⟨#[]⟩] 8 (R8.out) sizeC rfl rfl (one_c _ _ _ _ _ _ _ _) ?_; intro wz hcz hgz hzz))
        refine bodyPost_ret (res_cell1 Try.results16 rfl hcz Try.underlying24 sizeC rfl) rfl ⟨?_, below_grown B8.out hgz (by omega) (by omega)⟩
        rw [HE.out]
        rfl
      | false =>
        have Z3 : Hid (CB (wc.setCell ⟨g, 7, none⟩ (.string ⟨#[45]⟩)) g 24 [.int .i64 (1 + m1), .int .i64 (1 + m2), .int .i64 (1 + m3), .string n1, .string n2, .int .i64 (1 + m4), .int .i64 m5, .string ⟨#[45]⟩]) := Lib.hid (Z2.out.set_ 7 _)
        have S3 : Hid (CB (wc.setCell ⟨g, 7, none⟩ (.string ⟨#[45]⟩)) w.heap.size 30 [.slice A n c, .int .i64 x]) := Lib.hid (S2.out.set_other 7 _ (by omega))
        have R3 : Hid (CB (wc.setCell ⟨g, 7, none⟩ (.string ⟨#[45]⟩)) (w.heap.size + 1 + 1) 24 [.int .i64 0, .int .i64 0, .int .i64 0, .string ⟨#[]⟩, .string ⟨#[]⟩, .int .i64 0, .int .i64 0, .string ⟨#[]⟩]) := Lib.hid (R2.out.set_other 7 _ (by omega))
        have B3 : Hid (Below w.heap.size w (wc.setCell ⟨g, 7, none⟩ (.string ⟨#[45]⟩))) := Lib.hid (B2.out.setCell (p := ⟨g, 7, none⟩) (by show w.heap.size ≤ g; omega) _)
        have zg3 := Z3.out.lt
        have zS3 := S3.out.lt
        go_wp2_with (first | (go_at_call 42; refine (RSep_any sep _ _ HP.out hsep).mono ?_; rintro e w7 ⟨rfl, hw7⟩; subst w7) | (go_at_call 43; refine (Rgroup_any A n c x l m5 _ HN.out (HS.out.up B3.out) hl2).mono ?_; rintro e w8 ⟨rfl, hb8⟩; rw [HG.out]; have Z8 := Lib.hid (Z3.out.up hb8); have R8 := Lib.hid (R3.out.up hb8); have B8 := Lib.hid (below_step B3.out B3.out.size hb8); have z80 := Z8.out.cell 0 rfl; have z81 := Z8.out.cell 1 rfl; have z82 := Z8.out.cell 2 rfl; have z83 := Z8.out.cell 3 rfl; have z84 := Z8.out.cell 4 rfl; have z85 := Z8.out.cell 5 rfl; have z86 := Z8.out.cell 6 rfl; have z87 := Z8.out.cell 7 rfl; have f86 := Z8.out.frozen 6; have zg8 := Z8.out.lt; have zR8 := R8.out.lt; clear hb8) | ((with_reducible show wpList _ _ _ (Oper.mk none (.store _ _ _) _ _ _ _ :: _) _ _); refine wpList_store_cb rfl 24 (.tmp 4) (.tmp 51) rfl (w.heap.size + 1 + 1) [.int .i64 (1 + m1), .int .i64 (1 + m2), .int .i64 (1 + m3), .string n1, .string n2, .int .i64 (1 + m4), .int .i64 0, .string ⟨#[45]⟩] rfl rfl 24 [.int .i64 0, .int .i64 0, .int .i64 0, .string ⟨#[]⟩, .string ⟨#[]⟩, .int .i64 0, .int .i64 0, .string ⟨#[]⟩] 8 (R8.out.set_other 6 _ (by omega)) sizeC rfl rfl (one_c _ _ _ _ _ _ _ _) ?_; intro wz hcz hgz hzz))
        refine bodyPost_ret (res_cell1 Try.results16 rfl hcz Try.underlying24 sizeC rfl) rfl ⟨?_, below_grown (B8.out.setCell (p := ⟨g, 6, none⟩) (by show w.heap.size ≤ g; omega) _) hgz (B8.out.setCell (p := ⟨g, 6, none⟩) (by show w.heap.size ≤ g; omega) _).size (by omega)⟩
        rw [HE.out]
        rfl
end Go.Proofs.Ytpgbpfdedpppeaa
