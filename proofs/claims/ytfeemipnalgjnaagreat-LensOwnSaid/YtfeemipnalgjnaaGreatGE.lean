/-
 Layer 6's contracts and plain theorems, texts of layer 6's own claims put together: RMod RChg RMde RAft.
-/
import Derived.Test.YtfeemipnalgjnaaGreatHd
import Derived.Test.YtfeemipnalgjnaaGreatGR
import Derived.Test.YtfeemipnalgjnaaGreatGD
import Derived.Test.YtfeemipnalgjnaaGreatGB
import Derived.Test.YtfeemipnalgjnaaGreatGC
import Derived.Test.YtfeemipnalgjnaaGreatHd
import Derived.Deep.CutRange
import Derived.IntWalk
import Derived.Deep.DeepCutAuto
namespace Go.Proofs.YtfeemipnalgjnaaGreat
open Go.RowKit

theorem w64_in (n : Int) (h : -9223372036854775808 ≤ n ∧ n ≤ 9223372036854775807) : wrap64 n = n := by unfold wrap64; omega
theorem RNew_any (w : World) : Calls Tryz.prog 45 #[] w fun e w' => e = .returned (.agg #[.slice none 0 0, .int .i64 1]) ∧ Below w.heap.size w w' := by
 have R0 := Li (CB.new w 35 [.slice none 0 0, .int .i64 0])
 have B0 := Li (al1 w (.cells #[.slice none 0 0, .int .i64 0] 35))
 go_enter Tryz.func45, Tryz.ntmps45
 go_wp2_with ((with_reducible show wpList _ _ _ (Oper.mk none (.store _ _ _) _ _ _ _ :: _) _ _); refine wpList_store_cb rfl 35 (.tmp 0) (.tmp 1) rfl (w.heap.size) [.slice none 0 0, .int .i64 1] rfl rfl 35 [.slice none 0 0, .int .i64 0] 2 R0.out sizeS rfl rfl (one_s _ _ _ _) ?_; intro wz hcz hgz hzz)
 refine bodyPost_ret (res_cell1 Tryz.results45 rfl hcz Tryz.underlying35 sizeS rfl) rfl ⟨rfl, below_grown B0.out hgz B0.out.size (by omega)⟩
theorem Rmod_any (x n : Int) (w : World) (_hx : (Lit.int .i64 x).wf = true) (hn : n ≤ 1073741824) :
  Calls Tryz.prog 49 #[.int .i64 x, .int .i64 n] w fun e w' => e = .returned (.int .i64 (modR x n)) ∧ w' = w := by
 unfold modR
 by_cases h : n ≤ 0
 ·
  rw [if_pos h]
  go_enter Tryz.func49, Tryz.ntmps49
  go_wp2
  go_ret
  exact ⟨rfl, rfl⟩
 ·
  rw [if_neg h]
  have h0 : 0 < n := by omega
  have h1 := Int.tmod_lt_of_pos x h0
  have h2 := Int.lt_tmod_of_pos x h0
  have hw := Li (w64_in (x.tmod n + n) (by omega))
  clear h1 h2
  go_enter Tryz.func49, Tryz.ntmps49
  go_wp2
  go_ret
  rw [hw.out]
  exact ⟨rfl, rfl⟩
theorem tm6 (n : Nat) : Int.tmod (n : Int) 6 = ((n % 6 : Nat) : Int) := by rw [Int.tmod_eq_emod_of_nonneg (by omega)]; omega
set_option maxHeartbeats 1000000 in
theorem Rname_any (s : ByteArray) (w : World) (hs : s.size ≤ 9223372036854775807) :
  Calls Tryz.prog 50 #[.string s] w fun e w' => e = .returned (.string (nameR s)) ∧ Below w.heap.size w w' := by
 unfold nameR
 obtain ⟨b, hb⟩ : ∃ b, namB s = b := ⟨_, rfl⟩
 have HB := Li hb
 rw [hb]
 clear hb
 by_cases hz : b = true ∧ s.size ≤ 4
 ·
  rw [if_pos hz]
  obtain ⟨rfl, hz⟩ := hz
  have hz' : (s.size : Int) ≤ 4 := by omega
  go_enter Tryz.func50, Tryz.ntmps50
  go_wp2_with (go_at_call 78; refine (RName_any _ _ hs).mono ?_; rintro e w7 ⟨rfl, rfl⟩; rw [HB.out])
  go_ret
  exact ⟨rfl, Below.refl _ _⟩
 ·
  rw [if_neg hz]
  have hz' : b = false ∨ (b = true ∧ ¬ (s.size : Int) ≤ 4) := by
   cases b
   ·
    exact .inl rfl
   ·
    exact .inr ⟨rfl, fun h => hz ⟨rfl, by omega⟩⟩
  clear hz
  have h6 : s.size % 6 = 0 ∨ s.size % 6 = 1 ∨ s.size % 6 = 2 ∨ s.size % 6 = 3 ∨ s.size % 6 = 4 ∨ s.size % 6 = 5 := by omega
  have e6 := tm6 s.size
  rcases h6 with h | h | h | h | h | h <;> rw [h] at e6 ⊢ <;> clear h <;> rcases hz' with rfl | ⟨rfl, hz'⟩
  all_goals
   go_enter Tryz.func50, Tryz.ntmps50
   go_wp2_with (go_at_call 78; refine (RName_any _ _ hs).mono ?_; rintro e w7 ⟨rfl, rfl⟩; rw [HB.out])
   go_ret
   exact ⟨rfl, al1 _ _⟩
end Go.Proofs.YtfeemipnalgjnaaGreat
namespace Go.Proofs.YtfeemipnalgjnaaGreat
open Go.RowKit

theorem mod_le (x : Int) {n : Int} (hn : n ≤ 1073741824) : 0 ≤ modR x n ∧ modR x n ≤ 1073741824 ∧ (0 < n → modR x n < n) := by
 unfold modR
 by_cases h : n ≤ 0
 ·
  rw [if_pos h]; omega
 ·
  rw [if_neg h]
  have h0 : 0 < n := by omega
  have h1 := Int.lt_tmod_of_pos x h0
  have h2 := Int.tmod_nonneg (a := x.tmod n + n) n (by omega)
  have h3 := Int.tmod_lt_of_pos (x.tmod n + n) h0
  omega
set_option maxHeartbeats 4000000 in
set_option maxRecDepth 20000 in
theorem RChange_any (A : Option Addr) (n c : Nat) (x : Int) (l : List Fd) (kd id wi : Int) (nm ot : ByteArray) (ty pa : Int) (sep : ByteArray) (w : World) (hn : n = l.length) (hs : Fds w w.heap.size A l) (hl2 : n ≤ 9223372036854775807) (hx1 : x ≤ 1073741824) (hnm : nm.size ≤ 9223372036854775807) (hot : ot.size ≤ 9223372036854775807) (hsep : sep.size ≤ 9223372036854775807) (hkd : (Lit.int .i64 kd).wf = true) (hid : (Lit.int .i64 id).wf = true) (hwi : (Lit.int .i64 wi).wf = true) (hty : (Lit.int .i64 ty).wf = true) (hpa : (Lit.int .i64 pa).wf = true) :
  Calls Tryz.prog 31 #[.agg #[.slice A n c, .int .i64 x], .agg #[.int .i64 kd, .int .i64 id, .int .i64 wi, .string nm, .string ot, .int .i64 ty, .int .i64 pa, .string sep]] w fun e w' => e = .returned (chgR ⟨l, x⟩ ⟨kd, id, wi, nm, ot, ty, pa, sep⟩).val ∧ Below w.heap.size w w' := by
 have HN := Li hn
 have HS := Li hs
 clear hn hs
 have hwr : ∀ y : Int, 0 ≤ y ∧ y ≤ 1073741824 → IntKind.i64.wrap (1 + y) = 1 + y := fun y hy => IntWalk.i64_in _ (by omega)
 obtain ⟨m1, hm1⟩ : ∃ m, modR kd 7 = m := ⟨_, rfl⟩
 obtain ⟨m2, hm2⟩ : ∃ m, modR id x = m := ⟨_, rfl⟩
 obtain ⟨m3, hm3⟩ : ∃ m, modR wi x = m := ⟨_, rfl⟩
 obtain ⟨m4, hm4⟩ : ∃ m, modR ty 6 = m := ⟨_, rfl⟩
 obtain ⟨m5, hm5⟩ : ∃ m, modR pa x = m := ⟨_, rfl⟩
 obtain ⟨n1, hn1⟩ : ∃ m, nameR nm = m := ⟨_, rfl⟩
 obtain ⟨n2, hn2⟩ : ∃ m, nameR ot = m := ⟨_, rfl⟩
 obtain ⟨bG, hbG⟩ : ∃ b, grpB l m5 = b := ⟨_, rfl⟩
 obtain ⟨bS, hbS⟩ : ∃ b, sepB sep = b := ⟨_, rfl⟩
 have W1' := hwr m1 (by have := mod_le kd (n := 7) (by decide); rw [hm1] at this; omega)
 have W2' := hwr m2 (by have := mod_le id hx1; rw [hm2] at this; omega)
 have W3' := hwr m3 (by have := mod_le wi hx1; rw [hm3] at this; omega)
 have W4' := hwr m4 (by have := mod_le ty (n := 6) (by decide); rw [hm4] at this; omega)
 have W5 := Li (trivial)
 have HE : Hid (chgR ⟨l, x⟩ ⟨kd, id, wi, nm, ot, ty, pa, sep⟩ = ⟨1 + m1, 1 + m2, 1 + m3, n1, n2, 1 + m4, if bG = true then m5 else 0, if bS = true then sep else ⟨#[45]⟩⟩) := by
  show _ = _
  unfold chgR
  simp only [hm1, hm2, hm3, hm4, hm5, hn1, hn2, hbG, hbS]
 have M1 := Li hm1
 have M2 := Li hm2
 have M3 := Li hm3
 have M4 := Li hm4
 have M5 := Li hm5
 have N1 := Li hn1
 have N2 := Li hn2
 have HG := Li hbG
 have HP := Li hbS
 have V1 := Li W1'
 have V2 := Li W2'
 have V3 := Li W3'
 have V4 := Li W4'
 clear hm1 hm2 hm3 hm4 hm5 hn1 hn2 hbG hbS W1' W2' W3' W4' hwr W5
 have hq1 := ((CB.new w 35 [.slice A n c, .int .i64 x]).alloc (.cells #[.int .i64 kd, .int .i64 id, .int .i64 wi, .string nm, .string ot, .int .i64 ty, .int .i64 pa, .string sep] 24)).alloc (.cells #[.int .i64 0, .int .i64 0, .int .i64 0, .string ⟨#[]⟩, .string ⟨#[]⟩, .int .i64 0, .int .i64 0, .string ⟨#[]⟩] 24)
 have hq2 := (CB.new1 w (.cells #[.slice A n c, .int .i64 x] 35) 24 [.int .i64 kd, .int .i64 id, .int .i64 wi, .string nm, .string ot, .int .i64 ty, .int .i64 pa, .string sep]).alloc (.cells #[.int .i64 0, .int .i64 0, .int .i64 0, .string ⟨#[]⟩, .string ⟨#[]⟩, .int .i64 0, .int .i64 0, .string ⟨#[]⟩] 24)
 have hq3 := CB.new2 w (.cells #[.slice A n c, .int .i64 x] 35) (.cells #[.int .i64 kd, .int .i64 id, .int .i64 wi, .string nm, .string ot, .int .i64 ty, .int .i64 pa, .string sep] 24) 24 [.int .i64 0, .int .i64 0, .int .i64 0, .string ⟨#[]⟩, .string ⟨#[]⟩, .int .i64 0, .int .i64 0, .string ⟨#[]⟩]
 have hqb := al3 w (.cells #[.slice A n c, .int .i64 x] 35) (.cells #[.int .i64 kd, .int .i64 id, .int .i64 wi, .string nm, .string ot, .int .i64 ty, .int .i64 pa, .string sep] 24) (.cells #[.int .i64 0, .int .i64 0, .int .i64 0, .string ⟨#[]⟩, .string ⟨#[]⟩, .int .i64 0, .int .i64 0, .string ⟨#[]⟩] 24)
 go_enter Tryz.func31, Tryz.ntmps31
 go_upto_region 1 with fail
 generalize ((w.alloc (.cells #[.slice A n c, .int .i64 x] 35)).alloc (.cells #[.int .i64 kd, .int .i64 id, .int .i64 wi, .string nm, .string ot, .int .i64 ty, .int .i64 pa, .string sep] 24)).alloc (.cells #[.int .i64 0, .int .i64 0, .int .i64 0, .string ⟨#[]⟩, .string ⟨#[]⟩, .int .i64 0, .int .i64 0, .string ⟨#[]⟩] 24) = W0 at *
 have S0 := Li hq1
 have C0 := Li hq2
 have R0 := Li hq3
 have B0 := Li hqb
 clear hq1 hq2 hq3 hqb
 go_cut [5] (fun p wx => ∃ g : Nat, p = .pointer (some ⟨g, 0, none⟩) ∧ W0.heap.size ≤ g ∧ Hid (CB wx g 24 [.int .i64 (1 + m1), .int .i64 (1 + m2), .int .i64 (1 + m3), .string n1, .string n2, .int .i64 (1 + m4), .int .i64 m5, .string sep]) ∧ Hid (Below W0.heap.size W0 wx))
 case first =>
  refine wp_region_held_drew (S := fun w' => Hid (Below W0.drew.heap.size W0.drew w')) (by kernel_rfl) (Li (Below.refl _ _)) (fun hHeld => ?_)
  have S1 := Li (S0.out.up (bd W0))
  have C1 := Li (C0.out.up (bd W0))
  have zW : W0.heap.size = W0.drew.heap.size := rfl
  have zB := Li (bd W0)
  revert hHeld S1 C1 zW zB
  generalize W0.drew = W1
  intro hHeld S1 C1 zW zB
  have zC1 := Li C1.out.lt
  have zS1 := Li S1.out.lt
  have s11 := Li (S1.out.cell 1 rfl)
  have c10 := Li (C1.out.cell 0 rfl)
  have c11 := Li (C1.out.cell 1 rfl)
  have c12 := Li (C1.out.cell 2 rfl)
  have c13 := Li (C1.out.cell 3 rfl)
  have c14 := Li (C1.out.cell 4 rfl)
  have c15 := Li (C1.out.cell 5 rfl)
  have c16 := Li (C1.out.cell 6 rfl)
  have c17 := Li (C1.out.cell 7 rfl)
  refine htk 0 ?_
  refine htl 1 ?_ ?_ ?_
  rotate_left
  ·
   intro wS hSw
   have hx := (hSw.out.cell (p := ⟨w.heap.size + 1, 0, none⟩) zC1.out).trans (c10.out)
   clear hSw
   go_simp
   try with_reducible rfl
  try simp only [pnz]
  refine htk 4 ?_
  refine htl 5 ?_ ?_ ?_
  rotate_left
  ·
   intro wS hSw
   have hx := (hSw.out.cell (p := ⟨w.heap.size + 1, 1, none⟩) zC1.out).trans (c11.out)
   clear hSw
   go_simp
   try with_reducible rfl
  try simp only [pnz]
  refine htk 6 ?_
  refine htl 7 ?_ ?_ ?_
  rotate_left
  ·
   intro wS hSw
   have hx := (hSw.out.cell (p := ⟨w.heap.size, 1, none⟩) zS1.out).trans (s11.out)
   clear hSw
   go_simp
   try with_reducible rfl
  try simp only [pnz]
  refine htk 10 ?_
  refine htl 11 ?_ ?_ ?_
  rotate_left
  ·
   intro wS hSw
   have hx := (hSw.out.cell (p := ⟨w.heap.size + 1, 2, none⟩) zC1.out).trans (c12.out)
   clear hSw
   go_simp
   try with_reducible rfl
  try simp only [pnz]
  refine htk 12 ?_
  refine htl 13 ?_ ?_ ?_
  rotate_left
  ·
   intro wS hSw
   have hx := (hSw.out.cell (p := ⟨w.heap.size, 1, none⟩) zS1.out).trans (s11.out)
   clear hSw
   go_simp
   try with_reducible rfl
  try simp only [pnz]
  refine htk 16 ?_
  refine htl 17 ?_ ?_ ?_
  rotate_left
  ·
   intro wS hSw
   have hx := (hSw.out.cell (p := ⟨w.heap.size + 1, 3, none⟩) zC1.out).trans (c13.out)
   clear hSw
   go_simp
   try with_reducible rfl
  try simp only [pnz]
  refine htk 19 ?_
  refine htl 20 ?_ ?_ ?_
  rotate_left
  ·
   intro wS hSw
   have hx := (hSw.out.cell (p := ⟨w.heap.size + 1, 4, none⟩) zC1.out).trans (c14.out)
   clear hSw
   go_simp
   try with_reducible rfl
  try simp only [pnz]
  refine htk 22 ?_
  refine htl 23 ?_ ?_ ?_
  rotate_left
  ·
   intro wS hSw
   have hx := (hSw.out.cell (p := ⟨w.heap.size + 1, 5, none⟩) zC1.out).trans (c15.out)
   clear hSw
   go_simp
   try with_reducible rfl
  try simp only [pnz]
  refine htk 26 ?_
  refine htl 27 ?_ ?_ ?_
  rotate_left
  ·
   intro wS hSw
   have hx := (hSw.out.cell (p := ⟨w.heap.size + 1, 6, none⟩) zC1.out).trans (c16.out)
   clear hSw
   go_simp
   try with_reducible rfl
  try simp only [pnz]
  refine htk 28 ?_
  refine htl 29 ?_ ?_ ?_
  rotate_left
  ·
   intro wS hSw
   have hx := (hSw.out.cell (p := ⟨w.heap.size, 1, none⟩) zS1.out).trans (s11.out)
   clear hSw
   go_simp
   try with_reducible rfl
  try simp only [pnz]
  refine htk 31 ?_
  refine htl 32 ?_ ?_ ?_
  rotate_left
  ·
   intro wS hSw
   have hx := (hSw.out.cell (p := ⟨w.heap.size + 1, 7, none⟩) zC1.out).trans (c17.out)
   clear hSw
   go_simp
   try with_reducible rfl
  try simp only [pnz]
  refine rd2 2 34 (fun KK hK => ?_) (fun KK hK => ?_)
  ·
   go_simp
   go_at_call 49
   refine (Rmod_any kd 7 _ hkd (by decide)).mono ?_
   rintro e w7 ⟨rfl, hw7⟩
   rw [M1.out]
   subst w7
   go_wp2_with fail
   refine hK.out _ _ (hHeld) (fun hHeld => ?_)
   clear hK KK
   try simp only [pnz]
   refine htl 3 (.int .i64 (1 + m1)) ?_ ?_
   ·
    intro wS hSw
    have hv := V1.out <;> (go_simp; try first | with_reducible rfl | simp only [*])
   try simp only [pnz]
   refine rd2 8 34 (fun KK hK => ?_) (fun KK hK => ?_)
   ·
    go_simp
    go_at_call 49
    refine (Rmod_any id x _ hid hx1).mono ?_
    rintro e w7 ⟨rfl, hw7⟩
    rw [M2.out]
    subst w7
    go_wp2_with fail
    refine hK.out _ _ (hHeld) (fun hHeld => ?_)
    clear hK KK
    try simp only [pnz]
    refine htl 9 (.int .i64 (1 + m2)) ?_ ?_
    ·
     intro wS hSw
     have hv := V2.out <;> (go_simp; try first | with_reducible rfl | simp only [*])
    try simp only [pnz]
    refine rd2 14 34 (fun KK hK => ?_) (fun KK hK => ?_)
    ·
     go_simp
     go_at_call 49
     refine (Rmod_any wi x _ hwi hx1).mono ?_
     rintro e w7 ⟨rfl, hw7⟩
     rw [M3.out]
     subst w7
     go_wp2_with fail
     refine hK.out _ _ (hHeld) (fun hHeld => ?_)
     clear hK KK
     try simp only [pnz]
     refine htl 15 (.int .i64 (1 + m3)) ?_ ?_
     ·
      intro wS hSw
      have hv := V3.out <;> (go_simp; try first | with_reducible rfl | simp only [*])
     try simp only [pnz]
     refine rd2 18 34 (fun KK hK => ?_) (fun KK hK => ?_)
     ·
      go_simp
      go_at_call 50
      refine (Rname_any nm _ hnm).mono ?_
      rintro e w8 ⟨rfl, hb8⟩
      rw [N1.out]
      have HB8 := Li (hHeld.out.trans (hb8.mono hHeld.out.size))
      have zB8 := HB8.out.size
      clear hb8
      go_wp2_with fail
      refine hK.out _ _ (HB8) (fun hHeld => ?_)
      clear hK KK
      try simp only [pnz]
      refine rd2 21 34 (fun KK hK => ?_) (fun KK hK => ?_)
      ·
       go_simp
       go_at_call 50
       refine (Rname_any ot _ hot).mono ?_
       rintro e w9 ⟨rfl, hb9⟩
       rw [N2.out]
       have HB9 := Li (hHeld.out.trans (hb9.mono hHeld.out.size))
       have zB9 := HB9.out.size
       clear hb9
       go_wp2_with fail
       refine hK.out _ _ (HB9) (fun hHeld => ?_)
       clear hK KK
       try simp only [pnz]
       refine rd2 24 34 (fun KK hK => ?_) (fun KK hK => ?_)
       ·
        go_simp
        go_at_call 49
        refine (Rmod_any ty 6 _ hty (by decide)).mono ?_
        rintro e w7 ⟨rfl, hw7⟩
        rw [M4.out]
        subst w7
        go_wp2_with fail
        refine hK.out _ _ (hHeld) (fun hHeld => ?_)
        clear hK KK
        try simp only [pnz]
        refine htl 25 (.int .i64 (1 + m4)) ?_ ?_
        ·
         intro wS hSw
         have hv := V4.out <;> (go_simp; try first | with_reducible rfl | simp only [*])
        try simp only [pnz]
        refine rd2 30 34 (fun KK hK => ?_) (fun KK hK => ?_)
        ·
         go_simp
         go_at_call 49
         refine (Rmod_any pa x _ hpa hx1).mono ?_
         rintro e w7 ⟨rfl, hw7⟩
         rw [M5.out]
         subst w7
         go_wp2_with fail
         refine hK.out _ _ (hHeld) (fun hHeld => ?_)
         clear hK KK
         try simp only [pnz]
         refine htl 33 (.agg #[.int .i64 (1 + m1), .int .i64 (1 + m2), .int .i64 (1 + m3), .string n1, .string n2, .int .i64 (1 + m4), .int .i64 m5, .string sep]) ?_ ?_
         ·
          intro wS hSw
          go_simp
          try first | with_reducible rfl | simp only [*]
         try simp only [pnz]
         refine rd1 34 fun KK hK => ?_
         go_simp
         have GZ := Li (CB.new w9 24 [.int .i64 0, .int .i64 0, .int .i64 0, .string ⟨#[]⟩, .string ⟨#[]⟩, .int .i64 0, .int .i64 0, .string ⟨#[]⟩])
         have HBA := Li (al_up (o := .cells #[.int .i64 0, .int .i64 0, .int .i64 0, .string ⟨#[]⟩, .string ⟨#[]⟩, .int .i64 0, .int .i64 0, .string ⟨#[]⟩] 24) hHeld.out)
         refine hK.out _ _ (HBA) (fun hHeld => ?_)
         clear hK KK
         try simp only [pnz]
         refine rd1 35 fun KK hK => ?_
         refine step_store_cb rfl 24 (.tmp 5) (.tmp 39) rfl w9.heap.size [.int .i64 (1 + m1), .int .i64 (1 + m2), .int .i64 (1 + m3), .string n1, .string n2, .int .i64 (1 + m4), .int .i64 m5, .string sep] rfl rfl 24 [.int .i64 0, .int .i64 0, .int .i64 0, .string ⟨#[]⟩, .string ⟨#[]⟩, .int .i64 0, .int .i64 0, .string ⟨#[]⟩] 8 GZ.out sizeC rfl rfl (one_c _ _ _ _ _ _ _ _) ?_
         intro wz hcz hgz hzz
         have HBZ := Li (below_grown hHeld.out hgz hHeld.out.size (by omega))
         refine hK.out _ _ (HBZ) (fun hHeld => ?_)
         clear hK KK
         try simp only [pnz]
         refine wpAnyH_done (by kernel_rfl) ?_ _
         go_wp2_with fail
         go_meet
         exact ⟨_, rfl, by omega, Li hcz, Li (zB.out.trans (HBZ.out.mono (by omega)))⟩
        ·
         go_simp
         have GZ := Li (CB.new w9 24 [.int .i64 0, .int .i64 0, .int .i64 0, .string ⟨#[]⟩, .string ⟨#[]⟩, .int .i64 0, .int .i64 0, .string ⟨#[]⟩])
         have HBA := Li (al_up (o := .cells #[.int .i64 0, .int .i64 0, .int .i64 0, .string ⟨#[]⟩, .string ⟨#[]⟩, .int .i64 0, .int .i64 0, .string ⟨#[]⟩] 24) hHeld.out)
         refine hK.out _ _ (HBA) (fun hHeld => ?_)
         clear hK KK
         try simp only [pnz]
         refine rd1 30 fun KK hK => ?_
         go_simp
         go_at_call 49
         refine (Rmod_any pa x _ hpa hx1).mono ?_
         rintro e w7 ⟨rfl, hw7⟩
         rw [M5.out]
         subst w7
         go_wp2_with fail
         refine hK.out _ _ (hHeld) (fun hHeld => ?_)
         clear hK KK
         try simp only [pnz]
         refine htl 33 (.agg #[.int .i64 (1 + m1), .int .i64 (1 + m2), .int .i64 (1 + m3), .string n1, .string n2, .int .i64 (1 + m4), .int .i64 m5, .string sep]) ?_ ?_
         ·
          intro wS hSw
          go_simp
          try first | with_reducible rfl | simp only [*]
         try simp only [pnz]
         refine rd1 35 fun KK hK => ?_
         refine step_store_cb rfl 24 (.tmp 5) (.tmp 39) rfl w9.heap.size [.int .i64 (1 + m1), .int .i64 (1 + m2), .int .i64 (1 + m3), .string n1, .string n2, .int .i64 (1 + m4), .int .i64 m5, .string sep] rfl rfl 24 [.int .i64 0, .int .i64 0, .int .i64 0, .string ⟨#[]⟩, .string ⟨#[]⟩, .int .i64 0, .int .i64 0, .string ⟨#[]⟩] 8 GZ.out sizeC rfl rfl (one_c _ _ _ _ _ _ _ _) ?_
         intro wz hcz hgz hzz
         have HBZ := Li (below_grown hHeld.out hgz hHeld.out.size (by omega))
         refine hK.out _ _ (HBZ) (fun hHeld => ?_)
         clear hK KK
         try simp only [pnz]
         refine wpAnyH_done (by kernel_rfl) ?_ _
         go_wp2_with fail
         go_meet
         exact ⟨_, rfl, by omega, Li hcz, Li (zB.out.trans (HBZ.out.mono (by omega)))⟩
       ·
        go_simp
        have GZ := Li (CB.new w9 24 [.int .i64 0, .int .i64 0, .int .i64 0, .string ⟨#[]⟩, .string ⟨#[]⟩, .int .i64 0, .int .i64 0, .string ⟨#[]⟩])
        have HBA := Li (al_up (o := .cells #[.int .i64 0, .int .i64 0, .int .i64 0, .string ⟨#[]⟩, .string ⟨#[]⟩, .int .i64 0, .int .i64 0, .string ⟨#[]⟩] 24) hHeld.out)
        refine hK.out _ _ (HBA) (fun hHeld => ?_)
        clear hK KK
        try simp only [pnz]
        refine rd1 24 fun KK hK => ?_
        go_simp
        go_at_call 49
        refine (Rmod_any ty 6 _ hty (by decide)).mono ?_
        rintro e w7 ⟨rfl, hw7⟩
        rw [M4.out]
        subst w7
        go_wp2_with fail
        refine hK.out _ _ (hHeld) (fun hHeld => ?_)
        clear hK KK
        try simp only [pnz]
        refine htl 25 (.int .i64 (1 + m4)) ?_ ?_
        ·
         intro wS hSw
         have hv := V4.out <;> (go_simp; try first | with_reducible rfl | simp only [*])
        try simp only [pnz]
        refine rd1 30 fun KK hK => ?_
        go_simp
        go_at_call 49
        refine (Rmod_any pa x _ hpa hx1).mono ?_
        rintro e w7 ⟨rfl, hw7⟩
        rw [M5.out]
        subst w7
        go_wp2_with fail
        refine hK.out _ _ (hHeld) (fun hHeld => ?_)
        clear hK KK
        try simp only [pnz]
        refine htl 33 (.agg #[.int .i64 (1 + m1), .int .i64 (1 + m2), .int .i64 (1 + m3), .string n1, .string n2, .int .i64 (1 + m4), .int .i64 m5, .string sep]) ?_ ?_
        ·
         intro wS hSw
         go_simp
         try first | with_reducible rfl | simp only [*]
        try simp only [pnz]
        refine rd1 35 fun KK hK => ?_
        refine step_store_cb rfl 24 (.tmp 5) (.tmp 39) rfl w9.heap.size [.int .i64 (1 + m1), .int .i64 (1 + m2), .int .i64 (1 + m3), .string n1, .string n2, .int .i64 (1 + m4), .int .i64 m5, .string sep] rfl rfl 24 [.int .i64 0, .int .i64 0, .int .i64 0, .string ⟨#[]⟩, .string ⟨#[]⟩, .int .i64 0, .int .i64 0, .string ⟨#[]⟩] 8 GZ.out sizeC rfl rfl (one_c _ _ _ _ _ _ _ _) ?_
        intro wz hcz hgz hzz
        have HBZ := Li (below_grown hHeld.out hgz hHeld.out.size (by omega))
        refine hK.out _ _ (HBZ) (fun hHeld => ?_)
        clear hK KK
        try simp only [pnz]
        refine wpAnyH_done (by kernel_rfl) ?_ _
        go_wp2_with fail
        go_meet
        exact ⟨_, rfl, by omega, Li hcz, Li (zB.out.trans (HBZ.out.mono (by omega)))⟩
      ·
       go_simp
       have GZ := Li (CB.new w8 24 [.int .i64 0, .int .i64 0, .int .i64 0, .string ⟨#[]⟩, .string ⟨#[]⟩, .int .i64 0, .int .i64 0, .string ⟨#[]⟩])
       have HBA := Li (al_up (o := .cells #[.int .i64 0, .int .i64 0, .int .i64 0, .string ⟨#[]⟩, .string ⟨#[]⟩, .int .i64 0, .int .i64 0, .string ⟨#[]⟩] 24) hHeld.out)
       refine hK.out _ _ (HBA) (fun hHeld => ?_)
       clear hK KK
       try simp only [pnz]
       refine rd1 21 fun KK hK => ?_
       go_simp
       go_at_call 50
       refine (Rname_any ot _ hot).mono ?_
       rintro e w9 ⟨rfl, hb9⟩
       rw [N2.out]
       have HB9 := Li (hHeld.out.trans (hb9.mono hHeld.out.size))
       have zB9 := HB9.out.size
       have GZ9 := Li (GZ.out.up hb9)
       clear hb9
       go_wp2_with fail
       refine hK.out _ _ (HB9) (fun hHeld => ?_)
       clear hK KK
       try simp only [pnz]
       refine rd1 24 fun KK hK => ?_
       go_simp
       go_at_call 49
       refine (Rmod_any ty 6 _ hty (by decide)).mono ?_
       rintro e w7 ⟨rfl, hw7⟩
       rw [M4.out]
       subst w7
       go_wp2_with fail
       refine hK.out _ _ (hHeld) (fun hHeld => ?_)
       clear hK KK
       try simp only [pnz]
       refine htl 25 (.int .i64 (1 + m4)) ?_ ?_
       ·
        intro wS hSw
        have hv := V4.out <;> (go_simp; try first | with_reducible rfl | simp only [*])
       try simp only [pnz]
       refine rd1 30 fun KK hK => ?_
       go_simp
       go_at_call 49
       refine (Rmod_any pa x _ hpa hx1).mono ?_
       rintro e w7 ⟨rfl, hw7⟩
       rw [M5.out]
       subst w7
       go_wp2_with fail
       refine hK.out _ _ (hHeld) (fun hHeld => ?_)
       clear hK KK
       try simp only [pnz]
       refine htl 33 (.agg #[.int .i64 (1 + m1), .int .i64 (1 + m2), .int .i64 (1 + m3), .string n1, .string n2, .int .i64 (1 + m4), .int .i64 m5, .string sep]) ?_ ?_
       ·
        intro wS hSw
        go_simp
        try first | with_reducible rfl | simp only [*]
       try simp only [pnz]
       refine rd1 35 fun KK hK => ?_
       refine step_store_cb rfl 24 (.tmp 5) (.tmp 39) rfl w8.heap.size [.int .i64 (1 + m1), .int .i64 (1 + m2), .int .i64 (1 + m3), .string n1, .string n2, .int .i64 (1 + m4), .int .i64 m5, .string sep] rfl rfl 24 [.int .i64 0, .int .i64 0, .int .i64 0, .string ⟨#[]⟩, .string ⟨#[]⟩, .int .i64 0, .int .i64 0, .string ⟨#[]⟩] 8 GZ9.out sizeC rfl rfl (one_c _ _ _ _ _ _ _ _) ?_
       intro wz hcz hgz hzz
       have HBZ := Li (below_grown hHeld.out hgz hHeld.out.size (by omega))
       refine hK.out _ _ (HBZ) (fun hHeld => ?_)
       clear hK KK
       try simp only [pnz]
       refine wpAnyH_done (by kernel_rfl) ?_ _
       go_wp2_with fail
       go_meet
       exact ⟨_, rfl, by omega, Li hcz, Li (zB.out.trans (HBZ.out.mono (by omega)))⟩
     ·
      go_simp
      have GZ := Li (CB.new W1 24 [.int .i64 0, .int .i64 0, .int .i64 0, .string ⟨#[]⟩, .string ⟨#[]⟩, .int .i64 0, .int .i64 0, .string ⟨#[]⟩])
      have HBA := Li (al_up (o := .cells #[.int .i64 0, .int .i64 0, .int .i64 0, .string ⟨#[]⟩, .string ⟨#[]⟩, .int .i64 0, .int .i64 0, .string ⟨#[]⟩] 24) hHeld.out)
      refine hK.out _ _ (HBA) (fun hHeld => ?_)
      clear hK KK
      try simp only [pnz]
      refine rd1 18 fun KK hK => ?_
      go_simp
      go_at_call 50
      refine (Rname_any nm _ hnm).mono ?_
      rintro e w8 ⟨rfl, hb8⟩
      rw [N1.out]
      have HB8 := Li (hHeld.out.trans (hb8.mono hHeld.out.size))
      have zB8 := HB8.out.size
      have GZ8 := Li (GZ.out.up hb8)
      clear hb8
      go_wp2_with fail
      refine hK.out _ _ (HB8) (fun hHeld => ?_)
      clear hK KK
      try simp only [pnz]
      refine rd1 21 fun KK hK => ?_
      go_simp
      go_at_call 50
      refine (Rname_any ot _ hot).mono ?_
      rintro e w9 ⟨rfl, hb9⟩
      rw [N2.out]
      have HB9 := Li (hHeld.out.trans (hb9.mono hHeld.out.size))
      have zB9 := HB9.out.size
      have GZ9 := Li (GZ8.out.up hb9)
      clear hb9
      go_wp2_with fail
      refine hK.out _ _ (HB9) (fun hHeld => ?_)
      clear hK KK
      try simp only [pnz]
      refine rd1 24 fun KK hK => ?_
      go_simp
      go_at_call 49
      refine (Rmod_any ty 6 _ hty (by decide)).mono ?_
      rintro e w7 ⟨rfl, hw7⟩
      rw [M4.out]
      subst w7
      go_wp2_with fail
      refine hK.out _ _ (hHeld) (fun hHeld => ?_)
      clear hK KK
      try simp only [pnz]
      refine htl 25 (.int .i64 (1 + m4)) ?_ ?_
      ·
       intro wS hSw
       have hv := V4.out <;> (go_simp; try first | with_reducible rfl | simp only [*])
      try simp only [pnz]
      refine rd1 30 fun KK hK => ?_
      go_simp
      go_at_call 49
      refine (Rmod_any pa x _ hpa hx1).mono ?_
      rintro e w7 ⟨rfl, hw7⟩
      rw [M5.out]
      subst w7
      go_wp2_with fail
      refine hK.out _ _ (hHeld) (fun hHeld => ?_)
      clear hK KK
      try simp only [pnz]
      refine htl 33 (.agg #[.int .i64 (1 + m1), .int .i64 (1 + m2), .int .i64 (1 + m3), .string n1, .string n2, .int .i64 (1 + m4), .int .i64 m5, .string sep]) ?_ ?_
      ·
       intro wS hSw
       go_simp
       try first | with_reducible rfl | simp only [*]
      try simp only [pnz]
      refine rd1 35 fun KK hK => ?_
      refine step_store_cb rfl 24 (.tmp 5) (.tmp 39) rfl W1.heap.size [.int .i64 (1 + m1), .int .i64 (1 + m2), .int .i64 (1 + m3), .string n1, .string n2, .int .i64 (1 + m4), .int .i64 m5, .string sep] rfl rfl 24 [.int .i64 0, .int .i64 0, .int .i64 0, .string ⟨#[]⟩, .string ⟨#[]⟩, .int .i64 0, .int .i64 0, .string ⟨#[]⟩] 8 GZ9.out sizeC rfl rfl (one_c _ _ _ _ _ _ _ _) ?_
      intro wz hcz hgz hzz
      have HBZ := Li (below_grown hHeld.out hgz hHeld.out.size (by omega))
      refine hK.out _ _ (HBZ) (fun hHeld => ?_)
      clear hK KK
      try simp only [pnz]
      refine wpAnyH_done (by kernel_rfl) ?_ _
      go_wp2_with fail
      go_meet
      exact ⟨_, rfl, by omega, Li hcz, Li (zB.out.trans (HBZ.out.mono (by omega)))⟩
    ·
     go_simp
     have GZ := Li (CB.new W1 24 [.int .i64 0, .int .i64 0, .int .i64 0, .string ⟨#[]⟩, .string ⟨#[]⟩, .int .i64 0, .int .i64 0, .string ⟨#[]⟩])
     have HBA := Li (al_up (o := .cells #[.int .i64 0, .int .i64 0, .int .i64 0, .string ⟨#[]⟩, .string ⟨#[]⟩, .int .i64 0, .int .i64 0, .string ⟨#[]⟩] 24) hHeld.out)
     refine hK.out _ _ (HBA) (fun hHeld => ?_)
     clear hK KK
     try simp only [pnz]
     refine rd1 14 fun KK hK => ?_
     go_simp
     go_at_call 49
     refine (Rmod_any wi x _ hwi hx1).mono ?_
     rintro e w7 ⟨rfl, hw7⟩
     rw [M3.out]
     subst w7
     go_wp2_with fail
     refine hK.out _ _ (hHeld) (fun hHeld => ?_)
     clear hK KK
     try simp only [pnz]
     refine htl 15 (.int .i64 (1 + m3)) ?_ ?_
     ·
      intro wS hSw
      have hv := V3.out <;> (go_simp; try first | with_reducible rfl | simp only [*])
     try simp only [pnz]
     refine rd1 18 fun KK hK => ?_
     go_simp
     go_at_call 50
     refine (Rname_any nm _ hnm).mono ?_
     rintro e w8 ⟨rfl, hb8⟩
     rw [N1.out]
     have HB8 := Li (hHeld.out.trans (hb8.mono hHeld.out.size))
     have zB8 := HB8.out.size
     have GZ8 := Li (GZ.out.up hb8)
     clear hb8
     go_wp2_with fail
     refine hK.out _ _ (HB8) (fun hHeld => ?_)
     clear hK KK
     try simp only [pnz]
     refine rd1 21 fun KK hK => ?_
     go_simp
     go_at_call 50
     refine (Rname_any ot _ hot).mono ?_
     rintro e w9 ⟨rfl, hb9⟩
     rw [N2.out]
     have HB9 := Li (hHeld.out.trans (hb9.mono hHeld.out.size))
     have zB9 := HB9.out.size
     have GZ9 := Li (GZ8.out.up hb9)
     clear hb9
     go_wp2_with fail
     refine hK.out _ _ (HB9) (fun hHeld => ?_)
     clear hK KK
     try simp only [pnz]
     refine rd1 24 fun KK hK => ?_
     go_simp
     go_at_call 49
     refine (Rmod_any ty 6 _ hty (by decide)).mono ?_
     rintro e w7 ⟨rfl, hw7⟩
     rw [M4.out]
     subst w7
     go_wp2_with fail
     refine hK.out _ _ (hHeld) (fun hHeld => ?_)
     clear hK KK
     try simp only [pnz]
     refine htl 25 (.int .i64 (1 + m4)) ?_ ?_
     ·
      intro wS hSw
      have hv := V4.out <;> (go_simp; try first | with_reducible rfl | simp only [*])
     try simp only [pnz]
     refine rd1 30 fun KK hK => ?_
     go_simp
     go_at_call 49
     refine (Rmod_any pa x _ hpa hx1).mono ?_
     rintro e w7 ⟨rfl, hw7⟩
     rw [M5.out]
     subst w7
     go_wp2_with fail
     refine hK.out _ _ (hHeld) (fun hHeld => ?_)
     clear hK KK
     try simp only [pnz]
     refine htl 33 (.agg #[.int .i64 (1 + m1), .int .i64 (1 + m2), .int .i64 (1 + m3), .string n1, .string n2, .int .i64 (1 + m4), .int .i64 m5, .string sep]) ?_ ?_
     ·
      intro wS hSw
      go_simp
      try first | with_reducible rfl | simp only [*]
     try simp only [pnz]
     refine rd1 35 fun KK hK => ?_
     refine step_store_cb rfl 24 (.tmp 5) (.tmp 39) rfl W1.heap.size [.int .i64 (1 + m1), .int .i64 (1 + m2), .int .i64 (1 + m3), .string n1, .string n2, .int .i64 (1 + m4), .int .i64 m5, .string sep] rfl rfl 24 [.int .i64 0, .int .i64 0, .int .i64 0, .string ⟨#[]⟩, .string ⟨#[]⟩, .int .i64 0, .int .i64 0, .string ⟨#[]⟩] 8 GZ9.out sizeC rfl rfl (one_c _ _ _ _ _ _ _ _) ?_
     intro wz hcz hgz hzz
     have HBZ := Li (below_grown hHeld.out hgz hHeld.out.size (by omega))
     refine hK.out _ _ (HBZ) (fun hHeld => ?_)
     clear hK KK
     try simp only [pnz]
     refine wpAnyH_done (by kernel_rfl) ?_ _
     go_wp2_with fail
     go_meet
     exact ⟨_, rfl, by omega, Li hcz, Li (zB.out.trans (HBZ.out.mono (by omega)))⟩
   ·
    go_simp
    have GZ := Li (CB.new W1 24 [.int .i64 0, .int .i64 0, .int .i64 0, .string ⟨#[]⟩, .string ⟨#[]⟩, .int .i64 0, .int .i64 0, .string ⟨#[]⟩])
    have HBA := Li (al_up (o := .cells #[.int .i64 0, .int .i64 0, .int .i64 0, .string ⟨#[]⟩, .string ⟨#[]⟩, .int .i64 0, .int .i64 0, .string ⟨#[]⟩] 24) hHeld.out)
    refine hK.out _ _ (HBA) (fun hHeld => ?_)
    clear hK KK
    try simp only [pnz]
    refine rd1 8 fun KK hK => ?_
    go_simp
    go_at_call 49
    refine (Rmod_any id x _ hid hx1).mono ?_
    rintro e w7 ⟨rfl, hw7⟩
    rw [M2.out]
    subst w7
    go_wp2_with fail
    refine hK.out _ _ (hHeld) (fun hHeld => ?_)
    clear hK KK
    try simp only [pnz]
    refine htl 9 (.int .i64 (1 + m2)) ?_ ?_
    ·
     intro wS hSw
     have hv := V2.out <;> (go_simp; try first | with_reducible rfl | simp only [*])
    try simp only [pnz]
    refine rd1 14 fun KK hK => ?_
    go_simp
    go_at_call 49
    refine (Rmod_any wi x _ hwi hx1).mono ?_
    rintro e w7 ⟨rfl, hw7⟩
    rw [M3.out]
    subst w7
    go_wp2_with fail
    refine hK.out _ _ (hHeld) (fun hHeld => ?_)
    clear hK KK
    try simp only [pnz]
    refine htl 15 (.int .i64 (1 + m3)) ?_ ?_
    ·
     intro wS hSw
     have hv := V3.out <;> (go_simp; try first | with_reducible rfl | simp only [*])
    try simp only [pnz]
    refine rd1 18 fun KK hK => ?_
    go_simp
    go_at_call 50
    refine (Rname_any nm _ hnm).mono ?_
    rintro e w8 ⟨rfl, hb8⟩
    rw [N1.out]
    have HB8 := Li (hHeld.out.trans (hb8.mono hHeld.out.size))
    have zB8 := HB8.out.size
    have GZ8 := Li (GZ.out.up hb8)
    clear hb8
    go_wp2_with fail
    refine hK.out _ _ (HB8) (fun hHeld => ?_)
    clear hK KK
    try simp only [pnz]
    refine rd1 21 fun KK hK => ?_
    go_simp
    go_at_call 50
    refine (Rname_any ot _ hot).mono ?_
    rintro e w9 ⟨rfl, hb9⟩
    rw [N2.out]
    have HB9 := Li (hHeld.out.trans (hb9.mono hHeld.out.size))
    have zB9 := HB9.out.size
    have GZ9 := Li (GZ8.out.up hb9)
    clear hb9
    go_wp2_with fail
    refine hK.out _ _ (HB9) (fun hHeld => ?_)
    clear hK KK
    try simp only [pnz]
    refine rd1 24 fun KK hK => ?_
    go_simp
    go_at_call 49
    refine (Rmod_any ty 6 _ hty (by decide)).mono ?_
    rintro e w7 ⟨rfl, hw7⟩
    rw [M4.out]
    subst w7
    go_wp2_with fail
    refine hK.out _ _ (hHeld) (fun hHeld => ?_)
    clear hK KK
    try simp only [pnz]
    refine htl 25 (.int .i64 (1 + m4)) ?_ ?_
    ·
     intro wS hSw
     have hv := V4.out <;> (go_simp; try first | with_reducible rfl | simp only [*])
    try simp only [pnz]
    refine rd1 30 fun KK hK => ?_
    go_simp
    go_at_call 49
    refine (Rmod_any pa x _ hpa hx1).mono ?_
    rintro e w7 ⟨rfl, hw7⟩
    rw [M5.out]
    subst w7
    go_wp2_with fail
    refine hK.out _ _ (hHeld) (fun hHeld => ?_)
    clear hK KK
    try simp only [pnz]
    refine htl 33 (.agg #[.int .i64 (1 + m1), .int .i64 (1 + m2), .int .i64 (1 + m3), .string n1, .string n2, .int .i64 (1 + m4), .int .i64 m5, .string sep]) ?_ ?_
    ·
     intro wS hSw
     go_simp
     try first | with_reducible rfl | simp only [*]
    try simp only [pnz]
    refine rd1 35 fun KK hK => ?_
    refine step_store_cb rfl 24 (.tmp 5) (.tmp 39) rfl W1.heap.size [.int .i64 (1 + m1), .int .i64 (1 + m2), .int .i64 (1 + m3), .string n1, .string n2, .int .i64 (1 + m4), .int .i64 m5, .string sep] rfl rfl 24 [.int .i64 0, .int .i64 0, .int .i64 0, .string ⟨#[]⟩, .string ⟨#[]⟩, .int .i64 0, .int .i64 0, .string ⟨#[]⟩] 8 GZ9.out sizeC rfl rfl (one_c _ _ _ _ _ _ _ _) ?_
    intro wz hcz hgz hzz
    have HBZ := Li (below_grown hHeld.out hgz hHeld.out.size (by omega))
    refine hK.out _ _ (HBZ) (fun hHeld => ?_)
    clear hK KK
    try simp only [pnz]
    refine wpAnyH_done (by kernel_rfl) ?_ _
    go_wp2_with fail
    go_meet
    exact ⟨_, rfl, by omega, Li hcz, Li (zB.out.trans (HBZ.out.mono (by omega)))⟩
  ·
   go_simp
   have GZ := Li (CB.new W1 24 [.int .i64 0, .int .i64 0, .int .i64 0, .string ⟨#[]⟩, .string ⟨#[]⟩, .int .i64 0, .int .i64 0, .string ⟨#[]⟩])
   have HBA := Li (al_up (o := .cells #[.int .i64 0, .int .i64 0, .int .i64 0, .string ⟨#[]⟩, .string ⟨#[]⟩, .int .i64 0, .int .i64 0, .string ⟨#[]⟩] 24) hHeld.out)
   refine hK.out _ _ (HBA) (fun hHeld => ?_)
   clear hK KK
   try simp only [pnz]
   refine rd1 2 fun KK hK => ?_
   go_simp
   go_at_call 49
   refine (Rmod_any kd 7 _ hkd (by decide)).mono ?_
   rintro e w7 ⟨rfl, hw7⟩
   rw [M1.out]
   subst w7
   go_wp2_with fail
   refine hK.out _ _ (hHeld) (fun hHeld => ?_)
   clear hK KK
   try simp only [pnz]
   refine htl 3 (.int .i64 (1 + m1)) ?_ ?_
   ·
    intro wS hSw
    have hv := V1.out <;> (go_simp; try first | with_reducible rfl | simp only [*])
   try simp only [pnz]
   refine rd1 8 fun KK hK => ?_
   go_simp
   go_at_call 49
   refine (Rmod_any id x _ hid hx1).mono ?_
   rintro e w7 ⟨rfl, hw7⟩
   rw [M2.out]
   subst w7
   go_wp2_with fail
   refine hK.out _ _ (hHeld) (fun hHeld => ?_)
   clear hK KK
   try simp only [pnz]
   refine htl 9 (.int .i64 (1 + m2)) ?_ ?_
   ·
    intro wS hSw
    have hv := V2.out <;> (go_simp; try first | with_reducible rfl | simp only [*])
   try simp only [pnz]
   refine rd1 14 fun KK hK => ?_
   go_simp
   go_at_call 49
   refine (Rmod_any wi x _ hwi hx1).mono ?_
   rintro e w7 ⟨rfl, hw7⟩
   rw [M3.out]
   subst w7
   go_wp2_with fail
   refine hK.out _ _ (hHeld) (fun hHeld => ?_)
   clear hK KK
   try simp only [pnz]
   refine htl 15 (.int .i64 (1 + m3)) ?_ ?_
   ·
    intro wS hSw
    have hv := V3.out <;> (go_simp; try first | with_reducible rfl | simp only [*])
   try simp only [pnz]
   refine rd1 18 fun KK hK => ?_
   go_simp
   go_at_call 50
   refine (Rname_any nm _ hnm).mono ?_
   rintro e w8 ⟨rfl, hb8⟩
   rw [N1.out]
   have HB8 := Li (hHeld.out.trans (hb8.mono hHeld.out.size))
   have zB8 := HB8.out.size
   have GZ8 := Li (GZ.out.up hb8)
   clear hb8
   go_wp2_with fail
   refine hK.out _ _ (HB8) (fun hHeld => ?_)
   clear hK KK
   try simp only [pnz]
   refine rd1 21 fun KK hK => ?_
   go_simp
   go_at_call 50
   refine (Rname_any ot _ hot).mono ?_
   rintro e w9 ⟨rfl, hb9⟩
   rw [N2.out]
   have HB9 := Li (hHeld.out.trans (hb9.mono hHeld.out.size))
   have zB9 := HB9.out.size
   have GZ9 := Li (GZ8.out.up hb9)
   clear hb9
   go_wp2_with fail
   refine hK.out _ _ (HB9) (fun hHeld => ?_)
   clear hK KK
   try simp only [pnz]
   refine rd1 24 fun KK hK => ?_
   go_simp
   go_at_call 49
   refine (Rmod_any ty 6 _ hty (by decide)).mono ?_
   rintro e w7 ⟨rfl, hw7⟩
   rw [M4.out]
   subst w7
   go_wp2_with fail
   refine hK.out _ _ (hHeld) (fun hHeld => ?_)
   clear hK KK
   try simp only [pnz]
   refine htl 25 (.int .i64 (1 + m4)) ?_ ?_
   ·
    intro wS hSw
    have hv := V4.out <;> (go_simp; try first | with_reducible rfl | simp only [*])
   try simp only [pnz]
   refine rd1 30 fun KK hK => ?_
   go_simp
   go_at_call 49
   refine (Rmod_any pa x _ hpa hx1).mono ?_
   rintro e w7 ⟨rfl, hw7⟩
   rw [M5.out]
   subst w7
   go_wp2_with fail
   refine hK.out _ _ (hHeld) (fun hHeld => ?_)
   clear hK KK
   try simp only [pnz]
   refine htl 33 (.agg #[.int .i64 (1 + m1), .int .i64 (1 + m2), .int .i64 (1 + m3), .string n1, .string n2, .int .i64 (1 + m4), .int .i64 m5, .string sep]) ?_ ?_
   ·
    intro wS hSw
    go_simp
    try first | with_reducible rfl | simp only [*]
   try simp only [pnz]
   refine rd1 35 fun KK hK => ?_
   refine step_store_cb rfl 24 (.tmp 5) (.tmp 39) rfl W1.heap.size [.int .i64 (1 + m1), .int .i64 (1 + m2), .int .i64 (1 + m3), .string n1, .string n2, .int .i64 (1 + m4), .int .i64 m5, .string sep] rfl rfl 24 [.int .i64 0, .int .i64 0, .int .i64 0, .string ⟨#[]⟩, .string ⟨#[]⟩, .int .i64 0, .int .i64 0, .string ⟨#[]⟩] 8 GZ9.out sizeC rfl rfl (one_c _ _ _ _ _ _ _ _) ?_
   intro wz hcz hgz hzz
   have HBZ := Li (below_grown hHeld.out hgz hHeld.out.size (by omega))
   refine hK.out _ _ (HBZ) (fun hHeld => ?_)
   clear hK KK
   try simp only [pnz]
   refine wpAnyH_done (by kernel_rfl) ?_ _
   go_wp2_with fail
   go_meet
   exact ⟨_, rfl, by omega, Li hcz, Li (zB.out.trans (HBZ.out.mono (by omega)))⟩
 case rest =>
  obtain ⟨g, rfl, hge, Z2, hbz⟩ := hcut
  have B2 := Li (below_step B0.out B0.out.size hbz.out)
  have S2 := Li (S0.out.up hbz.out)
  have C2 := Li (C0.out.up hbz.out)
  have R2 := Li (R0.out.up hbz.out)
  have zR0 := R0.out.lt
  have c27 := C2.out.cell 7 rfl
  have s20 := S2.out.c2
  have z26 := Z2.out.cell 6 rfl
  have z27 := Z2.out.cell 7 rfl
  have f27 := Z2.out.frozen 7
  have zg2 := Z2.out.lt
  have zS2 := S2.out.lt
  have zC2 := C2.out.lt
  have zR2 := R2.out.lt
  clear hbz
  have ng0 : ¬ w.heap.size = g := by omega
  have ng1 : ¬ w.heap.size + 1 = g := by omega
  have ng2 : ¬ w.heap.size + 1 + 1 = g := by omega
  have ng3 : ¬ g = w.heap.size := by omega
  have ng4 : ¬ g = w.heap.size + 1 := by omega
  have ng5 : ¬ g = w.heap.size + 1 + 1 := by omega
  cases bS with
  | true =>
   cases bG with
   | true =>
    have Z3 : Hid (CB wc g 24 [.int .i64 (1 + m1), .int .i64 (1 + m2), .int .i64 (1 + m3), .string n1, .string n2, .int .i64 (1 + m4), .int .i64 m5, .string sep]) := Z2
    have S3 : Hid (CB wc w.heap.size 35 [.slice A n c, .int .i64 x]) := S2
    have R3 : Hid (CB wc (w.heap.size + 1 + 1) 24 [.int .i64 0, .int .i64 0, .int .i64 0, .string ⟨#[]⟩, .string ⟨#[]⟩, .int .i64 0, .int .i64 0, .string ⟨#[]⟩]) := R2
    have B3 : Hid (Below w.heap.size w wc) := B2
    have zg3 := Z3.out.lt
    have zS3 := S3.out.lt
    go_wp2_with (first | (go_at_call 51; refine (RSep_any sep _ _ HP.out hsep).mono ?_; rintro e w7 ⟨rfl, hw7⟩; subst w7) | (go_at_call 52; refine (Rgroup_any A n c x l m5 _ HN.out (HS.out.up B3.out) hl2).mono ?_; rintro e w8 ⟨rfl, hb8⟩; rw [HG.out]; have Z8 := Li (Z3.out.up hb8); have R8 := Li (R3.out.up hb8); have B8 := Li (below_step B3.out B3.out.size hb8); have z80 := Z8.out.c8; have f86 := Z8.out.frozen 6; have zg8 := Z8.out.lt; have zR8 := R8.out.lt; clear hb8) | ((with_reducible show wpList _ _ _ (Oper.mk none (.store _ _ _) _ _ _ _ :: _) _ _); refine wpList_store_cb rfl 24 (.tmp 4) (.tmp 51) rfl (w.heap.size + 1 + 1) [.int .i64 (1 + m1), .int .i64 (1 + m2), .int .i64 (1 + m3), .string n1, .string n2, .int .i64 (1 + m4), .int .i64 m5, .string sep] rfl rfl 24 [.int .i64 0, .int .i64 0, .int .i64 0, .string ⟨#[]⟩, .string ⟨#[]⟩, .int .i64 0, .int .i64 0, .string ⟨#[]⟩] 8 (R8.out) sizeC rfl rfl (one_c _ _ _ _ _ _ _ _) ?_; intro wz hcz hgz hzz))
    refine bodyPost_ret (res_cell1 Tryz.results31 rfl hcz Tryz.underlying24 sizeC rfl) rfl ⟨?_, below_grown B8.out hgz (by omega) (by omega)⟩
    rw [HE.out]
    rfl
   | false =>
    have Z3 : Hid (CB wc g 24 [.int .i64 (1 + m1), .int .i64 (1 + m2), .int .i64 (1 + m3), .string n1, .string n2, .int .i64 (1 + m4), .int .i64 m5, .string sep]) := Z2
    have S3 : Hid (CB wc w.heap.size 35 [.slice A n c, .int .i64 x]) := S2
    have R3 : Hid (CB wc (w.heap.size + 1 + 1) 24 [.int .i64 0, .int .i64 0, .int .i64 0, .string ⟨#[]⟩, .string ⟨#[]⟩, .int .i64 0, .int .i64 0, .string ⟨#[]⟩]) := R2
    have B3 : Hid (Below w.heap.size w wc) := B2
    have zg3 := Z3.out.lt
    have zS3 := S3.out.lt
    go_wp2_with (first | (go_at_call 51; refine (RSep_any sep _ _ HP.out hsep).mono ?_; rintro e w7 ⟨rfl, hw7⟩; subst w7) | (go_at_call 52; refine (Rgroup_any A n c x l m5 _ HN.out (HS.out.up B3.out) hl2).mono ?_; rintro e w8 ⟨rfl, hb8⟩; rw [HG.out]; have Z8 := Li (Z3.out.up hb8); have R8 := Li (R3.out.up hb8); have B8 := Li (below_step B3.out B3.out.size hb8); have z80 := Z8.out.c8; have f86 := Z8.out.frozen 6; have zg8 := Z8.out.lt; have zR8 := R8.out.lt; clear hb8) | ((with_reducible show wpList _ _ _ (Oper.mk none (.store _ _ _) _ _ _ _ :: _) _ _); refine wpList_store_cb rfl 24 (.tmp 4) (.tmp 51) rfl (w.heap.size + 1 + 1) [.int .i64 (1 + m1), .int .i64 (1 + m2), .int .i64 (1 + m3), .string n1, .string n2, .int .i64 (1 + m4), .int .i64 0, .string sep] rfl rfl 24 [.int .i64 0, .int .i64 0, .int .i64 0, .string ⟨#[]⟩, .string ⟨#[]⟩, .int .i64 0, .int .i64 0, .string ⟨#[]⟩] 8 (R8.out.set_other 6 _ (by omega)) sizeC rfl rfl (one_c _ _ _ _ _ _ _ _) ?_; intro wz hcz hgz hzz))
    refine bodyPost_ret (res_cell1 Tryz.results31 rfl hcz Tryz.underlying24 sizeC rfl) rfl ⟨?_, below_grown (B8.out.setCell (p := ⟨g, 6, none⟩) (by show w.heap.size ≤ g; omega) _) hgz (B8.out.setCell (p := ⟨g, 6, none⟩) (by show w.heap.size ≤ g; omega) _).size (by omega)⟩
    rw [HE.out]
    rfl
  | false =>
   cases bG with
   | true =>
    have Z3 : Hid (CB (wc.setCell ⟨g, 7, none⟩ (.string ⟨#[45]⟩)) g 24 [.int .i64 (1 + m1), .int .i64 (1 + m2), .int .i64 (1 + m3), .string n1, .string n2, .int .i64 (1 + m4), .int .i64 m5, .string ⟨#[45]⟩]) := Li (Z2.out.set_ 7 _)
    have S3 : Hid (CB (wc.setCell ⟨g, 7, none⟩ (.string ⟨#[45]⟩)) w.heap.size 35 [.slice A n c, .int .i64 x]) := Li (S2.out.set_other 7 _ (by omega))
    have R3 : Hid (CB (wc.setCell ⟨g, 7, none⟩ (.string ⟨#[45]⟩)) (w.heap.size + 1 + 1) 24 [.int .i64 0, .int .i64 0, .int .i64 0, .string ⟨#[]⟩, .string ⟨#[]⟩, .int .i64 0, .int .i64 0, .string ⟨#[]⟩]) := Li (R2.out.set_other 7 _ (by omega))
    have B3 : Hid (Below w.heap.size w (wc.setCell ⟨g, 7, none⟩ (.string ⟨#[45]⟩))) := Li (B2.out.setCell (p := ⟨g, 7, none⟩) (by show w.heap.size ≤ g; omega) _)
    have zg3 := Z3.out.lt
    have zS3 := S3.out.lt
    go_wp2_with (first | (go_at_call 51; refine (RSep_any sep _ _ HP.out hsep).mono ?_; rintro e w7 ⟨rfl, hw7⟩; subst w7) | (go_at_call 52; refine (Rgroup_any A n c x l m5 _ HN.out (HS.out.up B3.out) hl2).mono ?_; rintro e w8 ⟨rfl, hb8⟩; rw [HG.out]; have Z8 := Li (Z3.out.up hb8); have R8 := Li (R3.out.up hb8); have B8 := Li (below_step B3.out B3.out.size hb8); have z80 := Z8.out.c8; have f86 := Z8.out.frozen 6; have zg8 := Z8.out.lt; have zR8 := R8.out.lt; clear hb8) | ((with_reducible show wpList _ _ _ (Oper.mk none (.store _ _ _) _ _ _ _ :: _) _ _); refine wpList_store_cb rfl 24 (.tmp 4) (.tmp 51) rfl (w.heap.size + 1 + 1) [.int .i64 (1 + m1), .int .i64 (1 + m2), .int .i64 (1 + m3), .string n1, .string n2, .int .i64 (1 + m4), .int .i64 m5, .string ⟨#[45]⟩] rfl rfl 24 [.int .i64 0, .int .i64 0, .int .i64 0, .string ⟨#[]⟩, .string ⟨#[]⟩, .int .i64 0, .int .i64 0, .string ⟨#[]⟩] 8 (R8.out) sizeC rfl rfl (one_c _ _ _ _ _ _ _ _) ?_; intro wz hcz hgz hzz))
    refine bodyPost_ret (res_cell1 Tryz.results31 rfl hcz Tryz.underlying24 sizeC rfl) rfl ⟨?_, below_grown B8.out hgz (by omega) (by omega)⟩
    rw [HE.out]
    rfl
   | false =>
    have Z3 : Hid (CB (wc.setCell ⟨g, 7, none⟩ (.string ⟨#[45]⟩)) g 24 [.int .i64 (1 + m1), .int .i64 (1 + m2), .int .i64 (1 + m3), .string n1, .string n2, .int .i64 (1 + m4), .int .i64 m5, .string ⟨#[45]⟩]) := Li (Z2.out.set_ 7 _)
    have S3 : Hid (CB (wc.setCell ⟨g, 7, none⟩ (.string ⟨#[45]⟩)) w.heap.size 35 [.slice A n c, .int .i64 x]) := Li (S2.out.set_other 7 _ (by omega))
    have R3 : Hid (CB (wc.setCell ⟨g, 7, none⟩ (.string ⟨#[45]⟩)) (w.heap.size + 1 + 1) 24 [.int .i64 0, .int .i64 0, .int .i64 0, .string ⟨#[]⟩, .string ⟨#[]⟩, .int .i64 0, .int .i64 0, .string ⟨#[]⟩]) := Li (R2.out.set_other 7 _ (by omega))
    have B3 : Hid (Below w.heap.size w (wc.setCell ⟨g, 7, none⟩ (.string ⟨#[45]⟩))) := Li (B2.out.setCell (p := ⟨g, 7, none⟩) (by show w.heap.size ≤ g; omega) _)
    have zg3 := Z3.out.lt
    have zS3 := S3.out.lt
    go_wp2_with (first | (go_at_call 51; refine (RSep_any sep _ _ HP.out hsep).mono ?_; rintro e w7 ⟨rfl, hw7⟩; subst w7) | (go_at_call 52; refine (Rgroup_any A n c x l m5 _ HN.out (HS.out.up B3.out) hl2).mono ?_; rintro e w8 ⟨rfl, hb8⟩; rw [HG.out]; have Z8 := Li (Z3.out.up hb8); have R8 := Li (R3.out.up hb8); have B8 := Li (below_step B3.out B3.out.size hb8); have z80 := Z8.out.c8; have f86 := Z8.out.frozen 6; have zg8 := Z8.out.lt; have zR8 := R8.out.lt; clear hb8) | ((with_reducible show wpList _ _ _ (Oper.mk none (.store _ _ _) _ _ _ _ :: _) _ _); refine wpList_store_cb rfl 24 (.tmp 4) (.tmp 51) rfl (w.heap.size + 1 + 1) [.int .i64 (1 + m1), .int .i64 (1 + m2), .int .i64 (1 + m3), .string n1, .string n2, .int .i64 (1 + m4), .int .i64 0, .string ⟨#[45]⟩] rfl rfl 24 [.int .i64 0, .int .i64 0, .int .i64 0, .string ⟨#[]⟩, .string ⟨#[]⟩, .int .i64 0, .int .i64 0, .string ⟨#[]⟩] 8 (R8.out.set_other 6 _ (by omega)) sizeC rfl rfl (one_c _ _ _ _ _ _ _ _) ?_; intro wz hcz hgz hzz))
    refine bodyPost_ret (res_cell1 Tryz.results31 rfl hcz Tryz.underlying24 sizeC rfl) rfl ⟨?_, below_grown (B8.out.setCell (p := ⟨g, 6, none⟩) (by show w.heap.size ≤ g; omega) _) hgz (B8.out.setCell (p := ⟨g, 6, none⟩) (by show w.heap.size ≤ g; omega) _).size (by omega)⟩
    rw [HE.out]
    rfl
end Go.Proofs.YtfeemipnalgjnaaGreat
namespace Go.Proofs.YtfeemipnalgjnaaGreat
open Go.RowKit

theorem infoCh : (Tryz.prog.info? 24).map (fun i => (i.zero, i.size, i.bytes)) = some (some (.agg #[.int .i64 0, .int .i64 0, .int .i64 0, .string ⟨#[]⟩, .string ⟨#[]⟩, .int .i64 0, .int .i64 0, .string ⟨#[]⟩]), 8, 88) := by kernel_rfl
theorem nameR_small (s : ByteArray) (h : s.size ≤ 9223372036854775807) : (nameR s).size ≤ 9223372036854775807 := by
 unfold nameR
 split
 ·
  exact h
 ·
  have h6 : s.size % 6 = 0 ∨ s.size % 6 = 1 ∨ s.size % 6 = 2 ∨ s.size % 6 = 3 ∨ s.size % 6 = 4 ∨ s.size % 6 = 5 := by omega
  rcases h6 with h | h | h | h | h | h <;> rw [h] <;> exact Nat.le_of_ble_eq_true rfl
theorem lit_wf (n : Int) (h : -9223372036854775808 ≤ n ∧ n ≤ 9223372036854775807) : (Lit.int .i64 n).wf = true := by
 have := wrap64_wf n
 rwa [w64_in n h] at this
/-- a raw change of a program -/
structure RW (c : Ch) : Prop where
 kind : (Lit.int .i64 c.kind).wf = true
 id : (Lit.int .i64 c.id).wf = true
 wi : (Lit.int .i64 c.wi).wf = true
 ty : (Lit.int .i64 c.ty).wf = true
 pa : (Lit.int .i64 c.pa).wf = true
 nm : c.nm.size ≤ 9223372036854775807
 ot : c.ot.size ≤ 9223372036854775807
 sep : c.sep.size ≤ 9223372036854775807
theorem chg_rw {s : Sc} {c : Ch} (h : RW c) (hx : s.next ≤ 1073741824) : RW (chgR s c) := by
 have m1 := mod_le c.kind (n := 7) (by decide)
 have m2 := mod_le c.id hx
 have m3 := mod_le c.wi hx
 have m4 := mod_le c.ty (n := 6) (by decide)
 have m5 := mod_le c.pa hx
 refine ⟨lit_wf _ (by show _ ≤ 1 + _ ∧ 1 + _ ≤ _; omega), lit_wf _ (by show _ ≤ 1 + _ ∧ 1 + _ ≤ _; omega), lit_wf _ (by show _ ≤ 1 + _ ∧ 1 + _ ≤ _; omega), lit_wf _ (by show _ ≤ 1 + _ ∧ 1 + _ ≤ _; omega), lit_wf _ ?_, nameR_small _ h.nm, nameR_small _ h.ot, ?_⟩
 ·
  show _ ≤ (if _ then _ else _) ∧ (if _ then _ else _) ≤ _
  split <;> omega
 ·
  show (if _ then _ else _ : ByteArray).size ≤ _
  split
  ·
   exact h.sep
  ·
   exact Nat.le_of_ble_eq_true rfl
theorem RW.cw {c : Ch} (h : RW c) : CW c := ⟨h.kind, h.nm, h.ot, h.sep⟩
theorem made_rw : ∀ {l : List Ch} {s : Sc}, Ok s → (∀ c ∈ l, RW c) → ∀ c ∈ madeG s l, RW c
 | [], _, _, _, _, h => by simp [madeG] at h
 | d :: r, s, ho, hl, c, hc => by
  unfold madeG at hc
  split at hc
  ·
   next he =>
   rcases List.mem_cons.1 hc with rfl | hc
   ·
    exact chg_rw (hl d (by simp)) ho.big.2
   ·
    have he' := he
    rw [← apply_eq ho] at he' hc
    exact made_rw (ok_apply ho he').1 (fun c h => hl c (by simp [h])) c hc
  ·
   exact made_rw ho (fun c h => hl c (by simp [h])) c hc
theorem nam_small {b : ByteArray} (h : namB b = true) : b.size ≤ 9223372036854775807 := by
 unfold namB at h
 simp only [Bool.and_eq_true, decide_eq_true_iff] at h
 omega
theorem made_go {fs fs2 : List Fd} {x x2 : Int} {acc r T : List Ch} {k : Nat} {d cd : Ch} (hd : T.drop k = d :: T.drop (k + 1)) (h : acc ++ madeG ⟨fs, x⟩ (T.drop k) = r) (hc : chgR ⟨fs, x⟩ d = cd) (hq : applyR ⟨fs, x⟩ cd = (⟨fs2, x2⟩, 0)) : (acc ++ [cd]) ++ madeG ⟨fs2, x2⟩ (T.drop (k + 1)) = r := by
 rw [← h, hd, madeG, hc, hq, if_pos rfl]
 simp
theorem made_no {fs fs2 : List Fd} {x x2 er : Int} {acc r T : List Ch} {k : Nat} {d cd : Ch} (hd : T.drop k = d :: T.drop (k + 1)) (h : acc ++ madeG ⟨fs, x⟩ (T.drop k) = r) (hc : chgR ⟨fs, x⟩ d = cd) (hq : applyR ⟨fs, x⟩ cd = (⟨fs2, x2⟩, er)) (he : ¬ er = 0) : acc ++ madeG ⟨fs, x⟩ (T.drop (k + 1)) = r := by
 rw [← h, hd, madeG, hc, hq, if_neg he]
theorem made_end {fs : List Fd} {x : Int} {acc r T : List Ch} {k : Nat} (hk : T.length ≤ k) (h : acc ++ madeG ⟨fs, x⟩ (T.drop k) = r) : acc = r := by
 rw [← h, List.drop_of_length_le hk, madeG, List.append_nil]
theorem made_ok {fs fs2 : List Fd} {x x2 : Int} {cd : Ch} (ho : Ok ⟨fs, x⟩) (hq : applyR ⟨fs, x⟩ cd = (⟨fs2, x2⟩, 0)) : Ok ⟨fs2, x2⟩ := by
 rw [← apply_eq ho] at hq
 have := (ok_apply ho (c := cd) (by rw [hq])).1
 rwa [hq] at this
theorem Own.ne2 {E E' : TypeId} {k k' : Nat} {w : World} {base base' : Nat} {v v' : Value} {L L' : List (List Value)} (h : Own E k w base v L) (h' : Own E' k' w base' v' L') (ht : E ≠ E') : v.ownBlock = none ∨ v.ownBlock ≠ v'.ownBlock := by
 rcases h.1.2 with ⟨e, _⟩ | ⟨g, cap, cur, e, _, hg, _⟩
 ·
  left; rw [e]; rfl
 ·
  right
  rcases h'.1.2 with ⟨e', _⟩ | ⟨g', cap', cur', e', _, hg', _⟩
  ·
   rw [e, e']
   simp [Value.ownBlock]
  ·
   rw [e, e']
   intro hx
   have hx' : some g = some g' := hx
   injection hx' with hx'
   subst hx'
   rw [hg] at hg'
   have := Option.some.inj hg'
   injection this with _ h2
   exact ht h2
theorem one_ch (d : Ch) : ∀ u ∈ d.cells, u.oneCell' = true := one_c _ _ _ _ _ _ _ _
/-- append(v, c): v the call's own row of changes. -/
theorem push_ch {w wr : World} {ops : Array Oper} {rest : List Oper} {o : Oper} {a : Act} {Q : Exit → Act → World → Prop} (hgd : o.guard = none) (d x : Operand)
  (ho : o.op = .call { callee := .builtin .append, args := #[d, x], argTypes := #[22, 22] }) (base : Nat) (v : Value) (acc : List Ch) (f : Ch) (N : Nat) (hs : a.eval d = v) (hx : a.eval x = .slice (some ⟨N, 0, none⟩) 1 1)
  (hN : N = wr.heap.size) (hw : w = wr.alloc (.cells #[.int .i64 f.kind, .int .i64 f.id, .int .i64 f.wi, .string f.nm, .string f.ot, .int .i64 f.ty, .int .i64 f.pa, .string f.sep] 24)) (hr : Own 24 8 wr base v (acc.map Ch.cells)) (hroom : acc.length ≤ 1000000) (hbase : base ≤ wr.heap.size)
  (hK : ∀ A' c' w', Own 24 8 w' base (.slice A' (acc.length + 1) c') ((acc ++ [f]).map Ch.cells) → wr.grownBy w' v.ownBlock → Below base wr w' → wpList Tryz.prog ops Q rest (a.put o.dst (.slice A' (acc.length + 1) c')) w') : wpList Tryz.prog ops Q (o :: rest) a w := by
 refine wpList_push hgd d x ho Tryz.underlying22 infoCh rfl (by decide) base v (acc.map Ch.cells) f.cells N hs hx hN hw hr rfl (one_ch f) (by simp; omega) (by decide) hbase ?_
 intro A' c' w' h1 h2 h3
 have e : (acc.map Ch.cells ++ [f.cells]).length = acc.length + 1 := by simp
 rw [e] at h1 ⊢
 exact hK A' c' w' (by simpa using h1) h2 h3

set_option maxHeartbeats 4000000 in
set_option maxRecDepth 20000 in
theorem RMade_any (A : Option Addr) (n c K : Nat) (m : List Ch) (w : World) (hn : n = m.length) (hs : Chs w w.heap.size A m) (hl : n ≤ 9223372036854775807) (hK : K ≤ 1000) (hrw : ∀ d ∈ m, RW d) :
  Calls Tryz.prog 22 #[.slice A n c, .int .i64 (K : Int)] w fun e w' => (∃ A' c', e = .returned (.slice A' (madeR m K).length c') ∧ Own 24 8 w' w.heap.size (.slice A' (madeR m K).length c') ((madeR m K).map Ch.cells)) ∧ Below w.heap.size w w' := by
 have HN := Li hn
 have HS := Li hs
 have HR := Li hrw
 obtain ⟨T, hT⟩ : ∃ T, m.take K = T := ⟨_, rfl⟩
 have HT := Li hT
 have hTl : T.length = min K n := by rw [← hT, List.length_take, hn]
 clear hn hs hrw hT
 go_enter Tryz.func22, Tryz.ntmps22
 go_wp2_with (go_at_call 45; refine (RNew_any _).mono ?_; rintro e w1 ⟨rfl, hb1⟩; have B1 := Li hb1; have z1 := hb1.size; clear hb1)
 go_loopw [6, 7] (fun v j wr => ∃ (k n' c' cv : Nat) (A' Av : Option Addr) (x : Int) (fs : List Fd) (acc : List Ch), k ≤ T.length ∧ acc.length ≤ k ∧ v = .slice Av acc.length cv ∧ j = .int .i64 k ∧ Hid (CB wr w1.heap.size 35 [.slice A' n' c', .int .i64 x]) ∧ Hid (Own 58 4 wr w.heap.size (.slice A' n' c') (fs.map Fd.cells)) ∧ Hid (n' = fs.length) ∧ Hid (Ok ⟨fs, x⟩) ∧ Hid (Own 24 8 wr w.heap.size (.slice Av acc.length cv) (acc.map Ch.cells)) ∧ Hid (Below w.heap.size w wr) ∧ Hid (acc ++ madeG ⟨fs, x⟩ (T.drop k) = madeR m K)) (fun _ j _ => T.length - (intOf j).toNat)
 case atStart => exact ⟨0, 0, 0, 0, none, some ⟨w1.heap.size + 1, 0, none⟩, 1, [], [], by omega, by simp, rfl, rfl, (CB.new _ _ _).alloc _, ((Own.nil _ _ _ _).alloc _), rfl, ok_new, (own_empty1 w1 _ _ rfl).low z1, (B1.out.alloc z1 _).alloc (by rw [asz]; omega) _, by show [] ++ madeG Sc.new (T.drop 0) = _; rw [← HT.out]; rfl⟩
 case round =>
  obtain ⟨k, n', c', cv, A', Av, x, fs, acc, hk, hak, rfl, rfl, ht, hown, hnf, hok, hv, hbel, hgo⟩ := hrel
  have hzt := ht.out.lt
  by_cases hlt : k < T.length
  ·
   have i1 : (k : Int) < (n : Int) := by omega
   have i2 : (k : Int) < (K : Int) := by omega
   obtain ⟨d, hf⟩ := getC_of (l := T) (k := k) hlt
   have hd := Li (drop_cons hf)
   have hfm : m[k]? = some d := by
    rw [← HT.out, List.getElem?_take] at hf
    rwa [if_pos (by omega)] at hf
   obtain ⟨b, off, hA, hbl, c0, c1, c2, c3, c4, c5, c6, c7⟩ := (HS.out.below hbel.out).one hfm
   subst hA
   have HRW := Li (HR.out d (List.mem_of_getElem? hfm))
   obtain ⟨cd, hcd⟩ : ∃ cd, chgR ⟨fs, x⟩ d = cd := ⟨_, rfl⟩
   have HCD := Li (show chgR ⟨fs, x⟩ ⟨d.kind, d.id, d.wi, d.nm, d.ot, d.ty, d.pa, d.sep⟩ = cd from hcd)
   have HX1 := Li (show x ≤ 1073741824 from hok.out.big.2)
   have HL2 := Li (show n' ≤ 9223372036854775807 by rw [hnf.out]; have := hok.out.big.1; simp only at this; omega)
   have HCW := Li (show RW cd by rw [← hcd]; exact chg_rw HRW.out HX1.out)
   have zL := Li (show b < wr.heap.size from by have := hbel.out.size; omega)
   have C0 := Li c0
   have C1 := Li c1
   have C2 := Li c2
   have C3 := Li c3
   have C4 := Li c4
   have C5 := Li c5
   have C6 := Li c6
   have C7 := Li c7
   clear hf hfm hcd c0 c1 c2 c3 c4 c5 c6 c7 hbl
   go_upto_region 6 with fail
   go_cut [8] from 13 to 42 (fun p wx => ∃ g : Nat, p = .pointer (some ⟨g, 0, none⟩) ∧ wr.heap.size ≤ g ∧ Hid (CB wx g 24 cd.cells) ∧ Hid (Below wr.heap.size wr wx))
   case first =>
    refine wp_region_held_drew (S := fun w' => Hid (Below wr.drew.heap.size wr.drew w')) (by kernel_rfl) (Li (Below.refl _ _)) (fun hHeld => ?_)
    have T1 := Li (ht.out.up (bd wr))
    have zW : wr.heap.size = wr.drew.heap.size := rfl
    have zB := Li (bd wr)
    have zL1 := Li (show b < wr.drew.heap.size from zL.out)
    have c10 := Li (show wr.drew.cell? ⟨b, off + k * 8, none⟩ = _ from C0.out)
    have c11 := Li (show wr.drew.cell? ⟨b, off + k * 8 + 1, none⟩ = _ from C1.out)
    have c12 := Li (show wr.drew.cell? ⟨b, off + k * 8 + 2, none⟩ = _ from C2.out)
    have c13 := Li (show wr.drew.cell? ⟨b, off + k * 8 + 3, none⟩ = _ from C3.out)
    have c14 := Li (show wr.drew.cell? ⟨b, off + k * 8 + 4, none⟩ = _ from C4.out)
    have c15 := Li (show wr.drew.cell? ⟨b, off + k * 8 + 5, none⟩ = _ from C5.out)
    have c16 := Li (show wr.drew.cell? ⟨b, off + k * 8 + 6, none⟩ = _ from C6.out)
    have c17 := Li (show wr.drew.cell? ⟨b, off + k * 8 + 7, none⟩ = _ from C7.out)
    revert hHeld T1 zW zB zL1 c10 c11 c12 c13 c14 c15 c16 c17
    generalize wr.drew = W1
    intro hHeld T1 zW zB zL1 c10 c11 c12 c13 c14 c15 c16 c17
    have zT1 := Li T1.out.lt
    have t10 := Li (T1.out.cell 0 rfl)
    have t11 := Li (T1.out.cell 1 rfl)
    refine htl 0 ?_ ?_ ?_
    rotate_left
    ·
     intro wS hSw
     have hx0 := (hSw.out.cell (p := ⟨w1.heap.size, 0, none⟩) zT1.out).trans t10.out; have hx1 := (hSw.out.cell (p := ⟨w1.heap.size, 1, none⟩) zT1.out).trans t11.out
     clear hSw
     go_simp
     try with_reducible rfl
    try simp only [pnz]
    refine htk 1 ?_
    refine htk 2 ?_
    refine htk 3 ?_
    refine htl 4 ?_ ?_ ?_
    rotate_left
    ·
     intro wS hSw
     have hx0 := (hSw.out.cell (p := ⟨b, off + k * 8, none⟩) zL1.out).trans c10.out; have hx1 := (hSw.out.cell (p := ⟨b, off + k * 8 + 1, none⟩) zL1.out).trans c11.out; have hx2 := (hSw.out.cell (p := ⟨b, off + k * 8 + 2, none⟩) zL1.out).trans c12.out; have hx3 := (hSw.out.cell (p := ⟨b, off + k * 8 + 3, none⟩) zL1.out).trans c13.out; have hx4 := (hSw.out.cell (p := ⟨b, off + k * 8 + 4, none⟩) zL1.out).trans c14.out; have hx5 := (hSw.out.cell (p := ⟨b, off + k * 8 + 5, none⟩) zL1.out).trans c15.out; have hx6 := (hSw.out.cell (p := ⟨b, off + k * 8 + 6, none⟩) zL1.out).trans c16.out; have hx7 := (hSw.out.cell (p := ⟨b, off + k * 8 + 7, none⟩) zL1.out).trans c17.out
     clear hSw
     go_simp
     try with_reducible rfl
    try simp only [pnz]
    refine rd2 5 6 (fun KK hK => ?_) (fun KK hK => ?_)
    ·
     go_simp
     go_at_call 31
     refine (RChange_any A' n' c' x fs d.kind d.id d.wi d.nm d.ot d.ty d.pa d.sep _ hnf.out ((show Fds wr wr.heap.size A' fs from hown.out.row.2.2.2).up (zB.out.trans (hHeld.out.mono zB.out.size))) HL2.out HX1.out HRW.out.nm HRW.out.ot HRW.out.sep HRW.out.kind HRW.out.id HRW.out.wi HRW.out.ty HRW.out.pa).mono ?_
     rintro e w8 ⟨rfl, hb8⟩
     rw [HCD.out]
     have HB8 := Li (hHeld.out.trans (hb8.mono hHeld.out.size))
     have zB8 := HB8.out.size
     clear hb8
     go_wp2_with fail
     refine hK.out _ _ (HB8) (fun hHeld => ?_)
     clear hK KK
     try simp only [pnz]
     refine rd1 6 fun KK hK => ?_
     go_simp
     have GZ := Li (CB.new w8 24 [.int .i64 0, .int .i64 0, .int .i64 0, .string ⟨#[]⟩, .string ⟨#[]⟩, .int .i64 0, .int .i64 0, .string ⟨#[]⟩])
     have HBA := Li (al_up (o := .cells #[.int .i64 0, .int .i64 0, .int .i64 0, .string ⟨#[]⟩, .string ⟨#[]⟩, .int .i64 0, .int .i64 0, .string ⟨#[]⟩] 24) hHeld.out)
     refine hK.out _ _ (HBA) (fun hHeld => ?_)
     clear hK KK
     try simp only [pnz]
     refine rd1 7 fun KK hK => ?_
     refine step_store_cb rfl 24 (.tmp 8) (.tmp 29) rfl w8.heap.size cd.cells rfl rfl 24 [.int .i64 0, .int .i64 0, .int .i64 0, .string ⟨#[]⟩, .string ⟨#[]⟩, .int .i64 0, .int .i64 0, .string ⟨#[]⟩] 8 GZ.out sizeC rfl rfl (one_c _ _ _ _ _ _ _ _) ?_
     intro wz hcz hgz hzz
     have HBZ := Li (below_grown hHeld.out hgz hHeld.out.size (by omega))
     refine hK.out _ _ (HBZ) (fun hHeld => ?_)
     clear hK KK
     try simp only [pnz]
     refine wpAnyH_done (by kernel_rfl) ?_ _
     go_wp2_with fail
     go_meet
     exact ⟨_, rfl, by omega, Li hcz, Li (zB.out.trans (HBZ.out.mono (by omega)))⟩
    ·
     go_simp
     have GZ := Li (CB.new W1 24 [.int .i64 0, .int .i64 0, .int .i64 0, .string ⟨#[]⟩, .string ⟨#[]⟩, .int .i64 0, .int .i64 0, .string ⟨#[]⟩])
     have HBA := Li (al_up (o := .cells #[.int .i64 0, .int .i64 0, .int .i64 0, .string ⟨#[]⟩, .string ⟨#[]⟩, .int .i64 0, .int .i64 0, .string ⟨#[]⟩] 24) hHeld.out)
     refine hK.out _ _ (HBA) (fun hHeld => ?_)
     clear hK KK
     try simp only [pnz]
     refine rd1 5 fun KK hK => ?_
     go_simp
     go_at_call 31
     refine (RChange_any A' n' c' x fs d.kind d.id d.wi d.nm d.ot d.ty d.pa d.sep _ hnf.out ((show Fds wr wr.heap.size A' fs from hown.out.row.2.2.2).up (zB.out.trans (hHeld.out.mono zB.out.size))) HL2.out HX1.out HRW.out.nm HRW.out.ot HRW.out.sep HRW.out.kind HRW.out.id HRW.out.wi HRW.out.ty HRW.out.pa).mono ?_
     rintro e w8 ⟨rfl, hb8⟩
     rw [HCD.out]
     have HB8 := Li (hHeld.out.trans (hb8.mono hHeld.out.size))
     have zB8 := HB8.out.size
     have GZ8 := Li (GZ.out.up hb8)
     clear hb8
     go_wp2_with fail
     refine hK.out _ _ (HB8) (fun hHeld => ?_)
     clear hK KK
     try simp only [pnz]
     refine rd1 7 fun KK hK => ?_
     refine step_store_cb rfl 24 (.tmp 8) (.tmp 29) rfl W1.heap.size cd.cells rfl rfl 24 [.int .i64 0, .int .i64 0, .int .i64 0, .string ⟨#[]⟩, .string ⟨#[]⟩, .int .i64 0, .int .i64 0, .string ⟨#[]⟩] 8 GZ8.out sizeC rfl rfl (one_c _ _ _ _ _ _ _ _) ?_
     intro wz hcz hgz hzz
     have HBZ := Li (below_grown hHeld.out hgz hHeld.out.size (by omega))
     refine hK.out _ _ (HBZ) (fun hHeld => ?_)
     clear hK KK
     try simp only [pnz]
     refine wpAnyH_done (by kernel_rfl) ?_ _
     go_wp2_with fail
     go_meet
     exact ⟨_, rfl, by omega, Li hcz, Li (zB.out.trans (HBZ.out.mono (by omega)))⟩
   case rest =>
    obtain ⟨g, rfl, hge, G2, hbz⟩ := hcut
    have B2 := Li (below_step hbel.out hbel.out.size hbz.out)
    have T2 := Li (ht.out.up hbz.out)
    have O2 := Li (hown.out.up hbz.out)
    have V2 := Li (hv.out.up hbz.out)
    have t20 := T2.out.c2
    have g20 := G2.out.c8
    have HA := Li (RApply_any A' n' c' x fs cd.kind cd.id cd.wi cd.nm cd.ot cd.ty cd.pa cd.sep wc hnf.out (show Fds wc wc.heap.size A' fs from O2.out.row.2.2.2) (by rw [hnf.out]; have := hok.out.big.1; simp only at this; omega) (by have := hok.out.nx; simp only at this; omega) (by have := HX1.out; omega) HCW.out.nm HCW.out.ot HCW.out.sep (fun f hf => nam_small (hok.out.nam.1 f hf)))
    obtain ⟨⟨⟨fs2, x2⟩, er⟩, hq⟩ : ∃ r, applyR ⟨fs, x⟩ ⟨cd.kind, cd.id, cd.wi, cd.nm, cd.ot, cd.ty, cd.pa, cd.sep⟩ = r := ⟨_, rfl⟩
    have HQ := Li hq
    have hzg : w1.heap.size < g := by omega
    clear hq hbz
    by_cases he : er = 0
    ·
     subst he
     have HI := Li (made_ok hok.out HQ.out)
     have HG := Li (made_go hd.out hgo.out HCD.out HQ.out)
     go_wp2_with (first | (go_at_call 13; refine HA.out.mono ?_; rintro e w7 ⟨⟨A7, m7, c7, rfl, hm7, ho7⟩, hb7⟩; rw [HQ.out] at hm7 ho7; rw [HQ.out]; have T7 := Li (T2.out.up hb7); have G7 := Li (G2.out.up hb7); have V7 := Li (V2.out.up hb7); have O7 := Li (ho7.low (b := w.heap.size) B2.out.size); have M7 := Li hm7; have U7 := Li (O2.out.up hb7); have B7 := Li (below_step B2.out B2.out.size hb7); have zT7 := T7.out.lt; have zG7 := G7.out.lt; clear hm7 ho7 hb7) | ((with_reducible show wpList _ _ _ (Oper.mk none (.store _ _ _) _ _ _ _ :: _) _ _); refine wpList_store_cb rfl 35 (.tmp 5) (.tmp 38) rfl w1.heap.size [.slice A7 m7 c7, .int .i64 x2] rfl rfl 35 [.slice A' n' c', .int .i64 x] 2 (T7.out.alloc _) sizeS rfl rfl (one_s _ _ _ _) ?_; intro w9 hc9 hg9 hz9; have G9 := Li ((G7.out.alloc _).grown hg9 (fun h => by injection h with h; omega)); have V9 := Li ((V7.out.alloc _).kept hg9 (.inr (Own.ne V7.out T7.out (by decide)).symm)); have O9 := Li ((O7.out.alloc _).kept hg9 (.inr (Own.ne O7.out T7.out (by decide)).symm)); have T9 := Li hc9; have B9 := Li (below_grown (B7.out.alloc B7.out.size _) hg9 ((B7.out.alloc B7.out.size _).size) (by omega)); have g90 := G9.out.c8; clear hc9 hg9 hz9) | (at_builtin; refine push_ch (wr := w9) rfl (.tmp 39) (.tmp 41) rfl w.heap.size (.slice Av acc.length cv) acc cd w9.heap.size rfl rfl rfl rfl V9.out (by omega) B9.out.size ?_; intro A10 c10 w10 ho10 hg10 hb10; have T10 := Li (T9.out.grown hg10 (Own.ne V9.out T9.out (by decide))); have O10 := Li (O9.out.kept hg10 (Own.ne2 O9.out V9.out (by decide))); have B10 := Li (B9.out.trans hb10); have V10 := Li ho10; clear ho10 hg10 hb10))
     go_roundw
     case rel => exact ⟨k + 1, m7, c7, c10, A7, A10, x2, fs2, acc ++ [cd], by omega, by simp; omega, by simp, by go_num, T10, O10, M7, HI, by show Hid (Own _ _ _ _ (.slice A10 (acc ++ [cd]).length c10) _); rw [List.length_append]; exact V10, B10, HG⟩
     case measure => simp [intOf]; omega
    ·
     have e1 : (er == 0) = false := by simpa using he
     have HG := Li (made_no hd.out hgo.out HCD.out HQ.out he)
     clear he
     go_wp2_with (first | (go_at_call 13; refine HA.out.mono ?_; rintro e w7 ⟨⟨A7, m7, c7, rfl, hm7, ho7⟩, hb7⟩; rw [HQ.out] at hm7 ho7; rw [HQ.out]; have T7 := Li (T2.out.up hb7); have G7 := Li (G2.out.up hb7); have V7 := Li (V2.out.up hb7); have O7 := Li (ho7.low (b := w.heap.size) B2.out.size); have M7 := Li hm7; have U7 := Li (O2.out.up hb7); have B7 := Li (below_step B2.out B2.out.size hb7); have zT7 := T7.out.lt; have zG7 := G7.out.lt; clear hm7 ho7 hb7))
     go_roundw
     case rel => exact ⟨k + 1, n', c', cv, A', Av, x, fs, acc, by omega, by omega, rfl, by go_num, T7.out.alloc _, U7.out.alloc _, hnf, hok, V7.out.alloc _, B7.out.alloc B7.out.size _, HG⟩
     case measure => simp [intOf]; omega
  ·
   have HG := Li (made_end (by omega) hgo.out)
   have hkk : k = T.length := by omega
   by_cases hkn : (k : Int) < (n : Int)
   ·
    have i2 : ¬ (k : Int) < (K : Int) := by omega
    go_wp2
    all_goals (first | (exfalso; omega) | skip)
    all_goals
     go_ret
     rw [← HG.out]
     exact ⟨⟨Av, cv, rfl, hv.out⟩, hbel.out⟩
   ·
    go_wp2
    go_ret
    rw [← HG.out]
    exact ⟨⟨Av, cv, rfl, hv.out⟩, hbel.out⟩
end Go.Proofs.YtfeemipnalgjnaaGreat
namespace Go.Proofs.YtfeemipnalgjnaaGreat
open Go.RowKit

set_option maxHeartbeats 4000000 in
set_option maxRecDepth 20000 in
theorem RAfter_any (A : Option Addr) (n c : Nat) (m : List Ch) (w : World) (hn : n = m.length) (hs : Chs w w.heap.size A m) (hl : n ≤ 1000000) (hrw : ∀ d ∈ m, RW d) :
  Calls Tryz.prog 25 #[.slice A n c] w fun e w' => ResA w w' (aftP m) e ∧ Below w.heap.size w w' := by
 have HN := Li hn
 have HS := Li hs
 have HR := Li hrw
 clear hn hs hrw
 have R0 := Li (CB.new w 35 [.slice none 0 0, .int .i64 0])
 have B0 := Li (al1 w (.cells #[.slice none 0 0, .int .i64 0] 35))
 go_enter Tryz.func25, Tryz.ntmps25
 go_wp2_with (go_at_call 45; refine (RNew_any _).mono ?_; rintro e w1 ⟨rfl, hb1⟩; have R1 := Li (R0.out.up hb1); have B1 := Li (below_step B0.out B0.out.size hb1); have z1 := R1.out.lt; clear hb1)
 go_loopw [6, 7, 8] (fun j _ _ wr => ∃ (k n' c' : Nat) (A' : Option Addr) (x : Int) (fs : List Fd), k ≤ n ∧ j = .int .i64 k ∧ Hid (CB wr w.heap.size 35 [.slice none 0 0, .int .i64 0]) ∧ Hid (CB wr w1.heap.size 35 [.slice A' n' c', .int .i64 x]) ∧ Hid (Own 58 4 wr w.heap.size (.slice A' n' c') (fs.map Fd.cells)) ∧ Hid (n' = fs.length) ∧ Hid (Ok ⟨fs, x⟩) ∧ Hid (Below w.heap.size w wr) ∧ Hid (aft ⟨fs, x⟩ k (m.drop k) = aftP m)) (fun j _ _ _ => n - (intOf j).toNat)
 case atStart => exact ⟨0, 0, 0, none, 1, [], by omega, rfl, R1.out.alloc _, CB.new _ _ _, Own.nil _ _ _ _, rfl, ok_new, B1.out.alloc B1.out.size _, rfl⟩
 case round =>
  obtain ⟨k, n', c', A', x, fs, hk, rfl, hr, ht, hown, hnf, hok, hbel, hgo⟩ := hrel
  have hzr := hr.out.lt
  have hzt := ht.out.lt
  have t0 := ht.out.cell 0 rfl
  have t1 := ht.out.cell 1 rfl
  by_cases hlt : k < n
  ·
   have i1 : (k : Int) < (n : Int) := by omega
   obtain ⟨d, hf⟩ := getC_of (l := m) (k := k) (by rw [← HN.out]; exact hlt)
   have hd := Li (drop_cons hf)
   obtain ⟨b, off, hA, hbl, c0, c1, c2, c3, c4, c5, c6, c7⟩ := (HS.out.below hbel.out).one hf
   subst hA
   have HRW := Li (HR.out d (List.mem_of_getElem? hf))
   have HX0 := Li (show 0 ≤ x by have := hok.out.nx; simp only at this; omega)
   have HX1 := Li (show x ≤ 2305843009213693952 by have := hok.out.big.2; simp only at this; omega)
   have HL0 := Li (show n' ≤ 1000 by rw [hnf.out]; have := hok.out.big.1; simp only at this; omega)
   have HNL : Hid (AllN (fun s => s.size ≤ 9223372036854775807) fs) := fun f hf => nam_small (hok.out.nam.1 f hf)
   have zL := Li (show b < wr.heap.size from by have := hbel.out.size; omega)
   obtain ⟨⟨⟨fs2, x2⟩, er⟩, hq⟩ : ∃ r, applyR ⟨fs, x⟩ ⟨d.kind, d.id, d.wi, d.nm, d.ot, d.ty, d.pa, d.sep⟩ = r := ⟨_, rfl⟩
   have hqp : applyP ⟨fs, x⟩ d = (⟨fs2, x2⟩, er) := by rw [apply_eq hok.out]; exact hq
   have HQ := Li hq
   have HQP := Li hqp
   have zWb : w.heap.size ≤ wr.heap.size := hbel.out.size
   clear hf hq hqp hbl
   have C0 := Li c0
   have C1 := Li c1
   have C2 := Li c2
   have C3 := Li c3
   have C4 := Li c4
   have C5 := Li c5
   have C6 := Li c6
   have C7 := Li c7
   clear c0 c1 c2 c3 c4 c5 c6 c7
   go_upto_region 5 with fail
   go_cut [7, 8] from 10 to 30 (fun p e wx => ∃ (g c7 : Nat) (A7 : Option Addr), p = .pointer (some ⟨g, 0, none⟩) ∧ e = .int .i64 er ∧ wr.heap.size ≤ g ∧ Hid (CB wx g 35 [.slice A7 fs2.length c7, .int .i64 x2]) ∧ Hid (Own 58 4 wx w.heap.size (.slice A7 fs2.length c7) (fs2.map Fd.cells)) ∧ Hid (Below wr.heap.size wr wx))
   case first =>
    refine wp_region_held_drew (S := fun w' => Hid (Below wr.drew.heap.size wr.drew w')) (by kernel_rfl) (Li (Below.refl _ _)) (fun hHeld => ?_)
    have T1 := Li (ht.out.up (bd wr))
    have zW : wr.heap.size = wr.drew.heap.size := rfl
    have zB := Li (bd wr)
    have zL1 := Li (show b < wr.drew.heap.size from zL.out)
    replace zWb : w.heap.size ≤ wr.drew.heap.size := zWb
    have c10 := Li (show wr.drew.cell? ⟨b, off + k * 8, none⟩ = _ from C0.out)
    have c11 := Li (show wr.drew.cell? ⟨b, off + k * 8 + 1, none⟩ = _ from C1.out)
    have c12 := Li (show wr.drew.cell? ⟨b, off + k * 8 + 2, none⟩ = _ from C2.out)
    have c13 := Li (show wr.drew.cell? ⟨b, off + k * 8 + 3, none⟩ = _ from C3.out)
    have c14 := Li (show wr.drew.cell? ⟨b, off + k * 8 + 4, none⟩ = _ from C4.out)
    have c15 := Li (show wr.drew.cell? ⟨b, off + k * 8 + 5, none⟩ = _ from C5.out)
    have c16 := Li (show wr.drew.cell? ⟨b, off + k * 8 + 6, none⟩ = _ from C6.out)
    have c17 := Li (show wr.drew.cell? ⟨b, off + k * 8 + 7, none⟩ = _ from C7.out)
    revert hHeld
    revert T1 zW zB zL1 zWb c10 c11 c12 c13 c14 c15 c16 c17
    generalize wr.drew = W1
    intro T1 zW zB zL1 zWb c10 c11 c12 c13 c14 c15 c16 c17 hHeld
    have zT1 := Li T1.out.lt
    have t10 := Li (T1.out.cell 0 rfl)
    have t11 := Li (T1.out.cell 1 rfl)
    refine htl 0 ?_ ?_ ?_
    rotate_left
    ·
     intro wS hSw
     have hx0 := (hSw.out.cell (p := ⟨w1.heap.size, 0, none⟩) zT1.out).trans t10.out; have hx1 := (hSw.out.cell (p := ⟨w1.heap.size, 1, none⟩) zT1.out).trans t11.out
     clear hSw
     go_simp
     try with_reducible rfl
    try simp only [pnz]
    refine htk 1 ?_
    refine htk 2 ?_
    refine htk 3 ?_
    refine htl 4 ?_ ?_ ?_
    rotate_left
    ·
     intro wS hSw
     have hx0 := (hSw.out.cell (p := ⟨b, off + k * 8, none⟩) zL1.out).trans c10.out; have hx1 := (hSw.out.cell (p := ⟨b, off + k * 8 + 1, none⟩) zL1.out).trans c11.out; have hx2 := (hSw.out.cell (p := ⟨b, off + k * 8 + 2, none⟩) zL1.out).trans c12.out; have hx3 := (hSw.out.cell (p := ⟨b, off + k * 8 + 3, none⟩) zL1.out).trans c13.out; have hx4 := (hSw.out.cell (p := ⟨b, off + k * 8 + 4, none⟩) zL1.out).trans c14.out; have hx5 := (hSw.out.cell (p := ⟨b, off + k * 8 + 5, none⟩) zL1.out).trans c15.out; have hx6 := (hSw.out.cell (p := ⟨b, off + k * 8 + 6, none⟩) zL1.out).trans c16.out; have hx7 := (hSw.out.cell (p := ⟨b, off + k * 8 + 7, none⟩) zL1.out).trans c17.out
     clear hSw
     go_simp
     try with_reducible rfl
    try simp only [pnz]
    refine rd2 5 9 (fun KK hK => ?_) (fun KK hK => ?_)
    ·
     go_simp
     go_at_call 13
     refine (RApply_any A' n' c' x fs d.kind d.id d.wi d.nm d.ot d.ty d.pa d.sep _ hnf.out ((show Fds wr wr.heap.size A' fs from hown.out.row.2.2.2).up (zB.out.trans (hHeld.out.mono zB.out.size))) HL0.out HX0.out HX1.out HRW.out.nm HRW.out.ot HRW.out.sep HNL.out).mono ?_
     rintro e w8 ⟨⟨A7, m7, c7, rfl, hm7, ho7⟩, hb8⟩
     rw [HQ.out] at hm7 ho7
     rw [HQ.out]
     obtain rfl : m7 = fs2.length := hm7
     have HB8 := Li (hHeld.out.trans (hb8.mono hHeld.out.size))
     have zB8 := HB8.out.size
     have U8 := Li (ho7.low (b := w.heap.size) (Nat.le_trans zWb hHeld.out.size))
     clear hb8 ho7
     go_wp2_with fail
     refine hK.out _ _ (HB8) (fun hHeld => ?_)
     clear hK KK
     try simp only [pnz]
     refine htk 6 ?_
     refine htk 7 ?_
     refine htk 8 ?_
     refine rd1 9 fun KK hK => ?_
     go_simp
     have GZ := Li (CB.new w8 35 [.slice none 0 0, .int .i64 0])
     have HBA := Li (al_up (o := .cells #[.slice none 0 0, .int .i64 0] 35) hHeld.out)
     refine hK.out _ _ (HBA) (fun hHeld => ?_)
     clear hK KK
     try simp only [pnz]
     refine rd1 10 fun KK hK => ?_
     refine step_store_cb rfl 35 (.tmp 7) (.tmp 23) rfl w8.heap.size [.slice A7 fs2.length c7, .int .i64 x2] rfl rfl 35 [.slice none 0 0, .int .i64 0] 2 GZ.out sizeS rfl rfl (one_s _ _ _ _) ?_
     intro wz hcz hgz hzz
     have HBZ := Li (below_grown hHeld.out hgz hHeld.out.size (by omega))
     have UZ := Li (Own.kept (U8.out.alloc _) hgz (.inr (Own.ne (U8.out.alloc _) GZ.out (by decide)).symm))
     refine hK.out _ _ (HBZ) (fun hHeld => ?_)
     clear hK KK
     try simp only [pnz]
     refine htk 11 ?_
     refine wpAnyH_done (by kernel_rfl) ?_ _
     go_wp2_with fail
     go_meet
     exact ⟨_, _, _, rfl, rfl, by omega, Li hcz, UZ, Li (zB.out.trans (HBZ.out.mono zB.out.size))⟩
    ·
     go_simp
     have GZ := Li (CB.new W1 35 [.slice none 0 0, .int .i64 0])
     have HBA := Li (al_up (o := .cells #[.slice none 0 0, .int .i64 0] 35) hHeld.out)
     refine hK.out _ _ (HBA) (fun hHeld => ?_)
     clear hK KK
     try simp only [pnz]
     refine rd1 5 fun KK hK => ?_
     go_simp
     go_at_call 13
     refine (RApply_any A' n' c' x fs d.kind d.id d.wi d.nm d.ot d.ty d.pa d.sep _ hnf.out ((show Fds wr wr.heap.size A' fs from hown.out.row.2.2.2).up (zB.out.trans (hHeld.out.mono zB.out.size))) HL0.out HX0.out HX1.out HRW.out.nm HRW.out.ot HRW.out.sep HNL.out).mono ?_
     rintro e w8 ⟨⟨A7, m7, c7, rfl, hm7, ho7⟩, hb8⟩
     rw [HQ.out] at hm7 ho7
     rw [HQ.out]
     obtain rfl : m7 = fs2.length := hm7
     have HB8 := Li (hHeld.out.trans (hb8.mono hHeld.out.size))
     have zB8 := HB8.out.size
     have U8 := Li (ho7.low (b := w.heap.size) (Nat.le_trans zWb hHeld.out.size))
     have GZ8 := Li (GZ.out.up hb8)
     clear hb8 ho7
     go_wp2_with fail
     refine hK.out _ _ (HB8) (fun hHeld => ?_)
     clear hK KK
     try simp only [pnz]
     refine htk 6 ?_
     refine htk 7 ?_
     refine htk 8 ?_
     refine rd1 10 fun KK hK => ?_
     refine step_store_cb rfl 35 (.tmp 7) (.tmp 23) rfl W1.heap.size [.slice A7 fs2.length c7, .int .i64 x2] rfl rfl 35 [.slice none 0 0, .int .i64 0] 2 GZ8.out sizeS rfl rfl (one_s _ _ _ _) ?_
     intro wz hcz hgz hzz
     have HBZ := Li (below_grown hHeld.out hgz hHeld.out.size (by omega))
     have UZ := Li (Own.kept U8.out hgz (.inr (Own.ne U8.out GZ8.out (by decide)).symm))
     refine hK.out _ _ (HBZ) (fun hHeld => ?_)
     clear hK KK
     try simp only [pnz]
     refine htk 11 ?_
     refine wpAnyH_done (by kernel_rfl) ?_ _
     go_wp2_with fail
     go_meet
     exact ⟨_, _, _, rfl, rfl, by omega, Li hcz, UZ, Li (zB.out.trans (HBZ.out.mono zB.out.size))⟩
   case rest =>
    obtain ⟨g, c7, A7, rfl, rfl, hge, G2, U2, hbz⟩ := hcut
    have B2 := Li (below_step hbel.out hbel.out.size hbz.out)
    have T2 := Li (ht.out.up hbz.out)
    have O2 := Li (hown.out.up hbz.out)
    have R2 := Li (hr.out.up hbz.out)
    have t20 := T2.out.c2
    have g20 := G2.out.c2
    have zT2 := T2.out.lt
    have zR2 := R2.out.lt
    have zG2 := G2.out.lt
    clear hbz t0 t1
    by_cases he : er = 0
    ·
     subst he
     have HG := Li (aft_go hd.out hgo.out (by rw [HQP.out]))
     have HI := Li (ok_apply hok.out (c := d) (by rw [HQP.out])).1
     rw [HQP.out] at HG HI
     go_wp2_with (first | ((with_reducible show wpList _ _ _ (Oper.mk none (.store _ _ _) _ _ _ _ :: _) _ _); refine wpList_store_cb rfl 35 (.tmp 5) (.tmp 30) rfl w1.heap.size [.slice A7 fs2.length c7, .int .i64 x2] rfl rfl 35 [.slice A' n' c', .int .i64 x] 2 T2.out sizeS rfl rfl (one_s _ _ _ _) ?_; intro w9 hc9 hg9 hz9))
     go_roundw
     case rel => exact ⟨k + 1, fs2.length, c7, A7, x2, fs2, by omega, by go_num, R2.out.grown hg9 (fun h => by injection h with h; omega), hc9, U2.out.kept hg9 (.inr (Own.ne U2.out T2.out (by decide)).symm), rfl, HI, below_grown B2.out hg9 B2.out.size (by omega), by show _ = _; have h := HG.out; push_cast; exact h⟩
     case measure => simp [intOf]; omega
    ·
     have e1 : (er != 0) = true := by simpa using he
     have HG := Li (aft_stop hd.out hgo.out (by rw [HQP.out]; exact he))
     rw [HQP.out] at HG
     clear he
     go_wp2_with (first | ((with_reducible show wpList _ _ _ (Oper.mk none (.store _ _ _) _ _ _ _ :: _) _ _); refine wpList_store_cb rfl 35 (.tmp 2) (.tmp 27) rfl w.heap.size [.slice A' n' c', .int .i64 x] rfl rfl 35 [.slice none 0 0, .int .i64 0] 2 R2.out sizeS rfl rfl (one_s _ _ _ _) ?_; intro w9 hc9 hg9 hz9))
     refine bodyPost_ret (res_cell3 Tryz.results25 rfl rfl rfl hc9 Tryz.underlying35 sizeS rfl) rfl ⟨?_, below_grown B2.out hg9 B2.out.size (by omega)⟩
     rw [HG.out]
     exact ⟨A', n', c', rfl, hnf.out, O2.out.kept hg9 (.inr (Own.ne O2.out R2.out (by decide)).symm)⟩
  ·
   have i1 : ¬ (k : Int) < (n : Int) := by omega
   have HG := Li (aft_end (by rw [← HN.out]; omega) hgo.out)
   have hkn : k = n := by omega
   subst hkn
   go_wp2_with (first | ((with_reducible show wpList _ _ _ (Oper.mk none (.store _ _ _) _ _ _ _ :: _) _ _); refine wpList_store_cb rfl 35 (.tmp 2) (.tmp 31) rfl w.heap.size [.slice A' n' c', .int .i64 x] rfl rfl 35 [.slice none 0 0, .int .i64 0] 2 hr.out sizeS rfl rfl (one_s _ _ _ _) ?_; intro w9 hc9 hg9 hz9))
   refine bodyPost_ret (res_cell3 Tryz.results25 rfl rfl rfl hc9 Tryz.underlying35 sizeS rfl) rfl ⟨?_, below_grown hbel.out hg9 (by omega) (by omega)⟩
   rw [HG.out]
   exact ⟨A', n', c', rfl, hnf.out, hown.out.kept hg9 (.inr (Own.ne hown.out hr.out (by decide)).symm)⟩
end Go.Proofs.YtfeemipnalgjnaaGreat
