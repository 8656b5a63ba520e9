/-
  A value is decoded from its encoding, wherever it stands, and parsed from its notation: the law's walk.
-/
import Derived.Test.YtmdeojlpccdahaaDoorStep
import Derived.Test.YtmdeojlpccdahaaDoorFitR
namespace Go.Proofs.YtmdeojlpccdahaaDoor.rt
open Go.RowKit Go.Lib

theorem bx {w w' : World} {o o' : Obj} (h : Below ((w.alloc o).alloc o').heap.size ((w.alloc o).alloc o') w') : Below w.heap.size w w' := (al2 w o o').trans (h.mono (by simp; omega))
theorem cells2 {w w' : World} {x y : Value} {o' : Obj} {t : TypeId} (h : Below ((w.alloc (.cells #[x, y] t)).alloc o').heap.size ((w.alloc (.cells #[x, y] t)).alloc o') w') :
    w'.cell? ⟨w.heap.size, 0, none⟩ = some x ∧ w'.cell? ⟨w.heap.size, 1, none⟩ = some y :=
  ⟨(h.cell (p := ⟨w.heap.size, 0, none⟩) (by simp; omega)).trans (by simp), (h.cell (p := ⟨w.heap.size, 1, none⟩) (by simp; omega)).trans (by simp)⟩

set_option maxHeartbeats 1000000 in
set_option maxRecDepth 100000 in
attribute [local irreducible] okV showL decL parV encL dateL str in
theorem walk (A B : Option Addr) (ca cb N M : Nat) (l m : List UInt8) (b : Bool) (n : Int) (s : ByteArray) (t : Nat) (w : World) (hN : Hid (N = l.length)) (hM : Hid (M = m.length)) (hA : Shows w w.heap.size A l) (hca : l.length ≤ ca) (hB : Shows w w.heap.size B m) (hcb : m.length ≤ cb)
    (hv : Va.Fine ⟨b, n, s⟩) (ht : t < 256) (hG : Glob5 w) :
    Calls Tryd.prog 4 #[.agg #[.slice A N ca, .slice B M cb], .agg #[.bool b, .int .i64 n, .string s], .int .u8 (t : Int)] w fun e w' => e = .returned (.bool true) ∧ Below w.heap.size w w' := by
  have HA := Lib.hid hA
  have HB := Lib.hid hB
  have HV := Lib.hid hv
  have HG := Lib.hid hG
  clear hA hB hv hG
  by_cases g1 : 400 < N
  · have i1 : 400 < (N : Int) := by omega
    go_enter Tryd.func4, Tryd.ntmps4
    go_wp2_with fail
    refine (sanity_any _ (HG.out.up (al2 w _ _))).mono ?_
    rintro e w1 ⟨rfl, hb⟩
    obtain ⟨c0, c1⟩ := cells2 hb
    have V1 := Lib.hid ((VB.new (w.alloc (.cells #[.slice A N ca, .slice B M cb] 30)) b n s).up hb)
    obtain ⟨k0, k1, k2⟩ := V1.out.s3
    simp only [World.size_alloc] at k0 k1 k2
    have B1 := Lib.hid (bx hb)
    clear hb
    go_wp2_with fail
    go_ret
    exact ⟨rfl, B1.out⟩
  by_cases g2 : 400 < M
  · have i1 : ¬ 400 < (N : Int) := by omega
    have i2 : 400 < (M : Int) := by omega
    go_enter Tryd.func4, Tryd.ntmps4
    go_wp2_with fail
    refine (sanity_any _ (HG.out.up (al2 w _ _))).mono ?_
    rintro e w1 ⟨rfl, hb⟩
    obtain ⟨c0, c1⟩ := cells2 hb
    have V1 := Lib.hid ((VB.new (w.alloc (.cells #[.slice A N ca, .slice B M cb] 30)) b n s).up hb)
    obtain ⟨k0, k1, k2⟩ := V1.out.s3
    simp only [World.size_alloc] at k0 k1 k2
    have B1 := Lib.hid (bx hb)
    clear hb
    go_wp2_with fail
    go_ret
    exact ⟨rfl, B1.out⟩
  by_cases g3 : 400 < s.size
  · have i1 : ¬ 400 < (N : Int) := by omega
    have i2 : ¬ 400 < (M : Int) := by omega
    have i3 : 400 < (s.size : Int) := by omega
    go_enter Tryd.func4, Tryd.ntmps4
    go_wp2_with fail
    refine (sanity_any _ (HG.out.up (al2 w _ _))).mono ?_
    rintro e w1 ⟨rfl, hb⟩
    obtain ⟨c0, c1⟩ := cells2 hb
    have V1 := Lib.hid ((VB.new (w.alloc (.cells #[.slice A N ca, .slice B M cb] 30)) b n s).up hb)
    obtain ⟨k0, k1, k2⟩ := V1.out.s3
    simp only [World.size_alloc] at k0 k1 k2
    have B1 := Lib.hid (bx hb)
    clear hb
    go_wp2_with fail
    go_ret
    exact ⟨rfl, B1.out⟩
  have h1 : N ≤ 400 := by omega
  have h2 : M ≤ 400 := by omega
  have h3 : s.size ≤ 400 := by omega
  go_enter Tryd.func4, Tryd.ntmps4
  go_wp2_with fail
  refine (sanity_any _ (HG.out.up (al2 w _ _))).mono ?_
  rintro e w1 ⟨rfl, hb⟩
  obtain ⟨c0, c1⟩ := cells2 hb
  have V1 := Lib.hid ((VB.new (w.alloc (.cells #[.slice A N ca, .slice B M cb] 30)) b n s).up hb)
  obtain ⟨k0, k1, k2⟩ := V1.out.s3
  simp only [World.size_alloc] at k0 k1 k2
  have B1 := Lib.hid (bx hb)
  clear hb
  obtain ⟨k, hk⟩ : ∃ k : Int, 1 + (t : Int) % 5 = k := ⟨_, rfl⟩
  have hk5 : 1 ≤ k ∧ k ≤ 5 := by omega
  go_wp2_with fail
  refine (Fit_b b n s k _ HV.out h3 hk5).mono ?_
  rintro e w2 ⟨⟨⟨ub, un, us⟩, rfl, hku, hfu, hsu⟩, hb⟩
  have B2 := Lib.hid (B1.out.trans (hb.mono B1.out.size))
  have d0 := (hb.cell (p := ⟨w.heap.size, 0, none⟩) (World.block_lt_of_cell? w1 _ c0)).trans c0
  have d1 := (hb.cell (p := ⟨w.heap.size, 1, none⟩) (World.block_lt_of_cell? w1 _ c1)).trans c1
  have HKU := Lib.hid hku
  have HFU := Lib.hid hfu
  have HSU := Lib.hid hsu
  clear hb hku hfu hsu c0 c1 k0 k1 k2 V1 B1 hk ht
  unfold Va.val
  have hww : w.heap.size < w2.heap.size := World.block_lt_of_cell? w2 _ d0
  have hne : ¬ w.heap.size = w2.heap.size := by omega
  go_wp2_with fail
  obtain ⟨L, hL⟩ : ∃ L, Hid (L = (l ++ encL ⟨ub, un, us⟩ k).length) := ⟨_, rfl⟩
  have hl6 : L ≤ 611 := by
    have := encL_len ⟨ub, un, us⟩ k HFU.out
    have := hN.out
    rw [hL.out, List.length_append]
    omega
  refine (enc_rt A N ca L l ub un us k _ hN.out ((HA.out.up B2.out).up (val_al _ _)) (by omega) HFU.out hL.out).mono ?_
  rintro e w3 ⟨A3, c3, rfl, ho, hb⟩
  have B3 := Lib.hid (B2.out.trans (((val_al w2 _).trans (hb.mono (by simp))).mono B2.out.size))
  have HO := Lib.hid ho
  have hX := (VB.new w2 ub un us).up hb
  have hle : w2.heap.size ≤ w3.heap.size := by have := hb.size; simp at this; omega
  have e0 := (hb.cell (p := ⟨w.heap.size, 0, none⟩) (by simp; omega)).trans (((val_al w2 _).cell (p := ⟨w.heap.size, 0, none⟩) hww).trans d0)
  have e1 := (hb.cell (p := ⟨w.heap.size, 1, none⟩) (by simp; omega)).trans (((val_al w2 _).cell (p := ⟨w.heap.size, 1, none⟩) hww).trans d1)
  obtain ⟨X, hXe⟩ : ∃ X, w2.heap.size = X := ⟨_, rfl⟩
  have hwX : w.heap.size < X := by omega
  rw [World.size_alloc, hXe] at HO
  rw [hXe] at hX
  have HX := Lib.hid hX
  have hX3 := hX.lt
  have HSB : Hid (Shows w3 w3.heap.size B m) := HB.out.up B3.out
  have FF : Hid (F4 (X + 1) w3 w3 (.slice A3 L c3) (l ++ encL ⟨ub, un, us⟩ k)) := ⟨Below.refl _ _, HO.out, by omega⟩
  have HCE : Hid (∀ w', Below (X + 1) w3 w' → w'.cell? ⟨w.heap.size, 0, none⟩ = some (.slice A N ca) ∧ w'.cell? ⟨w.heap.size, 1, none⟩ = some (.slice B M cb)) := fun w' h => ⟨(h.cell (p := ⟨w.heap.size, 0, none⟩) (by simp; omega)).trans e0, (h.cell (p := ⟨w.heap.size, 1, none⟩) (by simp; omega)).trans e1⟩
  obtain ⟨T, hT⟩ : ∃ T, Hid (T = (l ++ encL ⟨ub, un, us⟩ k ++ m).length) := ⟨_, rfl⟩
  have hLM : Hid ((l ++ encL ⟨ub, un, us⟩ k).length + M ≤ 140737488355000) := by
    show _ ≤ _
    rw [← hL.out]
    omega
  have hTn : T ≤ 100000 := by
    have := hM.out
    rw [hT.out, List.length_append, ← hL.out]
    omega
  have HP := Lib.hid hLM
  clear hb ho hX d0 d1
  go_wp2_with fail
  have hn3 : ¬ w.heap.size = w3.heap.size := by omega
  have hm3 : ¬ w3.heap.size = w.heap.size := by omega
  go_region_held_law (fun w' => w'.cell? ⟨w.heap.size, 0, none⟩ = some (.slice A N ca) ∧ w'.cell? ⟨w.heap.size, 1, none⟩ = some (.slice B M cb))
    (first | exact hS7 | go_keep)
    (first
      | (go_at_call 13; refine (dec_rt A7 T c7 N L _ l m ub un us k _ rfl hT.out hN.out hL.out (by first | exact HO7.out.shows.2.2 | exact shows_dr HO7.out.shows.2.2 | exact shows_dr (shows_dr HO7.out.shows.2.2) | exact shows_dn HO7.out.shows.2.2 | exact shows_ao HO7.out.shows.2.2 _ | exact shows_dr (shows_ao HO7.out.shows.2.2 _) | exact shows_ao (shows_dr HO7.out.shows.2.2) _ | exact shows_dr (shows_ao (shows_dr HO7.out.shows.2.2) _)) (by have := HO7.out.shows.2.1; have := hT.out; omega) hTn HO7.out.cap_le HKU.out HFU.out).mono ?_; rintro e w8 ⟨rfl, hb8⟩; have HB8 : Hid (Below w7.heap.size w7 w8) := (by first | exact hb8 | exact ((bl_dr (Below.refl _ _)).trans hb8) | exact ((bl_dn (Below.refl _ _)).trans hb8) | exact ((val_al _ _).trans (hb8.mono (by simp))) | exact ((bl_dr (val_al _ _)).trans (hb8.mono (by simp))) | exact ((val_al w7.drew _).trans (hb8.mono (by simp))) | exact ((bl_dr (val_al w7.drew _)).trans (hb8.mono (by simp)))); have hS7 : w8.cell? ⟨w.heap.size, 0, none⟩ = some (.slice A N ca) ∧ w8.cell? ⟨w.heap.size, 1, none⟩ = some (.slice B M cb) := HCE.out w8 (HG7.out.trans (HB8.out.mono (by have := HG7.out.size; omega))); have hn8 : ¬ w.heap.size = w8.heap.size := (by have := HG7.out.size; have := HB8.out.size; omega); have hm8 : ¬ w8.heap.size = w.heap.size := (by omega); (first | (have Z8 : VB w8 w3.heap.size false 0 ⟨#[]⟩ := Z7.out.up hb8; obtain ⟨z0, z1, z2, y0, y1, y2, _⟩ := Z8) | (have Z8 : VB w8 w3.heap.size false 0 ⟨#[]⟩ := Z7.out.dr.up hb8; obtain ⟨z0, z1, z2, y0, y1, y2, _⟩ := Z8) | (have Z8 : VB w8 w7.heap.size false 0 ⟨#[]⟩ := (VB.new w7 false 0 ⟨#[]⟩).up hb8; obtain ⟨z0, z1, z2, y0, y1, y2, _⟩ := Z8) | (have Z8 : VB w8 w7.heap.size false 0 ⟨#[]⟩ := (VB.new w7 false 0 ⟨#[]⟩).dr.up hb8; obtain ⟨z0, z1, z2, y0, y1, y2, _⟩ := Z8) | (have Z8 : VB w8 w7.heap.size false 0 ⟨#[]⟩ := (VB.new w7.drew false 0 ⟨#[]⟩).up hb8; obtain ⟨z0, z1, z2, y0, y1, y2, _⟩ := Z8) | (have Z8 : VB w8 w7.heap.size false 0 ⟨#[]⟩ := (VB.new w7.drew false 0 ⟨#[]⟩).dr.up hb8; obtain ⟨z0, z1, z2, y0, y1, y2, _⟩ := Z8) | skip); clear hb8)
      | (refine step_growB rfl (.tmp 50) (.tmp 52) rfl (X + 1) w3 (.slice A3 L c3) (l ++ encL ⟨ub, un, us⟩ k) B m M cb _ T rfl rfl hM.out (by first | exact FF.out | exact FF.out.dr | exact FF.out.dr.dr | exact FF.out.dn | exact FF.out.ao _ | exact (FF.out.ao _).dr | exact FF.out.dr.ao _ | exact (FF.out.dr.ao _).dr) (by first | exact HSB.out | exact shows_dr HSB.out | exact shows_dr (shows_dr HSB.out) | exact shows_dn HSB.out | exact shows_ao HSB.out _ | exact shows_dr (shows_ao HSB.out _) | exact shows_ao (shows_dr HSB.out) _ | exact shows_dr (shows_ao (shows_dr HSB.out) _)) hLM.out hT.out ?_; intro A7 c7 w7 ho7 hg7 hgr7; have hS7 := HCE.out w7 hg7; have HO7 := Lib.hid ho7; have HG7 := Lib.hid hg7; have hn7 : ¬ w.heap.size = w7.heap.size := (by have := hg7.size; omega); have hm7 : ¬ w7.heap.size = w.heap.size := (by omega); (first | have Z7 : Hid (VB w7 w3.heap.size false 0 ⟨#[]⟩) := Lib.hid (((VB.new w3 false 0 ⟨#[]⟩)).grown hgr7 (own_block FF.out.own (Nat.le_refl _))) | have Z7 : Hid (VB w7 w3.heap.size false 0 ⟨#[]⟩) := Lib.hid (((VB.new w3 false 0 ⟨#[]⟩).dr).grown hgr7 (own_block FF.out.own (Nat.le_refl _))) | have Z7 : Hid (VB w7 w3.heap.size false 0 ⟨#[]⟩) := Lib.hid (((VB.new w3.drew false 0 ⟨#[]⟩)).grown hgr7 (own_block FF.out.own (Nat.le_refl _))) | have Z7 : Hid (VB w7 w3.heap.size false 0 ⟨#[]⟩) := Lib.hid (((VB.new w3.drew false 0 ⟨#[]⟩).dr).grown hgr7 (own_block FF.out.own (Nat.le_refl _))) | skip); clear ho7 hg7 hgr7)
      | fail)
  · have HXX := HX.out.upB HG7.out (by omega)
    have HV9 : Hid (VB (w8.alloc (.cells #[.bool ub, .int .i64 un, .string us] 23)) w8.heap.size ub un us) := VB.new w8 ub un us
    have HX9 : Hid (VB (w8.alloc (.cells #[.bool ub, .int .i64 un, .string us] 23)) X ub un us) := (HXX.upB HB8.out (by have := HG7.out.size; omega)).al _
    have HB9 : Hid (Below w.heap.size w (w8.alloc (.cells #[.bool ub, .int .i64 un, .string us] 23))) := ((B3.out.trans (HG7.out.mono (by omega))).trans (HB8.out.mono (by have := HG7.out.size; have := B3.out.size; omega))).alloc (by have := HG7.out.size; have := HB8.out.size; omega) _
    clear HXX HX HCE FF HSB HO HO7 hS7
    obtain ⟨x0, x1, x2⟩ := HX9.out.s3
    try unfold set3 at x0 x1 x2
    obtain ⟨r, hr⟩ : ∃ r, Hid (str (showL ⟨ub, un, us⟩ k) = r) := ⟨_, rfl⟩
    go_wp2_with fail
    refine (show_rt ub un us k r _ hr.out (HG.out.up HB9.out) HFU.out).mono ?_
    rintro e w10 ⟨rfl, hb10⟩
    have HV10 := Lib.hid (HV9.out.up hb10)
    have HX10 := Lib.hid (HX9.out.up hb10)
    have HB10 := Lib.hid (HB9.out.trans (hb10.mono HB9.out.size))
    clear hb10 x0 x1 x2 HV9 HX9 HB9
    go_wp2_with fail
    refine (par_rt ub un us k r _ hr.out (HG.out.up HB10.out) HKU.out HFU.out).mono ?_
    rintro e w11 ⟨rfl, hb11⟩
    have HV11 := Lib.hid (HV10.out.up hb11)
    have HX11 := Lib.hid (HX10.out.up hb11)
    have HB11 := Lib.hid (HB10.out.trans (hb11.mono HB10.out.size))
    clear hb11 HV10 HX10 HB10
    have hx11 := HX11.out.lt
    have hq11 : ¬ X = w11.heap.size := by omega
    obtain ⟨x0, x1, x2⟩ := HX11.out.s3
    go_wp2_with fail
    refine (val_rt ub un us k _ HKU.out HFU.out).mono ?_
    rintro e w12 ⟨rfl, hb12⟩
    obtain ⟨p0, p1, p2⟩ := ((HV11.out.al _).up hb12).s3
    obtain ⟨q0, q1, q2⟩ := ((HX11.out.al _).up hb12).s3
    obtain ⟨r0, r1, r2⟩ := ((VB.new w11 ub un us).up hb12).s3
    have HB12 := Lib.hid (HB11.out.trans (((val_al w11 _).trans (hb12.mono (by simp))).mono HB11.out.size))
    clear hb12 x0 x1 x2
    go_wp2_with fail
    go_ret
    exact ⟨by simp, HB12.out⟩
  · have HXX := HX.out.upB HG7.out (by omega)
    have HV9 : Hid (VB (set3 w8 w7.heap.size ub un us) w7.heap.size ub un us) := VB.set (n' := 0) (b' := false) (s' := ⟨#[]⟩) ⟨z0, z1, z2, y0, y1, y2, by assumption⟩
    have HX9 : Hid (VB (set3 w8 w7.heap.size ub un us) X ub un us) := (HXX.upB HB8.out (by have := HG7.out.size; omega)).put (by have := HG7.out.size; omega)
    have HB9 : Hid (Below w.heap.size w (set3 w8 w7.heap.size ub un us)) := bl_set3 ((B3.out.trans (HG7.out.mono (by omega))).trans (HB8.out.mono (by have := HG7.out.size; have := B3.out.size; omega))) (by have := HG7.out.size; omega)
    clear HXX HX HCE FF HSB HO HO7 hS7
    obtain ⟨x0, x1, x2⟩ := HX9.out.s3
    try unfold set3 at x0 x1 x2
    obtain ⟨r, hr⟩ : ∃ r, Hid (str (showL ⟨ub, un, us⟩ k) = r) := ⟨_, rfl⟩
    go_wp2_with fail
    refine (show_rt ub un us k r _ hr.out (HG.out.up HB9.out) HFU.out).mono ?_
    rintro e w10 ⟨rfl, hb10⟩
    have HV10 := Lib.hid (HV9.out.up hb10)
    have HX10 := Lib.hid (HX9.out.up hb10)
    have HB10 := Lib.hid (HB9.out.trans (hb10.mono HB9.out.size))
    clear hb10 x0 x1 x2 HV9 HX9 HB9
    go_wp2_with fail
    refine (par_rt ub un us k r _ hr.out (HG.out.up HB10.out) HKU.out HFU.out).mono ?_
    rintro e w11 ⟨rfl, hb11⟩
    have HV11 := Lib.hid (HV10.out.up hb11)
    have HX11 := Lib.hid (HX10.out.up hb11)
    have HB11 := Lib.hid (HB10.out.trans (hb11.mono HB10.out.size))
    clear hb11 HV10 HX10 HB10
    have hx11 := HX11.out.lt
    have hq11 : ¬ X = w11.heap.size := by omega
    obtain ⟨x0, x1, x2⟩ := HX11.out.s3
    go_wp2_with fail
    refine (val_rt ub un us k _ HKU.out HFU.out).mono ?_
    rintro e w12 ⟨rfl, hb12⟩
    obtain ⟨p0, p1, p2⟩ := ((HV11.out.al _).up hb12).s3
    obtain ⟨q0, q1, q2⟩ := ((HX11.out.al _).up hb12).s3
    obtain ⟨r0, r1, r2⟩ := ((VB.new w11 ub un us).up hb12).s3
    have HB12 := Lib.hid (HB11.out.trans (((val_al w11 _).trans (hb12.mono (by simp))).mono HB11.out.size))
    clear hb12 x0 x1 x2
    go_wp2_with fail
    go_ret
    exact ⟨by simp, HB12.out⟩
  · have HXX := HX.out.upB HG7.out (by omega)
    have HV9 : Hid (VB (set3 w8 w3.heap.size ub un us) w3.heap.size ub un us) := VB.set (n' := 0) (b' := false) (s' := ⟨#[]⟩) ⟨z0, z1, z2, y0, y1, y2, by assumption⟩
    have HX9 : Hid (VB (set3 w8 w3.heap.size ub un us) X ub un us) := (HXX.upB HB8.out (by have := HG7.out.size; omega)).put (by omega)
    have HB9 : Hid (Below w.heap.size w (set3 w8 w3.heap.size ub un us)) := bl_set3 ((B3.out.trans (HG7.out.mono (by omega))).trans (HB8.out.mono (by have := HG7.out.size; have := B3.out.size; omega))) (by omega)
    clear HXX HX HCE FF HSB HO HO7 hS7
    obtain ⟨x0, x1, x2⟩ := HX9.out.s3
    try unfold set3 at x0 x1 x2
    obtain ⟨r, hr⟩ : ∃ r, Hid (str (showL ⟨ub, un, us⟩ k) = r) := ⟨_, rfl⟩
    go_wp2_with fail
    refine (show_rt ub un us k r _ hr.out (HG.out.up HB9.out) HFU.out).mono ?_
    rintro e w10 ⟨rfl, hb10⟩
    have HV10 := Lib.hid (HV9.out.up hb10)
    have HX10 := Lib.hid (HX9.out.up hb10)
    have HB10 := Lib.hid (HB9.out.trans (hb10.mono HB9.out.size))
    clear hb10 x0 x1 x2 HV9 HX9 HB9
    go_wp2_with fail
    refine (par_rt ub un us k r _ hr.out (HG.out.up HB10.out) HKU.out HFU.out).mono ?_
    rintro e w11 ⟨rfl, hb11⟩
    have HV11 := Lib.hid (HV10.out.up hb11)
    have HX11 := Lib.hid (HX10.out.up hb11)
    have HB11 := Lib.hid (HB10.out.trans (hb11.mono HB10.out.size))
    clear hb11 HV10 HX10 HB10
    have hx11 := HX11.out.lt
    have hq11 : ¬ X = w11.heap.size := by omega
    obtain ⟨x0, x1, x2⟩ := HX11.out.s3
    go_wp2_with fail
    refine (val_rt ub un us k _ HKU.out HFU.out).mono ?_
    rintro e w12 ⟨rfl, hb12⟩
    obtain ⟨p0, p1, p2⟩ := ((HV11.out.al _).up hb12).s3
    obtain ⟨q0, q1, q2⟩ := ((HX11.out.al _).up hb12).s3
    obtain ⟨r0, r1, r2⟩ := ((VB.new w11 ub un us).up hb12).s3
    have HB12 := Lib.hid (HB11.out.trans (((val_al w11 _).trans (hb12.mono (by simp))).mono HB11.out.size))
    clear hb12 x0 x1 x2
    go_wp2_with fail
    go_ret
    exact ⟨by simp, HB12.out⟩
end Go.Proofs.YtmdeojlpccdahaaDoor.rt
namespace Go.Proofs.YtmdeojlpccdahaaDoor
open Go.RowKit Go.Lib
theorem walkRt (A B : Option Addr) (ca cb : Nat) (l m : List UInt8) (b : Bool) (n : Int) (s : ByteArray) (t : Nat) (w : World) (hA : Shows w w.heap.size A l) (hca : l.length ≤ ca) (hB : Shows w w.heap.size B m) (hcb : m.length ≤ cb)
    (hv : Va.Fine ⟨b, n, s⟩) (ht : t < 256) (hG : Glob5 w) :
    Calls Tryd.prog 4 #[.agg #[.slice A l.length ca, .slice B m.length cb], .agg #[.bool b, .int .i64 n, .string s], .int .u8 (t : Int)] w fun e w' => e = .returned (.bool true) ∧ Below w.heap.size w w' :=
  rt.walk A B ca cb l.length m.length l m b n s t w rfl rfl hA hca hB hcb hv ht hG
end Go.Proofs.YtmdeojlpccdahaaDoor
