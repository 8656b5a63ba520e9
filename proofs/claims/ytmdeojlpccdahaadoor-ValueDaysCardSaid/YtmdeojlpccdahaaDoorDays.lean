/-
  The notations of consecutive days are consecutive dates: the law's walk.
-/
import Derived.Test.YtmdeojlpccdahaaDoorStep
import Derived.Test.YtmdeojlpccdahaaDoorTwo
import Derived.Test.YtmdeojlpccdahaaDoorEqV
namespace Go.Proofs.YtmdeojlpccdahaaDoor.days
open Go.RowKit Go.Lib
attribute [local go_sem high] run_ne_same run_eq_same

theorem ext_str (l a b c : List UInt8) (lo hi : Nat) (hl : l = a ++ (b ++ c)) (h1 : a.length = lo) (h2 : a.length + b.length = hi) : (str l).extract lo hi = str b := by
  have h := ext_all (str l) l (by rw [str_data]) lo hi
  have hb : (l.drop lo).take (hi - lo) = b := by
    rw [hl, ← h1, List.drop_left, show hi - a.length = b.length by omega, List.take_left]
  rw [hb] at h
  rw [← str_of ((str l).extract lo hi), h]
/-- what the law cuts out of a notation -/
structure Cut (s : ByteArray) (n : Nat) (Y : List UInt8) (M D : Nat) : Prop where
  sz : (s.size : Int) = (n : Int) + 6
  y : s.extract 0 n = str Y
  m : s.extract (n + 1) (n + 3) = str (padL M 2)
  d : s.extract (n + 4) s.size = str (padL D 2)
theorem cut_of (l Y : List UInt8) (M D n : Nat) (hl : l = Y ++ ([45] ++ padL M 2 ++ [45] ++ padL D 2)) (hn : Y.length = n) (hM : M < 100) (hD : D < 100) : Cut (str l) n Y M D := by
  have lM : (padL M 2).length = 2 := padL_len _ _ (dd_len 1 _ (by omega))
  have lD : (padL D 2).length = 2 := padL_len _ _ (dd_len 1 _ (by omega))
  refine ⟨?_, ?_, ?_, ?_⟩
  · rw [str_size, hl]
    simp [lM, lD, hn]
  · exact ext_str l [] Y ([45] ++ padL M 2 ++ [45] ++ padL D 2) 0 n (by rw [hl]; simp) rfl (by simp [hn])
  · exact ext_str l (Y ++ [45]) (padL M 2) ([45] ++ padL D 2) (n + 1) (n + 3) (by rw [hl]; simp) (by simp [hn]) (by simp [hn, lM])
  · exact ext_str l (Y ++ [45] ++ padL M 2 ++ [45]) (padL D 2) [] (n + 4) _ (by rw [hl]; simp) (by simp [hn, lM]) (by rw [str_size, hl]; simp [hn, lM, lD])
theorem quiet_off {P : Program} {f : FuncId} {args : Array Value} {w : World} {n c : Nat} {v : Value}
    (h : Calls P f args (w.drewN (c + n)) fun e w' => e = .returned v ∧ ∃ q, w' = (w.drewN (c + n)).drewN q) : Calls P f args (w.drewN (c + n)) fun e w'' => e = .returned v ∧ ∃ m, w'' = w.drewN (c + m) :=
  h.mono fun _ _ ⟨he, q, hq⟩ => ⟨he, n + q, by rw [hq, World.drewN_drewN, Nat.add_assoc]⟩
theorem two_at (s : ByteArray) (k : Nat) (z : Int) (hz : z = (k : Int)) (hk : k < 100) (hs : s = str (padL k 2)) (w : World) : Calls Tryd.prog 19 #[.string s] w fun e w' => e = .returned (.int .i64 z) ∧ ∃ q, w' = w.drewN q := by
  subst hz
  exact two_any s k w hk hs
theorem al_b {w : World} {o : Obj} : Below w.heap.size w (w.alloc o) := val_al w o
theorem okDay (d : Int) (h0 : -1000000 ≤ d) (h1 : d ≤ 1000000) : okV ⟨false, d, ⟨#[]⟩⟩ 5 = true := by unfold okV; simp [empS_mt, h0, h1]
theorem fineD (d : Int) (h0 : -1000000 ≤ d) (h1 : d ≤ 1000000) : Va.Fine ⟨false, d, ⟨#[]⟩⟩ := ⟨by show _ ≤ d; omega, by show d ≤ _; omega, by show (0 : Nat) ≤ _; omega⟩

set_option maxHeartbeats 4000000 in
set_option maxRecDepth 100000 in
attribute [local irreducible] okV showL decL parV encL dateL str padL in
theorem walkA44 (n d d1 : Int) (M D : Nat) (ya : ByteArray) (sa sb pm pn pd pe : ByteArray) (w : World) (hG : Glob5 w) (hd : n.tmod 1000000 = d) (hd1 : d + 1 = d1) (h0 : -1000000 < d) (h1 : d < 1000000) (hM : 1 ≤ M ∧ M ≤ 12) (hD : 1 ≤ D ∧ D + 1 ≤ 31)
    (ha : Hid (str (showL ⟨false, d, ⟨#[]⟩⟩ 5) = sa)) (hb : Hid (str (showL ⟨false, d1, ⟨#[]⟩⟩ 5) = sb)) (za : (sa.size : Int) = 10) (zb : (sb.size : Int) = 10)
    (ea : sa.extract 0 4 = ya) (eb : sb.extract 0 4 = ya) (ma : sa.extract 5 7 = pm) (mb : sb.extract 5 7 = pn) (da : sa.extract 8 sa.size = pd) (db : sb.extract 8 sb.size = pe)
    (hpm : Hid (pm = str (padL M 2))) (hpn : Hid (pn = str (padL M 2))) (hpd : Hid (pd = str (padL D 2))) (hpe : Hid (pe = str (padL (D + 1) 2))) :
    Calls Tryd.prog 7 #[.int .i64 n] w fun e w' => e = .returned (.bool true) ∧ Below w.heap.size w w' := by
  have f1 : ¬ (M : Int) < 1 := by omega
  have f2 : ¬ 12 < (M : Int) := by omega
  have f3 : ¬ (D : Int) < 1 := by omega
  have f4 : ¬ 31 < (D : Int) := by omega
  have f5 : ¬ (D : Int) + 1 < 1 := by omega
  have f6 : ¬ 31 < (D : Int) + 1 := by omega
  have HPM : Hid (∀ w1, Calls Tryd.prog 19 #[.string pm] w1 fun e w' => e = .returned (.int .i64 (M : Int)) ∧ ∃ q, w' = w1.drewN q) := two_at pm M _ (by simp) (by omega) hpm.out
  have HPN : Hid (∀ w1, Calls Tryd.prog 19 #[.string pn] w1 fun e w' => e = .returned (.int .i64 (M : Int)) ∧ ∃ q, w' = w1.drewN q) := two_at pn M _ (by simp) (by omega) hpn.out
  have HPD : Hid (∀ w1, Calls Tryd.prog 19 #[.string pd] w1 fun e w' => e = .returned (.int .i64 (D : Int)) ∧ ∃ q, w' = w1.drewN q) := two_at pd D _ (by simp) (by omega) hpd.out
  have HPE : Hid (∀ w1, Calls Tryd.prog 19 #[.string pe] w1 fun e w' => e = .returned (.int .i64 ((D : Int) + 1)) ∧ ∃ q, w' = w1.drewN q) := two_at pe (D + 1) _ (by simp) (by omega) hpe.out
  clear hpm hpn hpd hpe
  have HG := Lib.hid hG
  clear hG
  go_enter Tryd.func7, Tryd.ntmps7
  go_wp2_with fail
  refine (sanity_any _ HG.out).mono ?_
  rintro e w1 ⟨rfl, hb1⟩
  have B1 := Lib.hid hb1
  clear hb1
  go_wp2_with fail
  refine (num_any _ _).mono ?_
  rintro e wq ⟨rfl, o, rfl⟩
  go_wp2_with fail
  refine (show_rt false d ⟨#[]⟩ 5 sa _ ha.out (HG.out.up (bl_al B1.out)) (fineD d (by omega) (by omega))).mono ?_
  rintro e w2 ⟨rfl, hb2⟩
  have B2 : Hid (Below w.heap.size w w2) := (bl_al B1.out).trans (hb2.mono (bl_al B1.out).size)
  clear hb2
  go_wp2_with fail
  refine (num_any _ _).mono ?_
  rintro e wq ⟨rfl, o, rfl⟩
  go_wp2_with fail
  refine (show_rt false d1 ⟨#[]⟩ 5 sb _ hb.out (HG.out.up (bl_al B2.out)) (fineD d1 (by omega) (by omega))).mono ?_
  rintro e w3 ⟨rfl, hb3⟩
  have B3 : Hid (Below w.heap.size w w3) := (bl_al B2.out).trans (hb3.mono (bl_al B2.out).size)
  clear hb3
  go_wp2_with fail
  refine (par_rt false d1 ⟨#[]⟩ 5 sb _ hb.out (HG.out.up B3.out) (okDay d1 (by omega) (by omega)) (fineD d1 (by omega) (by omega))).mono ?_
  rintro e w4 ⟨rfl, hb4⟩
  have B4 : Hid (Below w.heap.size w w4) := B3.out.trans (hb4.mono B3.out.size)
  clear hb4
  go_wp2_with fail
  have hw1 : IntKind.i64.wrap d1 = d1 := by rw [IntKind.wrap_i64]; omega
  have HE := Lib.hid (And.intro ea (And.intro eb (And.intro ma (And.intro mb (And.intro da db)))))
  clear ea eb ma mb da db hd
  have V := Lib.hid (VB.new w4 false d1 ⟨#[]⟩)
  obtain ⟨q0, q1, q2⟩ := V.out.s3
  go_region_held_law (fun w' => w'.cell? ⟨w4.heap.size, 0, none⟩ = some (.bool false) ∧ w'.cell? ⟨w4.heap.size, 1, none⟩ = some (.int .i64 d1) ∧ w'.cell? ⟨w4.heap.size, 2, none⟩ = some (.string ⟨#[]⟩))
    (first | exact hS | go_keep)
    ((go_at_call 18; refine (num_any _ _).mono ?_; rintro e wq ⟨rfl, o, rfl⟩; have hS := (by first | exact (V.out.al o).s3 | exact (V.out.dr.al o).s3 | exact (V.out.dr.dr.al o).s3)))
  clear V q0 q1 q2
  obtain ⟨ea, eb, ma, mb, da, db⟩ := HE.out
  have v4 : IntKind.i64.wrap 4 = 4 := by decide
  have v5 : IntKind.i64.wrap 5 = 5 := by decide
  have v6 : IntKind.i64.wrap 6 = 6 := by decide
  have v7 : IntKind.i64.wrap 7 = 7 := by decide
  have v8 : IntKind.i64.wrap 8 = 8 := by decide
  have v9 : IntKind.i64.wrap 9 = 9 := by decide
  have v10 : IntKind.i64.wrap 10 = 10 := by decide
  have v11 : IntKind.i64.wrap 11 = 11 := by decide
  go_wp2_with fail
  go_quiet (first | (go_at_call 19; with_reducible exact quiet_off (HPM.out _)) | (go_at_call 19; with_reducible exact quiet_off (HPN.out _)))
  go_wp2_with fail
  go_quiet (first | (go_at_call 19; with_reducible exact quiet_off (HPD.out _)) | (go_at_call 19; with_reducible exact quiet_off (HPE.out _)))
  clear v4 v5 v6 v7 v8 v9 v10 v11
  go_wp2_with fail
  all_goals (first | (exfalso; omega) | skip)
  try (go_quiet (fail); go_wp2_with fail)
  all_goals (first | (exfalso; omega) | skip)
  go_ret
  exact ⟨by simp, by repeat first | exact B4.out | with_reducible apply bl_dn | with_reducible apply bl_al⟩
set_option maxHeartbeats 4000000 in
set_option maxRecDepth 100000 in
attribute [local irreducible] okV showL decL parV encL dateL str padL in
theorem walkA55 (n d d1 : Int) (M D : Nat) (ya : ByteArray) (sa sb pm pn pd pe : ByteArray) (w : World) (hG : Glob5 w) (hd : n.tmod 1000000 = d) (hd1 : d + 1 = d1) (h0 : -1000000 < d) (h1 : d < 1000000) (hM : 1 ≤ M ∧ M ≤ 12) (hD : 1 ≤ D ∧ D + 1 ≤ 31)
    (ha : Hid (str (showL ⟨false, d, ⟨#[]⟩⟩ 5) = sa)) (hb : Hid (str (showL ⟨false, d1, ⟨#[]⟩⟩ 5) = sb)) (za : (sa.size : Int) = 11) (zb : (sb.size : Int) = 11)
    (ea : sa.extract 0 5 = ya) (eb : sb.extract 0 5 = ya) (ma : sa.extract 6 8 = pm) (mb : sb.extract 6 8 = pn) (da : sa.extract 9 sa.size = pd) (db : sb.extract 9 sb.size = pe)
    (hpm : Hid (pm = str (padL M 2))) (hpn : Hid (pn = str (padL M 2))) (hpd : Hid (pd = str (padL D 2))) (hpe : Hid (pe = str (padL (D + 1) 2))) :
    Calls Tryd.prog 7 #[.int .i64 n] w fun e w' => e = .returned (.bool true) ∧ Below w.heap.size w w' := by
  have f1 : ¬ (M : Int) < 1 := by omega
  have f2 : ¬ 12 < (M : Int) := by omega
  have f3 : ¬ (D : Int) < 1 := by omega
  have f4 : ¬ 31 < (D : Int) := by omega
  have f5 : ¬ (D : Int) + 1 < 1 := by omega
  have f6 : ¬ 31 < (D : Int) + 1 := by omega
  have HPM : Hid (∀ w1, Calls Tryd.prog 19 #[.string pm] w1 fun e w' => e = .returned (.int .i64 (M : Int)) ∧ ∃ q, w' = w1.drewN q) := two_at pm M _ (by simp) (by omega) hpm.out
  have HPN : Hid (∀ w1, Calls Tryd.prog 19 #[.string pn] w1 fun e w' => e = .returned (.int .i64 (M : Int)) ∧ ∃ q, w' = w1.drewN q) := two_at pn M _ (by simp) (by omega) hpn.out
  have HPD : Hid (∀ w1, Calls Tryd.prog 19 #[.string pd] w1 fun e w' => e = .returned (.int .i64 (D : Int)) ∧ ∃ q, w' = w1.drewN q) := two_at pd D _ (by simp) (by omega) hpd.out
  have HPE : Hid (∀ w1, Calls Tryd.prog 19 #[.string pe] w1 fun e w' => e = .returned (.int .i64 ((D : Int) + 1)) ∧ ∃ q, w' = w1.drewN q) := two_at pe (D + 1) _ (by simp) (by omega) hpe.out
  clear hpm hpn hpd hpe
  have HG := Lib.hid hG
  clear hG
  go_enter Tryd.func7, Tryd.ntmps7
  go_wp2_with fail
  refine (sanity_any _ HG.out).mono ?_
  rintro e w1 ⟨rfl, hb1⟩
  have B1 := Lib.hid hb1
  clear hb1
  go_wp2_with fail
  refine (num_any _ _).mono ?_
  rintro e wq ⟨rfl, o, rfl⟩
  go_wp2_with fail
  refine (show_rt false d ⟨#[]⟩ 5 sa _ ha.out (HG.out.up (bl_al B1.out)) (fineD d (by omega) (by omega))).mono ?_
  rintro e w2 ⟨rfl, hb2⟩
  have B2 : Hid (Below w.heap.size w w2) := (bl_al B1.out).trans (hb2.mono (bl_al B1.out).size)
  clear hb2
  go_wp2_with fail
  refine (num_any _ _).mono ?_
  rintro e wq ⟨rfl, o, rfl⟩
  go_wp2_with fail
  refine (show_rt false d1 ⟨#[]⟩ 5 sb _ hb.out (HG.out.up (bl_al B2.out)) (fineD d1 (by omega) (by omega))).mono ?_
  rintro e w3 ⟨rfl, hb3⟩
  have B3 : Hid (Below w.heap.size w w3) := (bl_al B2.out).trans (hb3.mono (bl_al B2.out).size)
  clear hb3
  go_wp2_with fail
  refine (par_rt false d1 ⟨#[]⟩ 5 sb _ hb.out (HG.out.up B3.out) (okDay d1 (by omega) (by omega)) (fineD d1 (by omega) (by omega))).mono ?_
  rintro e w4 ⟨rfl, hb4⟩
  have B4 : Hid (Below w.heap.size w w4) := B3.out.trans (hb4.mono B3.out.size)
  clear hb4
  go_wp2_with fail
  have hw1 : IntKind.i64.wrap d1 = d1 := by rw [IntKind.wrap_i64]; omega
  have HE := Lib.hid (And.intro ea (And.intro eb (And.intro ma (And.intro mb (And.intro da db)))))
  clear ea eb ma mb da db hd
  have V := Lib.hid (VB.new w4 false d1 ⟨#[]⟩)
  obtain ⟨q0, q1, q2⟩ := V.out.s3
  go_region_held_law (fun w' => w'.cell? ⟨w4.heap.size, 0, none⟩ = some (.bool false) ∧ w'.cell? ⟨w4.heap.size, 1, none⟩ = some (.int .i64 d1) ∧ w'.cell? ⟨w4.heap.size, 2, none⟩ = some (.string ⟨#[]⟩))
    (first | exact hS | go_keep)
    ((go_at_call 18; refine (num_any _ _).mono ?_; rintro e wq ⟨rfl, o, rfl⟩; have hS := (by first | exact (V.out.al o).s3 | exact (V.out.dr.al o).s3 | exact (V.out.dr.dr.al o).s3)))
  clear V q0 q1 q2
  obtain ⟨ea, eb, ma, mb, da, db⟩ := HE.out
  have v4 : IntKind.i64.wrap 4 = 4 := by decide
  have v5 : IntKind.i64.wrap 5 = 5 := by decide
  have v6 : IntKind.i64.wrap 6 = 6 := by decide
  have v7 : IntKind.i64.wrap 7 = 7 := by decide
  have v8 : IntKind.i64.wrap 8 = 8 := by decide
  have v9 : IntKind.i64.wrap 9 = 9 := by decide
  have v10 : IntKind.i64.wrap 10 = 10 := by decide
  have v11 : IntKind.i64.wrap 11 = 11 := by decide
  go_wp2_with fail
  go_quiet (first | (go_at_call 19; with_reducible exact quiet_off (HPM.out _)) | (go_at_call 19; with_reducible exact quiet_off (HPN.out _)))
  go_wp2_with fail
  go_quiet (first | (go_at_call 19; with_reducible exact quiet_off (HPD.out _)) | (go_at_call 19; with_reducible exact quiet_off (HPE.out _)))
  clear v4 v5 v6 v7 v8 v9 v10 v11
  go_wp2_with fail
  all_goals (first | (exfalso; omega) | skip)
  try (go_quiet (fail); go_wp2_with fail)
  all_goals (first | (exfalso; omega) | skip)
  go_ret
  exact ⟨by simp, by repeat first | exact B4.out | with_reducible apply bl_dn | with_reducible apply bl_al⟩
set_option maxHeartbeats 4000000 in
set_option maxRecDepth 100000 in
attribute [local irreducible] okV showL decL parV encL dateL str padL in
theorem walkC44 (n d d1 : Int) (M D : Nat) (ya : ByteArray) (sa sb pm pn pd pe : ByteArray) (w : World) (hG : Glob5 w) (hd : n.tmod 1000000 = d) (hd1 : d + 1 = d1) (h0 : -1000000 < d) (h1 : d < 1000000) (hM : 1 ≤ M ∧ M ≤ 11) (hD : 28 ≤ D ∧ D ≤ 31) (hMD : M = 2 ∨ 30 ≤ D)
    (ha : Hid (str (showL ⟨false, d, ⟨#[]⟩⟩ 5) = sa)) (hb : Hid (str (showL ⟨false, d1, ⟨#[]⟩⟩ 5) = sb)) (za : (sa.size : Int) = 10) (zb : (sb.size : Int) = 10)
    (ea : sa.extract 0 4 = ya) (eb : sb.extract 0 4 = ya) (ma : sa.extract 5 7 = pm) (mb : sb.extract 5 7 = pn) (da : sa.extract 8 sa.size = pd) (db : sb.extract 8 sb.size = pe)
    (hpm : Hid (pm = str (padL M 2))) (hpn : Hid (pn = str (padL (M + 1) 2))) (hpd : Hid (pd = str (padL D 2))) (hpe : Hid (pe = str (padL 1 2))) :
    Calls Tryd.prog 7 #[.int .i64 n] w fun e w' => e = .returned (.bool true) ∧ Below w.heap.size w w' := by
  have f1 : ¬ (M : Int) < 1 := by omega
  have f2 : ¬ 12 < (M : Int) := by omega
  have f3 : ¬ (D : Int) < 1 := by omega
  have f4 : ¬ 31 < (D : Int) := by omega
  have f7 : ¬ 1 = (D : Int) + 1 := by omega
  have f8 : ¬ (D : Int) < 28 := by omega
  have f9 : ¬ (M : Int) = 12 := by omega
  have HPM : Hid (∀ w1, Calls Tryd.prog 19 #[.string pm] w1 fun e w' => e = .returned (.int .i64 (M : Int)) ∧ ∃ q, w' = w1.drewN q) := two_at pm M _ (by simp) (by omega) hpm.out
  have HPN : Hid (∀ w1, Calls Tryd.prog 19 #[.string pn] w1 fun e w' => e = .returned (.int .i64 ((M : Int) + 1)) ∧ ∃ q, w' = w1.drewN q) := two_at pn (M + 1) _ (by simp) (by omega) hpn.out
  have HPD : Hid (∀ w1, Calls Tryd.prog 19 #[.string pd] w1 fun e w' => e = .returned (.int .i64 (D : Int)) ∧ ∃ q, w' = w1.drewN q) := two_at pd D _ (by simp) (by omega) hpd.out
  have HPE : Hid (∀ w1, Calls Tryd.prog 19 #[.string pe] w1 fun e w' => e = .returned (.int .i64 1) ∧ ∃ q, w' = w1.drewN q) := two_at pe 1 _ (by simp) (by omega) hpe.out
  clear hpm hpn hpd hpe
  have HG := Lib.hid hG
  clear hG
  go_enter Tryd.func7, Tryd.ntmps7
  go_wp2_with fail
  refine (sanity_any _ HG.out).mono ?_
  rintro e w1 ⟨rfl, hb1⟩
  have B1 := Lib.hid hb1
  clear hb1
  go_wp2_with fail
  refine (num_any _ _).mono ?_
  rintro e wq ⟨rfl, o, rfl⟩
  go_wp2_with fail
  refine (show_rt false d ⟨#[]⟩ 5 sa _ ha.out (HG.out.up (bl_al B1.out)) (fineD d (by omega) (by omega))).mono ?_
  rintro e w2 ⟨rfl, hb2⟩
  have B2 : Hid (Below w.heap.size w w2) := (bl_al B1.out).trans (hb2.mono (bl_al B1.out).size)
  clear hb2
  go_wp2_with fail
  refine (num_any _ _).mono ?_
  rintro e wq ⟨rfl, o, rfl⟩
  go_wp2_with fail
  refine (show_rt false d1 ⟨#[]⟩ 5 sb _ hb.out (HG.out.up (bl_al B2.out)) (fineD d1 (by omega) (by omega))).mono ?_
  rintro e w3 ⟨rfl, hb3⟩
  have B3 : Hid (Below w.heap.size w w3) := (bl_al B2.out).trans (hb3.mono (bl_al B2.out).size)
  clear hb3
  go_wp2_with fail
  refine (par_rt false d1 ⟨#[]⟩ 5 sb _ hb.out (HG.out.up B3.out) (okDay d1 (by omega) (by omega)) (fineD d1 (by omega) (by omega))).mono ?_
  rintro e w4 ⟨rfl, hb4⟩
  have B4 : Hid (Below w.heap.size w w4) := B3.out.trans (hb4.mono B3.out.size)
  clear hb4
  go_wp2_with fail
  have hw1 : IntKind.i64.wrap d1 = d1 := by rw [IntKind.wrap_i64]; omega
  have HE := Lib.hid (And.intro ea (And.intro eb (And.intro ma (And.intro mb (And.intro da db)))))
  clear ea eb ma mb da db hd
  have V := Lib.hid (VB.new w4 false d1 ⟨#[]⟩)
  obtain ⟨q0, q1, q2⟩ := V.out.s3
  go_region_held_law (fun w' => w'.cell? ⟨w4.heap.size, 0, none⟩ = some (.bool false) ∧ w'.cell? ⟨w4.heap.size, 1, none⟩ = some (.int .i64 d1) ∧ w'.cell? ⟨w4.heap.size, 2, none⟩ = some (.string ⟨#[]⟩))
    (first | exact hS | go_keep)
    ((go_at_call 18; refine (num_any _ _).mono ?_; rintro e wq ⟨rfl, o, rfl⟩; have hS := (by first | exact (V.out.al o).s3 | exact (V.out.dr.al o).s3 | exact (V.out.dr.dr.al o).s3)))
  clear V q0 q1 q2
  obtain ⟨ea, eb, ma, mb, da, db⟩ := HE.out
  have v4 : IntKind.i64.wrap 4 = 4 := by decide
  have v5 : IntKind.i64.wrap 5 = 5 := by decide
  have v6 : IntKind.i64.wrap 6 = 6 := by decide
  have v7 : IntKind.i64.wrap 7 = 7 := by decide
  have v8 : IntKind.i64.wrap 8 = 8 := by decide
  have v9 : IntKind.i64.wrap 9 = 9 := by decide
  have v10 : IntKind.i64.wrap 10 = 10 := by decide
  have v11 : IntKind.i64.wrap 11 = 11 := by decide
  go_wp2_with fail
  go_quiet (first | (go_at_call 19; with_reducible exact quiet_off (HPM.out _)) | (go_at_call 19; with_reducible exact quiet_off (HPN.out _)))
  go_wp2_with fail
  go_quiet (first | (go_at_call 19; with_reducible exact quiet_off (HPD.out _)) | (go_at_call 19; with_reducible exact quiet_off (HPE.out _)))
  clear v4 v5 v6 v7 v8 v9 v10 v11
  go_wp2_with fail
  all_goals (first | (exfalso; omega) | skip)
  by_cases hM2 : M = 2
  · have e2 : (M : Int) = 2 := by omega
    try (go_quiet (fail); go_wp2_with fail)
    all_goals (first | (exfalso; omega) | skip)
    go_ret
    exact ⟨by simp, by repeat first | exact B4.out | with_reducible apply bl_dn | with_reducible apply bl_al⟩
  · have e2 : ¬ (M : Int) = 2 := by omega
    have e4 : ((M : Int) == 2) = false := by simpa using e2
    have e3 : 30 ≤ (D : Int) := by omega
    try (go_quiet (fail); go_wp2_with fail)
    all_goals (first | (exfalso; omega) | skip)
    go_ret
    exact ⟨by simp, by repeat first | exact B4.out | with_reducible apply bl_dn | with_reducible apply bl_al⟩
set_option maxHeartbeats 4000000 in
set_option maxRecDepth 100000 in
attribute [local irreducible] okV showL decL parV encL dateL str padL in
theorem walkC55 (n d d1 : Int) (M D : Nat) (ya : ByteArray) (sa sb pm pn pd pe : ByteArray) (w : World) (hG : Glob5 w) (hd : n.tmod 1000000 = d) (hd1 : d + 1 = d1) (h0 : -1000000 < d) (h1 : d < 1000000) (hM : 1 ≤ M ∧ M ≤ 11) (hD : 28 ≤ D ∧ D ≤ 31) (hMD : M = 2 ∨ 30 ≤ D)
    (ha : Hid (str (showL ⟨false, d, ⟨#[]⟩⟩ 5) = sa)) (hb : Hid (str (showL ⟨false, d1, ⟨#[]⟩⟩ 5) = sb)) (za : (sa.size : Int) = 11) (zb : (sb.size : Int) = 11)
    (ea : sa.extract 0 5 = ya) (eb : sb.extract 0 5 = ya) (ma : sa.extract 6 8 = pm) (mb : sb.extract 6 8 = pn) (da : sa.extract 9 sa.size = pd) (db : sb.extract 9 sb.size = pe)
    (hpm : Hid (pm = str (padL M 2))) (hpn : Hid (pn = str (padL (M + 1) 2))) (hpd : Hid (pd = str (padL D 2))) (hpe : Hid (pe = str (padL 1 2))) :
    Calls Tryd.prog 7 #[.int .i64 n] w fun e w' => e = .returned (.bool true) ∧ Below w.heap.size w w' := by
  have f1 : ¬ (M : Int) < 1 := by omega
  have f2 : ¬ 12 < (M : Int) := by omega
  have f3 : ¬ (D : Int) < 1 := by omega
  have f4 : ¬ 31 < (D : Int) := by omega
  have f7 : ¬ 1 = (D : Int) + 1 := by omega
  have f8 : ¬ (D : Int) < 28 := by omega
  have f9 : ¬ (M : Int) = 12 := by omega
  have HPM : Hid (∀ w1, Calls Tryd.prog 19 #[.string pm] w1 fun e w' => e = .returned (.int .i64 (M : Int)) ∧ ∃ q, w' = w1.drewN q) := two_at pm M _ (by simp) (by omega) hpm.out
  have HPN : Hid (∀ w1, Calls Tryd.prog 19 #[.string pn] w1 fun e w' => e = .returned (.int .i64 ((M : Int) + 1)) ∧ ∃ q, w' = w1.drewN q) := two_at pn (M + 1) _ (by simp) (by omega) hpn.out
  have HPD : Hid (∀ w1, Calls Tryd.prog 19 #[.string pd] w1 fun e w' => e = .returned (.int .i64 (D : Int)) ∧ ∃ q, w' = w1.drewN q) := two_at pd D _ (by simp) (by omega) hpd.out
  have HPE : Hid (∀ w1, Calls Tryd.prog 19 #[.string pe] w1 fun e w' => e = .returned (.int .i64 1) ∧ ∃ q, w' = w1.drewN q) := two_at pe 1 _ (by simp) (by omega) hpe.out
  clear hpm hpn hpd hpe
  have HG := Lib.hid hG
  clear hG
  go_enter Tryd.func7, Tryd.ntmps7
  go_wp2_with fail
  refine (sanity_any _ HG.out).mono ?_
  rintro e w1 ⟨rfl, hb1⟩
  have B1 := Lib.hid hb1
  clear hb1
  go_wp2_with fail
  refine (num_any _ _).mono ?_
  rintro e wq ⟨rfl, o, rfl⟩
  go_wp2_with fail
  refine (show_rt false d ⟨#[]⟩ 5 sa _ ha.out (HG.out.up (bl_al B1.out)) (fineD d (by omega) (by omega))).mono ?_
  rintro e w2 ⟨rfl, hb2⟩
  have B2 : Hid (Below w.heap.size w w2) := (bl_al B1.out).trans (hb2.mono (bl_al B1.out).size)
  clear hb2
  go_wp2_with fail
  refine (num_any _ _).mono ?_
  rintro e wq ⟨rfl, o, rfl⟩
  go_wp2_with fail
  refine (show_rt false d1 ⟨#[]⟩ 5 sb _ hb.out (HG.out.up (bl_al B2.out)) (fineD d1 (by omega) (by omega))).mono ?_
  rintro e w3 ⟨rfl, hb3⟩
  have B3 : Hid (Below w.heap.size w w3) := (bl_al B2.out).trans (hb3.mono (bl_al B2.out).size)
  clear hb3
  go_wp2_with fail
  refine (par_rt false d1 ⟨#[]⟩ 5 sb _ hb.out (HG.out.up B3.out) (okDay d1 (by omega) (by omega)) (fineD d1 (by omega) (by omega))).mono ?_
  rintro e w4 ⟨rfl, hb4⟩
  have B4 : Hid (Below w.heap.size w w4) := B3.out.trans (hb4.mono B3.out.size)
  clear hb4
  go_wp2_with fail
  have hw1 : IntKind.i64.wrap d1 = d1 := by rw [IntKind.wrap_i64]; omega
  have HE := Lib.hid (And.intro ea (And.intro eb (And.intro ma (And.intro mb (And.intro da db)))))
  clear ea eb ma mb da db hd
  have V := Lib.hid (VB.new w4 false d1 ⟨#[]⟩)
  obtain ⟨q0, q1, q2⟩ := V.out.s3
  go_region_held_law (fun w' => w'.cell? ⟨w4.heap.size, 0, none⟩ = some (.bool false) ∧ w'.cell? ⟨w4.heap.size, 1, none⟩ = some (.int .i64 d1) ∧ w'.cell? ⟨w4.heap.size, 2, none⟩ = some (.string ⟨#[]⟩))
    (first | exact hS | go_keep)
    ((go_at_call 18; refine (num_any _ _).mono ?_; rintro e wq ⟨rfl, o, rfl⟩; have hS := (by first | exact (V.out.al o).s3 | exact (V.out.dr.al o).s3 | exact (V.out.dr.dr.al o).s3)))
  clear V q0 q1 q2
  obtain ⟨ea, eb, ma, mb, da, db⟩ := HE.out
  have v4 : IntKind.i64.wrap 4 = 4 := by decide
  have v5 : IntKind.i64.wrap 5 = 5 := by decide
  have v6 : IntKind.i64.wrap 6 = 6 := by decide
  have v7 : IntKind.i64.wrap 7 = 7 := by decide
  have v8 : IntKind.i64.wrap 8 = 8 := by decide
  have v9 : IntKind.i64.wrap 9 = 9 := by decide
  have v10 : IntKind.i64.wrap 10 = 10 := by decide
  have v11 : IntKind.i64.wrap 11 = 11 := by decide
  go_wp2_with fail
  go_quiet (first | (go_at_call 19; with_reducible exact quiet_off (HPM.out _)) | (go_at_call 19; with_reducible exact quiet_off (HPN.out _)))
  go_wp2_with fail
  go_quiet (first | (go_at_call 19; with_reducible exact quiet_off (HPD.out _)) | (go_at_call 19; with_reducible exact quiet_off (HPE.out _)))
  clear v4 v5 v6 v7 v8 v9 v10 v11
  go_wp2_with fail
  all_goals (first | (exfalso; omega) | skip)
  by_cases hM2 : M = 2
  · have e2 : (M : Int) = 2 := by omega
    try (go_quiet (fail); go_wp2_with fail)
    all_goals (first | (exfalso; omega) | skip)
    go_ret
    exact ⟨by simp, by repeat first | exact B4.out | with_reducible apply bl_dn | with_reducible apply bl_al⟩
  · have e2 : ¬ (M : Int) = 2 := by omega
    have e4 : ((M : Int) == 2) = false := by simpa using e2
    have e3 : 30 ≤ (D : Int) := by omega
    try (go_quiet (fail); go_wp2_with fail)
    all_goals (first | (exfalso; omega) | skip)
    go_ret
    exact ⟨by simp, by repeat first | exact B4.out | with_reducible apply bl_dn | with_reducible apply bl_al⟩
set_option maxHeartbeats 4000000 in
set_option maxRecDepth 100000 in
attribute [local irreducible] okV showL decL parV encL dateL str padL in
theorem walkB44 (n d d1 : Int)  (ya yb : ByteArray) (sa sb pm pn pd pe : ByteArray) (w : World) (hG : Glob5 w) (hd : n.tmod 1000000 = d) (hd1 : d + 1 = d1) (h0 : -1000000 < d) (h1 : d < 1000000)  (hy : (ya.toList == yb.toList) = false)
    (ha : Hid (str (showL ⟨false, d, ⟨#[]⟩⟩ 5) = sa)) (hb : Hid (str (showL ⟨false, d1, ⟨#[]⟩⟩ 5) = sb)) (za : (sa.size : Int) = 10) (zb : (sb.size : Int) = 10)
    (ea : sa.extract 0 4 = ya) (eb : sb.extract 0 4 = yb) (ma : sa.extract 5 7 = pm) (mb : sb.extract 5 7 = pn) (da : sa.extract 8 sa.size = pd) (db : sb.extract 8 sb.size = pe)
    (hpm : Hid (pm = str (padL 12 2))) (hpn : Hid (pn = str (padL 1 2))) (hpd : Hid (pd = str (padL 31 2))) (hpe : Hid (pe = str (padL 1 2))) :
    Calls Tryd.prog 7 #[.int .i64 n] w fun e w' => e = .returned (.bool true) ∧ Below w.heap.size w w' := by
  have HPM : Hid (∀ w1, Calls Tryd.prog 19 #[.string pm] w1 fun e w' => e = .returned (.int .i64 12) ∧ ∃ q, w' = w1.drewN q) := two_at pm 12 _ (by simp) (by omega) hpm.out
  have HPN : Hid (∀ w1, Calls Tryd.prog 19 #[.string pn] w1 fun e w' => e = .returned (.int .i64 1) ∧ ∃ q, w' = w1.drewN q) := two_at pn 1 _ (by simp) (by omega) hpn.out
  have HPD : Hid (∀ w1, Calls Tryd.prog 19 #[.string pd] w1 fun e w' => e = .returned (.int .i64 31) ∧ ∃ q, w' = w1.drewN q) := two_at pd 31 _ (by simp) (by omega) hpd.out
  have HPE : Hid (∀ w1, Calls Tryd.prog 19 #[.string pe] w1 fun e w' => e = .returned (.int .i64 1) ∧ ∃ q, w' = w1.drewN q) := two_at pe 1 _ (by simp) (by omega) hpe.out
  clear hpm hpn hpd hpe
  have HG := Lib.hid hG
  clear hG
  go_enter Tryd.func7, Tryd.ntmps7
  go_wp2_with fail
  refine (sanity_any _ HG.out).mono ?_
  rintro e w1 ⟨rfl, hb1⟩
  have B1 := Lib.hid hb1
  clear hb1
  go_wp2_with fail
  refine (num_any _ _).mono ?_
  rintro e wq ⟨rfl, o, rfl⟩
  go_wp2_with fail
  refine (show_rt false d ⟨#[]⟩ 5 sa _ ha.out (HG.out.up (bl_al B1.out)) (fineD d (by omega) (by omega))).mono ?_
  rintro e w2 ⟨rfl, hb2⟩
  have B2 : Hid (Below w.heap.size w w2) := (bl_al B1.out).trans (hb2.mono (bl_al B1.out).size)
  clear hb2
  go_wp2_with fail
  refine (num_any _ _).mono ?_
  rintro e wq ⟨rfl, o, rfl⟩
  go_wp2_with fail
  refine (show_rt false d1 ⟨#[]⟩ 5 sb _ hb.out (HG.out.up (bl_al B2.out)) (fineD d1 (by omega) (by omega))).mono ?_
  rintro e w3 ⟨rfl, hb3⟩
  have B3 : Hid (Below w.heap.size w w3) := (bl_al B2.out).trans (hb3.mono (bl_al B2.out).size)
  clear hb3
  go_wp2_with fail
  refine (par_rt false d1 ⟨#[]⟩ 5 sb _ hb.out (HG.out.up B3.out) (okDay d1 (by omega) (by omega)) (fineD d1 (by omega) (by omega))).mono ?_
  rintro e w4 ⟨rfl, hb4⟩
  have B4 : Hid (Below w.heap.size w w4) := B3.out.trans (hb4.mono B3.out.size)
  clear hb4
  go_wp2_with fail
  have hw1 : IntKind.i64.wrap d1 = d1 := by rw [IntKind.wrap_i64]; omega
  have HE := Lib.hid (And.intro ea (And.intro eb (And.intro ma (And.intro mb (And.intro da db)))))
  clear ea eb ma mb da db hd
  have V := Lib.hid (VB.new w4 false d1 ⟨#[]⟩)
  obtain ⟨q0, q1, q2⟩ := V.out.s3
  go_region_held_law (fun w' => w'.cell? ⟨w4.heap.size, 0, none⟩ = some (.bool false) ∧ w'.cell? ⟨w4.heap.size, 1, none⟩ = some (.int .i64 d1) ∧ w'.cell? ⟨w4.heap.size, 2, none⟩ = some (.string ⟨#[]⟩))
    (first | exact hS | go_keep)
    ((go_at_call 18; refine (num_any _ _).mono ?_; rintro e wq ⟨rfl, o, rfl⟩; have hS := (by first | exact (V.out.al o).s3 | exact (V.out.dr.al o).s3 | exact (V.out.dr.dr.al o).s3)))
  clear V q0 q1 q2
  obtain ⟨ea, eb, ma, mb, da, db⟩ := HE.out
  have v4 : IntKind.i64.wrap 4 = 4 := by decide
  have v5 : IntKind.i64.wrap 5 = 5 := by decide
  have v6 : IntKind.i64.wrap 6 = 6 := by decide
  have v7 : IntKind.i64.wrap 7 = 7 := by decide
  have v8 : IntKind.i64.wrap 8 = 8 := by decide
  have v9 : IntKind.i64.wrap 9 = 9 := by decide
  have v10 : IntKind.i64.wrap 10 = 10 := by decide
  have v11 : IntKind.i64.wrap 11 = 11 := by decide
  go_wp2_with fail
  go_quiet (first | (go_at_call 19; with_reducible exact quiet_off (HPM.out _)) | (go_at_call 19; with_reducible exact quiet_off (HPN.out _)))
  go_wp2_with fail
  go_quiet (first | (go_at_call 19; with_reducible exact quiet_off (HPD.out _)) | (go_at_call 19; with_reducible exact quiet_off (HPE.out _)))
  clear v4 v5 v6 v7 v8 v9 v10 v11
  go_wp2_with fail
  all_goals (first | (exfalso; omega) | skip)
  try (go_quiet (fail); go_wp2_with fail)
  all_goals (first | (exfalso; omega) | skip)
  go_ret
  exact ⟨by simp, by repeat first | exact B4.out | with_reducible apply bl_dn | with_reducible apply bl_al⟩
set_option maxHeartbeats 4000000 in
set_option maxRecDepth 100000 in
attribute [local irreducible] okV showL decL parV encL dateL str padL in
theorem walkB45 (n d d1 : Int)  (ya yb : ByteArray) (sa sb pm pn pd pe : ByteArray) (w : World) (hG : Glob5 w) (hd : n.tmod 1000000 = d) (hd1 : d + 1 = d1) (h0 : -1000000 < d) (h1 : d < 1000000)  (hy : (ya.toList == yb.toList) = false)
    (ha : Hid (str (showL ⟨false, d, ⟨#[]⟩⟩ 5) = sa)) (hb : Hid (str (showL ⟨false, d1, ⟨#[]⟩⟩ 5) = sb)) (za : (sa.size : Int) = 10) (zb : (sb.size : Int) = 11)
    (ea : sa.extract 0 4 = ya) (eb : sb.extract 0 5 = yb) (ma : sa.extract 5 7 = pm) (mb : sb.extract 6 8 = pn) (da : sa.extract 8 sa.size = pd) (db : sb.extract 9 sb.size = pe)
    (hpm : Hid (pm = str (padL 12 2))) (hpn : Hid (pn = str (padL 1 2))) (hpd : Hid (pd = str (padL 31 2))) (hpe : Hid (pe = str (padL 1 2))) :
    Calls Tryd.prog 7 #[.int .i64 n] w fun e w' => e = .returned (.bool true) ∧ Below w.heap.size w w' := by
  have HPM : Hid (∀ w1, Calls Tryd.prog 19 #[.string pm] w1 fun e w' => e = .returned (.int .i64 12) ∧ ∃ q, w' = w1.drewN q) := two_at pm 12 _ (by simp) (by omega) hpm.out
  have HPN : Hid (∀ w1, Calls Tryd.prog 19 #[.string pn] w1 fun e w' => e = .returned (.int .i64 1) ∧ ∃ q, w' = w1.drewN q) := two_at pn 1 _ (by simp) (by omega) hpn.out
  have HPD : Hid (∀ w1, Calls Tryd.prog 19 #[.string pd] w1 fun e w' => e = .returned (.int .i64 31) ∧ ∃ q, w' = w1.drewN q) := two_at pd 31 _ (by simp) (by omega) hpd.out
  have HPE : Hid (∀ w1, Calls Tryd.prog 19 #[.string pe] w1 fun e w' => e = .returned (.int .i64 1) ∧ ∃ q, w' = w1.drewN q) := two_at pe 1 _ (by simp) (by omega) hpe.out
  clear hpm hpn hpd hpe
  have HG := Lib.hid hG
  clear hG
  go_enter Tryd.func7, Tryd.ntmps7
  go_wp2_with fail
  refine (sanity_any _ HG.out).mono ?_
  rintro e w1 ⟨rfl, hb1⟩
  have B1 := Lib.hid hb1
  clear hb1
  go_wp2_with fail
  refine (num_any _ _).mono ?_
  rintro e wq ⟨rfl, o, rfl⟩
  go_wp2_with fail
  refine (show_rt false d ⟨#[]⟩ 5 sa _ ha.out (HG.out.up (bl_al B1.out)) (fineD d (by omega) (by omega))).mono ?_
  rintro e w2 ⟨rfl, hb2⟩
  have B2 : Hid (Below w.heap.size w w2) := (bl_al B1.out).trans (hb2.mono (bl_al B1.out).size)
  clear hb2
  go_wp2_with fail
  refine (num_any _ _).mono ?_
  rintro e wq ⟨rfl, o, rfl⟩
  go_wp2_with fail
  refine (show_rt false d1 ⟨#[]⟩ 5 sb _ hb.out (HG.out.up (bl_al B2.out)) (fineD d1 (by omega) (by omega))).mono ?_
  rintro e w3 ⟨rfl, hb3⟩
  have B3 : Hid (Below w.heap.size w w3) := (bl_al B2.out).trans (hb3.mono (bl_al B2.out).size)
  clear hb3
  go_wp2_with fail
  refine (par_rt false d1 ⟨#[]⟩ 5 sb _ hb.out (HG.out.up B3.out) (okDay d1 (by omega) (by omega)) (fineD d1 (by omega) (by omega))).mono ?_
  rintro e w4 ⟨rfl, hb4⟩
  have B4 : Hid (Below w.heap.size w w4) := B3.out.trans (hb4.mono B3.out.size)
  clear hb4
  go_wp2_with fail
  have hw1 : IntKind.i64.wrap d1 = d1 := by rw [IntKind.wrap_i64]; omega
  have HE := Lib.hid (And.intro ea (And.intro eb (And.intro ma (And.intro mb (And.intro da db)))))
  clear ea eb ma mb da db hd
  have V := Lib.hid (VB.new w4 false d1 ⟨#[]⟩)
  obtain ⟨q0, q1, q2⟩ := V.out.s3
  go_region_held_law (fun w' => w'.cell? ⟨w4.heap.size, 0, none⟩ = some (.bool false) ∧ w'.cell? ⟨w4.heap.size, 1, none⟩ = some (.int .i64 d1) ∧ w'.cell? ⟨w4.heap.size, 2, none⟩ = some (.string ⟨#[]⟩))
    (first | exact hS | go_keep)
    ((go_at_call 18; refine (num_any _ _).mono ?_; rintro e wq ⟨rfl, o, rfl⟩; have hS := (by first | exact (V.out.al o).s3 | exact (V.out.dr.al o).s3 | exact (V.out.dr.dr.al o).s3)))
  clear V q0 q1 q2
  obtain ⟨ea, eb, ma, mb, da, db⟩ := HE.out
  have v4 : IntKind.i64.wrap 4 = 4 := by decide
  have v5 : IntKind.i64.wrap 5 = 5 := by decide
  have v6 : IntKind.i64.wrap 6 = 6 := by decide
  have v7 : IntKind.i64.wrap 7 = 7 := by decide
  have v8 : IntKind.i64.wrap 8 = 8 := by decide
  have v9 : IntKind.i64.wrap 9 = 9 := by decide
  have v10 : IntKind.i64.wrap 10 = 10 := by decide
  have v11 : IntKind.i64.wrap 11 = 11 := by decide
  go_wp2_with fail
  go_quiet (first | (go_at_call 19; with_reducible exact quiet_off (HPM.out _)) | (go_at_call 19; with_reducible exact quiet_off (HPN.out _)))
  go_wp2_with fail
  go_quiet (first | (go_at_call 19; with_reducible exact quiet_off (HPD.out _)) | (go_at_call 19; with_reducible exact quiet_off (HPE.out _)))
  clear v4 v5 v6 v7 v8 v9 v10 v11
  go_wp2_with fail
  all_goals (first | (exfalso; omega) | skip)
  try (go_quiet (fail); go_wp2_with fail)
  all_goals (first | (exfalso; omega) | skip)
  go_ret
  exact ⟨by simp, by repeat first | exact B4.out | with_reducible apply bl_dn | with_reducible apply bl_al⟩
set_option maxHeartbeats 4000000 in
set_option maxRecDepth 100000 in
attribute [local irreducible] okV showL decL parV encL dateL str padL in
theorem walkB54 (n d d1 : Int)  (ya yb : ByteArray) (sa sb pm pn pd pe : ByteArray) (w : World) (hG : Glob5 w) (hd : n.tmod 1000000 = d) (hd1 : d + 1 = d1) (h0 : -1000000 < d) (h1 : d < 1000000)  (hy : (ya.toList == yb.toList) = false)
    (ha : Hid (str (showL ⟨false, d, ⟨#[]⟩⟩ 5) = sa)) (hb : Hid (str (showL ⟨false, d1, ⟨#[]⟩⟩ 5) = sb)) (za : (sa.size : Int) = 11) (zb : (sb.size : Int) = 10)
    (ea : sa.extract 0 5 = ya) (eb : sb.extract 0 4 = yb) (ma : sa.extract 6 8 = pm) (mb : sb.extract 5 7 = pn) (da : sa.extract 9 sa.size = pd) (db : sb.extract 8 sb.size = pe)
    (hpm : Hid (pm = str (padL 12 2))) (hpn : Hid (pn = str (padL 1 2))) (hpd : Hid (pd = str (padL 31 2))) (hpe : Hid (pe = str (padL 1 2))) :
    Calls Tryd.prog 7 #[.int .i64 n] w fun e w' => e = .returned (.bool true) ∧ Below w.heap.size w w' := by
  have HPM : Hid (∀ w1, Calls Tryd.prog 19 #[.string pm] w1 fun e w' => e = .returned (.int .i64 12) ∧ ∃ q, w' = w1.drewN q) := two_at pm 12 _ (by simp) (by omega) hpm.out
  have HPN : Hid (∀ w1, Calls Tryd.prog 19 #[.string pn] w1 fun e w' => e = .returned (.int .i64 1) ∧ ∃ q, w' = w1.drewN q) := two_at pn 1 _ (by simp) (by omega) hpn.out
  have HPD : Hid (∀ w1, Calls Tryd.prog 19 #[.string pd] w1 fun e w' => e = .returned (.int .i64 31) ∧ ∃ q, w' = w1.drewN q) := two_at pd 31 _ (by simp) (by omega) hpd.out
  have HPE : Hid (∀ w1, Calls Tryd.prog 19 #[.string pe] w1 fun e w' => e = .returned (.int .i64 1) ∧ ∃ q, w' = w1.drewN q) := two_at pe 1 _ (by simp) (by omega) hpe.out
  clear hpm hpn hpd hpe
  have HG := Lib.hid hG
  clear hG
  go_enter Tryd.func7, Tryd.ntmps7
  go_wp2_with fail
  refine (sanity_any _ HG.out).mono ?_
  rintro e w1 ⟨rfl, hb1⟩
  have B1 := Lib.hid hb1
  clear hb1
  go_wp2_with fail
  refine (num_any _ _).mono ?_
  rintro e wq ⟨rfl, o, rfl⟩
  go_wp2_with fail
  refine (show_rt false d ⟨#[]⟩ 5 sa _ ha.out (HG.out.up (bl_al B1.out)) (fineD d (by omega) (by omega))).mono ?_
  rintro e w2 ⟨rfl, hb2⟩
  have B2 : Hid (Below w.heap.size w w2) := (bl_al B1.out).trans (hb2.mono (bl_al B1.out).size)
  clear hb2
  go_wp2_with fail
  refine (num_any _ _).mono ?_
  rintro e wq ⟨rfl, o, rfl⟩
  go_wp2_with fail
  refine (show_rt false d1 ⟨#[]⟩ 5 sb _ hb.out (HG.out.up (bl_al B2.out)) (fineD d1 (by omega) (by omega))).mono ?_
  rintro e w3 ⟨rfl, hb3⟩
  have B3 : Hid (Below w.heap.size w w3) := (bl_al B2.out).trans (hb3.mono (bl_al B2.out).size)
  clear hb3
  go_wp2_with fail
  refine (par_rt false d1 ⟨#[]⟩ 5 sb _ hb.out (HG.out.up B3.out) (okDay d1 (by omega) (by omega)) (fineD d1 (by omega) (by omega))).mono ?_
  rintro e w4 ⟨rfl, hb4⟩
  have B4 : Hid (Below w.heap.size w w4) := B3.out.trans (hb4.mono B3.out.size)
  clear hb4
  go_wp2_with fail
  have hw1 : IntKind.i64.wrap d1 = d1 := by rw [IntKind.wrap_i64]; omega
  have HE := Lib.hid (And.intro ea (And.intro eb (And.intro ma (And.intro mb (And.intro da db)))))
  clear ea eb ma mb da db hd
  have V := Lib.hid (VB.new w4 false d1 ⟨#[]⟩)
  obtain ⟨q0, q1, q2⟩ := V.out.s3
  go_region_held_law (fun w' => w'.cell? ⟨w4.heap.size, 0, none⟩ = some (.bool false) ∧ w'.cell? ⟨w4.heap.size, 1, none⟩ = some (.int .i64 d1) ∧ w'.cell? ⟨w4.heap.size, 2, none⟩ = some (.string ⟨#[]⟩))
    (first | exact hS | go_keep)
    ((go_at_call 18; refine (num_any _ _).mono ?_; rintro e wq ⟨rfl, o, rfl⟩; have hS := (by first | exact (V.out.al o).s3 | exact (V.out.dr.al o).s3 | exact (V.out.dr.dr.al o).s3)))
  clear V q0 q1 q2
  obtain ⟨ea, eb, ma, mb, da, db⟩ := HE.out
  have v4 : IntKind.i64.wrap 4 = 4 := by decide
  have v5 : IntKind.i64.wrap 5 = 5 := by decide
  have v6 : IntKind.i64.wrap 6 = 6 := by decide
  have v7 : IntKind.i64.wrap 7 = 7 := by decide
  have v8 : IntKind.i64.wrap 8 = 8 := by decide
  have v9 : IntKind.i64.wrap 9 = 9 := by decide
  have v10 : IntKind.i64.wrap 10 = 10 := by decide
  have v11 : IntKind.i64.wrap 11 = 11 := by decide
  go_wp2_with fail
  go_quiet (first | (go_at_call 19; with_reducible exact quiet_off (HPM.out _)) | (go_at_call 19; with_reducible exact quiet_off (HPN.out _)))
  go_wp2_with fail
  go_quiet (first | (go_at_call 19; with_reducible exact quiet_off (HPD.out _)) | (go_at_call 19; with_reducible exact quiet_off (HPE.out _)))
  clear v4 v5 v6 v7 v8 v9 v10 v11
  go_wp2_with fail
  all_goals (first | (exfalso; omega) | skip)
  try (go_quiet (fail); go_wp2_with fail)
  all_goals (first | (exfalso; omega) | skip)
  go_ret
  exact ⟨by simp, by repeat first | exact B4.out | with_reducible apply bl_dn | with_reducible apply bl_al⟩
set_option maxHeartbeats 4000000 in
set_option maxRecDepth 100000 in
attribute [local irreducible] okV showL decL parV encL dateL str padL in
theorem walkB55 (n d d1 : Int)  (ya yb : ByteArray) (sa sb pm pn pd pe : ByteArray) (w : World) (hG : Glob5 w) (hd : n.tmod 1000000 = d) (hd1 : d + 1 = d1) (h0 : -1000000 < d) (h1 : d < 1000000)  (hy : (ya.toList == yb.toList) = false)
    (ha : Hid (str (showL ⟨false, d, ⟨#[]⟩⟩ 5) = sa)) (hb : Hid (str (showL ⟨false, d1, ⟨#[]⟩⟩ 5) = sb)) (za : (sa.size : Int) = 11) (zb : (sb.size : Int) = 11)
    (ea : sa.extract 0 5 = ya) (eb : sb.extract 0 5 = yb) (ma : sa.extract 6 8 = pm) (mb : sb.extract 6 8 = pn) (da : sa.extract 9 sa.size = pd) (db : sb.extract 9 sb.size = pe)
    (hpm : Hid (pm = str (padL 12 2))) (hpn : Hid (pn = str (padL 1 2))) (hpd : Hid (pd = str (padL 31 2))) (hpe : Hid (pe = str (padL 1 2))) :
    Calls Tryd.prog 7 #[.int .i64 n] w fun e w' => e = .returned (.bool true) ∧ Below w.heap.size w w' := by
  have HPM : Hid (∀ w1, Calls Tryd.prog 19 #[.string pm] w1 fun e w' => e = .returned (.int .i64 12) ∧ ∃ q, w' = w1.drewN q) := two_at pm 12 _ (by simp) (by omega) hpm.out
  have HPN : Hid (∀ w1, Calls Tryd.prog 19 #[.string pn] w1 fun e w' => e = .returned (.int .i64 1) ∧ ∃ q, w' = w1.drewN q) := two_at pn 1 _ (by simp) (by omega) hpn.out
  have HPD : Hid (∀ w1, Calls Tryd.prog 19 #[.string pd] w1 fun e w' => e = .returned (.int .i64 31) ∧ ∃ q, w' = w1.drewN q) := two_at pd 31 _ (by simp) (by omega) hpd.out
  have HPE : Hid (∀ w1, Calls Tryd.prog 19 #[.string pe] w1 fun e w' => e = .returned (.int .i64 1) ∧ ∃ q, w' = w1.drewN q) := two_at pe 1 _ (by simp) (by omega) hpe.out
  clear hpm hpn hpd hpe
  have HG := Lib.hid hG
  clear hG
  go_enter Tryd.func7, Tryd.ntmps7
  go_wp2_with fail
  refine (sanity_any _ HG.out).mono ?_
  rintro e w1 ⟨rfl, hb1⟩
  have B1 := Lib.hid hb1
  clear hb1
  go_wp2_with fail
  refine (num_any _ _).mono ?_
  rintro e wq ⟨rfl, o, rfl⟩
  go_wp2_with fail
  refine (show_rt false d ⟨#[]⟩ 5 sa _ ha.out (HG.out.up (bl_al B1.out)) (fineD d (by omega) (by omega))).mono ?_
  rintro e w2 ⟨rfl, hb2⟩
  have B2 : Hid (Below w.heap.size w w2) := (bl_al B1.out).trans (hb2.mono (bl_al B1.out).size)
  clear hb2
  go_wp2_with fail
  refine (num_any _ _).mono ?_
  rintro e wq ⟨rfl, o, rfl⟩
  go_wp2_with fail
  refine (show_rt false d1 ⟨#[]⟩ 5 sb _ hb.out (HG.out.up (bl_al B2.out)) (fineD d1 (by omega) (by omega))).mono ?_
  rintro e w3 ⟨rfl, hb3⟩
  have B3 : Hid (Below w.heap.size w w3) := (bl_al B2.out).trans (hb3.mono (bl_al B2.out).size)
  clear hb3
  go_wp2_with fail
  refine (par_rt false d1 ⟨#[]⟩ 5 sb _ hb.out (HG.out.up B3.out) (okDay d1 (by omega) (by omega)) (fineD d1 (by omega) (by omega))).mono ?_
  rintro e w4 ⟨rfl, hb4⟩
  have B4 : Hid (Below w.heap.size w w4) := B3.out.trans (hb4.mono B3.out.size)
  clear hb4
  go_wp2_with fail
  have hw1 : IntKind.i64.wrap d1 = d1 := by rw [IntKind.wrap_i64]; omega
  have HE := Lib.hid (And.intro ea (And.intro eb (And.intro ma (And.intro mb (And.intro da db)))))
  clear ea eb ma mb da db hd
  have V := Lib.hid (VB.new w4 false d1 ⟨#[]⟩)
  obtain ⟨q0, q1, q2⟩ := V.out.s3
  go_region_held_law (fun w' => w'.cell? ⟨w4.heap.size, 0, none⟩ = some (.bool false) ∧ w'.cell? ⟨w4.heap.size, 1, none⟩ = some (.int .i64 d1) ∧ w'.cell? ⟨w4.heap.size, 2, none⟩ = some (.string ⟨#[]⟩))
    (first | exact hS | go_keep)
    ((go_at_call 18; refine (num_any _ _).mono ?_; rintro e wq ⟨rfl, o, rfl⟩; have hS := (by first | exact (V.out.al o).s3 | exact (V.out.dr.al o).s3 | exact (V.out.dr.dr.al o).s3)))
  clear V q0 q1 q2
  obtain ⟨ea, eb, ma, mb, da, db⟩ := HE.out
  have v4 : IntKind.i64.wrap 4 = 4 := by decide
  have v5 : IntKind.i64.wrap 5 = 5 := by decide
  have v6 : IntKind.i64.wrap 6 = 6 := by decide
  have v7 : IntKind.i64.wrap 7 = 7 := by decide
  have v8 : IntKind.i64.wrap 8 = 8 := by decide
  have v9 : IntKind.i64.wrap 9 = 9 := by decide
  have v10 : IntKind.i64.wrap 10 = 10 := by decide
  have v11 : IntKind.i64.wrap 11 = 11 := by decide
  go_wp2_with fail
  go_quiet (first | (go_at_call 19; with_reducible exact quiet_off (HPM.out _)) | (go_at_call 19; with_reducible exact quiet_off (HPN.out _)))
  go_wp2_with fail
  go_quiet (first | (go_at_call 19; with_reducible exact quiet_off (HPD.out _)) | (go_at_call 19; with_reducible exact quiet_off (HPE.out _)))
  clear v4 v5 v6 v7 v8 v9 v10 v11
  go_wp2_with fail
  all_goals (first | (exfalso; omega) | skip)
  try (go_quiet (fail); go_wp2_with fail)
  all_goals (first | (exfalso; omega) | skip)
  go_ret
  exact ⟨by simp, by repeat first | exact B4.out | with_reducible apply bl_dn | with_reducible apply bl_al⟩
end Go.Proofs.YtmdeojlpccdahaaDoor.days
namespace Go.Proofs.YtmdeojlpccdahaaDoor
open Go.RowKit Go.Lib
theorem walkDays (n : Int) (w : World) (_h0 : -9223372036854775808 ≤ n) (_h1 : n ≤ 9223372036854775807) (hG : Glob5 w) :
    Calls Tryd.prog 7 #[.int .i64 n] w fun e w' => e = .returned (.bool true) ∧ Below w.heap.size w w' := by
  obtain ⟨d, hd⟩ : ∃ d, n.tmod 1000000 = d := ⟨_, rfl⟩
  have b1 := Int.tmod_lt_of_pos n (by decide : (0 : Int) < 1000000)
  have b2 := Int.lt_tmod_of_pos n (by decide : (0 : Int) < 1000000)
  obtain ⟨Y, Y', M, M', D, D', ea, eb, hM, hM', hD, hD', hY, hY', hc⟩ := days_fact d (by omega) (by omega)
  have ka := days.cut_of (dateL d) Y M D Y.length ea rfl (by omega) (by omega)
  have kb := days.cut_of (dateL (d + 1)) Y' M' D' Y'.length eb rfl (by omega) (by omega)
  have sa : str (showL ⟨false, d, ⟨#[]⟩⟩ 5) = str (dateL d) := by rw [show_d d (by omega) (by omega)]
  have sb : str (showL ⟨false, d + 1, ⟨#[]⟩⟩ 5) = str (dateL (d + 1)) := by rw [show_d (d + 1) (by omega) (by omega)]
  obtain ⟨a, ha⟩ : ∃ a, str (dateL d) = a := ⟨_, rfl⟩
  obtain ⟨b, hb⟩ : ∃ b, str (dateL (d + 1)) = b := ⟨_, rfl⟩
  rw [ha] at ka sa
  rw [hb] at kb sb
  obtain ⟨ka0, ka1, ka2, ka3⟩ := ka
  obtain ⟨kb0, kb1, kb2, kb3⟩ := kb
  rcases hc with ⟨rfl, rfl, rfl⟩ | ⟨rfl, h28, ⟨rfl, rfl, rfl, hyy⟩ | ⟨h12, rfl, rfl, hMD⟩⟩
  · rcases (by omega : Y.length = 4 ∨ Y.length = 5) with e | e <;> rw [e] at ka0 ka1 ka2 ka3 kb0 kb1 kb2 kb3
    · exact days.walkA44 n d (d + 1) M' D (str Y) a b _ _ _ _ w hG hd rfl (by omega) (by omega) hM (by omega) sa sb ka0 kb0 ka1 kb1 rfl rfl rfl rfl ka2 kb2 ka3 kb3
    · exact days.walkA55 n d (d + 1) M' D (str Y) a b _ _ _ _ w hG hd rfl (by omega) (by omega) hM (by omega) sa sb ka0 kb0 ka1 kb1 rfl rfl rfl rfl ka2 kb2 ka3 kb3
  · have hy : ((str Y).toList == (str Y').toList) = false := by
      rw [Lib.toList_data, Lib.toList_data, str_data, str_data]
      simpa using hyy
    rcases (by omega : Y.length = 4 ∨ Y.length = 5) with e | e <;> rcases (by omega : Y'.length = 4 ∨ Y'.length = 5) with e' | e' <;> rw [e] at ka0 ka1 ka2 ka3 <;> rw [e'] at kb0 kb1 kb2 kb3
    · exact days.walkB44 n d (d + 1) (str Y) (str Y') a b _ _ _ _ w hG hd rfl (by omega) (by omega) hy sa sb ka0 kb0 ka1 kb1 rfl rfl rfl rfl ka2 kb2 ka3 kb3
    · exact days.walkB45 n d (d + 1) (str Y) (str Y') a b _ _ _ _ w hG hd rfl (by omega) (by omega) hy sa sb ka0 kb0 ka1 kb1 rfl rfl rfl rfl ka2 kb2 ka3 kb3
    · exact days.walkB54 n d (d + 1) (str Y) (str Y') a b _ _ _ _ w hG hd rfl (by omega) (by omega) hy sa sb ka0 kb0 ka1 kb1 rfl rfl rfl rfl ka2 kb2 ka3 kb3
    · exact days.walkB55 n d (d + 1) (str Y) (str Y') a b _ _ _ _ w hG hd rfl (by omega) (by omega) hy sa sb ka0 kb0 ka1 kb1 rfl rfl rfl rfl ka2 kb2 ka3 kb3
  · rcases (by omega : Y.length = 4 ∨ Y.length = 5) with e | e <;> rw [e] at ka0 ka1 ka2 ka3 kb0 kb1 kb2 kb3
    · exact days.walkC44 n d (d + 1) M D (str Y) a b _ _ _ _ w hG hd rfl (by omega) (by omega) (by omega) (by omega) hMD sa sb ka0 kb0 ka1 kb1 rfl rfl rfl rfl ka2 kb2 ka3 kb3
    · exact days.walkC55 n d (d + 1) M D (str Y) a b _ _ _ _ w hG hd rfl (by omega) (by omega) (by omega) (by omega) hMD sa sb ka0 kb0 ka1 kb1 rfl rfl rfl rfl ka2 kb2 ka3 kb3
end Go.Proofs.YtmdeojlpccdahaaDoor
