/-
  What Decode and Parse accept is the encoding and the notation of a valid value: the law's walk.
-/
import Derived.Test.YtmdeojlpccdahaaDoorStep
import Derived.Test.YtmdeojlpccdahaaDoorEqV
import Derived.Lib.ConvBytes
namespace Go.Proofs.YtmdeojlpccdahaaDoor.can
open Go.RowKit Go.Lib

theorem bl_of_dn {w X : World} {n : Nat} (h : Below (w.drewN n).heap.size (w.drewN n) X) : Below w.heap.size w X := (below_dn (Below.refl w.heap.size w) n).trans h
theorem conv_str (w : World) (B : Nat) (A : Option Addr) (N cap : Nat) (l : List UInt8) (hN : N = l.length) (h : Shows w B A l) : (convert 29 9 (.slice A N cap)).run Tryd.prog w = .ok (.string (str l)) w :=
  run_string_shows w 29 9 Tryd.underlying29 Tryd.underlying5 Tryd.underlying9 hN h
theorem par_cand {s : List UInt8} {t : Int} {u : Va} (h : parV s t = (u, 0)) : u = candV s t := by
  unfold parV at h
  split at h
  · simp at h
  · split at h
    · simp only [Prod.mk.injEq, and_true] at h
      exact h.symm
    · simp at h
theorem par_fine {l : List UInt8} {t : Int} {u : Va} (hl : l.length ≤ 1000) (h : parV l t = (u, 0)) : u.Fine := by
  rw [par_cand h]
  have k := (cand_fine (str l) t (by rw [str_size]; omega)).1
  rwa [str_data] at k
theorem dec_fine {l : List UInt8} {a t : Int} {v : Va} {i : Nat} (hl : l.length ≤ 1000) (h : decL l a t = (v, i, 0)) : v.Fine := by
  unfold decL at h
  split at h
  · simp at h
  split at h
  · simp at h
  split at h
  · simp at h
  split at h
  · simp only [Prod.mk.injEq] at h
    rw [← h.1]
    exact ⟨by show (-9223372036854775808 : Int) ≤ 0; decide, by show (0 : Int) ≤ _; decide, by show (0 : Nat) ≤ _; omega⟩
  split at h
  · simp at h
  unfold decB at h
  split at h
  · rename_i hz
    simp only [Prod.mk.injEq] at h
    exact absurd h.2.2 hz
  rename_i hz
  split at h
  · simp only [Prod.mk.injEq] at h
    rw [← h.1]
    clear h
    have hz : (bodyL l (a.toNat + 1) t).2.2 = 0 := Decidable.not_not.1 hz
    unfold bodyL at hz ⊢
    split
    · refine ⟨by show (-9223372036854775808 : Int) ≤ 0; decide, by show (0 : Int) ≤ _; decide, ?_⟩
      show (⟨(Num.taken l _).toArray⟩ : ByteArray).size ≤ _
      rw [size_mk]
      have := taken_le l ((a.toNat + 1 : Nat) : Int)
      simp only [Int.natCast_add] at this ⊢
      omega
    · rename_i ht
      rw [if_neg ht] at hz
      simp only at hz
      rcases Num.readU_cases l ((a.toNat + 1 : Nat) : Int) with ⟨n, m, hr⟩ | hr | hr | hr
      · have hu := Num.readU_u64 hr
        have hb := Num.zag_bounds hu
        simp only [Int.natCast_add] at hr ⊢
        refine ⟨?_, ?_, by show (0 : Nat) ≤ _; omega⟩
        · show _ ≤ Num.zag (Num.readU l _).1
          erw [hr]
          exact hb.1
        · show Num.zag (Num.readU l _).1 ≤ _
          erw [hr]
          exact hb.2
      all_goals
        exfalso
        erw [hr] at hz
        simp at hz
  · simp at h
theorem dec_cn (A : Option Addr) (N cap : Nat) (l : List UInt8) (i t : Int) (v : Va) (j z : Nat) (jz zz : Int) (w : World) (hN : N = l.length) (hs : Shows w w.heap.size A l) (hc : N ≤ cap) (hl : N ≤ 1000) (hcap : cap ≤ 9223372036854775807) (h : decL l i t = (v, j, z)) (hj : jz = j) (hz : zz = z) :
    Calls Tryd.prog 13 #[.slice A N cap, .int .i64 i, .int .i64 t] w fun e w' => e = .returned (.tuple #[.agg #[.bool v.b, .int .i64 v.n, .string v.s], .int .i64 jz, .int .i64 zz]) ∧ Below w.heap.size w w' := by
  subst hj hz
  refine (Decode_any A N cap l i t w hN hs hc (by omega) hcap).mono ?_
  rintro e w' ⟨rfl, hb⟩
  rw [h]
  exact ⟨rfl, hb⟩
theorem par_cn (l : List UInt8) (t : Int) (u : Va) (y : Nat) (yz : Int) (w : World) (hl : l.length ≤ 1000) (hG : Glob5 w) (h : parV l t = (u, y)) (hy : yz = y) :
    Calls Tryd.prog 14 #[.string (str l), .int .i64 t] w fun e w' => e = .returned (.tuple #[.agg #[.bool u.b, .int .i64 u.n, .string u.s], .int .i64 yz]) ∧ Below w.heap.size w w' := by
  subst hy
  refine (Parse_any (str l) t w hG (by rw [str_size]; omega)).mono ?_
  rintro e w' ⟨rfl, hb⟩
  rw [str_data, h]
  exact ⟨rfl, hb⟩

set_option maxHeartbeats 4000000 in
set_option maxRecDepth 100000 in
attribute [local irreducible] okV showL decL parV encL dateL str in
attribute [local go_sem high] run_eq_same in
theorem walkNN (A : Option Addr) (N cap : Nat) (l : List UInt8) (i : Int) (t : Int) (ub : Bool) (un : Int) (us : ByteArray) (w : World) (hN : Hid (N = l.length)) (hA : Shows w w.heap.size A l) (hc : N ≤ cap) (hcap : cap ≤ 140737488351232) (hG : Glob5 w) (g1 : N ≤ 400) (z : Nat) (hz : z ≠ 0) (y : Nat) (hy : y ≠ 0)
    (HDEC : Hid (∀ w1, Below w.heap.size w w1 → Calls Tryd.prog 13 #[.slice A N cap, .int .i64 i, .int .i64 t] w1 fun e w' => e = .returned (.tuple #[.agg #[.bool false, .int .i64 0, .string ⟨#[]⟩], .int .i64 0, .int .i64 (z : Int)]) ∧ Below w1.heap.size w1 w'))
    (HPAR : Hid (∀ w1, Below w.heap.size w w1 → Calls Tryd.prog 14 #[.string (str l), .int .i64 t] w1 fun e w' => e = .returned (.tuple #[.agg #[.bool ub, .int .i64 un, .string us], .int .i64 (y : Int)]) ∧ Below w1.heap.size w1 w')) :
    Calls Tryd.prog 5 #[.slice A N cap, .int .i64 i, .int .i64 t] w fun e w' => e = .returned (.bool true) ∧ Below w.heap.size w w' := by
  have HCV : Hid (∀ w', Below w.heap.size w w' → (convert 29 9 (.slice A N cap)).run Tryd.prog w' = .ok (.string (str l)) w') := fun w' h => conv_str w' w.heap.size A N cap l hN.out (hA.below h)
  have HA := Lib.hid hA
  have HG := Lib.hid hG
  clear hA hG
  have i1 : ¬ 400 < (N : Int) := by omega
  have hzi : ¬ (z : Int) = 0 := by omega
  have hzb : ((z : Int) != 0) = true := by simp; omega
  have hyi : ¬ (y : Int) = 0 := by omega
  have hyb : ((y : Int) == 0) = false := by simp; omega
  go_enter Tryd.func5, Tryd.ntmps5
  go_wp2_with fail
  refine (sanity_any _ HG.out).mono ?_
  rintro e w1 ⟨rfl, hb⟩
  have B1 := Lib.hid hb
  clear hb
  go_wp2_with fail
  refine (HDEC.out _ B1.out).mono ?_
  rintro e w2 ⟨rfl, hb2⟩
  have B2 := Lib.hid (B1.out.trans (hb2.mono B1.out.size))
  have hcv := HCV.out (w2.alloc (.cells #[.bool false, .int .i64 0, .string ⟨#[]⟩] 23)) (bl_al B2.out)
  clear hb2
  go_wp2_with fail
  refine (HPAR.out _ (bl_al B2.out)).mono ?_
  rintro e w3 ⟨rfl, hb3⟩
  have B3 : Hid (Below w.heap.size w w3) := (bl_al B2.out).trans (hb3.mono (bl_al B2.out).size)
  have V3 := Lib.hid ((VB.new w2 false 0 ⟨#[]⟩).up hb3)
  clear hb3 hcv HDEC HPAR
  have hw3 : ¬ w2.heap.size = w3.heap.size := by have := V3.out.lt; omega
  have hw4 : ¬ w3.heap.size = w2.heap.size := by omega
  obtain ⟨v0, v1, v2⟩ := V3.out.s3
  go_wp2_with fail
  go_quiet (fail)
  have V4 : VB ((w3.alloc (.cells #[.bool ub, .int .i64 un, .string us] 23)).drewN nq) w2.heap.size false 0 ⟨#[]⟩ := (V3.out.al _).up (below_dn (Below.refl _ _) nq)
  obtain ⟨r0, r1, r2⟩ := V4.s3
  have W4 : Hid (Below w.heap.size w ((w3.alloc (.cells #[.bool ub, .int .i64 un, .string us] 23)).drewN nq)) := bl_dn (bl_al B3.out)
  go_wp2_with fail
  all_goals (first | (exfalso; omega) | skip)
  go_ret
  exact ⟨by simp, by repeat first | exact B3.out | with_reducible apply bl_dn | with_reducible apply bl_dr | with_reducible apply bl_al⟩
set_option maxHeartbeats 4000000 in
set_option maxRecDepth 100000 in
attribute [local irreducible] okV showL decL parV encL dateL str in
attribute [local go_sem high] run_eq_same in
theorem walkYN (A : Option Addr) (N cap : Nat) (l : List UInt8) (i : Int) (t : Int) (ub : Bool) (un : Int) (us : ByteArray) (w : World) (hN : Hid (N = l.length)) (hA : Shows w w.heap.size A l) (hc : N ≤ cap) (hcap : cap ≤ 140737488351232) (hG : Glob5 w) (g1 : N ≤ 400) (z : Nat) (hz : z ≠ 0) (hku : Hid (okV ⟨ub, un, us⟩ t = true)) (hfu : Hid (Va.Fine ⟨ub, un, us⟩)) (hsu : Hid (str (showL ⟨ub, un, us⟩ t) = str l))
    (HDEC : Hid (∀ w1, Below w.heap.size w w1 → Calls Tryd.prog 13 #[.slice A N cap, .int .i64 i, .int .i64 t] w1 fun e w' => e = .returned (.tuple #[.agg #[.bool false, .int .i64 0, .string ⟨#[]⟩], .int .i64 0, .int .i64 (z : Int)]) ∧ Below w1.heap.size w1 w'))
    (HPAR : Hid (∀ w1, Below w.heap.size w w1 → Calls Tryd.prog 14 #[.string (str l), .int .i64 t] w1 fun e w' => e = .returned (.tuple #[.agg #[.bool ub, .int .i64 un, .string us], .int .i64 0]) ∧ Below w1.heap.size w1 w')) :
    Calls Tryd.prog 5 #[.slice A N cap, .int .i64 i, .int .i64 t] w fun e w' => e = .returned (.bool true) ∧ Below w.heap.size w w' := by
  have HCV : Hid (∀ w', Below w.heap.size w w' → (convert 29 9 (.slice A N cap)).run Tryd.prog w' = .ok (.string (str l)) w') := fun w' h => conv_str w' w.heap.size A N cap l hN.out (hA.below h)
  have HA := Lib.hid hA
  have HG := Lib.hid hG
  clear hA hG
  have i1 : ¬ 400 < (N : Int) := by omega
  have hzi : ¬ (z : Int) = 0 := by omega
  have hzb : ((z : Int) != 0) = true := by simp; omega
  go_enter Tryd.func5, Tryd.ntmps5
  go_wp2_with fail
  refine (sanity_any _ HG.out).mono ?_
  rintro e w1 ⟨rfl, hb⟩
  have B1 := Lib.hid hb
  clear hb
  go_wp2_with fail
  refine (HDEC.out _ B1.out).mono ?_
  rintro e w2 ⟨rfl, hb2⟩
  have B2 := Lib.hid (B1.out.trans (hb2.mono B1.out.size))
  have hcv := HCV.out (w2.alloc (.cells #[.bool false, .int .i64 0, .string ⟨#[]⟩] 23)) (bl_al B2.out)
  clear hb2
  go_wp2_with fail
  refine (HPAR.out _ (bl_al B2.out)).mono ?_
  rintro e w3 ⟨rfl, hb3⟩
  have B3 : Hid (Below w.heap.size w w3) := (bl_al B2.out).trans (hb3.mono (bl_al B2.out).size)
  have V3 := Lib.hid ((VB.new w2 false 0 ⟨#[]⟩).up hb3)
  clear hb3 hcv HDEC HPAR
  have hw3 : ¬ w2.heap.size = w3.heap.size := by have := V3.out.lt; omega
  have hw4 : ¬ w3.heap.size = w2.heap.size := by omega
  obtain ⟨v0, v1, v2⟩ := V3.out.s3
  go_wp2_with fail
  have VU := Lib.hid (VB.new w3 ub un us)
  obtain ⟨u0, u1, u2⟩ := VU.out.s3
  go_region_held_law (fun w' => w'.cell? ⟨w3.heap.size, 0, none⟩ = some (.bool ub) ∧ w'.cell? ⟨w3.heap.size, 1, none⟩ = some (.int .i64 un) ∧ w'.cell? ⟨w3.heap.size, 2, none⟩ = some (.string us))
    (first | exact hS | go_keep)
    (first
      | (go_at_call 16; with_reducible refine (val_rt ub un us t _ hku.out hfu.out).mono ?_; rintro e w4 ⟨rfl, hb4⟩; have B4 : Hid (Below (w3.alloc (.cells #[.bool ub, .int .i64 un, .string us] 23)).heap.size (w3.alloc (.cells #[.bool ub, .int .i64 un, .string us] 23)) w4) := Lib.hid (by first | exact hb4 | exact bl_of_dr hb4); have hS := (VU.out.up B4.out).s3; have W4 : Hid (Below w.heap.size w w4) := Lib.hid ((bl_al B3.out).trans (B4.out.mono (bl_al B3.out).size)); have hcv4 := HCV.out w4 W4.out; clear hb4)
      | (go_at_call 15; with_reducible refine (show_rt ub un us t (str l) _ hsu.out (HG.out.up W4.out) hfu.out).mono ?_; rintro e w5 ⟨rfl, hb5⟩; have B5 := Lib.hid (B4.out.trans (hb5.mono B4.out.size)); have hS := (VU.out.up B5.out).s3; have W5 : Hid (Below w.heap.size w w5) := Lib.hid ((bl_al B3.out).trans (B5.out.mono (bl_al B3.out).size)); have hcv5 := HCV.out w5 W5.out; clear hb5)
      | fail)
  all_goals
    have V5 := Lib.hid ((V3.out.al (.cells #[.bool ub, .int .i64 un, .string us] 23)).up B5.out)
    obtain ⟨r0, r1, r2⟩ := V5.out.s3
    go_wp2_with fail
    all_goals (first | (exfalso; omega) | skip)
    go_ret
    exact ⟨by simp, W5.out⟩
set_option maxHeartbeats 4000000 in
set_option maxRecDepth 100000 in
attribute [local irreducible] okV showL decL parV encL dateL str in
attribute [local go_sem high] run_eq_same in
theorem walkNZ (A : Option Addr) (N cap : Nat) (l : List UInt8) (k : Nat) (t : Int) (ub : Bool) (un : Int) (us : ByteArray) (w : World) (hN : Hid (N = l.length)) (hA : Shows w w.heap.size A l) (hc : N ≤ cap) (hcap : cap ≤ 140737488351232) (hG : Glob5 w) (g1 : N ≤ 400) (vb : Bool) (vn : Int) (vs : ByteArray) (j : Nat) (hkj : k < j) (hjN : j ≤ N) (hkv : Hid (okV ⟨vb, vn, vs⟩ t = true)) (hfv : Hid (Va.Fine ⟨vb, vn, vs⟩)) (hev : Hid (encL ⟨vb, vn, vs⟩ t = (l.drop k).take (j - k))) (y : Nat) (hy : y ≠ 0)
    (HDEC : Hid (∀ w1, Below w.heap.size w w1 → Calls Tryd.prog 13 #[.slice A N cap, .int .i64 (k : Int), .int .i64 t] w1 fun e w' => e = .returned (.tuple #[.agg #[.bool vb, .int .i64 vn, .string vs], .int .i64 (j : Int), .int .i64 0]) ∧ Below w1.heap.size w1 w'))
    (HPAR : Hid (∀ w1, Below w.heap.size w w1 → Calls Tryd.prog 14 #[.string (str l), .int .i64 t] w1 fun e w' => e = .returned (.tuple #[.agg #[.bool ub, .int .i64 un, .string us], .int .i64 (y : Int)]) ∧ Below w1.heap.size w1 w')) :
    Calls Tryd.prog 5 #[.slice A N cap, .int .i64 (k : Int), .int .i64 t] w fun e w' => e = .returned (.bool true) ∧ Below w.heap.size w w' := by
  have HCV : Hid (∀ w', Below w.heap.size w w' → (convert 29 9 (.slice A N cap)).run Tryd.prog w' = .ok (.string (str l)) w') := fun w' h => conv_str w' w.heap.size A N cap l hN.out (hA.below h)
  have HA := Lib.hid hA
  have HG := Lib.hid hG
  clear hA hG
  have i1 : ¬ 400 < (N : Int) := by omega
  have hyi : ¬ (y : Int) = 0 := by omega
  have hyb : ((y : Int) == 0) = false := by simp; omega
  have q1 : ¬ (k : Int) < 0 := by omega
  have q2 : ¬ (j : Int) ≤ (k : Int) := by omega
  have q3 : ¬ (N : Int) < (j : Int) := by omega
  have q4 : (j : Int) ≤ (cap : Int) := by omega
  have q5 : (k : Int) ≤ (j : Int) := by omega
  have q6 : (0 : Int) ≤ (k : Int) := by omega
  have q7 : (0 : Int) ≤ (j : Int) := by omega
  have q8 : ¬ cap = k := by omega
  go_enter Tryd.func5, Tryd.ntmps5
  go_wp2_with fail
  refine (sanity_any _ HG.out).mono ?_
  rintro e w1 ⟨rfl, hb⟩
  have B1 := Lib.hid hb
  clear hb
  go_wp2_with fail
  refine (HDEC.out _ B1.out).mono ?_
  rintro e w2 ⟨rfl, hb2⟩
  have B2 := Lib.hid (B1.out.trans (hb2.mono B1.out.size))
  have hcv := HCV.out (w2.alloc (.cells #[.bool vb, .int .i64 vn, .string vs] 23)) (bl_al B2.out)
  clear hb2
  go_wp2_with fail
  refine (HPAR.out _ (bl_al B2.out)).mono ?_
  rintro e w3 ⟨rfl, hb3⟩
  have B3 : Hid (Below w.heap.size w w3) := (bl_al B2.out).trans (hb3.mono (bl_al B2.out).size)
  have V3 := Lib.hid ((VB.new w2 vb vn vs).up hb3)
  clear hb3 hcv HDEC HPAR
  have hw3 : ¬ w2.heap.size = w3.heap.size := by have := V3.out.lt; omega
  have hw4 : ¬ w3.heap.size = w2.heap.size := by omega
  obtain ⟨v0, v1, v2⟩ := V3.out.s3
  go_wp2_with fail
  go_quiet (fail)
  have V4 : VB ((w3.alloc (.cells #[.bool ub, .int .i64 un, .string us] 23)).drewN nq) w2.heap.size vb vn vs := (V3.out.al _).up (below_dn (Below.refl _ _) nq)
  obtain ⟨r0, r1, r2⟩ := V4.s3
  have W4 : Hid (Below w.heap.size w ((w3.alloc (.cells #[.bool ub, .int .i64 un, .string us] 23)).drewN nq)) := bl_dn (bl_al B3.out)
  go_wp2_with fail
  all_goals (first | (exfalso; omega) | skip)
  have VV : Hid (VB (w3.alloc (.cells #[.bool ub, .int .i64 un, .string us] 23)) w2.heap.size vb vn vs) := V3.out.al _
  have WW : Hid (Below w.heap.size w (w3.alloc (.cells #[.bool ub, .int .i64 un, .string us] 23))) := bl_al B3.out
  obtain ⟨la, hla⟩ : ∃ la, (l.drop k).take (j - k) = la := ⟨_, rfl⟩
  have hl1 : j - k = la.length := by rw [← hla]; have := hN.out; simp; omega
  have HEV : Hid (encL ⟨vb, vn, vs⟩ t = la) := by show _ = _; rw [hev.out, hla]
  obtain ⟨L, hL⟩ : ∃ L, L = j - k := ⟨_, rfl⟩
  have HLL : Hid (L = la.length) := by show _ = _; rw [hL, hl1]
  have HJK := Lib.hid hl1
  have hLi : (j : Int) - (k : Int) = (L : Int) := by omega
  have hL4 : L ≤ 400 := by omega
  have HCUT : Hid (Shows w w.heap.size (A.map (·.add k)) la) := by
    have h := (HA.out).cutAt (k := k) (n := j - k) (cap := cap) (by have := hN.out; omega) (by have := hN.out; omega) q8
    rw [hla] at h
    exact h
  have CC : Hid (∀ w', Below ((w3.alloc (.cells #[.bool ub, .int .i64 un, .string us] 23))).heap.size (w3.alloc (.cells #[.bool ub, .int .i64 un, .string us] 23)) w' → w'.cell? ⟨w2.heap.size, 0, none⟩ = some (.bool vb) ∧ w'.cell? ⟨w2.heap.size, 1, none⟩ = some (.int .i64 vn) ∧ w'.cell? ⟨w2.heap.size, 2, none⟩ = some (.string vs)) := fun w' h => (VV.out.up h).s3
  clear hla hl1 hL
  go_region_held_law (fun w' => w'.cell? ⟨w2.heap.size, 0, none⟩ = some (.bool vb) ∧ w'.cell? ⟨w2.heap.size, 1, none⟩ = some (.int .i64 vn) ∧ w'.cell? ⟨w2.heap.size, 2, none⟩ = some (.string vs))
    (first | exact hS | go_keep)
    (first
      | (go_at_call 16; with_reducible refine (val_rt vb vn vs t _ hkv.out hfv.out).mono ?_; rintro e w6 ⟨rfl, hb6⟩; have B6 : Hid (Below ((w3.alloc (.cells #[.bool ub, .int .i64 un, .string us] 23))).heap.size (w3.alloc (.cells #[.bool ub, .int .i64 un, .string us] 23)) w6) := Lib.hid (by first | exact hb6 | exact bl_of_dr hb6 | exact bl_of_dn hb6); have hS := CC.out w6 B6.out; clear hb6)
      | (go_at_call 12; with_reducible refine (enc_ni L la vb vn vs t _ HEV.out HLL.out hfv.out).mono ?_; rintro e w7 ⟨A7, c7, rfl, ho7, hb7⟩; have HO7 := Lib.hid ho7; have B7 := Lib.hid (B6.out.trans (hb7.mono B6.out.size)); have hS := CC.out w7 B7.out; clear ho7 hb7)
      | (go_at_call 17; with_reducible refine (Same_yes A7 L c7 (A.map (fun x => x.add k)) (j - k) (cap - k) la la _ HO7.out.shows.2.2 (HCUT.out.up (WW.out.trans (B7.out.mono WW.out.size))) rfl HLL.out HJK.out (by omega)).mono ?_; rintro e w8 ⟨rfl, hb8⟩; have B8 := Lib.hid (B7.out.trans (hb8.mono B7.out.size)); have hS := CC.out w8 B8.out; clear hb8)
      | fail)
  go_wp2_with fail
  go_ret
  exact ⟨by simp, WW.out.trans (B8.out.mono WW.out.size)⟩
set_option maxHeartbeats 4000000 in
set_option maxRecDepth 100000 in
attribute [local irreducible] okV showL decL parV encL dateL str in
attribute [local go_sem high] run_eq_same in
theorem walkYZ (A : Option Addr) (N cap : Nat) (l : List UInt8) (k : Nat) (t : Int) (ub : Bool) (un : Int) (us : ByteArray) (w : World) (hN : Hid (N = l.length)) (hA : Shows w w.heap.size A l) (hc : N ≤ cap) (hcap : cap ≤ 140737488351232) (hG : Glob5 w) (g1 : N ≤ 400) (vb : Bool) (vn : Int) (vs : ByteArray) (j : Nat) (hkj : k < j) (hjN : j ≤ N) (hkv : Hid (okV ⟨vb, vn, vs⟩ t = true)) (hfv : Hid (Va.Fine ⟨vb, vn, vs⟩)) (hev : Hid (encL ⟨vb, vn, vs⟩ t = (l.drop k).take (j - k))) (hku : Hid (okV ⟨ub, un, us⟩ t = true)) (hfu : Hid (Va.Fine ⟨ub, un, us⟩)) (hsu : Hid (str (showL ⟨ub, un, us⟩ t) = str l))
    (HDEC : Hid (∀ w1, Below w.heap.size w w1 → Calls Tryd.prog 13 #[.slice A N cap, .int .i64 (k : Int), .int .i64 t] w1 fun e w' => e = .returned (.tuple #[.agg #[.bool vb, .int .i64 vn, .string vs], .int .i64 (j : Int), .int .i64 0]) ∧ Below w1.heap.size w1 w'))
    (HPAR : Hid (∀ w1, Below w.heap.size w w1 → Calls Tryd.prog 14 #[.string (str l), .int .i64 t] w1 fun e w' => e = .returned (.tuple #[.agg #[.bool ub, .int .i64 un, .string us], .int .i64 0]) ∧ Below w1.heap.size w1 w')) :
    Calls Tryd.prog 5 #[.slice A N cap, .int .i64 (k : Int), .int .i64 t] w fun e w' => e = .returned (.bool true) ∧ Below w.heap.size w w' := by
  have HCV : Hid (∀ w', Below w.heap.size w w' → (convert 29 9 (.slice A N cap)).run Tryd.prog w' = .ok (.string (str l)) w') := fun w' h => conv_str w' w.heap.size A N cap l hN.out (hA.below h)
  have HA := Lib.hid hA
  have HG := Lib.hid hG
  clear hA hG
  have i1 : ¬ 400 < (N : Int) := by omega
  have q1 : ¬ (k : Int) < 0 := by omega
  have q2 : ¬ (j : Int) ≤ (k : Int) := by omega
  have q3 : ¬ (N : Int) < (j : Int) := by omega
  have q4 : (j : Int) ≤ (cap : Int) := by omega
  have q5 : (k : Int) ≤ (j : Int) := by omega
  have q6 : (0 : Int) ≤ (k : Int) := by omega
  have q7 : (0 : Int) ≤ (j : Int) := by omega
  have q8 : ¬ cap = k := by omega
  go_enter Tryd.func5, Tryd.ntmps5
  go_wp2_with fail
  refine (sanity_any _ HG.out).mono ?_
  rintro e w1 ⟨rfl, hb⟩
  have B1 := Lib.hid hb
  clear hb
  go_wp2_with fail
  refine (HDEC.out _ B1.out).mono ?_
  rintro e w2 ⟨rfl, hb2⟩
  have B2 := Lib.hid (B1.out.trans (hb2.mono B1.out.size))
  have hcv := HCV.out (w2.alloc (.cells #[.bool vb, .int .i64 vn, .string vs] 23)) (bl_al B2.out)
  clear hb2
  go_wp2_with fail
  refine (HPAR.out _ (bl_al B2.out)).mono ?_
  rintro e w3 ⟨rfl, hb3⟩
  have B3 : Hid (Below w.heap.size w w3) := (bl_al B2.out).trans (hb3.mono (bl_al B2.out).size)
  have V3 := Lib.hid ((VB.new w2 vb vn vs).up hb3)
  clear hb3 hcv HDEC HPAR
  have hw3 : ¬ w2.heap.size = w3.heap.size := by have := V3.out.lt; omega
  have hw4 : ¬ w3.heap.size = w2.heap.size := by omega
  obtain ⟨v0, v1, v2⟩ := V3.out.s3
  go_wp2_with fail
  have VU := Lib.hid (VB.new w3 ub un us)
  obtain ⟨u0, u1, u2⟩ := VU.out.s3
  go_region_held_law (fun w' => w'.cell? ⟨w3.heap.size, 0, none⟩ = some (.bool ub) ∧ w'.cell? ⟨w3.heap.size, 1, none⟩ = some (.int .i64 un) ∧ w'.cell? ⟨w3.heap.size, 2, none⟩ = some (.string us))
    (first | exact hS | go_keep)
    (first
      | (go_at_call 16; with_reducible refine (val_rt ub un us t _ hku.out hfu.out).mono ?_; rintro e w4 ⟨rfl, hb4⟩; have B4 : Hid (Below (w3.alloc (.cells #[.bool ub, .int .i64 un, .string us] 23)).heap.size (w3.alloc (.cells #[.bool ub, .int .i64 un, .string us] 23)) w4) := Lib.hid (by first | exact hb4 | exact bl_of_dr hb4); have hS := (VU.out.up B4.out).s3; have W4 : Hid (Below w.heap.size w w4) := Lib.hid ((bl_al B3.out).trans (B4.out.mono (bl_al B3.out).size)); have hcv4 := HCV.out w4 W4.out; clear hb4)
      | (go_at_call 15; with_reducible refine (show_rt ub un us t (str l) _ hsu.out (HG.out.up W4.out) hfu.out).mono ?_; rintro e w5 ⟨rfl, hb5⟩; have B5 := Lib.hid (B4.out.trans (hb5.mono B4.out.size)); have hS := (VU.out.up B5.out).s3; have W5 : Hid (Below w.heap.size w w5) := Lib.hid ((bl_al B3.out).trans (B5.out.mono (bl_al B3.out).size)); have hcv5 := HCV.out w5 W5.out; clear hb5)
      | fail)
  all_goals
    have V5 := Lib.hid ((V3.out.al (.cells #[.bool ub, .int .i64 un, .string us] 23)).up B5.out)
    obtain ⟨r0, r1, r2⟩ := V5.out.s3
    clear V3 VU B4 B5 hcv4 hcv5 hS u0 u1 u2 v0 v1 v2
    go_wp2_with fail
    all_goals (first | (exfalso; omega) | skip)
    have VV : Hid (VB w5 w2.heap.size vb vn vs) := V5.out
    have WW : Hid (Below w.heap.size w w5) := W5.out
    obtain ⟨la, hla⟩ : ∃ la, (l.drop k).take (j - k) = la := ⟨_, rfl⟩
    have hl1 : j - k = la.length := by rw [← hla]; have := hN.out; simp; omega
    have HEV : Hid (encL ⟨vb, vn, vs⟩ t = la) := by show _ = _; rw [hev.out, hla]
    obtain ⟨L, hL⟩ : ∃ L, L = j - k := ⟨_, rfl⟩
    have HLL : Hid (L = la.length) := by show _ = _; rw [hL, hl1]
    have HJK := Lib.hid hl1
    have hLi : (j : Int) - (k : Int) = (L : Int) := by omega
    have hL4 : L ≤ 400 := by omega
    have HCUT : Hid (Shows w w.heap.size (A.map (·.add k)) la) := by
      have h := (HA.out).cutAt (k := k) (n := j - k) (cap := cap) (by have := hN.out; omega) (by have := hN.out; omega) q8
      rw [hla] at h
      exact h
    have CC : Hid (∀ w', Below w5.heap.size w5 w' → w'.cell? ⟨w2.heap.size, 0, none⟩ = some (.bool vb) ∧ w'.cell? ⟨w2.heap.size, 1, none⟩ = some (.int .i64 vn) ∧ w'.cell? ⟨w2.heap.size, 2, none⟩ = some (.string vs)) := fun w' h => (VV.out.up h).s3
    clear hla hl1 hL
    go_region_held_law (fun w' => w'.cell? ⟨w2.heap.size, 0, none⟩ = some (.bool vb) ∧ w'.cell? ⟨w2.heap.size, 1, none⟩ = some (.int .i64 vn) ∧ w'.cell? ⟨w2.heap.size, 2, none⟩ = some (.string vs))
      (first | exact hS | go_keep)
      (first
        | (go_at_call 16; with_reducible refine (val_rt vb vn vs t _ hkv.out hfv.out).mono ?_; rintro e w6 ⟨rfl, hb6⟩; have B6 : Hid (Below w5.heap.size w5 w6) := Lib.hid (by first | exact hb6 | exact bl_of_dr hb6 | exact bl_of_dn hb6); have hS := CC.out w6 B6.out; clear hb6)
        | (go_at_call 12; with_reducible refine (enc_ni L la vb vn vs t _ HEV.out HLL.out hfv.out).mono ?_; rintro e w7 ⟨A7, c7, rfl, ho7, hb7⟩; have HO7 := Lib.hid ho7; have B7 := Lib.hid (B6.out.trans (hb7.mono B6.out.size)); have hS := CC.out w7 B7.out; clear ho7 hb7)
        | (go_at_call 17; with_reducible refine (Same_yes A7 L c7 (A.map (fun x => x.add k)) (j - k) (cap - k) la la _ HO7.out.shows.2.2 (HCUT.out.up (WW.out.trans (B7.out.mono WW.out.size))) rfl HLL.out HJK.out (by omega)).mono ?_; rintro e w8 ⟨rfl, hb8⟩; have B8 := Lib.hid (B7.out.trans (hb8.mono B7.out.size)); have hS := CC.out w8 B8.out; clear hb8)
        | fail)
    go_wp2_with fail
    go_ret
    exact ⟨by simp, WW.out.trans (B8.out.mono WW.out.size)⟩
set_option maxHeartbeats 1000000 in
set_option maxRecDepth 100000 in
theorem walk_big (A : Option Addr) (N cap : Nat) (i t : Int) (w : World) (hG : Glob5 w) (g1 : 400 < N) :
    Calls Tryd.prog 5 #[.slice A N cap, .int .i64 i, .int .i64 t] w fun e w' => e = .returned (.bool true) ∧ Below w.heap.size w w' := by
  have HG := Lib.hid hG
  clear hG
  have i1 : 400 < (N : Int) := by omega
  go_enter Tryd.func5, Tryd.ntmps5
  go_wp2_with fail
  refine (sanity_any _ HG.out).mono ?_
  rintro e w1 ⟨rfl, hb⟩
  have B1 := Lib.hid hb
  clear hb
  go_wp2_with fail
  go_ret
  exact ⟨rfl, B1.out⟩
end Go.Proofs.YtmdeojlpccdahaaDoor.can
namespace Go.Proofs.YtmdeojlpccdahaaDoor
open Go.RowKit Go.Lib
theorem walkCan (A : Option Addr) (cap : Nat) (l : List UInt8) (i t : Int) (w : World) (hA : Shows w w.heap.size A l) (hc : l.length ≤ cap) (hcap : cap ≤ 140737488351232) (_hi0 : -9223372036854775808 ≤ i) (_hi1 : i ≤ 9223372036854775807) (_ht0 : -9223372036854775808 ≤ t) (_ht1 : t ≤ 9223372036854775807) (hG : Glob5 w) :
    Calls Tryd.prog 5 #[.slice A l.length cap, .int .i64 i, .int .i64 t] w fun e w' => e = .returned (.bool true) ∧ Below w.heap.size w w' := by
  by_cases g1 : 400 < l.length
  · exact can.walk_big A l.length cap i t w hG g1
  obtain ⟨⟨v, j, z⟩, hdec⟩ : ∃ r, decL l i t = r := ⟨_, rfl⟩
  obtain ⟨⟨u, y⟩, hpar⟩ : ∃ r, parV l t = r := ⟨_, rfl⟩
  have hp : ∀ yz : Int, yz = y → Hid (∀ w1, Below w.heap.size w w1 → Calls Tryd.prog 14 #[.string (str l), .int .i64 t] w1 fun e w' => e = .returned (.tuple #[.agg #[.bool u.b, .int .i64 u.n, .string u.s], .int .i64 yz]) ∧ Below w1.heap.size w1 w') :=
    fun yz hy w1 h => can.par_cn l t u y yz w1 (by omega) (hG.up h) hpar hy
  have hd : ∀ jz zz : Int, jz = j → zz = z → Hid (∀ w1, Below w.heap.size w w1 → Calls Tryd.prog 13 #[.slice A l.length cap, .int .i64 i, .int .i64 t] w1 fun e w' => e = .returned (.tuple #[.agg #[.bool v.b, .int .i64 v.n, .string v.s], .int .i64 jz, .int .i64 zz]) ∧ Below w1.heap.size w1 w') :=
    fun jz zz hj hz w1 h => can.dec_cn A l.length cap l i t v j z jz zz w1 rfl (hA.up h) hc (by omega) (by omega) hdec hj hz
  by_cases hz : z = 0
  · subst hz
    have hfv := can.dec_fine (by omega) hdec
    obtain ⟨k, rfl, hkj, hjl, hkv, hev⟩ := dec_good hdec
    by_cases hy : y = 0
    · subst hy
      have hku := par_ok (s := l) (t := t) (by rw [hpar])
      rw [hpar] at hku
      exact can.walkYZ A l.length cap l k t u.b u.n u.s w rfl hA hc hcap hG (by omega) v.b v.n v.s j hkj hjl hkv hfv hev hku.1 (can.par_fine (by omega) hpar) (by show str (showL u t) = str l; rw [hku.2]) (hd (j : Int) 0 rfl rfl) (hp 0 rfl)
    · exact can.walkNZ A l.length cap l k t u.b u.n u.s w rfl hA hc hcap hG (by omega) v.b v.n v.s j hkj hjl hkv hfv hev y hy (hd (j : Int) 0 rfl rfl) (hp y rfl)
  · obtain ⟨e1, e2⟩ := dec_bad (l := l) (a := i) (t := t) (by rw [hdec]; exact hz)
    rw [hdec] at e1 e2
    simp only at e1 e2
    subst e1 e2
    by_cases hy : y = 0
    · subst hy
      have hku := par_ok (s := l) (t := t) (by rw [hpar])
      rw [hpar] at hku
      exact can.walkYN A l.length cap l i t u.b u.n u.s w rfl hA hc hcap hG (by omega) z hz hku.1 (can.par_fine (by omega) hpar) (by show str (showL u t) = str l; rw [hku.2]) (hd 0 z rfl rfl) (hp 0 rfl)
    · exact can.walkNN A l.length cap l i t u.b u.n u.s w rfl hA hc hcap hG (by omega) z hz y hy (hd 0 z rfl rfl) (hp y rfl)
end Go.Proofs.YtmdeojlpccdahaaDoor
