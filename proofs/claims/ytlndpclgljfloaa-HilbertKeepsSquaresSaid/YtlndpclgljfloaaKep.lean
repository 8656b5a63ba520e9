/-
  HilbertKeepsSquares, walked.
-/
import Derived.Test.YtlndpclgljfloaaLwH
namespace Go.Proofs.Ytlndpclgljfloaa
open Go.RowKit
namespace keeps
theorem xor32 (a b : Nat) (ha : a < 65536) (hb : b < 65536) : bits .xor .u32 (a : Int) (b : Int) = ((a ^^^ b : Nat) : Int) := by
  unfold bits
  show IntKind.u32.wrap ((BitVec.ofInt 32 _ ^^^ BitVec.ofInt 32 _).toNat : Int) = _
  have hx := Nat.xor_lt_two_pow (n := 16) ha hb
  rw [BitVec.toNat_xor, BitVec.toNat_ofInt, BitVec.toNat_ofInt]
  have e1 : ((a : Int) % ((2 ^ 32 : Nat) : Int)).toNat = a := by omega
  have e2 : ((b : Int) % ((2 ^ 32 : Nat) : Int)).toNat = b := by omega
  rw [e1, e2, IntKind.wrap_u32]
  omega
theorem near_div (x r m : Nat) (h : r < 2 ^ m) : (x ^^^ r) / 2 ^ m = x / 2 ^ m := by
  rw [Nat.xor_div_two_pow, Nat.div_eq_of_lt h, Nat.xor_zero]
set_option maxHeartbeats 8000000 in
set_option maxRecDepth 20000 in
theorem walk (a p0 p1 p2 p3 b : Nat) (w : World) (ha : a < 256) (hb' : b < 256) :
    Calls Try.prog 6 #[.int .u8 a, .agg #[.int .u32 p0, .int .u32 p1, .int .u32 p2, .int .u32 p3], .int .u8 b] w fun e w' => e = .returned (.bool true) ∧ Below w.heap.size w w' := by
  go_enter Try.func6, Try.ntmps6
  go_upto_region 3 with (go_at_call 10; refine (sanity_any _).mono ?_; rintro e w1 ⟨rfl, hb⟩; have X0 := Li ((CB.new w 34 [.int .u32 p0, .int .u32 p1, .int .u32 p2, .int .u32 p3]).up hb); have B0 := Li (below_step (al1 w _) (al1 w _).size hb); clear hb)
  obtain ⟨k, hk⟩ : ∃ k : Nat, 1 + a % 16 = k := ⟨_, rfl⟩
  have e1 : (1 : Int) + (a : Int) % 16 = (k : Int) := by omega
  rw [e1]
  have hk2 : 1 ≤ k ∧ k ≤ 16 := by omega
  clear e1 hk
  go_upto_region 4 with fail
  obtain ⟨m, hm⟩ : ∃ m : Nat, b % (k + 1) = m := ⟨_, rfl⟩
  have hmk : m ≤ k := by have := Nat.mod_lt b (show 0 < k + 1 by omega); omega
  rw [show ((b : Int) % ((k : Int) + 1)) = (m : Int) by rw [← hm]; rfl]
  clear hm
  obtain ⟨s1, hS1, hS2⟩ := pow2 hk2.2
  obtain ⟨S, hS⟩ : ∃ S, 2 ^ k = S := ⟨_, rfl⟩
  have HS := Li hS
  rw [hS] at s1 hS1 hS2
  clear hS
  have s2 : ¬ (S : Int) = 0 := by omega
  obtain ⟨x, hx⟩ : ∃ x : Nat, p0 % S = x := ⟨_, rfl⟩
  have hxS : x < 2 ^ k := by rw [HS.out, ← hx]; exact Nat.mod_lt _ hS1
  have hx2 : ((p0 : Int) % (S : Int)) = (x : Int) := by rw [← hx]; rfl
  have HX := Li hxS
  clear hx hxS
  obtain ⟨y, hy⟩ : ∃ y : Nat, p1 % S = y := ⟨_, rfl⟩
  have hyS : y < 2 ^ k := by rw [HS.out, ← hy]; exact Nat.mod_lt _ hS1
  have hy2 : ((p1 : Int) % (S : Int)) = (y : Int) := by rw [← hy]; rfl
  have HY := Li hyS
  clear hy hyS
  obtain ⟨u, hu⟩ : ∃ u : Nat, p2 % S = u := ⟨_, rfl⟩
  have huS : u < 2 ^ k := by rw [HS.out, ← hu]; exact Nat.mod_lt _ hS1
  have hu2 : ((p2 : Int) % (S : Int)) = (u : Int) := by rw [← hu]; rfl
  have HU' := Li huS
  clear hu huS
  obtain ⟨v, hv⟩ : ∃ v : Nat, p3 % S = v := ⟨_, rfl⟩
  have hvS : v < 2 ^ k := by rw [HS.out, ← hv]; exact Nat.mod_lt _ hS1
  have hv2 : ((p3 : Int) % (S : Int)) = (v : Int) := by rw [← hv]; rfl
  have HV := Li hvS
  clear hv hvS
  obtain ⟨c0, c1, c2, c3⟩ := X0.out.c4
  have z1 := X0.out.lt
  go_quiet (fail)
  have X1 := Li (X0.out.drewN nq)
  have B1 := Li (below_drewN B0.out nq)
  clear c0 c1 c2 c3 z1 X0 B0
  go_upto_region 5 with fail
  generalize w1.drewN nq = W2 at *
  obtain ⟨c0, c1, c2, c3⟩ := X1.out.c4
  have z1 := X1.out.lt
  go_quiet (fail)
  have X2 := Li (X1.out.drewN nq)
  have B2 := Li (below_drewN B1.out nq)
  clear c0 c1 c2 c3 z1 X1 B1
  go_upto_region 6 with fail
  generalize W2.drewN nq = W3 at *
  obtain ⟨c0, c1, c2, c3⟩ := X2.out.c4
  have z1 := X2.out.lt
  go_quiet (fail)
  have X3 := Li (X2.out.drewN nq)
  have B3 := Li (below_drewN B2.out nq)
  clear c0 c1 c2 c3 z1 X2 B2
  go_upto_region 7 with fail
  generalize W3.drewN nq = W4 at *
  obtain ⟨c0, c1, c2, c3⟩ := X3.out.c4
  have z1 := X3.out.lt
  go_quiet (fail)
  have X4 := Li (X3.out.drewN nq)
  have B4 := Li (below_drewN B3.out nq)
  clear c0 c1 c2 c3 z1 X3 B3
  go_upto_region 8 with fail
  generalize W4.drewN nq = W5 at *
  rw [hx2, hy2, hu2, hv2]
  clear hx2 hy2 hu2 hv2
  obtain ⟨A, hA⟩ : ∃ A, Hb.hI k x y = A := ⟨_, rfl⟩
  obtain ⟨D, hD⟩ : ∃ D, Hb.hI k u v = D := ⟨_, rfl⟩
  have HA := Li hA
  have HD := Li hD
  clear hA hD
  go_upto_region 10 with (first
    | (have tok := B4; go_at_call 11; refine (ix_at k x y _ _ _ rfl rfl hk2 HX.out HY.out).mono ?_; rw [HA.out]; rintro e w6 ⟨rfl, hb⟩; have B6 := Li (below_step B4.out B4.out.size hb); clear hb tok B4)
    | (have tok := B6; go_at_call 11; refine (ix_at k u v _ _ _ rfl rfl hk2 HU'.out HV.out).mono ?_; rw [HD.out]; rintro e w7 ⟨rfl, hb⟩; have B7 := Li (below_step B6.out B6.out.size hb); clear hb tok B6))
  obtain ⟨t1, hT1, hT2⟩ := pow2 (k := m) (by omega)
  obtain ⟨T, hT⟩ : ∃ T, 2 ^ m = T := ⟨_, rfl⟩
  have HT := Li hT
  rw [hT] at t1 hT1 hT2
  clear hT
  have t2 : ¬ (T : Int) = 0 := by omega
  go_upto_region 11 with fail
  obtain ⟨R, hR⟩ : ∃ R : Nat, b / 16 % T = R := ⟨_, rfl⟩
  have hRT : R < 2 ^ m := by rw [HT.out, ← hR]; exact Nat.mod_lt _ hT1
  have hmk2 : 2 ^ m ≤ 2 ^ k := Nat.pow_le_pow_right (by decide) hmk
  have hx16 : x < 65536 := by have := HX.out; rw [HS.out] at this; omega
  have hN := Nat.xor_lt_two_pow HX.out (Nat.lt_of_lt_of_le hRT hmk2)
  have hNd := near_div x R m hRT
  have hbx : bits BinOp.xor IntKind.u32 (x : Int) ((b : Int) / 16 % (T : Int)) = ((x ^^^ R : Nat) : Int) := by
    rw [show ((b : Int) / 16 % (T : Int)) = (R : Int) by rw [← hR]; rfl]
    exact xor32 x R hx16 (by rw [HT.out] at hRT; omega)
  rw [hbx]
  obtain ⟨N, hNN⟩ : ∃ N, x ^^^ R = N := ⟨_, rfl⟩
  rw [hNN] at hN hNd ⊢
  obtain ⟨C, hC⟩ : ∃ C, Hb.hI k N y = C := ⟨_, rfl⟩
  obtain ⟨j, hj⟩ : ∃ j, k = j + m := ⟨k - m, by omega⟩
  have dA : A / (2 ^ m * 2 ^ m) = Hb.hI j (x / 2 ^ m) (y / 2 ^ m) := by
    have := Hb.hI_div m j x y (by rw [← hj]; exact HX.out) (by rw [← hj]; exact HY.out)
    rw [← hj, HA.out] at this; exact this
  have dD : D / (2 ^ m * 2 ^ m) = Hb.hI j (u / 2 ^ m) (v / 2 ^ m) := by
    have := Hb.hI_div m j u v (by rw [← hj]; exact HU'.out) (by rw [← hj]; exact HV.out)
    rw [← hj, HD.out] at this; exact this
  have dC : C / (2 ^ m * 2 ^ m) = Hb.hI j (x / 2 ^ m) (y / 2 ^ m) := by
    have := Hb.hI_div m j N y (by rw [← hj]; exact hN) (by rw [← hj]; exact HY.out)
    rw [← hj, hC, hNd] at this; exact this
  have lt : ∀ z, z < 2 ^ k → z / 2 ^ m < 2 ^ j := fun z hz => by
    rw [Nat.div_lt_iff_lt_mul (Nat.two_pow_pos m), ← Nat.pow_add, ← hj]; exact hz
  have inj : A / (2 ^ m * 2 ^ m) = D / (2 ^ m * 2 ^ m) → x / 2 ^ m = u / 2 ^ m ∧ y / 2 ^ m = v / 2 ^ m := fun h => by
    rw [dA, dD] at h
    exact Hb.hI_inj (lt x HX.out) (lt y HY.out) (lt u HU'.out) (lt v HV.out) h
  have hHN := Li hN
  have HC := Li hC
  have hCA : C / (2 ^ m * 2 ^ m) = A / (2 ^ m * 2 ^ m) := by rw [dA, dC]
  have hAD : x / 2 ^ m = u / 2 ^ m → y / 2 ^ m = v / 2 ^ m → A / (2 ^ m * 2 ^ m) = D / (2 ^ m * 2 ^ m) := fun h1 h2 => by rw [dA, dD, h1, h2]
  clear hRT hmk2 hx16 hbx hNN hN hNd hC hj dA dD dC lt t1 t2 s1 s2 hR
  go_upto_region 12 with (go_at_call 11; refine (ix_at k N y _ _ _ rfl rfl hk2 hHN.out HY.out).mono ?_; rw [HC.out]; rintro e w8 ⟨rfl, hb⟩; have B8 := Li (below_step B7.out B7.out.size hb); clear hb B7)
  have r2 : (2 : Int) ^ (2 * m) = ((2 ^ m * 2 ^ m : Nat) : Int) := by
    rw [Nat.two_mul, Int.pow_add]; push_cast; rfl
  have r1 : (2 : Int) ^ m = ((2 ^ m : Nat) : Int) := by push_cast; rfl
  have x1 : (x : Int) / 2 ^ m = ((x / 2 ^ m : Nat) : Int) := by rw [r1]; rfl
  have y1 : (y : Int) / 2 ^ m = ((y / 2 ^ m : Nat) : Int) := by rw [r1]; rfl
  have u1 : (u : Int) / 2 ^ m = ((u / 2 ^ m : Nat) : Int) := by rw [r1]; rfl
  have v1 : (v : Int) / 2 ^ m = ((v / 2 ^ m : Nat) : Int) := by rw [r1]; rfl
  have a1 : (A : Int) / 2 ^ (2 * m) = ((A / (2 ^ m * 2 ^ m) : Nat) : Int) := by rw [r2]; rfl
  have d1 : (D : Int) / 2 ^ (2 * m) = ((D / (2 ^ m * 2 ^ m) : Nat) : Int) := by rw [r2]; rfl
  have c1 : (C : Int) / 2 ^ (2 * m) = ((A / (2 ^ m * 2 ^ m) : Nat) : Int) := by rw [r2, ← hCA]; rfl
  obtain ⟨xx, hxx⟩ : ∃ xx, x / 2 ^ m = xx := ⟨_, rfl⟩
  obtain ⟨yy, hyy⟩ : ∃ yy, y / 2 ^ m = yy := ⟨_, rfl⟩
  obtain ⟨uu, huu⟩ : ∃ uu, u / 2 ^ m = uu := ⟨_, rfl⟩
  obtain ⟨vv, hvv⟩ : ∃ vv, v / 2 ^ m = vv := ⟨_, rfl⟩
  obtain ⟨AA, hAA⟩ : ∃ AA, A / (2 ^ m * 2 ^ m) = AA := ⟨_, rfl⟩
  obtain ⟨DD, hDD⟩ : ∃ DD, D / (2 ^ m * 2 ^ m) = DD := ⟨_, rfl⟩
  rw [hxx] at x1 inj hAD
  rw [hyy] at y1 inj hAD
  rw [huu] at u1 inj hAD
  rw [hvv] at v1 inj hAD
  rw [hAA] at a1 c1 inj hAD
  rw [hDD] at d1 inj hAD
  clear r1 r2 hxx hyy huu hvv hAA hDD hCA
  by_cases hX : xx = uu
  · by_cases hY : yy = vv
    · have hE := hAD hX hY
      subst hX hY hE
      clear inj hAD
      go_quiet (fail)
      go_wp2_with fail
      go_ret
      exact ⟨by simp, below_drewN B8.out _⟩
    · have hE : ((AA : Int) == (DD : Int)) = false := beq_false_of_ne (fun h => hY (inj (by omega)).2)
      have hYY : ((yy : Int) == (vv : Int)) = false := beq_false_of_ne (by omega)
      subst hX
      clear inj hAD
      go_quiet (fail)
      go_wp2_with fail
      go_ret
      exact ⟨by simp, below_drewN B8.out _⟩
  · have hE : ((AA : Int) == (DD : Int)) = false := beq_false_of_ne (fun h => hX (inj (by omega)).1)
    have hXX : ((xx : Int) == (uu : Int)) = false := beq_false_of_ne (by omega)
    clear inj hAD
    go_quiet (fail)
    go_wp2_with fail
    go_ret
    exact ⟨by simp, below_drewN B8.out _⟩
end keeps
end Go.Proofs.Ytlndpclgljfloaa
