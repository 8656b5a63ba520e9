/-
  HilbertMatchesReference, walked.
-/
import Derived.Test.YtlndpclgljfloaaLwH
namespace Go.Proofs.Ytlndpclgljfloaa
open Go.RowKit
namespace matches_
theorem order_of (z : Int) : ∃ k : Nat, wrap64 (1 + (wrap64 (z.tmod 16 + 16)).tmod 16) = (k : Int) ∧ 1 ≤ k ∧ k ≤ 16 := by
  have h1 := Int.tmod_lt_of_pos z (show (0 : Int) < 16 by decide)
  have h2 := Int.lt_tmod_of_pos z (show (0 : Int) < 16 by decide)
  have e1 : wrap64 (z.tmod 16 + 16) = z.tmod 16 + 16 := by unfold wrap64; omega
  rw [e1, Int.tmod_eq_emod_of_nonneg (by omega)]
  generalize z.tmod 16 = t at *
  refine ⟨(1 + (t + 16) % 16).toNat, ?_, by omega, by omega⟩
  unfold wrap64
  omega
set_option maxHeartbeats 4000000 in
set_option maxRecDepth 20000 in
theorem walk (z : Int) (p q i : Nat) (w : World) (_hz : I64 z) (hpp : p < 4294967296) (hqq : q < 4294967296) (hi : i < 18446744073709551616) :
    Calls Try.prog 3 #[.int .i64 z, .agg #[.int .u32 p, .int .u32 q], .int .u64 i] w fun e w' => e = .returned (.bool true) ∧ Below w.heap.size w w' := by
  go_enter Try.func3, Try.ntmps3
  go_upto_region 3 with (go_at_call 10; refine (sanity_any _).mono ?_; rintro e w1 ⟨rfl, hb⟩; have X1 := Li ((CB.new w 23 [.int .u32 p, .int .u32 q]).up hb); have B1 := Li (below_step (al1 w _) (al1 w _).size hb); clear hb)
  obtain ⟨k, e1, hk2⟩ := order_of z
  rw [e1]
  clear e1
  obtain ⟨s1, hS1, hS2⟩ := pow2 hk2.2
  obtain ⟨m1, hM1, hM2⟩ := pow4 hk2.2
  obtain ⟨S, hS⟩ : ∃ S, 2 ^ k = S := ⟨_, rfl⟩
  obtain ⟨M, hM⟩ : ∃ M, 2 ^ k * 2 ^ k = M := ⟨_, rfl⟩
  rw [hS] at s1 hS1 hS2
  rw [hM] at m1 hM1 hM2
  clear hS hM
  have s2 : ¬ (S : Int) = 0 := by omega
  have m2 : ¬ (M : Int) = 0 := by omega
  obtain ⟨c0, c1⟩ := X1.out.c2
  have z1 := X1.out.lt
  go_quiet (fail)
  have X2 := Li (X1.out.drewN nq)
  have B2 := Li (below_drewN B1.out nq)
  go_upto_region 4 with fail
  obtain ⟨x, hx⟩ : ∃ x : Nat, p % S = x := ⟨_, rfl⟩
  obtain ⟨y, hy⟩ : ∃ y : Nat, q % S = y := ⟨_, rfl⟩
  rw [show ((p : Int) % (S : Int)) = (x : Int) by rw [← hx]; rfl]
  have hy2 : ((q : Int) % (S : Int)) = (y : Int) := by rw [← hy]; rfl
  clear c0 c1 z1 hx hy
  obtain ⟨c0, c1⟩ := X2.out.c2
  have z1 := X2.out.lt
  clear X1 B1
  generalize w1.drewN nq = W2 at *
  go_quiet (fail)
  have B3 := Li (below_drewN B2.out nq)
  have X3 := Li (X2.out.drewN nq)
  clear X2 B2 c0 c1 z1
  go_upto_region 5 with fail
  rw [hy2]
  clear hy2 s1 s2
  generalize W2.drewN _ = W3 at *
  obtain ⟨j, hj⟩ : ∃ j : Nat, i % M = j := ⟨_, rfl⟩
  have hj2 : ((i : Int) % (M : Int)) = (j : Int) := by rw [← hj]; rfl
  clear hj
  go_wp2_with (first
    | (have tok := B3; go_at_call 11; refine (Index_any k x y _).mono ?_; rintro e w4 ⟨rfl, hb⟩; have B4 := Li (below_step B3.out B3.out.size hb); have X4 := Li (X3.out.up hb); clear hb tok B3 X3)
    | (have tok := B4; go_at_call 12; refine (RIndex_any k x y _).mono ?_; rintro e w5 ⟨rfl, hw⟩; subst w5; obtain ⟨c0, c1⟩ := X4.out.c2; have z1 := X4.out.lt; have B5 := B4; have X5 := X4; clear tok B4 X4)
    | (have tok := B5; go_at_call 11; refine (Index_any z p q _).mono ?_; rintro e w6 ⟨rfl, hb⟩; have B6 := Li (below_step B5.out B5.out.size hb); have X6 := Li (X5.out.up hb); clear hb tok c0 c1 z1 B5 X5; obtain ⟨c0, c1⟩ := X6.out.c2; have z1 := X6.out.lt)
    | (have tok := B6; go_at_call 12; refine (RIndex_any z p q _).mono ?_; rintro e w7 ⟨rfl, hw⟩; subst w7; have B7 := B6; clear tok c0 c1 z1 X6 B6)
    | (have tok := B7; go_at_call 13; refine (Point_any k j _).mono ?_; rintro e w8 ⟨rfl, hb⟩; have B8 := Li (below_step B7.out B7.out.size hb); clear hb tok B7)
    | (have tok := B8; go_at_call 14; refine (RPoint_any k j _).mono ?_; rintro e w9 ⟨rfl, hw⟩; subst w9; have B9 := B8; clear tok B8)
    | (have tok := B9; go_at_call 13; refine (Point_any z i _).mono ?_; rintro e w10 ⟨rfl, hb⟩; have B10 := Li (below_step B9.out B9.out.size hb); clear hb tok B9)
    | (have tok := B10; go_at_call 14; refine (RPoint_any z i _).mono ?_; rintro e w11 ⟨rfl, hw⟩; subst w11; have B11 := B10; clear tok B10))
  go_ret
  exact ⟨by simp, B11.out⟩
end matches_
end Go.Proofs.Ytlndpclgljfloaa
