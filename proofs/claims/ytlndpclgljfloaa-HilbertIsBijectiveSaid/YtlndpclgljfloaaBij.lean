/-
  HilbertIsBijective, walked.
-/
import Derived.Test.YtlndpclgljfloaaLwH
namespace Go.Proofs.Ytlndpclgljfloaa
open Go.RowKit
namespace biject
set_option maxHeartbeats 4000000 in
set_option maxRecDepth 20000 in
theorem walk (a p q i : Nat) (w : World) (ha : a < 256) (hpp : p < 4294967296) (hqq : q < 4294967296) (hi : i < 18446744073709551616) :
    Calls Try.prog 4 #[.int .u8 a, .agg #[.int .u32 p, .int .u32 q], .int .u64 i] w fun e w' => e = .returned (.bool true) ∧ Below w.heap.size w w' := by
  go_enter Try.func4, Try.ntmps4
  go_upto_region 3 with (go_at_call 10; refine (sanity_any _).mono ?_; rintro e w1 ⟨rfl, hb⟩; have X1 := Li ((CB.new w 23 [.int .u32 p, .int .u32 q]).up hb); have B1 := Li (below_step (al1 w _) (al1 w _).size hb); clear hb)
  obtain ⟨k, hk⟩ : ∃ k : Nat, 1 + a % 16 = k := ⟨_, rfl⟩
  have e1 : (1 : Int) + (a : Int) % 16 = (k : Int) := by omega
  rw [e1]
  have hk2 : 1 ≤ k ∧ k ≤ 16 := by omega
  clear e1 hk
  obtain ⟨s1, hS1, hS2⟩ := pow2 hk2.2
  obtain ⟨m1, hM1, hM2⟩ := pow4 hk2.2
  obtain ⟨S, hS⟩ : ∃ S, 2 ^ k = S := ⟨_, rfl⟩
  obtain ⟨M, hM⟩ : ∃ M, 2 ^ k * 2 ^ k = M := ⟨_, rfl⟩
  have HS := Li hS
  have HM := Li hM
  rw [hS] at s1 hS1 hS2
  rw [hM] at m1 hM1 hM2
  clear hS hM
  have s2 : ¬ (S : Int) = 0 := by omega
  have m2 : ¬ (M : Int) = 0 := by omega
  obtain ⟨c0, c1⟩ := X1.out.c2
  have z1 := X1.out.lt
  go_quiet (fail)
  have X2 := Li (X1.out.drewN nq)
  have B2 := Li (below_drewN B1.out nq)
  go_upto_region 4 with fail
  obtain ⟨x, hx⟩ : ∃ x : Nat, p % S = x := ⟨_, rfl⟩
  obtain ⟨y, hy⟩ : ∃ y : Nat, q % S = y := ⟨_, rfl⟩
  have hxS : x < 2 ^ k := by rw [HS.out, ← hx]; exact Nat.mod_lt _ hS1
  have hyS : y < 2 ^ k := by rw [HS.out, ← hy]; exact Nat.mod_lt _ hS1
  have HXS := Li hxS
  have HYS := Li hyS
  rw [show ((p : Int) % (S : Int)) = (x : Int) by rw [← hx]; rfl]
  have hy2 : ((q : Int) % (S : Int)) = (y : Int) := by rw [← hy]; rfl
  clear c0 c1 z1 hx hy hxS hyS
  obtain ⟨c0, c1⟩ := X2.out.c2
  have z1 := X2.out.lt
  clear X1 B1
  generalize w1.drewN nq = W2 at *
  go_quiet (fail)
  have B3 := Li (below_drewN B2.out nq)
  clear X2 B2 c0 c1 z1
  go_upto_region 5 with fail
  rw [hy2]
  generalize W2.drewN _ = W3 at *
  obtain ⟨n, hn⟩ : ∃ n, Hb.hI k x y = n := ⟨_, rfl⟩
  have hnl := Hb.hI_lt k x y HXS.out HYS.out
  have hpn := Hb.hP_hI k x y HXS.out HYS.out
  rw [hn] at hnl hpn
  have HN := Li hn
  have HNL := Li hnl
  have HPN := Li hpn
  clear hn hnl hpn s1 s2 hy2
  go_upto_region 7 with (first
    | (go_at_call 11; refine (ix_at k x y _ _ _ rfl rfl hk2 HXS.out HYS.out).mono ?_; rw [HN.out]; rintro e w4 ⟨rfl, hb⟩; have B4 := Li (below_step B3.out B3.out.size hb); clear hb B3)
    | (go_at_call 13; refine (pt_at k n _ x y _ rfl hk2 HNL.out HPN.out).mono ?_; rintro e w5 ⟨rfl, hb⟩; have B5 := Li (below_step B4.out B4.out.size hb); clear hb B4))
  go_upto_region 8 with fail
  obtain ⟨j, hj⟩ : ∃ j : Nat, i % M = j := ⟨_, rfl⟩
  rw [show ((i : Int) % (M : Int)) = (j : Int) by rw [← hj]; rfl]
  have hjM : j < 2 ^ k * 2 ^ k := by rw [HM.out, ← hj]; exact Nat.mod_lt _ hM1
  obtain ⟨⟨u, v⟩, hp⟩ : ∃ p, Hb.hP k j = p := ⟨_, rfl⟩
  have hpl := Hb.hP_lt k j hjM
  have hij := Hb.hI_hP k j hjM
  rw [hp] at hpl hij
  have HP := Li hp
  have HPL := Li hpl
  have HIJ := Li hij
  have HJM := Li hjM
  clear hp hpl hij hjM hj m1 m2
  go_wp2_with (first
    | (go_at_call 13; refine (pt_at k j _ u v _ rfl hk2 HJM.out HP.out).mono ?_; rintro e w6 ⟨rfl, hb⟩; have B6 := Li (below_step B5.out B5.out.size hb); clear hb B5)
    | (go_at_call 11; refine (ix_at k u v _ _ _ rfl rfl hk2 HPL.out.1 HPL.out.2).mono ?_; rw [show Hb.hI k u v = j from HIJ.out]; rintro e w7 ⟨rfl, hb⟩; have B7 := Li (below_step B6.out B6.out.size hb); clear hb B6))
  go_ret
  exact ⟨rfl, B7.out⟩
end biject
end Go.Proofs.Ytlndpclgljfloaa
