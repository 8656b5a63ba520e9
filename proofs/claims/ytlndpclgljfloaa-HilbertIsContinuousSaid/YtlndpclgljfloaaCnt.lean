/-
  HilbertIsContinuous, walked.
-/
import Derived.Test.YtlndpclgljfloaaLwH
namespace Go.Proofs.Ytlndpclgljfloaa
open Go.RowKit
namespace cont
set_option maxHeartbeats 4000000 in
set_option maxRecDepth 20000 in
theorem walk (a i : Nat) (w : World) (ha : a < 256) (hi : i < 18446744073709551616) :
    Calls Try.prog 5 #[.int .u8 a, .int .u64 i] w fun e w' => e = .returned (.bool true) ∧ Below w.heap.size w w' := by
  go_enter Try.func5, Try.ntmps5
  go_upto_region 3 with (go_at_call 10; refine (sanity_any _).mono ?_; rintro e w1 ⟨rfl, hb⟩; have B1 := Li hb; clear hb)
  obtain ⟨k, hk⟩ : ∃ k : Nat, 1 + a % 16 = k := ⟨_, rfl⟩
  have e1 : (1 : Int) + (a : Int) % 16 = (k : Int) := by omega
  rw [e1]
  have hk2 : 1 ≤ k ∧ k ≤ 16 := by omega
  obtain ⟨m1, hM1, hM2⟩ := pow4 hk2.2
  obtain ⟨M, hM⟩ : ∃ M, 2 ^ k * 2 ^ k = M := ⟨_, rfl⟩
  have hM3 : 4 ≤ M := by
    have h1 : 2 ^ 1 ≤ 2 ^ k := Nat.pow_le_pow_right (by decide) hk2.1
    rw [← hM]
    exact Nat.mul_le_mul h1 h1
  have HM := Li hM
  rw [hM] at m1 hM1 hM2
  clear hM hk e1
  have m2 : IntKind.u64.wrap ((M : Int) - 1) = ((M - 1 : Nat) : Int) := by rw [IntKind.wrap_u64]; omega
  have m3 : ¬ ((M - 1 : Nat) : Int) = 0 := by omega
  go_upto_region 4 with fail
  obtain ⟨j, hj⟩ : ∃ j : Nat, i % (M - 1) = j := ⟨_, rfl⟩
  rw [show ((i : Int) % ((M - 1 : Nat) : Int)) = (j : Int) by rw [← hj]; rfl]
  have hjM : j < M - 1 := by rw [← hj]; exact Nat.mod_lt _ (by omega)
  clear hj
  have hadj := Hb.hP_adj k j (by rw [HM.out]; omega)
  obtain ⟨⟨x, y⟩, hp⟩ : ∃ p, Hb.hP k j = p := ⟨_, rfl⟩
  obtain ⟨⟨u, v⟩, hq⟩ : ∃ p, Hb.hP k (j + 1) = p := ⟨_, rfl⟩
  have hpl := Hb.hP_lt k j (by rw [HM.out]; omega)
  have hql := Hb.hP_lt k (j + 1) (by rw [HM.out]; omega)
  have hp2 := (pow2 hk2.2).2.2
  rw [hp] at hadj hpl
  rw [hq] at hadj hql
  unfold Hb.adj at hadj
  simp only at hadj hpl hql
  have b1 : x < 65536 ∧ y < 65536 ∧ u < 65536 ∧ v < 65536 := by omega
  have HP := Li hp
  have HQ := Li hq
  clear hp hq hpl hql hp2 m1 m2 m3
  obtain ⟨b1, b2, b3, b4⟩ := b1
  go_upto_region 6 with (first
    | (have tok := B1; go_at_call 13; refine (pt_at k j _ x y _ rfl hk2 (by rw [HM.out]; omega) HP.out).mono ?_; rintro e w2 ⟨rfl, hb⟩; have B2 := Li (below_step B1.out B1.out.size hb); clear hb tok B1)
    | (go_at_call 13; refine (pt_at k (j + 1) _ u v _ (by omega) hk2 (by rw [HM.out]; omega) HQ.out).mono ?_; rintro e w3 ⟨rfl, hb⟩; have B3 := Li (below_step B2.out B2.out.size hb); clear hb B2))
  rcases hadj with ⟨rfl, h | h⟩ | ⟨rfl, h | h⟩
  · have c1 : ((y : Int) + 1 == (v : Int)) = true := by simp; omega
    go_wp2_with fail
    go_ret
    exact ⟨rfl, B3.out⟩
  · have c1 : ((y : Int) + 1 == (v : Int)) = false := beq_false_of_ne (by omega)
    have c2 : ((v : Int) + 1 == (y : Int)) = true := by simp; omega
    go_wp2_with fail
    go_ret
    exact ⟨rfl, B3.out⟩
  · have c0 : ((x : Int) == (u : Int)) = false := beq_false_of_ne (by omega)
    have c1 : ((x : Int) + 1 == (u : Int)) = true := by simp; omega
    go_wp2_with fail
    go_ret
    exact ⟨rfl, B3.out⟩
  · have c0 : ((x : Int) == (u : Int)) = false := beq_false_of_ne (by omega)
    have c1 : ((x : Int) + 1 == (u : Int)) = false := beq_false_of_ne (by omega)
    have c2 : ((u : Int) + 1 == (x : Int)) = true := by simp; omega
    go_wp2_with fail
    go_ret
    exact ⟨rfl, B3.out⟩
end cont
end Go.Proofs.Ytlndpclgljfloaa
