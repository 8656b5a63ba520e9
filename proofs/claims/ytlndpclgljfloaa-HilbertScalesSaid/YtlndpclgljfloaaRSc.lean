/-
  The reference's Scale: by a contract.
-/
import Derived.Test.YtlndpclgljfloaaScl
namespace Go.Proofs.Ytlndpclgljfloaa
open Go.RowKit

theorem wr_sub {m r : Nat} (h : r ≤ m) (hm : m < 18446744073709551616) : IntKind.u64.wrap ((m : Int) - (r : Int)) = ((m - r : Nat) : Int) := by
  rw [IntKind.wrap_u64]; omega
set_option maxHeartbeats 4000000 in
set_option maxRecDepth 20000 in
theorem RScale_ok (k a m : Nat) (v lo hi : Int) (w : World) (hk : 1 ≤ k ∧ k ≤ 16) (hv : I64 v) (hl : I64 lo) (hh : I64 hi) (h1 : v - lo = (a : Int)) (h2 : hi - lo = (m : Int)) (h3 : a ≤ m) :
    Calls Try.prog 16 #[.int .i64 v, .int .i64 lo, .int .i64 hi, .int .i64 k] w fun e w' => e = .returned (.int .u32 (scN a m k : Nat)) ∧ w' = w := by
  have e1 := sub_u64 hv hl h1
  have e2 := sub_u64 hh hl h2
  have i1 : ¬ hi < lo := by omega
  have i2 : ¬ v < lo := by omega
  have i3 : ¬ hi < v := by omega
  have i4 : ¬ (k : Int) < 1 := by omega
  have i5 : ¬ 16 < (k : Int) := by omega
  have hm : m < 18446744073709551616 := by obtain ⟨_, _⟩ := hh; obtain ⟨_, _⟩ := hl; omega
  have hmI : (m : Int) < 18446744073709551616 := by omega
  have HM := Li hm
  have H3 := Li h3
  clear hv hl hh h1 h2 hm h3
  go_enter Try.func16, Try.ntmps16
  go_wp2_with fail
  go_loop [10, 11, 12] (fun s10 s11 s12 => ∃ j r o : Nat, j ≤ k ∧ s10 = .int .u64 r ∧ s11 = .int .u32 o ∧ s12 = .int .i64 j ∧ Hid (r = a * 2 ^ j % (m + 1)) ∧ Hid (o = a * 2 ^ j / (m + 1))) (fun _ _ s12 => k - (intOf s12).toNat)
  case atStart => exact ⟨0, a, 0, by omega, rfl, rfl, rfl, Li (by rw [Nat.pow_zero, Nat.mul_one, Nat.mod_eq_of_lt (by have := H3.out; omega)]), Li (by rw [Nat.pow_zero, Nat.mul_one, Nat.div_eq_of_lt (by have := H3.out; omega)])⟩
  case round =>
    obtain ⟨j, r, o, hj, rfl, rfl, rfl, HR, HO⟩ := hrel
    by_cases hjk : (j : Int) < (k : Int)
    · have hr : r ≤ m := by rw [HR.out]; exact Nat.le_of_lt_succ (Nat.mod_lt _ (by omega))
      have ho : o ≤ 65535 := by
        have h1 := scN_le (k := j) H3.out
        have h2 := (p32 (k := j) (by omega)).1
        rw [show scN a m j = o from HO.out.symm] at h1
        omega
      have es := wr_sub hr HM.out
      obtain ⟨d, hd⟩ : ∃ d, m - r = d := ⟨_, rfl⟩
      rw [hd] at es
      have hst := sc_step HR.out
      rw [← HO.out] at hst
      by_cases hc : (d : Int) < (r : Int)
      · obtain ⟨s1, s2⟩ := hst.1 (by omega)
        have S1 := Li s1
        have S2 := Li (s2.symm.trans (show 2 * r - m - 1 = r - d - 1 by omega)).symm
        have hdI : (d : Int) + (r : Int) = (m : Int) := by omega
        clear hst s1 s2 hd hr
        go_wp2
        go_round
        case rel => exact ⟨j + 1, r - d - 1, 2 * o + 1, by omega, by go_num, by go_num, by go_num, S2, S1⟩
        case measure => simp [intOf]; omega
      · obtain ⟨s1, s2⟩ := hst.2 (by omega)
        have S1 := Li s1
        have S2 := Li s2
        have hdI : (d : Int) + (r : Int) = (m : Int) := by omega
        clear hst s1 s2 hd hr
        go_wp2
        go_round
        case rel => exact ⟨j + 1, 2 * r, 2 * o, by omega, by go_num, by go_num, by go_num, S2, S1⟩
        case measure => simp [intOf]; omega
    · obtain rfl : j = k := by omega
      go_wp2
      go_ret
      exact ⟨by rw [HO.out]; rfl, rfl⟩
set_option maxHeartbeats 4000000 in
set_option maxRecDepth 20000 in
theorem RScale_any (v lo hi K : Int) (w : World) (hv : I64 v) (hl : I64 lo) (hh : I64 hi) :
    Calls Try.prog 16 #[.int .i64 v, .int .i64 lo, .int .i64 hi, .int .i64 K] w fun e w' => e = .returned (.int .u32 (scV v lo hi K : Nat)) ∧ w' = w := by
  by_cases hk1 : K < 1
  · rw [scV_zero (.inl (show isOB K = false from decide_eq_false (by omega)))]
    go_enter Try.func16, Try.ntmps16
    go_wp2_with fail
    go_ret
    exact ⟨rfl, rfl⟩
  · by_cases hk2 : 16 < K
    · rw [scV_zero (.inl (show isOB K = false from decide_eq_false (by omega)))]
      go_enter Try.func16, Try.ntmps16
      go_wp2_with fail
      go_ret
      exact ⟨rfl, rfl⟩
    · have h0 : isOB K = true := decide_eq_true (by omega)
      obtain ⟨k, rfl, k1, k2⟩ := ob_nat h0
      by_cases h1 : hi < lo
      · rw [scV_zero (.inr (.inl h1))]
        clear h0
        go_enter Try.func16, Try.ntmps16
        go_wp2_with fail
        go_ret
        exact ⟨rfl, rfl⟩
      · by_cases h2 : v < lo
        · rw [scV_zero (.inr (.inr h2))]
          clear h0
          go_enter Try.func16, Try.ntmps16
          go_wp2_with fail
          go_ret
          exact ⟨rfl, rfl⟩
        · have hn : ¬ (isOB (k : Int) = false ∨ hi < lo ∨ v < lo) := by
            rintro (h | h | h)
            · rw [h0] at h; cases h
            · exact h1 h
            · exact h2 h
          by_cases h3 : hi < v
          · rw [scV_top hn h3]
            have hb := p32 k2
            obtain ⟨T, hT⟩ : ∃ T, 2 ^ k = T := ⟨_, rfl⟩
            have hpm : (2 : Int) ^ k % 4294967296 = (T : Int) := by rw [← hT]; exact pow_mod (by omega)
            rw [hT] at hb ⊢
            have e1 := Li (show (T : Int) - 1 = ((T - 1 : Nat) : Int) by omega)
            clear h0 hT hn
            go_enter Try.func16, Try.ntmps16
            go_wp2_with fail
            go_ret
            exact ⟨by rw [← e1.out]; rfl, rfl⟩
          · have e1 : v - lo = (((v - lo).toNat : Nat) : Int) := by omega
            have e2 : hi - lo = (((hi - lo).toNat : Nat) : Int) := by omega
            rw [scV_in hn h3 e1 e2]
            exact RScale_ok k _ _ v lo hi w ⟨k1, k2⟩ hv hl hh e1 e2 (by omega)
end Go.Proofs.Ytlndpclgljfloaa
