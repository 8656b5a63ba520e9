/-
  The program's Scale and the reference's: by contracts.
-/
import Derived.Test.YtlndpclgljfloaaDiv
import Derived.Test.YtlndpclgljfloaaHi4
namespace Go.Proofs.Ytlndpclgljfloaa
open Go.RowKit

/-- the scaled number: a of m + 1 numbers on 2 ^ k coordinates -/
def scN (a m k : Nat) : Nat := a * 2 ^ k / (m + 1)
/-- what Scale answers -/
def scV (v lo hi K : Int) : Nat :=
  if isOB K = false ∨ hi < lo ∨ v < lo then 0 else if hi < v then 2 ^ K.toNat - 1 else scN (v - lo).toNat (hi - lo).toNat K.toNat
theorem scN_le {a m k : Nat} (h : a ≤ m) : scN a m k ≤ 2 ^ k - 1 := by
  have hp := Nat.two_pow_pos k
  have : scN a m k < 2 ^ k := by
    unfold scN
    rw [Nat.div_lt_iff_lt_mul (by omega), Nat.mul_comm (2 ^ k)]
    exact Nat.mul_lt_mul_of_pos_right (by omega) hp
  omega
def I64 (v : Int) : Prop := -9223372036854775808 ≤ v ∧ v ≤ 9223372036854775807
theorem sub_u64 {v lo : Int} {a : Nat} (hv : I64 v) (hl : I64 lo) (h : v - lo = (a : Int)) : IntKind.u64.wrap (IntKind.u64.wrap v - IntKind.u64.wrap lo) = (a : Int) := by
  obtain ⟨v1, v2⟩ := hv
  obtain ⟨l1, l2⟩ := hl
  rw [IntKind.wrap_u64, IntKind.wrap_u64, IntKind.wrap_u64]
  omega
theorem p32 {k : Nat} (h : k ≤ 16) : 2 ^ k ≤ 65536 ∧ 0 < 2 ^ k := ⟨Nat.pow_le_pow_right (n := 2) (by decide) h, Nat.two_pow_pos k⟩
theorem pow_u64 {k : Nat} (h : k ≤ 16) : IntKind.u64.wrap (2 ^ k) = ((2 ^ k : Nat) : Int) := by
  have := (p32 h).1
  have e : (2 : Int) ^ k = ((2 ^ k : Nat) : Int) := by push_cast; rfl
  rw [e, IntKind.wrap_u64]
  generalize 2 ^ k = t at this ⊢
  omega
set_option maxHeartbeats 4000000 in
set_option maxRecDepth 20000 in
theorem Scale_ok (k a m : Nat) (v lo hi : Int) (w : World) (hk : 1 ≤ k ∧ k ≤ 16) (hv : I64 v) (hl : I64 lo) (hh : I64 hi) (h1 : v - lo = (a : Int)) (h2 : hi - lo = (m : Int)) (h3 : a ≤ m) :
    Calls Try.prog 15 #[.int .i64 v, .int .i64 lo, .int .i64 hi, .int .i64 k] w fun e w' => e = .returned (.int .u32 (scN a m k : Nat)) ∧ Below w.heap.size w w' := by
  have J0 := Li (show isOB (k : Int) = true from decide_eq_true (by omega))
  have e1 := sub_u64 hv hl h1
  have e2 := sub_u64 hh hl h2
  obtain ⟨T, hT⟩ : ∃ T, T = 2 ^ k := ⟨_, rfl⟩
  have e3 : IntKind.u64.wrap (2 ^ k) = (T : Int) := by rw [hT]; exact pow_u64 hk.2
  have hT16 : T ≤ 65536 := by rw [hT]; exact (p32 hk.2).1
  have i1 : ¬ hi < lo := by omega
  have i2 : ¬ v < lo := by omega
  have i3 : ¬ hi < v := by omega
  have hm : m < 18446744073709551616 := by obtain ⟨_, _⟩ := hh; obtain ⟨_, _⟩ := hl; omega
  have ha : a < 18446744073709551616 := by omega
  have HM := Li (Try.bits_Mul64 a T (by omega) (by omega) w)
  have hle : a * T ≤ m * 65536 := Nat.mul_le_mul h3 hT16
  have hres : scN a m k = a * T / (m + 1) := by rw [hT]; rfl
  have hrl : a * T / (m + 1) ≤ 65535 := by
    have := scN_le (k := k) h3
    rw [hres, ← hT] at this
    omega
  have hH : a * T / 18446744073709551616 < m + 1 := by
    rw [Nat.div_lt_iff_lt_mul (by decide)]
    have : a * T ≤ m * 18446744073709551616 := Nat.mul_le_mul h3 (by omega)
    omega
  have hLl : a * T % 18446744073709551616 < 18446744073709551616 := Nat.mod_lt _ (by decide)
  have hsum : a * T / 18446744073709551616 * 2 ^ 64 + a * T % 18446744073709551616 = a * T := by rw [Nat.mul_comm]; exact Nat.div_add_mod _ _
  rw [hres]
  generalize a * T = P at *
  obtain ⟨H, hH0⟩ : ∃ H, P / 18446744073709551616 = H := ⟨_, rfl⟩
  obtain ⟨L, hL0⟩ : ∃ L, P % 18446744073709551616 = L := ⟨_, rfl⟩
  rw [hH0] at hH hsum HM
  rw [hL0] at hLl hsum HM
  have HE1 := Li e1
  have HE2 := Li e2
  by_cases hc : m + 1 = 18446744073709551616
  · have hq : P / (m + 1) = H := by rw [hc, hH0]
    rw [hq] at hrl ⊢
    have e4 : IntKind.u64.wrap ((m : Int) + 1) = 0 := by rw [IntKind.wrap_u64]; omega
    have e5 : IntKind.u32.wrap (H : Int) = H := by rw [IntKind.wrap_u32]; omega
    have e6 : (m : Int) = 18446744073709551615 := by omega
    clear hT hres hsum hH0 hL0 hle hv hl hh h1 h2 hc hq hH hLl hm ha
    go_enter Try.func15, Try.ntmps15
    go_wp2_with (first
      | (go_at_call 26; refine (isOrder_any _ _).mono ?_; rintro e w1 ⟨rfl, hw1⟩; subst w1; rw [J0.out])
      | (go_at_call 31; refine HM.out.mono ?_; rintro e w1 ⟨rfl, hw1⟩; subst w1))
    go_ret
    exact ⟨rfl, Below.refl _ _⟩
  · have e4 : IntKind.u64.wrap ((m : Int) + 1) = ((m + 1 : Nat) : Int) := by rw [IntKind.wrap_u64]; omega
    have e7 : (((m + 1 : Nat) : Int) == 0) = false := beq_false_of_ne (by omega)
    have HD := Li (Div64_any H L (m + 1) w hH hLl (by omega))
    rw [hsum] at HD
    obtain ⟨R, hR⟩ : ∃ R, P / (m + 1) = R := ⟨_, rfl⟩
    rw [hR] at HD hrl ⊢
    have e5 : IntKind.u32.wrap (R : Int) = R := by rw [IntKind.wrap_u32]; omega
    obtain ⟨c, hcd⟩ : ∃ c, m + 1 = c := ⟨_, rfl⟩
    rw [hcd] at e4 e7 HD
    clear hT hres hsum hH0 hL0 hle hv hl hh h1 h2 hc hH hLl hm ha hcd hR h3
    go_enter Try.func15, Try.ntmps15
    go_wp2_with (first
      | (go_at_call 26; refine (isOrder_any _ _).mono ?_; rintro e w1 ⟨rfl, hw1⟩; subst w1; rw [J0.out])
      | (go_at_call 31; refine HM.out.mono ?_; rintro e w1 ⟨rfl, hw1⟩; subst w1)
      | (go_at_call 32; refine HD.out.mono ?_; rintro e w1 ⟨⟨r, rfl⟩, hb⟩; have HB := Li hb; clear hb))
    go_ret
    exact ⟨rfl, HB.out⟩
theorem scV_zero {v lo hi K : Int} (h : isOB K = false ∨ hi < lo ∨ v < lo) : scV v lo hi K = 0 := if_pos h
theorem scV_top {v lo hi : Int} {k : Nat} (h : ¬ (isOB (k : Int) = false ∨ hi < lo ∨ v < lo)) (h2 : hi < v) : scV v lo hi k = 2 ^ k - 1 := by
  unfold scV
  rw [if_neg h, if_pos h2, Int.toNat_natCast]
theorem scV_in {v lo hi : Int} {k a m : Nat} (h : ¬ (isOB (k : Int) = false ∨ hi < lo ∨ v < lo)) (h2 : ¬ hi < v) (h3 : v - lo = (a : Int)) (h4 : hi - lo = (m : Int)) : scV v lo hi k = scN a m k := by
  unfold scV
  rw [if_neg h, if_neg h2, Int.toNat_natCast, h3, h4]
  rfl
set_option maxHeartbeats 4000000 in
set_option maxRecDepth 20000 in
theorem Scale_any (v lo hi K : Int) (w : World) (hv : I64 v) (hl : I64 lo) (hh : I64 hi) :
    Calls Try.prog 15 #[.int .i64 v, .int .i64 lo, .int .i64 hi, .int .i64 K] w fun e w' => e = .returned (.int .u32 (scV v lo hi K : Nat)) ∧ Below w.heap.size w w' := by
  cases h0 : isOB K with
  | false =>
    rw [scV_zero (.inl h0)]
    have J0 := Li h0
    clear h0
    go_enter Try.func15, Try.ntmps15
    go_wp2_with (go_at_call 26; refine (isOrder_any _ _).mono ?_; rintro e w1 ⟨rfl, hw1⟩; subst w1; rw [J0.out])
    go_ret
    exact ⟨rfl, Below.refl _ _⟩
  | true =>
    obtain ⟨k, rfl, k1, k2⟩ := ob_nat h0
    have J0 := Li h0
    by_cases h1 : hi < lo
    · rw [scV_zero (.inr (.inl h1))]
      clear h0
      go_enter Try.func15, Try.ntmps15
      go_wp2_with (go_at_call 26; refine (isOrder_any _ _).mono ?_; rintro e w1 ⟨rfl, hw1⟩; subst w1; rw [J0.out])
      go_ret
      exact ⟨rfl, Below.refl _ _⟩
    · by_cases h2 : v < lo
      · rw [scV_zero (.inr (.inr h2))]
        clear h0
        go_enter Try.func15, Try.ntmps15
        go_wp2_with (go_at_call 26; refine (isOrder_any _ _).mono ?_; rintro e w1 ⟨rfl, hw1⟩; subst w1; rw [J0.out])
        go_ret
        exact ⟨rfl, Below.refl _ _⟩
      · have hn : ¬ (isOB (k : Int) = false ∨ hi < lo ∨ v < lo) := by
          rintro (h | h | h)
          · rw [h0] at h; cases h
          · exact h1 h
          · exact h2 h
        by_cases h3 : hi < v
        · rw [scV_top hn h3]
          have hb := p32 k2
          obtain ⟨T, hT⟩ : ∃ T, 2 ^ k = T := ⟨_, rfl⟩
          have hpm : (2 : Int) ^ k % 4294967296 = (T : Int) := by rw [← hT]; exact pow_mod (by omega)
          rw [hT] at hb ⊢
          have e1 := Li (show (T : Int) - 1 = ((T - 1 : Nat) : Int) by omega)
          clear h0 hT hn
          go_enter Try.func15, Try.ntmps15
          go_wp2_with (go_at_call 26; refine (isOrder_any _ _).mono ?_; rintro e w1 ⟨rfl, hw1⟩; subst w1; rw [J0.out])
          go_ret
          exact ⟨by rw [← e1.out]; rfl, Below.refl _ _⟩
        · have e1 : v - lo = (((v - lo).toNat : Nat) : Int) := by omega
          have e2 : hi - lo = (((hi - lo).toNat : Nat) : Int) := by omega
          rw [scV_in hn h3 e1 e2]
          exact Scale_ok k _ _ v lo hi w ⟨k1, k2⟩ hv hl hh e1 e2 (by omega)
theorem sc_step {a m j rest : Nat} (h : rest = a * 2 ^ j % (m + 1)) :
    (m < 2 * rest → 2 * (a * 2 ^ j / (m + 1)) + 1 = a * 2 ^ (j + 1) / (m + 1) ∧ 2 * rest - m - 1 = a * 2 ^ (j + 1) % (m + 1)) ∧
    (¬ m < 2 * rest → 2 * (a * 2 ^ j / (m + 1)) = a * 2 ^ (j + 1) / (m + 1) ∧ 2 * rest = a * 2 ^ (j + 1) % (m + 1)) := by
  have hm : 0 < m + 1 := by omega
  have e := Nat.div_add_mod (a * 2 ^ j) (m + 1)
  have hr := Nat.mod_lt (a * 2 ^ j) hm
  rw [← h] at e hr
  have e2 : a * 2 ^ (j + 1) = 2 * (a * 2 ^ j) := by rw [Nat.pow_succ, ← Nat.mul_assoc, Nat.mul_comm]
  generalize a * 2 ^ j = A at *
  generalize A / (m + 1) = Q at *
  rw [e2]
  constructor
  · intro hc
    have : 2 * A = (2 * rest - m - 1) + (m + 1) * (2 * Q + 1) := by
      rw [← e, Nat.mul_add (m + 1), Nat.mul_one, Nat.mul_add, Nat.mul_left_comm]
      omega
    rw [this]
    constructor
    · rw [Nat.add_mul_div_left _ _ hm, Nat.div_eq_of_lt (by omega), Nat.zero_add]
    · rw [Nat.add_mul_mod_self_left, Nat.mod_eq_of_lt (by omega)]
  · intro hc
    have : 2 * A = 2 * rest + (m + 1) * (2 * Q) := by
      rw [← e, Nat.mul_add, Nat.mul_left_comm]
      omega
    rw [this]
    constructor
    · rw [Nat.add_mul_div_left _ _ hm, Nat.div_eq_of_lt (by omega), Nat.zero_add]
    · rw [Nat.add_mul_mod_self_left, Nat.mod_eq_of_lt (by omega)]
end Go.Proofs.Ytlndpclgljfloaa
