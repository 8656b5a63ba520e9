/-
  The division of 128 bits by 64: on numbers. Plain theorems; no function of the dump.
-/
import Derived.WalkKit
namespace Go.Proofs.Ytlndpclgljfloaa
namespace Db
/-- one digit of Knuth's division: what the loop keeps -/
structure Kn (Y n1 n0 u v q r : Nat) : Prop where
  e : q * n1 + r = u
  hi : (u * 2 ^ 32 + v) / Y ≤ q
  q1 : q ≤ 2 ^ 32 + 1
theorem kn_start {Y n1 n0 u v : Nat} (hY : Y = n1 * 2 ^ 32 + n0) (h1 : 2 ^ 31 ≤ n1) (h2 : n1 < 2 ^ 32) (h0 : n0 < 2 ^ 32) (hu : u < Y) (hv : v < 2 ^ 32) :
    Kn Y n1 n0 u v (u / n1) (u - u / n1 * n1) := by
  have hn : 0 < n1 := by omega
  have e := Nat.div_add_mod u n1
  have m := Nat.mod_lt u hn
  rw [Nat.mul_comm] at e
  refine ⟨by omega, ?_, ?_⟩
  · rw [Nat.le_div_iff_mul_le hn]
    have hYp : 0 < Y := by omega
    have h := Nat.div_mul_le_self (u * 2 ^ 32 + v) Y
    generalize (u * 2 ^ 32 + v) / Y = t at *
    have : t * n1 * 2 ^ 32 ≤ t * Y := by rw [hY, Nat.mul_assoc]; exact Nat.mul_le_mul_left _ (by omega)
    omega
  · refine Nat.le_of_lt_succ ((Nat.div_lt_iff_lt_mul hn).2 ?_)
    have : (2 ^ 32 + 1).succ * n1 = n1 * 2 ^ 32 + 2 * n1 := by show (2 ^ 32 + 2) * n1 = _; rw [Nat.add_mul, Nat.mul_comm (2 ^ 32)]
    omega
theorem lt_b {Y u v : Nat} (hu : u < Y) (hv : v < 2 ^ 32) : (u * 2 ^ 32 + v) / Y < 2 ^ 32 := by
  rw [Nat.div_lt_iff_lt_mul (by omega)]
  have : (u + 1) * 2 ^ 32 ≤ Y * 2 ^ 32 := Nat.mul_le_mul_right _ hu
  rw [Nat.mul_comm (2 ^ 32) Y]
  omega
/-- the test fails: the digit is right -/
theorem kn_done {Y n1 n0 u v q r : Nat} (k : Kn Y n1 n0 u v q r) (hY : Y = n1 * 2 ^ 32 + n0) (hYp : 0 < Y) (h : q * n0 ≤ 2 ^ 32 * r + v) : q = (u * 2 ^ 32 + v) / Y := by
  refine Nat.le_antisymm ((Nat.le_div_iff_mul_le hYp).2 ?_) k.hi
  have e := k.e
  rw [hY, Nat.mul_add, ← Nat.mul_assoc, ← e, Nat.add_mul]
  omega
/-- the loop's break: the digit is right -/
theorem kn_break {Y n1 n0 u v q r : Nat} (k : Kn Y n1 n0 u v q r) (hY : Y = n1 * 2 ^ 32 + n0) (hYp : 0 < Y) (h0 : n0 < 2 ^ 32) (hq : q ≤ 2 ^ 32) (h : 2 ^ 32 ≤ r) : q = (u * 2 ^ 32 + v) / Y := by
  refine kn_done k hY hYp ?_
  have : q * n0 ≤ 2 ^ 32 * 2 ^ 32 := Nat.mul_le_mul hq (by omega)
  have : 2 ^ 32 * 2 ^ 32 ≤ 2 ^ 32 * r := Nat.mul_le_mul_left _ h
  omega
/-- the test holds: one less -/
theorem kn_next {Y n1 n0 u v q r : Nat} (k : Kn Y n1 n0 u v q r) (hY : Y = n1 * 2 ^ 32 + n0) (hu : u < Y) (hv : v < 2 ^ 32) (h : 2 ^ 32 ≤ q ∨ 2 ^ 32 * r + v < q * n0) : 0 < q ∧ Kn Y n1 n0 u v (q - 1) (r + n1) := by
  have hlt := lt_b hu hv
  have e := k.e
  have hle : (u * 2 ^ 32 + v) / Y < q := by
    rcases h with h | h
    · omega
    · rw [Nat.div_lt_iff_lt_mul (by omega)]
      have e2 : q * Y = q * n1 * 2 ^ 32 + q * n0 := by rw [hY, Nat.mul_add, Nat.mul_assoc]
      rw [e2, ← e, Nat.add_mul]
      omega
  have hq : 0 < q := Nat.lt_of_le_of_lt (Nat.zero_le _) hle
  refine ⟨hq, ?_, by omega, by have := k.q1; omega⟩
  rw [Nat.sub_mul, Nat.one_mul]
  have : n1 ≤ q * n1 := Nat.le_mul_of_pos_left _ hq
  omega
/-- both digits together -/
theorem two_digits {Y U v w : Nat} (hYp : 0 < Y) :
    (U * 2 ^ 32 + v) / Y * 2 ^ 32 + (((U * 2 ^ 32 + v) % Y) * 2 ^ 32 + w) / Y = (U * 2 ^ 64 + v * 2 ^ 32 + w) / Y := by
  have e := Nat.div_add_mod (U * 2 ^ 32 + v) Y
  have : U * 2 ^ 64 + v * 2 ^ 32 + w = Y * ((U * 2 ^ 32 + v) / Y * 2 ^ 32) + (((U * 2 ^ 32 + v) % Y) * 2 ^ 32 + w) := by
    rw [← Nat.mul_assoc]
    generalize Y * ((U * 2 ^ 32 + v) / Y) = A at *
    omega
  rw [this, Nat.mul_add_div hYp]
theorem norm_eq {hi lo s : Nat} (hs : s ≤ 63) :
    (hi * 2 ^ s + lo / 2 ^ (64 - s)) * 2 ^ 64 + lo * 2 ^ s % 2 ^ 64 = (hi * 2 ^ 64 + lo) * 2 ^ s := by
  have e : lo * 2 ^ s / 2 ^ 64 = lo / 2 ^ (64 - s) := by
    have : (2 : Nat) ^ 64 = 2 ^ (64 - s) * 2 ^ s := by rw [← Nat.pow_add]; congr 1; omega
    rw [this, Nat.mul_div_mul_right _ _ (Nat.two_pow_pos s)]
  have h := Nat.div_add_mod (lo * 2 ^ s) (2 ^ 64)
  rw [e] at h
  rw [Nat.add_mul, Nat.add_mul, Nat.mul_right_comm hi]
  generalize hi * 2 ^ 64 * 2 ^ s = A at *
  generalize lo * 2 ^ s = B at *
  omega
theorem norm_lt {hi lo y s : Nat} (hs : s ≤ 63) (hy : hi < y) (hlo : lo < 2 ^ 64) : hi * 2 ^ s + lo / 2 ^ (64 - s) < y * 2 ^ s := by
  have h := norm_eq (hi := hi) (lo := lo) hs
  have h1 : (hi * 2 ^ 64 + lo) * 2 ^ s < y * 2 ^ 64 * 2 ^ s := Nat.mul_lt_mul_of_pos_right (by
    have : (hi + 1) * 2 ^ 64 ≤ y * 2 ^ 64 := Nat.mul_le_mul_right _ hy
    omega) (Nat.two_pow_pos s)
  rw [Nat.mul_right_comm y] at h1
  generalize (hi * 2 ^ 64 + lo) * 2 ^ s = A at *
  generalize y * 2 ^ s = B at *
  generalize hi * 2 ^ s + lo / 2 ^ (64 - s) = C at *
  omega
theorem norm_or {hi lo s : Nat} (hs : s ≤ 63) (hlo : lo < 2 ^ 64) : (hi * 2 ^ s) ||| (lo / 2 ^ (64 - s)) = hi * 2 ^ s + lo / 2 ^ (64 - s) := by
  have : lo / 2 ^ (64 - s) < 2 ^ s := by
    rw [Nat.div_lt_iff_lt_mul (Nat.two_pow_pos _), ← Nat.pow_add, show s + (64 - s) = 64 by omega]
    exact hlo
  rw [Nat.mul_comm, ← Nat.two_pow_add_eq_or_of_lt this]
theorem norm_quo {hi lo y s L1 L0 : Nat} (hs : s ≤ 63) (hL : lo * 2 ^ s % 2 ^ 64 = L1 * 2 ^ 32 + L0) : ((hi * 2 ^ s + lo / 2 ^ (64 - s)) * 2 ^ 64 + L1 * 2 ^ 32 + L0) / (y * 2 ^ s) = (hi * 2 ^ 64 + lo) / y := by
  have h := norm_eq (hi := hi) (lo := lo) hs
  rw [hL, ← Nat.add_assoc] at h
  rw [h, Nat.mul_div_mul_right _ _ (Nat.two_pow_pos s)]
end Db
end Go.Proofs.Ytlndpclgljfloaa
