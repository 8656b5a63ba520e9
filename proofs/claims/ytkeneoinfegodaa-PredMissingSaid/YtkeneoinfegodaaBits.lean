/-
  Plain facts on bits: '^n' and 'x | 1' as the walk writes them; zig-zag back.
-/
import Derived.Lib.Zigzag
import Derived.Lib.VarintBits
import Derived.Test.YtkeneoinfegodaaMath
namespace Go.Proofs.Ytkeneoinfegodaa.Num
open Go.Lib

theorem i64_not_neg (n : Int) (h0 : -9223372036854775808 ≤ n) (h1 : n < 0) : bits .xor .i64 (-1) n = -n - 1 := by
  show IntKind.i64.wrap ((BitVec.ofInt 64 (-1) ^^^ BitVec.ofInt 64 n).toNat : Int) = _
  have e1 : (BitVec.ofInt 64 (-1)).toNat = 2 ^ 64 - 1 := by decide
  have e2 : (BitVec.ofInt 64 n).toNat = (n + 18446744073709551616).toNat := by
    rw [BitVec.toNat_ofInt]
    have : (((2 ^ 64 : Nat) : Nat) : Int) = 18446744073709551616 := by decide
    rw [this]
    omega
  rw [BitVec.toNat_xor, e1, e2, xor_ones64 _ (by omega), IntKind.wrap_i64]
  omega

theorem or_one (m : Nat) (hm : 2 * m < 18446744073709551616) : bits .or .u64 ((2 * m : Nat) : Int) 1 = ((2 * m + 1 : Nat) : Int) := by
  have h := (bits_nat .u64 64 (by decide) wraps_u64 (2 * m) 1 (by simpa using hm) (by decide)).2
  have e : ((1 : Nat) : Int) = 1 := rfl
  rw [e] at h
  rw [h]
  have h2 := Nat.shiftLeft_add_eq_or_of_lt (show 1 < 2 ^ 1 by decide) m
  rw [Nat.shiftLeft_eq] at h2
  have h3 : 2 * m = m * 2 ^ 1 := by omega
  rw [h3, ← h2]

/-- What S hands to U. -/
theorem zig_neg (n : Int) (h0 : -9223372036854775808 ≤ n) (h1 : n < 0) :
    bits .or .u64 (IntKind.u64.wrap (IntKind.u64.wrap (bits .xor .i64 (-1) n) * 2)) 1 = ((zigzag n : Nat) : Int) := by
  rw [i64_not_neg n h0 h1]
  have e : IntKind.u64.wrap (IntKind.u64.wrap (-n - 1) * 2) = ((2 * (-n - 1).toNat : Nat) : Int) := by
    rw [IntKind.wrap_u64, IntKind.wrap_u64]
    omega
  rw [e, or_one _ (by omega)]
  unfold zigzag
  rw [if_neg (by omega)]
  omega

theorem zigzag_u64 (n : Int) (h0 : -9223372036854775808 ≤ n) (h1 : n ≤ 9223372036854775807) : U64 (zigzag n) := zigzag_lt h0 h1

theorem pow_two7 (i : Nat) : (2 : Nat) ^ (7 * i) = 128 ^ i := by rw [Nat.pow_mul]

/-- 'n |= d << s' as a sum. -/
theorem or_digit (i acc d : Nat) (hi : i ≤ 9) (ha : acc < 128 ^ i) (hd : d < 128) (h9 : i = 9 → d ≤ 1) :
    bits .or .u64 (acc : Int) (IntKind.u64.wrap ((d : Int) * 2 ^ (7 * i))) = ((acc + d * 128 ^ i : Nat) : Int) := by
  have hp := pow_le9 hi
  have hlt : d * 128 ^ i < 18446744073709551616 := by
    by_cases e9 : i = 9
    · subst e9
      have := h9 rfl
      rw [pow9]
      omega
    · have hq : 128 ^ (i + 1) ≤ 9223372036854775808 := pow_le9 (by omega)
      rw [Nat.pow_succ] at hq
      have : d * 128 ^ i ≤ 127 * 128 ^ i := Nat.mul_le_mul_right _ (by omega)
      omega
  have e1 : (d : Int) * 2 ^ (7 * i) = ((d * 128 ^ i : Nat) : Int) := by
    rw [Int.natCast_mul, ← pow_two7]
    norm_cast
  have e2 : IntKind.u64.wrap ((d * 128 ^ i : Nat) : Int) = ((d * 128 ^ i : Nat) : Int) := by
    rw [IntKind.wrap_u64]
    omega
  have hz : d * 128 ^ i % 128 ^ i = 0 := Nat.mul_mod_left _ _
  rw [e1, e2]
  generalize hx : d * 128 ^ i = x at *
  have h := bits_join_low .u64 64 (by decide) wraps_u64 (7 * i) (acc : Int) (x : Int)
  have e3 : ((2 : Int) ^ (7 * i)) = ((128 ^ i : Nat) : Int) := by rw [← pow_two7]; norm_cast
  rw [e3] at h
  rw [h (by omega) (by omega) (by omega) (by omega) (by omega) (by omega)]
  omega

/-- 'n += place * d' without a wrap. -/
theorem add_digit (i acc d : Nat) (hi : i ≤ 9) (ha : acc < 128 ^ i) (hd : d < 128) (h9 : i = 9 → d ≤ 1) :
    IntKind.u64.wrap ((acc : Int) + IntKind.u64.wrap (((128 ^ i : Nat) : Int) * (d : Int))) = ((acc + d * 128 ^ i : Nat) : Int) ∧ acc + d * 128 ^ i < 18446744073709551616 := by
  have hp := pow_le9 hi
  have hlt : acc + d * 128 ^ i < 18446744073709551616 := by
    by_cases e9 : i = 9
    · subst e9
      have := h9 rfl
      rw [pow9] at ha ⊢
      omega
    · have hq : 128 ^ (i + 1) ≤ 9223372036854775808 := pow_le9 (by omega)
      have := acc_step ha hd
      omega
  refine ⟨?_, hlt⟩
  rw [← Int.natCast_mul, Nat.mul_comm]
  generalize d * 128 ^ i = x at *
  rw [IntKind.wrap_u64, IntKind.wrap_u64]
  omega
theorem add_digit2 (i acc d p : Nat) (x : Int) (hi : i ≤ 9) (ha : acc < 128 ^ i) (hd : d < 128) (h9 : i = 9 → d ≤ 1) (hp : p = 128 ^ i) (hx : x = d) :
    IntKind.u64.wrap ((acc : Int) + IntKind.u64.wrap ((p : Int) * x)) = ((acc + d * 128 ^ i : Nat) : Int) := by
  subst hp hx
  exact (add_digit i acc d hi ha hd h9).1
theorem mul_place (i : Nat) (hi : i < 9) : IntKind.u64.wrap (((128 ^ i : Nat) : Int) * 128) = ((128 ^ (i + 1) : Nat) : Int) := by
  have hq : 128 ^ (i + 1) ≤ 9223372036854775808 := pow_le9 (by omega)
  rw [Nat.pow_succ] at hq ⊢
  generalize 128 ^ i = x at *
  rw [IntKind.wrap_u64]
  omega

/-- Back. -/
def zag (u : Nat) : Int := if u % 2 = 1 then -((u / 2 : Nat) : Int) - 1 else ((u / 2 : Nat) : Int)
theorem zag_zigzag (n : Int) : zag (zigzag n) = n := by
  unfold zag zigzag
  split <;> split <;> omega
theorem zigzag_zag (u : Nat) : zigzag (zag u) = u := by
  unfold zag zigzag
  split <;> split <;> omega
theorem zag_bounds {u : Nat} (h : U64 u) : -9223372036854775808 ≤ zag u ∧ zag u ≤ 9223372036854775807 := by
  have := h.lt
  unfold zag
  split <;> omega
theorem zag_lo {u : Nat} (h : U64 u) : -9223372036854775808 ≤ zag u := (zag_bounds h).1
theorem zag_hi {u : Nat} (h : U64 u) : zag u ≤ 9223372036854775807 := (zag_bounds h).2

end Go.Proofs.Ytkeneoinfegodaa.Num
