/-
  What the laws share: the order, the calls on points of the curve.
-/
import Derived.Test.YtlndpclgljfloaaSan
namespace Go.Proofs.Ytlndpclgljfloaa
open Go.RowKit
theorem pow4 {k : Nat} (hk : k ≤ 16) : IntKind.u64.wrap (2 ^ (2 * k)) = ((2 ^ k * 2 ^ k : Nat) : Int) ∧ 1 ≤ 2 ^ k * 2 ^ k ∧ 2 ^ k * 2 ^ k ≤ 4294967296 := by
  have h1 : 2 ^ k ≤ 2 ^ 16 := Nat.pow_le_pow_right (by decide) hk
  have h0 : 0 < 2 ^ k := Nat.pow_pos (by decide)
  have e : (2 : Int) ^ (2 * k) = ((2 ^ k * 2 ^ k : Nat) : Int) := by
    rw [Nat.two_mul, Int.pow_add]; push_cast; rfl
  have h2 : (2 : Nat) ^ 16 = 65536 := by decide
  rw [h2] at h1
  have h3 : 2 ^ k * 2 ^ k ≤ 65536 * 65536 := Nat.mul_le_mul h1 h1
  have h4 : 0 < 2 ^ k * 2 ^ k := Nat.mul_pos h0 h0
  rw [e, IntKind.wrap_u64]
  refine ⟨?_, h4, h3⟩
  omega
theorem pow2 {k : Nat} (hk : k ≤ 16) : IntKind.u32.wrap (2 ^ k) = ((2 ^ k : Nat) : Int) ∧ 1 ≤ 2 ^ k ∧ 2 ^ k ≤ 65536 := by
  have h1 : 2 ^ k ≤ 2 ^ 16 := Nat.pow_le_pow_right (by decide) hk
  have h0 : 0 < 2 ^ k := Nat.pow_pos (by decide)
  have h2 : (2 : Nat) ^ 16 = 65536 := by decide
  rw [h2] at h1
  have e : (2 : Int) ^ k = ((2 ^ k : Nat) : Int) := by push_cast; rfl
  refine ⟨?_, h0, h1⟩
  rw [e, IntKind.wrap_u32]
  omega
theorem ix_at (k : Nat) (x y : Nat) (X Y : Int) (w : World) (hX : X = x) (hY : Y = y) (hk : 1 ≤ k ∧ k ≤ 16) (hx : x < 2 ^ k) (hy : y < 2 ^ k) :
    Calls Try.prog 11 #[.int .i64 k, .int .u32 X, .int .u32 Y] w fun e w' => e = .returned (.tuple #[.int .u64 (Hb.hI k x y : Nat), .int .i64 0]) ∧ Below w.heap.size w w' := by
  subst hX hY
  have hb : (isOB (k : Int) && decide (x < 2 ^ (k : Int).toNat) && decide (y < 2 ^ (k : Int).toNat)) = true := by
    rw [show isOB (k : Int) = true from decide_eq_true (by omega), Int.toNat_natCast, decide_eq_true hx, decide_eq_true hy]; rfl
  have e1 : ixV (k : Int) x y = Hb.hI k x y := by unfold ixV; rw [hb]; rfl
  have e2 : ixE (k : Int) x y = 0 := by unfold ixE; rw [hb]; rfl
  rw [← e1, ← e2]
  exact Index_any k x y w
theorem pt_at (k : Nat) (i : Nat) (I : Int) (x y : Nat) (w : World) (hI : I = i) (hk : 1 ≤ k ∧ k ≤ 16) (hi : i < 2 ^ k * 2 ^ k) (h : Hb.hP k i = (x, y)) :
    Calls Try.prog 13 #[.int .i64 k, .int .u64 I] w fun e w' => e = .returned (.tuple #[.int .u32 x, .int .u32 y, .int .i64 0]) ∧ Below w.heap.size w w' := by
  subst hI
  have hb : ptB (k : Int) i = true := by
    unfold ptB
    rw [show isOB (k : Int) = true from decide_eq_true (by omega), Int.toNat_natCast, decide_eq_true hi]; rfl
  obtain ⟨e1, e2, e3⟩ := pt_good hb
  rw [h] at e1 e2
  have := Point_any k i w
  rw [e1, e2, e3] at this
  exact this
end Go.Proofs.Ytlndpclgljfloaa
