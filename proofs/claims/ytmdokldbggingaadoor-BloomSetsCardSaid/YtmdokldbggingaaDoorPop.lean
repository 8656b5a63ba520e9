/-
  The number of one bits, and powers of two: by contracts.
-/
import Derived.Test.YtmdokldbggingaaDoorProg
import Derived.WalkKit
import Derived.RegionTactic
import Derived.Deep.Cut
import Derived.Lib.Hide
namespace Go.Proofs.YtmdokldbggingaaDoor
open Go.RowKit

theorem u64_and (x c : Nat) (hx : x < 2 ^ 64) (hc : c < 2 ^ 64) : bits .and .u64 (x : Int) (c : Int) = ((x &&& c : Nat) : Int) := by
  unfold bits
  show IntKind.u64.wrap ((BitVec.ofInt 64 _ &&& BitVec.ofInt 64 _).toNat : Int) = _
  rw [BitVec.toNat_and, BitVec.toNat_ofInt, BitVec.toNat_ofInt, IntKind.wrap_u64]
  have e1 : ((x : Int) % ((2 ^ 64 : Nat) : Int)).toNat = x := by omega
  have e2 : ((c : Int) % ((2 ^ 64 : Nat) : Int)).toNat = c := by omega
  rw [e1, e2]
  have : x &&& c ≤ x := Nat.and_le_left
  omega
theorem i64_and (x : Nat) (hx : x < 2 ^ 64) : bits .and .i64 (wrap64 (x : Int)) 127 = ((x &&& 127 : Nat) : Int) := by
  unfold bits
  show IntKind.i64.wrap ((BitVec.ofInt 64 _ &&& BitVec.ofInt 64 _).toNat : Int) = _
  rw [BitVec.toNat_and, BitVec.toNat_ofInt, BitVec.toNat_ofInt, IntKind.wrap_i64]
  unfold wrap64
  have e1 : ((((x : Int) + 9223372036854775808) % 18446744073709551616 - 9223372036854775808) % ((2 ^ 64 : Nat) : Int)).toNat = x := by omega
  have e2 : ((127 : Int) % ((2 ^ 64 : Nat) : Int)).toNat = 127 := by decide
  rw [e1, e2]
  have : x &&& 127 ≤ 127 := Nat.and_le_right
  omega
theorem u64_add (a b : Nat) : IntKind.u64.wrap ((a : Int) + (b : Int)) = (((a + b) % 18446744073709551616 : Nat) : Int) := by
  rw [IntKind.wrap_u64]
  omega
def p1 (x : Nat) : Nat := ((x / 2 &&& 6148914691236517205) + (x &&& 6148914691236517205)) % 18446744073709551616
def p2 (x : Nat) : Nat := ((x / 4 &&& 3689348814741910323) + (x &&& 3689348814741910323)) % 18446744073709551616
def p3 (x : Nat) : Nat := (x / 16 + x) % 18446744073709551616 &&& 1085102592571150095
def p4 (k x : Nat) : Nat := (x + x / k) % 18446744073709551616
def popN (n : Nat) : Nat := p4 4294967296 (p4 65536 (p4 256 (p3 (p2 (p1 n))))) &&& 127
def Lo (x : Nat) : Prop := x < 2 ^ 64
theorem p1_lo (x : Nat) : Lo (p1 x) := Nat.mod_lt _ (by decide)
theorem p2_lo (x : Nat) : Lo (p2 x) := Nat.mod_lt _ (by decide)
theorem p3_lo (x : Nat) : Lo (p3 x) := Nat.lt_of_le_of_lt Nat.and_le_left (Nat.mod_lt _ (by decide))
theorem p4_lo (k x : Nat) : Lo (p4 k x) := Nat.mod_lt _ (by decide)
theorem half_lo {x : Nat} (h : Lo x) (k : Nat) : x / k < 2 ^ 64 := Nat.lt_of_le_of_lt (Nat.div_le_self _ _) h
theorem p1_is (x : Nat) (h : Lo x) : IntKind.u64.wrap (bits .and .u64 ((x : Int) / 2) 6148914691236517205 + bits .and .u64 (x : Int) 6148914691236517205) = ((p1 x : Nat) : Int) := by
  have e1 := u64_and (x / 2) 6148914691236517205 (half_lo h 2) (by decide)
  have e2 := u64_and x 6148914691236517205 h (by decide)
  rw [show ((x / 2 : Nat) : Int) = (x : Int) / 2 from by omega] at e1
  rw [show ((6148914691236517205 : Nat) : Int) = 6148914691236517205 from rfl] at e1 e2
  rw [e1, e2, u64_add]
  rfl
theorem p2_is (x : Nat) (h : Lo x) : IntKind.u64.wrap (bits .and .u64 ((x : Int) / 4) 3689348814741910323 + bits .and .u64 (x : Int) 3689348814741910323) = ((p2 x : Nat) : Int) := by
  have e1 := u64_and (x / 4) 3689348814741910323 (half_lo h 4) (by decide)
  have e2 := u64_and x 3689348814741910323 h (by decide)
  rw [show ((x / 4 : Nat) : Int) = (x : Int) / 4 from by omega] at e1
  rw [show ((3689348814741910323 : Nat) : Int) = 3689348814741910323 from rfl] at e1 e2
  rw [e1, e2, u64_add]
  rfl
theorem p3_is (x : Nat) : bits .and .u64 (IntKind.u64.wrap ((x : Int) / 16 + (x : Int))) 1085102592571150095 = ((p3 x : Nat) : Int) := by
  have e := u64_add (x / 16) x
  rw [show ((x / 16 : Nat) : Int) = (x : Int) / 16 from by omega] at e
  rw [e]
  exact u64_and _ 1085102592571150095 (Nat.mod_lt _ (by decide)) (by decide)
theorem p4_is (x : Nat) : IntKind.u64.wrap ((x : Int) + (x : Int) / 256) = ((p4 256 x : Nat) : Int) := by
  have e := u64_add x (x / 256)
  rwa [show ((x / 256 : Nat) : Int) = (x : Int) / 256 from by omega] at e
theorem p5_is (x : Nat) : IntKind.u64.wrap ((x : Int) + (x : Int) / 65536) = ((p4 65536 x : Nat) : Int) := by
  have e := u64_add x (x / 65536)
  rwa [show ((x / 65536 : Nat) : Int) = (x : Int) / 65536 from by omega] at e
theorem p6_is (x : Nat) : IntKind.u64.wrap ((x : Int) + (x : Int) / 4294967296) = ((p4 4294967296 x : Nat) : Int) := by
  have e := u64_add x (x / 4294967296)
  rwa [show ((x / 4294967296 : Nat) : Int) = (x : Int) / 4294967296 from by omega] at e
theorem pop64_any (n : Nat) (w : World) (h : n ≤ 65536) : Calls Tryd.prog 47 #[.int .u64 (n : Int)] w fun e w' => e = .returned (.int .i64 (popN n : Nat)) ∧ w' = w := by
  have i0 : (n : Int) ≤ 65536 := by omega
  have h1 := Lib.hid (p1_is n (show n < 2 ^ 64 by omega))
  obtain ⟨x1, hx1⟩ : ∃ x, x = p1 n := ⟨_, rfl⟩
  have h2 := Lib.hid (p2_is x1 (hx1 ▸ p1_lo n))
  obtain ⟨x2, hx2⟩ : ∃ x, x = p2 x1 := ⟨_, rfl⟩
  have h3 := Lib.hid (p3_is x2)
  obtain ⟨x3, hx3⟩ : ∃ x, x = p3 x2 := ⟨_, rfl⟩
  have h4 := Lib.hid (p4_is x3)
  obtain ⟨x4, hx4⟩ : ∃ x, x = p4 256 x3 := ⟨_, rfl⟩
  have h5 := Lib.hid (p5_is x4)
  obtain ⟨x5, hx5⟩ : ∃ x, x = p4 65536 x4 := ⟨_, rfl⟩
  have h6 := Lib.hid (p6_is x5)
  obtain ⟨x6, hx6⟩ : ∃ x, x = p4 4294967296 x5 := ⟨_, rfl⟩
  have h7 := Lib.hid (i64_and x6 (hx6 ▸ p4_lo _ x5))
  have h8 : Hid (popN n = x6 &&& 127) := Lib.hid (by subst hx6 hx5 hx4 hx3 hx2 hx1; rfl)
  rw [← hx1] at h1
  rw [← hx2] at h2
  rw [← hx3] at h3
  rw [← hx4] at h4
  rw [← hx5] at h5
  rw [← hx6] at h6
  clear hx1 hx2 hx3 hx4 hx5 hx6
  go_enter Tryd.func47, Tryd.ntmps47
  go_upto_region 2 with fail
  rw [h1.out]
  go_upto_region 3 with fail
  rw [h2.out]
  go_upto_region 4 with fail
  rw [h3.out]
  go_upto_region 5 with fail
  rw [h4.out]
  go_upto_region 6 with fail
  rw [h5.out]
  go_upto_region 7 with fail
  rw [h6.out]
  go_wp2
  rw [h7.out, ← h8.out]
  go_ret
  exact ⟨rfl, rfl⟩
/-- a test of all numbers below 2^d from s on -/
def allR (f : Nat → Bool) : Nat → Nat → Bool
  | 0, s => f s
  | d + 1, s => allR f d s && allR f d (s + 2 ^ d)
theorem allR_spec {f : Nat → Bool} : ∀ {d s : Nat}, allR f d s = true → ∀ n, s ≤ n → n < s + 2 ^ d → f n = true
  | 0, s, h, n, h1, h2 => by
    obtain rfl : s = n := by simp at h2; omega
    exact h
  | d + 1, s, h, n, h1, h2 => by
    have h' : (allR f d s && allR f d (s + 2 ^ d)) = true := h
    rw [Bool.and_eq_true] at h'
    rw [Nat.pow_succ] at h2
    by_cases hlt : n < s + 2 ^ d
    · exact allR_spec h'.1 n h1 hlt
    · exact allR_spec h'.2 n (by omega) (by omega)
/-- a power of two, 65536 at most -/
def powB (n : Nat) : Bool := [1, 2, 4, 8, 16, 32, 64, 128, 256, 512, 1024, 2048, 4096, 8192, 16384, 32768, 65536].contains n
/-- a number reckoned before it is used -/
def fc (x : Nat) (k : Nat → Bool) : Bool := match x with
  | 0 => k 0
  | Nat.succ n => k (Nat.succ n)
theorem fc_eq (x : Nat) (k : Nat → Bool) : fc x k = k x := by cases x <;> rfl
def pick1 (b c : Bool) : Bool := match c with
  | true => b
  | false => true
def popT (n : Nat) : Bool :=
  fc (Nat.mod (Nat.add (Nat.land (Nat.div n 2) 6148914691236517205) (Nat.land n 6148914691236517205)) 18446744073709551616) fun x1 =>
  fc (Nat.mod (Nat.add (Nat.land (Nat.div x1 4) 3689348814741910323) (Nat.land x1 3689348814741910323)) 18446744073709551616) fun x2 =>
  fc (Nat.land (Nat.mod (Nat.add (Nat.div x2 16) x2) 18446744073709551616) 1085102592571150095) fun x3 =>
  fc (Nat.mod (Nat.add x3 (Nat.div x3 256)) 18446744073709551616) fun x4 =>
  fc (Nat.mod (Nat.add x4 (Nat.div x4 65536)) 18446744073709551616) fun x5 =>
  fc (Nat.mod (Nat.add x5 (Nat.div x5 4294967296)) 18446744073709551616) fun x6 =>
  pick1 (powB n) (Nat.beq (Nat.land x6 127) 1)
theorem popT_eq (n : Nat) : popT n = pick1 (powB n) (Nat.beq (popN n) 1) := by
  unfold popT
  rw [fc_eq, fc_eq, fc_eq, fc_eq, fc_eq, fc_eq]
  rfl
theorem pop_all : allR popT 16 0 = true := by decide +kernel
theorem pop_is : ∀ n ∈ [1, 2, 4, 8, 16, 32, 64, 128, 256, 512, 1024, 2048, 4096, 8192, 16384, 32768, 65536], popN n = 1 := by decide +kernel
theorem pop_pow {n : Nat} (h : n ≤ 65536) : (popN n == 1) = powB n := by
  by_cases e : n = 65536
  · subst e; decide +kernel
  · have ht := allR_spec pop_all n (by omega) (by simp; omega)
    rw [popT_eq] at ht
    by_cases hp : popN n = 1
    · have hb : Nat.beq (popN n) 1 = true := by rw [hp]; rfl
      rw [hb] at ht
      rw [hp]
      exact ht.symm
    · have : powB n = false := by
        cases hq : powB n
        · rfl
        · exact absurd (pop_is n (by unfold powB at hq; simpa using hq)) hp
      rw [this]
      simpa using hp
theorem pow_le {n : Nat} (h : powB n = true) : 1 ≤ n ∧ n ≤ 65536 := by
  unfold powB at h
  simp at h
  omega
theorem pow_half {n : Nat} (h : powB n = true) (h1 : n ≠ 1) : n = 2 * (n / 2) ∧ powB (n / 2) = true := by
  unfold powB at h
  simp at h
  rcases h with h | h | h | h | h | h | h | h | h | h | h | h | h | h | h | h | h <;> subst h <;> first | exact absurd rfl h1 | decide
theorem pow_two {n : Nat} (h : powB n = true) : ∃ e, e ≤ 16 ∧ n = 2 ^ e := by
  unfold powB at h
  simp at h
  rcases h with h | h | h | h | h | h | h | h | h | h | h | h | h | h | h | h | h <;> subst h
  all_goals (first | exact ⟨0, by decide, rfl⟩ | exact ⟨1, by decide, rfl⟩ | exact ⟨2, by decide, rfl⟩ | exact ⟨3, by decide, rfl⟩ | exact ⟨4, by decide, rfl⟩ | exact ⟨5, by decide, rfl⟩ | exact ⟨6, by decide, rfl⟩ | exact ⟨7, by decide, rfl⟩ | exact ⟨8, by decide, rfl⟩ | exact ⟨9, by decide, rfl⟩ | exact ⟨10, by decide, rfl⟩ | exact ⟨11, by decide, rfl⟩ | exact ⟨12, by decide, rfl⟩ | exact ⟨13, by decide, rfl⟩ | exact ⟨14, by decide, rfl⟩ | exact ⟨15, by decide, rfl⟩ | exact ⟨16, by decide, rfl⟩)
theorem pop_any (n : Nat) (w : World) (h : n ≤ 65536) : Calls Tryd.prog 39 #[.int .u64 (n : Int)] w fun e w' => e = .returned (.int .i64 (popN n : Nat)) ∧ w' = w := by
  have i0 : (n : Int) ≤ 65536 := by omega
  go_enter Tryd.func39, Tryd.ntmps39
  go_wp2_with (go_at_call 47; refine (pop64_any n _ h).mono ?_; rintro e w' ⟨rfl, rfl⟩)
  go_ret
  exact ⟨rfl, rfl⟩
end Go.Proofs.YtmdokldbggingaaDoor
