/-
  What the reference reads out of a notation: numbers modulo 2^64, texts. Plain theorems; nothing of the program.
-/
import Derived.Test.YteaaadccjnmacaaGreatDoorNumM
import Derived.IntWalk
namespace Go.Proofs.YteaaadccjnmacaaGreatDoor
open Go.Lib Go.RowKit

def numStep (n : Int) (c : UInt8) : Int := IntKind.u64.wrap (IntKind.u64.wrap (IntKind.u64.wrap (10 * n) + (c.toNat : Int)) - 48)
/-- a row of digits, modulo 2^64 -/
def numW (l : List UInt8) : Int := l.foldl numStep 0
theorem numW_snoc (l : List UInt8) (c : UInt8) : numW (l ++ [c]) = numStep (numW l) c := by simp [numW]
theorem wrap_u64 (x : Int) : IntKind.u64.wrap x = x % 18446744073709551616 := by
  simp [IntKind.wrap, IntKind.bits, IntKind.signed]
theorem numStep_is (n : Int) (c : UInt8) (a : Nat) (hn : n = (a : Int) % 18446744073709551616) (hc : 48 ≤ c.toNat) : numStep n c = ((a * 10 + (c.toNat - 48) : Nat) : Int) % 18446744073709551616 := by
  unfold numStep
  rw [wrap_u64, wrap_u64, wrap_u64, hn]
  have : ((a * 10 + (c.toNat - 48) : Nat) : Int) = 10 * (a : Int) + (c.toNat : Int) - 48 := by omega
  rw [this]
  omega
theorem fold_num (l : List UInt8) : ∀ (n : Int) (a : Nat), n = (a : Int) % 18446744073709551616 → digs l → l.foldl numStep n = ((valD a l : Nat) : Int) % 18446744073709551616 := by
  induction l with
  | nil => intro n a h _; exact h
  | cons c l ih =>
    intro n a h hd
    have hc := hd c (List.mem_cons_self ..)
    exact ih _ _ (numStep_is n c a h hc.1) (fun d hd' => hd d (List.mem_cons_of_mem _ hd'))
theorem numW_digs {l : List UInt8} (h : digs l) : numW l = ((valD 0 l : Nat) : Int) % 18446744073709551616 := fold_num l 0 0 rfl h
theorem wrap_i64 (x : Int) : wrap64 x = (x + 9223372036854775808) % 18446744073709551616 - 9223372036854775808 := by
  unfold wrap64
  rfl
/-- the number that a notation suggests -/
def gInt (l : List UInt8) : Int :=
  match l with
  | c :: r => if c.toNat = 45 then wrap64 (-(wrap64 (numW r))) else wrap64 (numW (c :: r))
  | [] => wrap64 (numW [])
theorem gInt_cons (c : UInt8) (r : List UInt8) : gInt (c :: r) = if c.toNat = 45 then wrap64 (-(wrap64 (numW r))) else wrap64 (numW (c :: r)) := rfl
theorem gInt_digs {l : List UInt8} (h : digs l) (h0 : l ≠ []) (hv : valD 0 l < 9223372036854775808) : gInt l = (valD 0 l : Nat) := by
  cases l with
  | nil => exact absurd rfl h0
  | cons c r =>
    obtain ⟨_, h2⟩ := digs_head h
    rw [gInt_cons, if_neg h2, numW_digs h, wrap_i64]
    omega
theorem gInt_neg {l : List UInt8} (h : digs l) (hv : valD 0 l ≤ 9223372036854775808) : gInt (45 :: l) = -((valD 0 l : Nat) : Int) := by
  rw [gInt_cons, if_pos (by decide : UInt8.toNat 45 = 45), numW_digs h, wrap_i64, wrap_i64]
  omega
theorem gInt_itoa (n : Int) (h0 : -9223372036854775808 ≤ n) (h1 : n ≤ 9223372036854775807) : gInt (Lib.itoa n) = n := by
  unfold Lib.itoa
  split
  · rw [gInt_neg (dd_digs _) (by rw [dd_val]; omega), dd_val]
    omega
  · rw [gInt_digs (dd_digs _) (dd_ne _) (by rw [dd_val]; omega), dd_val]
    omega
theorem gInt_b (l : List UInt8) : -9223372036854775808 ≤ gInt l ∧ gInt l ≤ 9223372036854775807 := by
  unfold gInt
  split
  · split <;> rw [wrap_i64] <;> omega
  · rw [wrap_i64]; omega
end Go.Proofs.YteaaadccjnmacaaGreatDoor
