/-
  The reference's digit and number, by contracts.
-/
import Derived.Test.YteaaadccjnmacaaGreatDoorValR
namespace Go.Proofs.YteaaadccjnmacaaGreatDoor
open Go.RowKit Go.Lib

def digV (c : UInt8) : Nat := if 97 ≤ c.toNat ∧ c.toNat ≤ 102 then c.toNat - 87 else (c.toNat + 208) % 256 % 16
theorem digV_lt (c : UInt8) : digV c < 16 := by unfold digV; split <;> omega
theorem u8_sub (x y : Nat) (h : x < 256) (hy : y = (x + 208) % 256) : IntKind.u8.wrap ((x : Int) - 48) = (y : Int) := by
  subst hy
  simp [IntKind.wrap, IntKind.bits, IntKind.signed]
  omega
theorem Rdigit_any (c : UInt8) (w : World) : Calls Tryz.prog 61 #[.int .u8 (c.toNat : Int)] w fun e w' => e = .returned (.int .u8 ((digV c : Nat) : Int)) ∧ w' = w := by
  have hc := c.toNat_lt
  obtain ⟨d, hd⟩ : ∃ d, d = digV c := ⟨_, rfl⟩
  rw [← hd]
  unfold digV at hd
  generalize c.toNat = x at *
  by_cases h1 : 97 ≤ x ∧ x ≤ 102
  · rw [if_pos h1] at hd
    obtain ⟨h1, h2⟩ := h1
    have i1 : 97 ≤ (x : Int) := by omega
    have i2 : (x : Int) ≤ 102 := by omega
    have HD : Hid ((x : Int) - 97 + 10 = (d : Int)) := by show _ = _; omega
    clear hd
    go_enter Tryz.func61, Tryz.ntmps61
    go_wp2
    go_ret
    exact ⟨by rw [← HD.out]; rfl, rfl⟩
  · rw [if_neg h1] at hd
    obtain ⟨y, hy⟩ : ∃ y, y = (x + 208) % 256 := ⟨_, rfl⟩
    have hw := u8_sub x y (by omega) hy
    rw [← hy] at hd
    have i3 : (y : Int).tmod 16 = (d : Int) := by rw [Int.tmod_eq_emod_of_nonneg (by omega)]; omega
    have i4 : (y : Int) % 16 = (d : Int) := by omega
    clear hd hy
    by_cases h2 : 97 ≤ x
    · have i1 : 97 ≤ (x : Int) := by omega
      have i2 : ¬ (x : Int) ≤ 102 := by omega
      clear h1
      go_enter Tryz.func61, Tryz.ntmps61
      go_wp2
      go_ret
      exact ⟨rfl, rfl⟩
    · have i1 : ¬ 97 ≤ (x : Int) := by omega
      clear h1
      go_enter Tryz.func61, Tryz.ntmps61
      go_wp2
      go_ret
      exact ⟨rfl, rfl⟩
end Go.Proofs.YteaaadccjnmacaaGreatDoor
