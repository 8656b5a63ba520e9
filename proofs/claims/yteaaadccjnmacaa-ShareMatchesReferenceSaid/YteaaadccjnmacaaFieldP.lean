/-
  The program's double, newField, mul, inv, Mul and Inv, by contracts.
-/
import Derived.Test.YteaaadccjnmacaaBox
import Derived.WalkSpells
import Derived.WalkLawsBesides
import Derived.LoopTactic
import Derived.Deep.DeepMust
import Derived.StillTailTactics
import Derived.Deep.QuietTactic
import Derived.BigQuiet
namespace Go.Proofs.Yteaaadccjnmacaa
open Go.RowKit

theorem u8_xor (x y : UInt8) : bits .xor .u8 (x.toNat : Int) (y.toNat : Int) = ((x ^^^ y).toNat : Int) := by
  have hx := x.toNat_lt
  have hy := y.toNat_lt
  unfold bits
  show IntKind.u8.wrap ((BitVec.ofInt 8 _ ^^^ BitVec.ofInt 8 _).toNat : Int) = _
  rw [BitVec.toNat_xor, BitVec.toNat_ofInt, BitVec.toNat_ofInt, UInt8.toNat_xor, IntKind.wrap_u8]
  have e1 : ((x.toNat : Int) % ((2 ^ 8 : Nat) : Int)).toNat = x.toNat := by omega
  have e2 : ((y.toNat : Int) % ((2 ^ 8 : Nat) : Int)).toNat = y.toNat := by omega
  rw [e1, e2]
  have := Nat.xor_lt_two_pow (n := 8) hx hy
  omega
/-- a byte as the walk writes it -/
def bv (x : UInt8) : Value := .int .u8 (x.toNat : Int)
theorem info5 : (Try.prog.info? 5).map (fun i => (i.zero, i.size, i.bytes)) = some (some (.int .u8 0), 1, 1) := by kernel_rfl
theorem infoF : (Try.prog.info? 55).map (·.size) = some 511 := by kernel_rfl

theorem dbl_lo (x : UInt8) (h : (x.toNat : Int) < 128) : ((x.toNat : Int) * 2) % 256 = ((dbl x).toNat : Int) := by
  have := of_all (p := fun x => decide (x.toNat < 128) == false || (x.toNat * 2) % 256 == (dbl x).toNat) (by decide +kernel) x
  have h2 : x.toNat < 128 := by omega
  simp [h2] at this
  omega
theorem dbl_hi (x : UInt8) (h : ¬ (x.toNat : Int) < 128) : bits .xor .u8 (((x.toNat : Int) * 2) % 256) 27 = ((dbl x).toNat : Int) := by
  have := of_all (p := fun x => decide (x.toNat < 128) == true || UInt8.ofNat ((x.toNat * 2) % 256) ^^^ 27 == dbl x) (by decide +kernel) x
  have h2 : ¬ x.toNat < 128 := by omega
  simp [h2] at this
  rw [← this, ← u8_xor]
  congr 1
  rw [UInt8.toNat_ofNat_of_lt' (by simpa using Nat.mod_lt _ (by decide))]
  omega

theorem double_any (x : UInt8) (w : World) : Calls Try.prog 36 #[.int .u8 (x.toNat : Int)] w fun e w' => e = .returned (.int .u8 ((dbl x).toNat : Int)) ∧ w' = w := by
  by_cases h : (x.toNat : Int) < 128
  · have e := dbl_lo x h
    go_enter Try.func36, Try.ntmps36
    go_wp2
    go_ret
    exact ⟨(show Ending.returned (.int .u8 ((x.toNat : Int) * 2)) = Ending.returned (.int .u8 ((dbl x).toNat : Int)) from by rw [← e, Int.emod_eq_of_lt (by omega) (by omega)]), rfl⟩
  · have e := dbl_hi x h
    go_enter Try.func36, Try.ntmps36
    go_wp2
    go_ret
    exact ⟨by rw [← e]; rfl, rfl⟩

/-- the two tables behind each other, when n powers are filled in -/
def part : Nat → List UInt8
  | 0 => List.replicate 511 0
  | n + 1 => ((part n).set n (ex n)).set (255 + (ex n).toNat) (UInt8.ofNat n)
theorem part_len (n : Nat) : (part n).length = 511 := by
  induction n with
  | zero => exact List.length_replicate
  | succ n ih => simp [part, ih]
def tabs : List UInt8 := expT ++ logT
theorem part_all : part 255 = tabs := by decide +kernel
theorem tabs_len : tabs.length = 511 := by rw [← part_all, part_len]
theorem tabs_ex (n : Nat) (h : n < 255) : byte tabs n = ex n := by
  unfold byte tabs ex
  rw [List.getD_eq_getElem?_getD, List.getD_eq_getElem?_getD, List.getElem?_append_left (by rw [expT_len]; exact h)]
theorem tabs_lg (a : UInt8) : ((byte tabs (255 + a.toNat)).toNat) = lg a := by
  unfold byte tabs lg
  rw [List.getD_eq_getElem?_getD, List.getD_eq_getElem?_getD, List.getElem?_append_right (by rw [expT_len]; omega), expT_len, Nat.add_sub_cancel_left]
/-- Block g holds the field's tables. -/
def FB (w : World) (g : Nat) : Prop := BT w g 55 tabs
attribute [irreducible] tabs
theorem step_ex (n : Nat) (h : n < 255) : ex n ^^^ dbl (ex n) = ex ((n + 1) % 255) := (ex_succ n h).symm
attribute [local go_sem] u8_xor

def Z56 : Array Value := (cb (part 0)).toArray
theorem zero56_is : ((Try.prog.info? 55).bind (·.zero)) = some (.agg Z56) := by kernel_rfl
theorem zero56 (w : World) : Sem.run Try.prog (zeroValue 55) w = .ok (.agg Z56) w := by
  obtain ⟨i, hi, hz⟩ := Option.bind_eq_some_iff.1 zero56_is
  simp [zeroValue, typeInfo, hi, hz]
theorem Z56_size : Z56.size = 511 := by
  show ((cb (part 0)).toArray).size = 511
  simp [cb, part_len]
theorem Z56_ne : ¬ Z56 = #[] := fun h => by
  have := Z56_size
  rw [h] at this
  exact absurd this (by decide)
theorem Z56_eq : Z56 = (cb (part 0)).toArray := rfl
attribute [irreducible] Z56
attribute [local go_sem] zero56
attribute [local simp] Z56_ne
end Go.Proofs.Yteaaadccjnmacaa
