/-
  The program's clip: by a contract.
-/
import Derived.Test.YtlndpclgljfloaaJoi
import Derived.Lib.MinMax
import Derived.BigRegion
namespace Go.Proofs.Ytlndpclgljfloaa
open Go.RowKit

def wdV (w : Hb.Wd) : List Value := [.int .u32 w.x, .int .u32 w.y, .int .u32 w.u, .int .u32 w.v]
/-- the n-th quadrant as a value -/
def qdV : Nat → List Value
  | 0 => [.int .u32 0, .int .u32 0, .func (.func 42) #[] #[], .func (.func 42) #[] #[]]
  | 1 => [.int .u32 0, .int .u32 1, .func (.func 43) #[] #[], .func (.func 44) #[] #[]]
  | 2 => [.int .u32 1, .int .u32 1, .func (.func 45) #[] #[], .func (.func 46) #[] #[]]
  | _ => [.int .u32 1, .int .u32 0, .func (.func 47) #[] #[], .func (.func 48) #[] #[]]
theorem mx {a b c : Nat} (h : max a b = c) : max (a : Int) (b : Int) = (c : Int) := by omega
theorem mn1 {a s c : Nat} (hs : 0 < s) (h : min a (s - 1) = c) : min (a : Int) ((s : Int) - 1) = (c : Int) := by omega
theorem mn2 {a s c : Nat} (hs : 0 < s) (h : min a (2 * s - 1) = c) : min (a : Int) ((s : Int) + (s : Int) - 1) = (c : Int) := by omega
theorem mm {a b c d : Nat} (h : min a b = c) (h2 : max a b = d) : min (a : Int) (b : Int) = (c : Int) ∧ max (a : Int) (b : Int) = (d : Int) := by omega
/-- a fresh window -/
def ZW : List Value := [.int .u32 0, .int .u32 0, .int .u32 0, .int .u32 0]
theorem info88 : (Try.prog.info? 88).map (·.size) = some 4 := by kernel_rfl
theorem bd1 {a s c : Nat} (h : max a s = c) : s ≤ c ∧ a ≤ c := by omega
theorem bd2 {a s c : Nat} (h : min a s = c) : c ≤ a ∧ c ≤ s := by omega
def ClpR (w : Hb.Wd) (s q : Nat) : Value := .tuple #[.agg (if Hb.clipB w s q = true then wdV (Hb.clipI w s q) else ZW).toArray, .bool (Hb.clipB w s q)]
theorem ClpR_yes {w : Hb.Wd} {s q : Nat} (h : Hb.clipB w s q = true) : ClpR w s q = .tuple #[.agg (wdV (Hb.clipI w s q)).toArray, .bool true] := by unfold ClpR; rw [h]; rfl
theorem ClpR_no {w : Hb.Wd} {s q : Nat} (h : Hb.clipB w s q = false) : ClpR w s q = .tuple #[.agg ZW.toArray, .bool false] := by unfold ClpR; rw [h]; rfl
end Go.Proofs.Ytlndpclgljfloaa
