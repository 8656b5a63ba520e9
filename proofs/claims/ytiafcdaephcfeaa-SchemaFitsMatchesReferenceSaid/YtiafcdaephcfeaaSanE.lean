/-
  What the fixed examples are, by evaluation.
-/
import Derived.Test.YtiafcdaephcfeaaGC
import Derived.Test.YtiafcdaephcfeaaGV
import Derived.Test.YtiafcdaephcfeaaGD
namespace Go.Proofs.Ytiafcdaephcfeaa
open Go.RowKit

def b1 (n : UInt8) : ByteArray := ⟨#[n]⟩
def eb : ByteArray := ⟨#[]⟩
def exA : List Ch := [⟨1, 0, 0, b1 97, eb, 4, 0, eb⟩, ⟨6, 1, 0, b1 98, b1 99, 0, 0, b1 45⟩]
def exG : List Ch := [⟨1, 0, 0, b1 103, eb, 6, 0, eb⟩, ⟨1, 0, 0, b1 120, eb, 2, 1, eb⟩, ⟨4, 2, 0, eb, eb, 0, 0, eb⟩, ⟨2, 1, 0, eb, eb, 0, 0, eb⟩]
def sA : Sc := ⟨[⟨2, b1 98, 4, 0⟩, ⟨3, b1 99, 4, 0⟩], 4⟩
def sG : Sc := ⟨[⟨1, b1 103, 6, 0⟩, ⟨2, b1 120, 3, 1⟩], 3⟩
theorem evA : aftP exA = (sA, 2, 0) := by kernel_rfl
theorem evG : aftP exG = (sG, 3, 63) := by kernel_rfl
theorem evM : applyP sG ⟨5, 1, 0, eb, eb, 0, 1, eb⟩ = (Sc.zero, 63) := by kernel_rfl
theorem evX : applyP sG ⟨1, 0, 0, b1 120, eb, 1, 1, eb⟩ = (Sc.zero, 60) := by kernel_rfl
def gx : ByteArray := ⟨#[103, 46, 120]⟩
theorem evF : findGo (fun f => pathOf sG.fs f.id) gx sG.fs = some 2 := by kernel_rfl
theorem evP2 : pathOf sG.fs 2 = gx := by kernel_rfl
theorem evP3 : pathOf sG.fs 3 = eb := by kernel_rfl
def exR : List Ce := [⟨2, ⟨false, 1099511627776, eb⟩⟩]
theorem evG2 : fitGo sG.fs 0 exR = true := by kernel_rfl
theorem evA2 : fitGo sA.fs 0 exR = false := by kernel_rfl
theorem evN : vldP ⟨[], 1⟩ = true := by kernel_rfl
theorem evZ : vldP ⟨[], 0⟩ = false := by kernel_rfl
end Go.Proofs.Ytiafcdaephcfeaa
