/-
  Turning a word: math/bits.RotateLeft32 at the four counts, and the reference's rot, each by a contract.
-/
import Derived.Test.YtmdokldbggingaaDoorProg
import Derived.Test.YtmdokldbggingaaDoorWord
import Derived.WalkKit
import Derived.WalkSpells
import Derived.WalkLawsBesides
namespace Go.Proofs.YtmdokldbggingaaDoor
open Go.RowKit

theorem rotl_16 (x : UInt32) (w : World) : Calls Tryd.prog 63 #[.int .u32 (wd x), .int .i64 (-16)] w fun e w' => e = .returned (.int .u32 (wd (rotr 16 x))) ∧ w = w' := by
  have hm : bits BinOp.and IntKind.u64 (IntKind.u64.wrap (-16)) 31 = 16 := by decide
  have hr := wd_rotr' 16 x
  simp only [Nat.reduceSub, Int.reducePow] at hr
  go_enter Tryd.func63, Tryd.ntmps63
  go_wp2
  go_ret
  exact ⟨rfl, rfl⟩
theorem rot_16 (x : UInt32) (w : World) : Calls Tryd.prog 64 #[.int .u32 (wd x), .int .u64 16] w fun e w' => e = .returned (.int .u32 (wd (rotr 16 x))) ∧ w = w' := by
  have hr := wd_rotr 16 x
  simp only [Nat.reduceSub, Int.reducePow] at hr
  go_enter Tryd.func64, Tryd.ntmps64
  go_wp2
  go_ret
  exact ⟨rfl, rfl⟩

theorem rotl_12 (x : UInt32) (w : World) : Calls Tryd.prog 63 #[.int .u32 (wd x), .int .i64 (-12)] w fun e w' => e = .returned (.int .u32 (wd (rotr 12 x))) ∧ w = w' := by
  have hm : bits BinOp.and IntKind.u64 (IntKind.u64.wrap (-12)) 31 = 20 := by decide
  have hr := wd_rotr' 12 x
  simp only [Nat.reduceSub, Int.reducePow] at hr
  go_enter Tryd.func63, Tryd.ntmps63
  go_wp2
  go_ret
  exact ⟨rfl, rfl⟩
theorem rot_12 (x : UInt32) (w : World) : Calls Tryd.prog 64 #[.int .u32 (wd x), .int .u64 12] w fun e w' => e = .returned (.int .u32 (wd (rotr 12 x))) ∧ w = w' := by
  have hr := wd_rotr 12 x
  simp only [Nat.reduceSub, Int.reducePow] at hr
  go_enter Tryd.func64, Tryd.ntmps64
  go_wp2
  go_ret
  exact ⟨rfl, rfl⟩

theorem rotl_8 (x : UInt32) (w : World) : Calls Tryd.prog 63 #[.int .u32 (wd x), .int .i64 (-8)] w fun e w' => e = .returned (.int .u32 (wd (rotr 8 x))) ∧ w = w' := by
  have hm : bits BinOp.and IntKind.u64 (IntKind.u64.wrap (-8)) 31 = 24 := by decide
  have hr := wd_rotr' 8 x
  simp only [Nat.reduceSub, Int.reducePow] at hr
  go_enter Tryd.func63, Tryd.ntmps63
  go_wp2
  go_ret
  exact ⟨rfl, rfl⟩
theorem rot_8 (x : UInt32) (w : World) : Calls Tryd.prog 64 #[.int .u32 (wd x), .int .u64 8] w fun e w' => e = .returned (.int .u32 (wd (rotr 8 x))) ∧ w = w' := by
  have hr := wd_rotr 8 x
  simp only [Nat.reduceSub, Int.reducePow] at hr
  go_enter Tryd.func64, Tryd.ntmps64
  go_wp2
  go_ret
  exact ⟨rfl, rfl⟩

theorem rotl_7 (x : UInt32) (w : World) : Calls Tryd.prog 63 #[.int .u32 (wd x), .int .i64 (-7)] w fun e w' => e = .returned (.int .u32 (wd (rotr 7 x))) ∧ w = w' := by
  have hm : bits BinOp.and IntKind.u64 (IntKind.u64.wrap (-7)) 31 = 25 := by decide
  have hr := wd_rotr' 7 x
  simp only [Nat.reduceSub, Int.reducePow] at hr
  go_enter Tryd.func63, Tryd.ntmps63
  go_wp2
  go_ret
  exact ⟨rfl, rfl⟩
theorem rot_7 (x : UInt32) (w : World) : Calls Tryd.prog 64 #[.int .u32 (wd x), .int .u64 7] w fun e w' => e = .returned (.int .u32 (wd (rotr 7 x))) ∧ w = w' := by
  have hr := wd_rotr 7 x
  simp only [Nat.reduceSub, Int.reducePow] at hr
  go_enter Tryd.func64, Tryd.ntmps64
  go_wp2
  go_ret
  exact ⟨rfl, rfl⟩

end Go.Proofs.YtmdokldbggingaaDoor
