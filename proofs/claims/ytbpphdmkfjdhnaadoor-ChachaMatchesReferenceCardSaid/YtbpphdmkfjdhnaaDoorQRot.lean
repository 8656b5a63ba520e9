/-
  Turning a word to the left: math/bits.RotateLeft32 and the reference's rotate at the counts of ChaCha20, each by a contract.
-/
import Derived.Test.YtbpphdmkfjdhnaaDoorProg
import Derived.Test.YtbpphdmkfjdhnaaDoorWord
import Derived.WalkKit
import Derived.WalkSpells
import Derived.WalkLawsBesides
import Derived.RegionTactic
namespace Go.Proofs.YtbpphdmkfjdhnaaDoor
open Go.RowKit

theorem left_16 (x : UInt32) (w : World) : Calls Tryd.prog 42 #[.int .u32 (wd x), .int .i64 16] w fun e w' => e = .returned (.int .u32 (wd (rotr 16 x))) ∧ w = w' := by
  have hm : bits BinOp.and IntKind.u64 16 31 = 16 := by decide
  have hr := wd_rotr' 16 x
  simp only [Nat.reduceSub, Int.reducePow] at hr
  go_enter Tryd.func42, Tryd.ntmps42
  go_wp2
  go_ret
  exact ⟨rfl, rfl⟩
theorem left_12 (x : UInt32) (w : World) : Calls Tryd.prog 42 #[.int .u32 (wd x), .int .i64 12] w fun e w' => e = .returned (.int .u32 (wd (rotr 20 x))) ∧ w = w' := by
  have hm : bits BinOp.and IntKind.u64 12 31 = 12 := by decide
  have hr := wd_rotr' 20 x
  simp only [Nat.reduceSub, Int.reducePow] at hr
  go_enter Tryd.func42, Tryd.ntmps42
  go_wp2
  go_ret
  exact ⟨rfl, rfl⟩
theorem left_8 (x : UInt32) (w : World) : Calls Tryd.prog 42 #[.int .u32 (wd x), .int .i64 8] w fun e w' => e = .returned (.int .u32 (wd (rotr 24 x))) ∧ w = w' := by
  have hm : bits BinOp.and IntKind.u64 8 31 = 8 := by decide
  have hr := wd_rotr' 24 x
  simp only [Nat.reduceSub, Int.reducePow] at hr
  go_enter Tryd.func42, Tryd.ntmps42
  go_wp2
  go_ret
  exact ⟨rfl, rfl⟩
theorem left_7 (x : UInt32) (w : World) : Calls Tryd.prog 42 #[.int .u32 (wd x), .int .i64 7] w fun e w' => e = .returned (.int .u32 (wd (rotr 25 x))) ∧ w = w' := by
  have hm : bits BinOp.and IntKind.u64 7 31 = 7 := by decide
  have hr := wd_rotr' 25 x
  simp only [Nat.reduceSub, Int.reducePow] at hr
  go_enter Tryd.func42, Tryd.ntmps42
  go_wp2
  go_ret
  exact ⟨rfl, rfl⟩
theorem turn_16 (x : UInt32) (w : World) : Calls Tryd.prog 29 #[.int .u32 (wd x), .int .i64 16] w fun e w' => e = .returned (.int .u32 (wd (rotr 16 x))) ∧ w' = w.drew := by
  have hr := wd_rotr' 16 x
  simp only [Nat.reduceSub, Int.reducePow] at hr
  go_enter Tryd.func29, Tryd.ntmps29
  go_wp2
  go_region
  go_wp2
  go_ret
  exact ⟨rfl, rfl⟩
theorem turn_12 (x : UInt32) (w : World) : Calls Tryd.prog 29 #[.int .u32 (wd x), .int .i64 12] w fun e w' => e = .returned (.int .u32 (wd (rotr 20 x))) ∧ w' = w.drew := by
  have hr := wd_rotr' 20 x
  simp only [Nat.reduceSub, Int.reducePow] at hr
  go_enter Tryd.func29, Tryd.ntmps29
  go_wp2
  go_region
  go_wp2
  go_ret
  exact ⟨rfl, rfl⟩
theorem turn_8 (x : UInt32) (w : World) : Calls Tryd.prog 29 #[.int .u32 (wd x), .int .i64 8] w fun e w' => e = .returned (.int .u32 (wd (rotr 24 x))) ∧ w' = w.drew := by
  have hr := wd_rotr' 24 x
  simp only [Nat.reduceSub, Int.reducePow] at hr
  go_enter Tryd.func29, Tryd.ntmps29
  go_wp2
  go_region
  go_wp2
  go_ret
  exact ⟨rfl, rfl⟩
theorem turn_7 (x : UInt32) (w : World) : Calls Tryd.prog 29 #[.int .u32 (wd x), .int .i64 7] w fun e w' => e = .returned (.int .u32 (wd (rotr 25 x))) ∧ w' = w.drew := by
  have hr := wd_rotr' 25 x
  simp only [Nat.reduceSub, Int.reducePow] at hr
  go_enter Tryd.func29, Tryd.ntmps29
  go_wp2
  go_region
  go_wp2
  go_ret
  exact ⟨rfl, rfl⟩
theorem turn_25 (x : UInt32) (w : World) : Calls Tryd.prog 29 #[.int .u32 (wd x), .int .i64 25] w fun e w' => e = .returned (.int .u32 (wd (rotr 7 x))) ∧ w' = w.drew := by
  have hr := wd_rotr' 7 x
  simp only [Nat.reduceSub, Int.reducePow] at hr
  go_enter Tryd.func29, Tryd.ntmps29
  go_wp2
  go_region
  go_wp2
  go_ret
  exact ⟨rfl, rfl⟩
theorem turn_24 (x : UInt32) (w : World) : Calls Tryd.prog 29 #[.int .u32 (wd x), .int .i64 24] w fun e w' => e = .returned (.int .u32 (wd (rotr 8 x))) ∧ w' = w.drew := by
  have hr := wd_rotr' 8 x
  simp only [Nat.reduceSub, Int.reducePow] at hr
  go_enter Tryd.func29, Tryd.ntmps29
  go_wp2
  go_region
  go_wp2
  go_ret
  exact ⟨rfl, rfl⟩
theorem turn_20 (x : UInt32) (w : World) : Calls Tryd.prog 29 #[.int .u32 (wd x), .int .i64 20] w fun e w' => e = .returned (.int .u32 (wd (rotr 12 x))) ∧ w' = w.drew := by
  have hr := wd_rotr' 12 x
  simp only [Nat.reduceSub, Int.reducePow] at hr
  go_enter Tryd.func29, Tryd.ntmps29
  go_wp2
  go_region
  go_wp2
  go_ret
  exact ⟨rfl, rfl⟩
end Go.Proofs.YtbpphdmkfjdhnaaDoor
