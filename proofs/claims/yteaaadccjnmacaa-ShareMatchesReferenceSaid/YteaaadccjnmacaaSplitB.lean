/-
  The program's Split where its numbers are wrong, by a contract.
-/
import Derived.Test.YteaaadccjnmacaaFieldP
namespace Go.Proofs.Yteaaadccjnmacaa
open Go.RowKit

set_option maxHeartbeats 4000000 in
set_option maxRecDepth 20000 in
theorem split_bad (v r : Value) (a b : Int) (w : World) (hok : ¬ (1 ≤ a ∧ a ≤ b ∧ b ≤ 255)) :
    Calls Try.prog 7 #[v, r, .agg #[.int .i64 a, .int .i64 b]] w
      fun e w' => e = .returned (.tuple #[.slice none 0 0, .int .i64 1]) ∧ Below w.heap.size w w' := by
  have hb := below_alloc (w := w) (.cells #[.int .i64 a, .int .i64 b] 25)
  by_cases i1 : a < 1
  · clear hok
    go_enter Try.func7, Try.ntmps7
    go_wp2
    go_quiet (fail)
    go_wp2
    go_ret2
    exact ⟨rfl, below_drewN hb _⟩
  · by_cases i2 : a > b
    · clear hok
      go_enter Try.func7, Try.ntmps7
      go_wp2
      go_quiet (fail)
      go_wp2
      go_ret2
      exact ⟨rfl, below_drewN hb _⟩
    · have i3 : b > 255 := by omega
      clear hok
      go_enter Try.func7, Try.ntmps7
      go_wp2
      go_quiet (fail)
      go_wp2
      go_ret2
      exact ⟨rfl, below_drewN hb _⟩
end Go.Proofs.Yteaaadccjnmacaa
