/-
  '==' of two windows.
-/
import Derived.Test.YtlndpclgljfloaaClp
import Derived.ChangeKeysEq
import Derived.KernelRfl
namespace Go.Proofs.Ytlndpclgljfloaa
open Go.RowKit
def w4 (a b c d : Int) : Array Value := #[.int .u32 a, .int .u32 b, .int .u32 c, .int .u32 d]
theorem info22 : ∃ i, Try.prog.info? 22 = some i := by
  have h5 : (Try.prog.info? 22).map (·.size) = some 1 := by kernel_rfl
  cases hi : Try.prog.info? 22 with
  | none => rw [hi] at h5; cases h5
  | some i => exact ⟨i, rfl⟩
theorem part4 (a b c d : Int) (w : World) (i : Nat) (v : Value) (h : (w4 a b c d)[i]? = some v) : (part 22 (w4 a b c d) i).run Try.prog w = .ok v w :=
  run_part_plain (P := Try.prog) (w := w) (e := 22) (by kernel_rfl) h
theorem eqi (x y : Int) (n : Nat) (w : World) : (Op.equalIn (n + 1) 22 (.int .u32 x) (.int .u32 y)).run Try.prog w = .ok (x == y) w := by
  have := run_equalIn_int (P := Try.prog) w n 22 .u32 .u32 x y Try.underlying22
  simpa using this
theorem eqi9 (x y : Int) (w : World) : (Op.equalIn 9999 22 (.int .u32 x) (.int .u32 y)).run Try.prog w = .ok (x == y) w := eqi x y 9998 w
theorem eqItems_w (a b c d a' b' c' d' : Int) (w : World) : (Op.eqItems 9999 22 1 (w4 a b c d) (w4 a' b' c' d') [0, 1, 2, 3]).run Try.prog w = .ok (a == a' && (b == b' && (c == c' && d == d'))) w := by
  simp only [Op.eqItems, Sem.run_bind, Nat.mul_one, part4 a b c d w 0 (.int .u32 a) rfl, part4 a' b' c' d' w 0 (.int .u32 a') rfl, Result.andThen_ok, eqi9]
  cases h1 : a == a' <;> cases h2 : b == b' <;> cases h3 : c == c' <;> cases h4 : d == d' <;> simp [Result.andThen, part4 a b c d w 1 (.int .u32 b) rfl, part4 a' b' c' d' w 1 (.int .u32 b') rfl, part4 a b c d w 2 (.int .u32 c) rfl, part4 a' b' c' d' w 2 (.int .u32 c') rfl, part4 a b c d w 3 (.int .u32 d) rfl, part4 a' b' c' d' w 3 (.int .u32 d') rfl, eqi9, *]
theorem equal_w (a b c d a' b' c' d' : Int) (w : World) : (Op.equal 88 (.agg (w4 a b c d)) (.agg (w4 a' b' c' d'))).run Try.prog w = .ok (a == a' && (b == b' && (c == c' && d == d'))) w := by
  obtain ⟨i, hi⟩ := info22
  have e := run_equalIn_array (P := Try.prog) (w := w) 9999 (t := 88) (e := 22) (n := 4) (w4 a b c d) (w4 a' b' c' d') Try.underlying88 hi
  refine Eq.trans e ?_
  have c1 : Try.prog.cellsOf 22 = 1 := by kernel_rfl
  rw [c1]
  exact eqItems_w a b c d a' b' c' d' w
theorem eqw (a b c d a' b' c' d' : Int) (w : World) : (binOp .eql 88 (.agg #[.int .u32 a, .int .u32 b, .int .u32 c, .int .u32 d]) (.agg #[.int .u32 a', .int .u32 b', .int .u32 c', .int .u32 d'])).run Try.prog w = .ok (.bool (a == a' && (b == b' && (c == c' && d == d')))) w := by
  show (do pure (.bool (← Op.equal 88 (.agg (w4 a b c d)) (.agg (w4 a' b' c' d')))) : Sem Value).run _ _ = _
  simp only [Sem.run_bind, equal_w, Result.andThen_ok, Sem.run_pure]
theorem eqGuard_w (x y : Operand) (a b : Array Value) (w : World) : (eqGuard .eql 88 x y (.agg a) (.agg b)).run Try.prog w = .ok () w := by
  have e : Try.prog.eqGuardType Try.prog.depth 88 = false := by kernel_rfl
  simp [eqGuard, e]
end Go.Proofs.Ytlndpclgljfloaa
