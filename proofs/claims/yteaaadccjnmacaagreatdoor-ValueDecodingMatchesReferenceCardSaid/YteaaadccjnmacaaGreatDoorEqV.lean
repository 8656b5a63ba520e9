/-
  '==' and '!=' of two values.
-/
import Derived.Test.YteaaadccjnmacaaGreatDoorValP
namespace Go.Proofs.YteaaadccjnmacaaGreatDoor
open Go.RowKit

def eqVa (a b : Va) : Bool := a.b == b.b && (a.n == b.n && a.s.toList == b.s.toList)
theorem eqVa_iff (a b : Va) : eqVa a b = true ↔ a = b := by
  obtain ⟨x, m, s⟩ := a
  obtain ⟨y, n, t⟩ := b
  unfold eqVa
  simp only [Bool.and_eq_true, beq_iff_eq, Lib.toList_data, Va.mk.injEq]
  constructor
  · rintro ⟨rfl, rfl, h⟩
    exact ⟨rfl, rfl, by rw [← Lib.mk_data s, h, Lib.mk_data]⟩
  · rintro ⟨rfl, rfl, rfl⟩
    exact ⟨rfl, rfl, rfl⟩
theorem run_eq_va (w : World) (a b : Bool) (m n : Int) (s t : ByteArray) : (binOp .eql 24 (.agg #[.bool a, .int .i64 m, .string s]) (.agg #[.bool b, .int .i64 n, .string t])).run Tryz.prog w = .ok (.bool (eqVa ⟨a, m, s⟩ ⟨b, n, t⟩)) w := by
  unfold eqVa
  simp [go_sem]
  by_cases h1 : a = b <;> by_cases h2 : m = n <;> by_cases h3 : s.toList = t.toList <;> simp [h1, h2, h3]
theorem run_ne_va (w : World) (a b : Bool) (m n : Int) (s t : ByteArray) : (binOp .neq 24 (.agg #[.bool a, .int .i64 m, .string s]) (.agg #[.bool b, .int .i64 n, .string t])).run Tryz.prog w = .ok (.bool (!(eqVa ⟨a, m, s⟩ ⟨b, n, t⟩))) w := by
  unfold eqVa
  simp [go_sem]
  by_cases h1 : a = b <;> by_cases h2 : m = n <;> by_cases h3 : s.toList = t.toList <;> simp [h1, h2, h3]
theorem eqVa_self (a : Va) : eqVa a a = true := (eqVa_iff a a).2 rfl
theorem run_eq_same (w : World) (a : Bool) (m : Int) (s : ByteArray) : (binOp .eql 24 (.agg #[.bool a, .int .i64 m, .string s]) (.agg #[.bool a, .int .i64 m, .string s])).run Tryz.prog w = .ok (.bool true) w := by
  rw [run_eq_va, eqVa_self]
theorem run_ne_same (w : World) (a : Bool) (m : Int) (s : ByteArray) : (binOp .neq 24 (.agg #[.bool a, .int .i64 m, .string s]) (.agg #[.bool a, .int .i64 m, .string s])).run Tryz.prog w = .ok (.bool false) w := by
  rw [run_ne_va, eqVa_self]
  rfl
theorem run_eq_other (w : World) (a b : Bool) (m n : Int) (s t : ByteArray) (h : eqVa ⟨a, m, s⟩ ⟨b, n, t⟩ = false) : (binOp .eql 24 (.agg #[.bool a, .int .i64 m, .string s]) (.agg #[.bool b, .int .i64 n, .string t])).run Tryz.prog w = .ok (.bool false) w := by
  rw [run_eq_va, h]
end Go.Proofs.YteaaadccjnmacaaGreatDoor
