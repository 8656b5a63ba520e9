/-
  Values by plain functions: which are valid, their order, their encoding. Nothing of the program.
-/
import Derived.Test.YtkeneoinfegodaaMm
import Derived.Lib.Strings
namespace Go.Proofs.Ytkeneoinfegodaa
open Go.Lib

/-- a value: null, the number, the text -/
structure Va where
  b : Bool
  n : Int
  s : ByteArray
def Va.val (v : Va) : Value := .agg #[.bool v.b, .int .i64 v.n, .string v.s]
/-- the bounds of the machine -/
structure Va.Fine (v : Va) : Prop where
  lo : -9223372036854775808 ≤ v.n
  hi : v.n ≤ 9223372036854775807
  len : v.s.size ≤ 9223372036854775807
def empS (s : ByteArray) : Bool := s.toList.isEmpty
theorem empS_iff (s : ByteArray) : empS s = true ↔ s.size = 0 := by
  unfold empS
  rw [Lib.toList_data, List.isEmpty_iff]
  constructor
  · intro h
    have : s.data.toList.length = 0 := by rw [h]; rfl
    simpa using this
  · intro h
    exact List.eq_nil_of_length_eq_zero (by simpa using h)
theorem empS_mt : empS ⟨#[]⟩ = true := by rw [empS_iff]; rfl
theorem emp_eq {s : ByteArray} (h : empS s = true) : s = ⟨#[]⟩ := by
  rw [empS_iff] at h
  cases s with
  | mk d => 
    congr 1
    exact Array.eq_empty_of_size_eq_zero h
def okV (v : Va) (t : Int) : Bool :=
  if v.b then decide (1 ≤ t ∧ t ≤ 5) && (decide (v.n = 0) && empS v.s)
  else if t = 1 then decide (0 ≤ v.n ∧ v.n ≤ 1) && empS v.s
  else if t = 5 then decide (-1000000 ≤ v.n ∧ v.n ≤ 1000000) && empS v.s
  else if t = 2 then decide (-2147483648 ≤ v.n ∧ v.n ≤ 2147483647) && empS v.s
  else if t = 3 then empS v.s
  else if t = 4 then decide (v.n = 0) && decide (v.s.size ≤ 200)
  else false
end Go.Proofs.Ytkeneoinfegodaa
