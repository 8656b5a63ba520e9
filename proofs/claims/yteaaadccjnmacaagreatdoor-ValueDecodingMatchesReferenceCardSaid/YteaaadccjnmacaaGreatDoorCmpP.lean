/-
  The program's Compare and Same, by contracts; their order, plain.
-/
import Derived.Test.YteaaadccjnmacaaGreatDoorValP
import Derived.Test.YteaaadccjnmacaaGreatDoorLays
import Derived.Lib.Bytealg
namespace Go.Proofs.YteaaadccjnmacaaGreatDoor
open Go.RowKit

def cmpI (a b : Int) : Int := if a < b then -1 else if b < a then 1 else 0
/-- the order of values -/
def cmpV (a b : Va) : Int :=
  if a.b = true ∧ b.b = false then -1 else if b.b = true ∧ a.b = false then 1
  else if a.n ≠ b.n then cmpI a.n b.n else Lib.compareBytes a.s.data.toList b.s.data.toList

theorem isNaN_any (n : Int) (w : World) : Calls Tryz.prog 63 #[.int .i64 n] w fun e w' => e = .returned (.bool false) ∧ w' = w := by
  go_enter Tryz.func63, Tryz.ntmps63
  go_wp2
  go_ret
  exact ⟨by simp, rfl⟩
theorem cmpInt_any (a b z : Int) (w : World) (hz : cmpI a b = z) : Calls Tryz.prog 41 #[.int .i64 a, .int .i64 b] w fun e w' => e = .returned (.int .i64 z) ∧ w' = w := by
  rcases Int.lt_trichotomy a b with h | h | h
  · obtain rfl : z = -1 := by rw [← hz]; unfold cmpI; rw [if_pos h]
    clear hz
    go_enter Tryz.func41, Tryz.ntmps41
    go_wp2_with (go_at_call 63; refine (isNaN_any _ _).mono ?_; rintro e w' ⟨rfl, rfl⟩)
    go_ret
    exact ⟨rfl, rfl⟩
  · obtain rfl : z = 0 := by rw [← hz]; unfold cmpI; rw [if_neg (by omega), if_neg (by omega)]
    have h1 : ¬ a < b := by omega
    have h2 : ¬ b < a := by omega
    clear hz h
    go_enter Tryz.func41, Tryz.ntmps41
    go_wp2_with (go_at_call 63; refine (isNaN_any _ _).mono ?_; rintro e w' ⟨rfl, rfl⟩)
    go_ret
    exact ⟨rfl, rfl⟩
  · obtain rfl : z = 1 := by rw [← hz]; unfold cmpI; rw [if_neg (by omega), if_pos h]
    have h1 : ¬ a < b := by omega
    clear hz
    go_enter Tryz.func41, Tryz.ntmps41
    go_wp2_with (go_at_call 63; refine (isNaN_any _ _).mono ?_; rintro e w' ⟨rfl, rfl⟩)
    go_ret
    exact ⟨rfl, rfl⟩
theorem al2 (w : World) (o o' : Obj) : Below w.heap.size w ((w.alloc o).alloc o') := (val_al w o).alloc (by simp) _
theorem Compare_b (x y : Bool) (a b : Int) (s t : ByteArray) (z : Int) (w : World) (hz : cmpV ⟨x, a, s⟩ ⟨y, b, t⟩ = z) : Calls Tryz.prog 20 #[.agg #[.bool x, .int .i64 a, .string s], .agg #[.bool y, .int .i64 b, .string t]] w fun e w' => e = .returned (.int .i64 z) ∧ Below w.heap.size w w' := by
  by_cases hxy : x = y
  · subst hxy
    by_cases hab : a = b
    · subst hab
      obtain rfl : Lib.compareBytes s.data.toList t.data.toList = z := by rw [← hz]; unfold cmpV; cases x <;> simp
      clear hz
      cases x
      all_goals
        go_enter Tryz.func20, Tryz.ntmps20
        go_wp2_with (go_at_call 42; refine (Tryz.strings_Compare _ _ _).mono ?_; rintro e w' ⟨rfl, rfl⟩)
        go_ret
        exact ⟨rfl, al2 _ _ _⟩
    · obtain rfl : cmpI a b = z := by rw [← hz]; unfold cmpV; cases x <;> simp [hab]
      clear hz
      cases x
      all_goals
        go_enter Tryz.func20, Tryz.ntmps20
        go_wp2_with (go_at_call 41; refine (cmpInt_any _ _ _ _ rfl).mono ?_; rintro e w' ⟨rfl, rfl⟩)
        go_ret
        exact ⟨rfl, al2 _ _ _⟩
  · cases x
    · obtain rfl : y = true := by cases y <;> simp_all
      obtain rfl : z = 1 := by rw [← hz]; simp [cmpV]
      clear hz hxy
      go_enter Tryz.func20, Tryz.ntmps20
      go_wp2
      go_ret
      exact ⟨rfl, al2 _ _ _⟩
    · obtain rfl : y = false := by cases y <;> simp_all
      obtain rfl : z = -1 := by rw [← hz]; simp [cmpV]
      clear hz hxy
      go_enter Tryz.func20, Tryz.ntmps20
      go_wp2
      go_ret
      exact ⟨rfl, al2 _ _ _⟩
/-- Compare. -/
theorem Compare_any (v u : Va) (z : Int) (w : World) (hz : cmpV v u = z) : Calls Tryz.prog 20 #[v.val, u.val] w fun e w' => e = .returned (.int .i64 z) ∧ Below w.heap.size w w' :=
  Compare_b v.b u.b v.n u.n v.s u.s z w hz
end Go.Proofs.YteaaadccjnmacaaGreatDoor
