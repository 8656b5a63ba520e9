/-
  The program's Compare and Same, by contracts; their order, plain.
-/
import Derived.Test.YtkeneoinfegodaaValP
import Derived.Test.YtkeneoinfegodaaLay3
import Derived.Lib.Bytealg
namespace Go.Proofs.Ytkeneoinfegodaa
open Go.RowKit

def cmpI (a b : Int) : Int := if a < b then -1 else if b < a then 1 else 0
/-- the order of values -/
def cmpV (a b : Va) : Int :=
  if a.b = true ∧ b.b = false then -1 else if b.b = true ∧ a.b = false then 1
  else if a.n ≠ b.n then cmpI a.n b.n else Lib.compareBytes a.s.data.toList b.s.data.toList

theorem isNaN_any (n : Int) (w : World) : Calls Try.prog 104 #[.int .i64 n] w fun e w' => e = .returned (.bool false) ∧ w' = w := by
  go_enter Try.func104, Try.ntmps104
  go_wp2
  go_ret
  exact ⟨by simp, rfl⟩
theorem cmpInt_any (a b z : Int) (w : World) (hz : cmpI a b = z) : Calls Try.prog 101 #[.int .i64 a, .int .i64 b] w fun e w' => e = .returned (.int .i64 z) ∧ w' = w := by
  rcases Int.lt_trichotomy a b with h | h | h
  · obtain rfl : z = -1 := by rw [← hz]; unfold cmpI; rw [if_pos h]
    clear hz
    go_enter Try.func101, Try.ntmps101
    go_wp2_with (go_at_call 104; refine (isNaN_any _ _).mono ?_; rintro e w' ⟨rfl, rfl⟩)
    go_ret
    exact ⟨rfl, rfl⟩
  · obtain rfl : z = 0 := by rw [← hz]; unfold cmpI; rw [if_neg (by omega), if_neg (by omega)]
    have h1 : ¬ a < b := by omega
    have h2 : ¬ b < a := by omega
    clear hz h
    go_enter Try.func101, Try.ntmps101
    go_wp2_with (go_at_call 104; refine (isNaN_any _ _).mono ?_; rintro e w' ⟨rfl, rfl⟩)
    go_ret
    exact ⟨rfl, rfl⟩
  · obtain rfl : z = 1 := by rw [← hz]; unfold cmpI; rw [if_neg (by omega), if_pos h]
    have h1 : ¬ a < b := by omega
    clear hz
    go_enter Try.func101, Try.ntmps101
    go_wp2_with (go_at_call 104; refine (isNaN_any _ _).mono ?_; rintro e w' ⟨rfl, rfl⟩)
    go_ret
    exact ⟨rfl, rfl⟩
theorem al2V (w : World) (o o' : Obj) : Below w.heap.size w ((w.alloc o).alloc o') := (val_al w o).alloc (by simp) _
theorem Compare_b (x y : Bool) (a b : Int) (s t : ByteArray) (z : Int) (w : World) (hz : cmpV ⟨x, a, s⟩ ⟨y, b, t⟩ = z) : Calls Try.prog 92 #[.agg #[.bool x, .int .i64 a, .string s], .agg #[.bool y, .int .i64 b, .string t]] w fun e w' => e = .returned (.int .i64 z) ∧ Below w.heap.size w w' := by
  by_cases hxy : x = y
  · subst hxy
    by_cases hab : a = b
    · subst hab
      obtain rfl : Lib.compareBytes s.data.toList t.data.toList = z := by rw [← hz]; unfold cmpV; cases x <;> simp
      clear hz
      cases x
      all_goals
        go_enter Try.func92, Try.ntmps92
        go_wp2_with (go_at_call 102; refine (Try.strings_Compare _ _ _).mono ?_; rintro e w' ⟨rfl, rfl⟩)
        go_ret
        exact ⟨rfl, al2V _ _ _⟩
    · obtain rfl : cmpI a b = z := by rw [← hz]; unfold cmpV; cases x <;> simp [hab]
      clear hz
      cases x
      all_goals
        go_enter Try.func92, Try.ntmps92
        go_wp2_with (go_at_call 101; refine (cmpInt_any _ _ _ _ rfl).mono ?_; rintro e w' ⟨rfl, rfl⟩)
        go_ret
        exact ⟨rfl, al2V _ _ _⟩
  · cases x
    · obtain rfl : y = true := by cases y <;> simp_all
      obtain rfl : z = 1 := by rw [← hz]; simp [cmpV]
      clear hz hxy
      go_enter Try.func92, Try.ntmps92
      go_wp2
      go_ret
      exact ⟨rfl, al2V _ _ _⟩
    · obtain rfl : y = false := by cases y <;> simp_all
      obtain rfl : z = -1 := by rw [← hz]; simp [cmpV]
      clear hz hxy
      go_enter Try.func92, Try.ntmps92
      go_wp2
      go_ret
      exact ⟨rfl, al2V _ _ _⟩
/-- Compare. -/
theorem Compare_any (v u : Va) (z : Int) (w : World) (hz : cmpV v u = z) : Calls Try.prog 92 #[v.val, u.val] w fun e w' => e = .returned (.int .i64 z) ∧ Below w.heap.size w w' :=
  Compare_b v.b u.b v.n u.n v.s u.s z w hz
end Go.Proofs.Ytkeneoinfegodaa
