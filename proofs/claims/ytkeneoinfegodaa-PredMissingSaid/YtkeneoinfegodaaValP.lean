/-
  The program's Valid, Compare, Same, each by a contract.
-/
import Derived.Test.YtkeneoinfegodaaMm
import Derived.Test.YtkeneoinfegodaaProg
import Derived.Test.YtkeneoinfegodaaValS
import Derived.Outline
import Derived.BigGuardPart
namespace Go.Proofs.Ytkeneoinfegodaa
open Go.RowKit Go.Lib

theorem val_al (w : World) (o : Obj) : Below w.heap.size w (w.alloc o) := (Below.refl _ _).alloc (Nat.le_refl _) _
theorem isType_any (t : Int) (z : Bool) (w : World) (hz : decide (1 ≤ t ∧ t ≤ 5) = z) : Calls Try.prog 91 #[.int .i64 t] w fun e w' => e = .returned (.bool z) ∧ w' = w := by
  by_cases h1 : 1 ≤ t
  · by_cases h2 : t ≤ 5
    · obtain rfl : z = true := by rw [← hz]; simp; omega
      clear hz
      go_enter Try.func91, Try.ntmps91
      go_wp2
      go_ret
      exact ⟨rfl, rfl⟩
    · obtain rfl : z = false := by rw [← hz]; simp; omega
      clear hz
      go_enter Try.func91, Try.ntmps91
      go_wp2
      go_ret
      exact ⟨rfl, rfl⟩
  · obtain rfl : z = false := by rw [← hz]; simp; omega
    clear hz
    go_enter Try.func91, Try.ntmps91
    go_wp2
    go_ret
    exact ⟨rfl, rfl⟩
theorem Valid_null (n : Int) (s : ByteArray) (t : Int) (w : World) (z : Bool) (hz : decide (1 ≤ t ∧ t ≤ 5) = z) : Calls Try.prog 63 #[.agg #[.bool true, .int .i64 n, .string s], .int .i64 t] w fun e w' => e = .returned (.bool (z && (decide (n = 0) && empS s))) ∧ Below w.heap.size w w' := by
  cases z with
  | true =>
    by_cases hn : n = 0
    · subst hn
      go_enter Try.func63, Try.ntmps63
      go_wp2_with (go_at_call 91; refine (isType_any _ true _ hz).mono ?_; rintro e w' ⟨rfl, rfl⟩)
      go_ret
      exact ⟨by simp; rfl, val_al _ _⟩
    · go_enter Try.func63, Try.ntmps63
      go_wp2_with (go_at_call 91; refine (isType_any _ true _ hz).mono ?_; rintro e w' ⟨rfl, rfl⟩)
      go_ret
      exact ⟨by simp [hn], val_al _ _⟩
  | false =>
    go_enter Try.func63, Try.ntmps63
    go_wp2_with (go_at_call 91; refine (isType_any _ false _ hz).mono ?_; rintro e w' ⟨rfl, rfl⟩)
    go_ret
    exact ⟨by simp, val_al _ _⟩
theorem Valid_bool (n : Int) (s : ByteArray) (w : World) (y : Bool) (hy : decide (0 ≤ n ∧ n ≤ 1) = y) : Calls Try.prog 63 #[.agg #[.bool false, .int .i64 n, .string s], .int .i64 1] w fun e w' => e = .returned (.bool (y && empS s)) ∧ Below w.heap.size w w' := by
  by_cases h1 : n < 0
  · obtain rfl : y = false := by rw [← hy]; simp; omega
    clear hy
    go_enter Try.func63, Try.ntmps63
    go_wp2
    go_ret
    exact ⟨by simp, val_al _ _⟩
  · by_cases h2 : n > 1
    · obtain rfl : y = false := by rw [← hy]; simp; omega
      clear hy
      go_enter Try.func63, Try.ntmps63
      go_wp2
      go_ret
      exact ⟨by simp, val_al _ _⟩
    · obtain rfl : y = true := by rw [← hy]; simp; omega
      clear hy
      have j1 : n ≤ 1000000 := by omega
      have j2 : -1000000 ≤ n := by omega
      have j3 : n ≤ 2147483647 := by omega
      have j4 : -2147483648 ≤ n := by omega
      go_enter Try.func63, Try.ntmps63
      go_wp2
      go_ret
      exact ⟨by simp; rfl, val_al _ _⟩
theorem Valid_day (n : Int) (s : ByteArray) (w : World) (y : Bool) (hy : decide (-1000000 ≤ n ∧ n ≤ 1000000) = y) : Calls Try.prog 63 #[.agg #[.bool false, .int .i64 n, .string s], .int .i64 5] w fun e w' => e = .returned (.bool (y && empS s)) ∧ Below w.heap.size w w' := by
  by_cases h1 : n < -1000000
  · obtain rfl : y = false := by rw [← hy]; simp; omega
    clear hy
    go_enter Try.func63, Try.ntmps63
    go_wp2
    go_ret
    exact ⟨by simp, val_al _ _⟩
  · by_cases h2 : n > 1000000
    · obtain rfl : y = false := by rw [← hy]; simp; omega
      clear hy
      go_enter Try.func63, Try.ntmps63
      go_wp2
      go_ret
      exact ⟨by simp, val_al _ _⟩
    · obtain rfl : y = true := by rw [← hy]; simp; omega
      clear hy
      have k3 : decide (n < -2147483648) = false := decide_eq_false (by omega)
      have k4 : decide (2147483647 < n) = false := decide_eq_false (by omega)
      go_enter Try.func63, Try.ntmps63
      go_wp2
      go_ret
      exact ⟨by simp; rfl, val_al _ _⟩
theorem Valid_small (n : Int) (s : ByteArray) (w : World) (y : Bool) (hy : decide (-2147483648 ≤ n ∧ n ≤ 2147483647) = y) : Calls Try.prog 63 #[.agg #[.bool false, .int .i64 n, .string s], .int .i64 2] w fun e w' => e = .returned (.bool (y && empS s)) ∧ Below w.heap.size w w' := by
  by_cases h1 : n < -2147483648
  · obtain rfl : y = false := by rw [← hy]; simp; omega
    clear hy
    go_enter Try.func63, Try.ntmps63
    go_wp2
    go_ret
    exact ⟨by simp, val_al _ _⟩
  · by_cases h2 : n > 2147483647
    · obtain rfl : y = false := by rw [← hy]; simp; omega
      clear hy
      go_enter Try.func63, Try.ntmps63
      go_wp2
      go_ret
      exact ⟨by simp, val_al _ _⟩
    · obtain rfl : y = true := by rw [← hy]; simp; omega
      clear hy
      go_enter Try.func63, Try.ntmps63
      go_wp2
      go_ret
      exact ⟨by simp; rfl, val_al _ _⟩
theorem Valid_int (n : Int) (s : ByteArray) (w : World) : Calls Try.prog 63 #[.agg #[.bool false, .int .i64 n, .string s], .int .i64 3] w fun e w' => e = .returned (.bool (empS s)) ∧ Below w.heap.size w w' := by
  go_enter Try.func63, Try.ntmps63
  go_wp2
  go_ret
  exact ⟨by simp; rfl, val_al _ _⟩
theorem Valid_text (n : Int) (s : ByteArray) (w : World) (y : Bool) (hy : (decide (n = 0) && decide (s.size ≤ 200)) = y) (hs : s.size ≤ 9223372036854775807) : Calls Try.prog 63 #[.agg #[.bool false, .int .i64 n, .string s], .int .i64 4] w fun e w' => e = .returned (.bool y) ∧ Below w.heap.size w w' := by
  by_cases h1 : n = 0
  · subst h1
    obtain rfl : y = decide (s.size ≤ 200) := by rw [← hy]; simp
    clear hy
    go_enter Try.func63, Try.ntmps63
    go_wp2
    go_ret
    exact ⟨by simp; try omega, val_al _ _⟩
  · obtain rfl : y = false := by rw [← hy]; simp [h1]
    clear hy
    go_enter Try.func63, Try.ntmps63
    go_wp2
    go_ret
    exact ⟨by simp, val_al _ _⟩
theorem Valid_else (n : Int) (s : ByteArray) (t : Int) (w : World) (ht : t < 1 ∨ 5 < t) : Calls Try.prog 63 #[.agg #[.bool false, .int .i64 n, .string s], .int .i64 t] w fun e w' => e = .returned (.bool false) ∧ Below w.heap.size w w' := by
  have i1 : ¬ t = 1 := by omega
  have i2 : ¬ t = 5 := by omega
  have i3 : ¬ t = 2 := by omega
  have i4 : ¬ t = 3 := by omega
  have i5 : ¬ t = 4 := by omega
  clear ht
  go_enter Try.func63, Try.ntmps63
  go_wp2
  go_ret
  exact ⟨by simp, val_al _ _⟩
/-- Valid. -/
theorem Valid_any (v : Va) (t : Int) (z : Bool) (w : World) (hz : okV v t = z) (hs : v.s.size ≤ 9223372036854775807) : Calls Try.prog 63 #[v.val, .int .i64 t] w fun e w' => e = .returned (.bool z) ∧ Below w.heap.size w w' := by
  subst hz
  obtain ⟨b, n, s⟩ := v
  unfold Va.val okV
  cases b with
  | true => simpa using Valid_null n s t w _ rfl
  | false =>
    by_cases h1 : t = 1
    · subst h1; simpa using Valid_bool n s w _ rfl
    · by_cases h5 : t = 5
      · subst h5; simpa using Valid_day n s w _ rfl
      · by_cases h2 : t = 2
        · subst h2; simpa using Valid_small n s w _ rfl
        · by_cases h3 : t = 3
          · subst h3; simpa using Valid_int n s w
          · by_cases h4 : t = 4
            · subst h4; simpa using Valid_text n s w _ rfl hs
            · simpa [h1, h2, h3, h4, h5] using Valid_else n s t w (by omega)
end Go.Proofs.Ytkeneoinfegodaa
