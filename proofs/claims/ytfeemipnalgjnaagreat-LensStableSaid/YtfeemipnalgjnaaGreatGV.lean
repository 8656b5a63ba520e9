/-
 Layer 6's contracts and plain theorems, texts of layer 6's own claims put together: ValS ValP ValR FitR FitsP.
-/
import Derived.Test.YtfeemipnalgjnaaGreatHb
import Derived.Test.YtfeemipnalgjnaaGreatGA
import Derived.Lib.Strings
import Derived.Test.YtfeemipnalgjnaaGreatProg
import Derived.Outline
import Derived.BigGuardPart
import Derived.Lib.MinMax
namespace Go.Proofs.YtfeemipnalgjnaaGreat
open Go.Lib

/-- a value: null, the number, the text -/
structure Va where
 b : Bool
 n : Int
 s : ByteArray
def Va.val (v : Va) : Value := .agg #[.bool v.b, .int .i64 v.n, .string v.s]
/-- the bounds of the machine -/
structure Va.Fine (v : Va) : Prop where
 lo : -9223372036854775808 ≤ v.n
 hi : v.n ≤ 9223372036854775807
 len : v.s.size ≤ 9223372036854775807
def empS (s : ByteArray) : Bool := s.toList.isEmpty
theorem empS_iff (s : ByteArray) : empS s = true ↔ s.size = 0 := by
 unfold empS
 rw [Lib.toList_data, List.isEmpty_iff]
 constructor
 ·
  intro h
  have : s.data.toList.length = 0 := by rw [h]; rfl
  simpa using this
 ·
  intro h
  exact List.eq_nil_of_length_eq_zero (by simpa using h)
theorem empS_mt : empS ⟨#[]⟩ = true := by rw [empS_iff]; rfl
theorem emp_eq {s : ByteArray} (h : empS s = true) : s = ⟨#[]⟩ := by
 rw [empS_iff] at h
 cases s with
 | mk d => 
  congr 1
  exact Array.eq_empty_of_size_eq_zero h
def okV (v : Va) (t : Int) : Bool :=
 if v.b then decide (1 ≤ t ∧ t ≤ 5) && (decide (v.n = 0) && empS v.s)
 else if t = 1 then decide (0 ≤ v.n ∧ v.n ≤ 1) && empS v.s
 else if t = 5 then decide (-1000000 ≤ v.n ∧ v.n ≤ 1000000) && empS v.s
 else if t = 2 then decide (-2147483648 ≤ v.n ∧ v.n ≤ 2147483647) && empS v.s
 else if t = 3 then empS v.s
 else if t = 4 then decide (v.n = 0) && decide (v.s.size ≤ 200)
 else false
end Go.Proofs.YtfeemipnalgjnaaGreat
namespace Go.Proofs.YtfeemipnalgjnaaGreat
open Go.RowKit Go.Lib

theorem val_al (w : World) (o : Obj) : Below w.heap.size w (w.alloc o) := (Below.refl _ _).alloc (Nat.le_refl _) _
theorem isType_any (t : Int) (z : Bool) (w : World) (hz : decide (1 ≤ t ∧ t ≤ 5) = z) : Calls Tryz.prog 92 #[.int .i64 t] w fun e w' => e = .returned (.bool z) ∧ w' = w := by
 by_cases h1 : 1 ≤ t
 ·
  by_cases h2 : t ≤ 5
  ·
   obtain rfl : z = true := by rw [← hz]; simp; omega
   clear hz
   go_enter Tryz.func92, Tryz.ntmps92
   go_wp2
   go_ret
   exact ⟨rfl, rfl⟩
  ·
   obtain rfl : z = false := by rw [← hz]; simp; omega
   clear hz
   go_enter Tryz.func92, Tryz.ntmps92
   go_wp2
   go_ret
   exact ⟨rfl, rfl⟩
 ·
  obtain rfl : z = false := by rw [← hz]; simp; omega
  clear hz
  go_enter Tryz.func92, Tryz.ntmps92
  go_wp2
  go_ret
  exact ⟨rfl, rfl⟩
theorem Valid_null (n : Int) (s : ByteArray) (t : Int) (w : World) (z : Bool) (hz : decide (1 ≤ t ∧ t ≤ 5) = z) : Calls Tryz.prog 73 #[.agg #[.bool true, .int .i64 n, .string s], .int .i64 t] w fun e w' => e = .returned (.bool (z && (decide (n = 0) && empS s))) ∧ Below w.heap.size w w' := by
 cases z with
 | true =>
  by_cases hn : n = 0
  ·
   subst hn
   go_enter Tryz.func73, Tryz.ntmps73
   go_wp2_with (go_at_call 92; refine (isType_any _ true _ hz).mono ?_; rintro e w' ⟨rfl, rfl⟩)
   go_ret
   exact ⟨by simp; rfl, val_al _ _⟩
  ·
   go_enter Tryz.func73, Tryz.ntmps73
   go_wp2_with (go_at_call 92; refine (isType_any _ true _ hz).mono ?_; rintro e w' ⟨rfl, rfl⟩)
   go_ret
   exact ⟨by simp [hn], val_al _ _⟩
 | false =>
  go_enter Tryz.func73, Tryz.ntmps73
  go_wp2_with (go_at_call 92; refine (isType_any _ false _ hz).mono ?_; rintro e w' ⟨rfl, rfl⟩)
  go_ret
  exact ⟨by simp, val_al _ _⟩
theorem Valid_bool (n : Int) (s : ByteArray) (w : World) (y : Bool) (hy : decide (0 ≤ n ∧ n ≤ 1) = y) : Calls Tryz.prog 73 #[.agg #[.bool false, .int .i64 n, .string s], .int .i64 1] w fun e w' => e = .returned (.bool (y && empS s)) ∧ Below w.heap.size w w' := by
 by_cases h1 : n < 0
 ·
  obtain rfl : y = false := by rw [← hy]; simp; omega
  clear hy
  go_enter Tryz.func73, Tryz.ntmps73
  go_wp2
  go_ret
  exact ⟨by simp, val_al _ _⟩
 ·
  by_cases h2 : n > 1
  ·
   obtain rfl : y = false := by rw [← hy]; simp; omega
   clear hy
   go_enter Tryz.func73, Tryz.ntmps73
   go_wp2
   go_ret
   exact ⟨by simp, val_al _ _⟩
  ·
   obtain rfl : y = true := by rw [← hy]; simp; omega
   clear hy
   have j1 : n ≤ 1000000 := by omega
   have j2 : -1000000 ≤ n := by omega
   have j3 : n ≤ 2147483647 := by omega
   have j4 : -2147483648 ≤ n := by omega
   go_enter Tryz.func73, Tryz.ntmps73
   go_wp2
   go_ret
   exact ⟨by simp; rfl, val_al _ _⟩
theorem Valid_day (n : Int) (s : ByteArray) (w : World) (y : Bool) (hy : decide (-1000000 ≤ n ∧ n ≤ 1000000) = y) : Calls Tryz.prog 73 #[.agg #[.bool false, .int .i64 n, .string s], .int .i64 5] w fun e w' => e = .returned (.bool (y && empS s)) ∧ Below w.heap.size w w' := by
 by_cases h1 : n < -1000000
 ·
  obtain rfl : y = false := by rw [← hy]; simp; omega
  clear hy
  go_enter Tryz.func73, Tryz.ntmps73
  go_wp2
  go_ret
  exact ⟨by simp, val_al _ _⟩
 ·
  by_cases h2 : n > 1000000
  ·
   obtain rfl : y = false := by rw [← hy]; simp; omega
   clear hy
   go_enter Tryz.func73, Tryz.ntmps73
   go_wp2
   go_ret
   exact ⟨by simp, val_al _ _⟩
  ·
   obtain rfl : y = true := by rw [← hy]; simp; omega
   clear hy
   have k3 : decide (n < -2147483648) = false := decide_eq_false (by omega)
   have k4 : decide (2147483647 < n) = false := decide_eq_false (by omega)
   go_enter Tryz.func73, Tryz.ntmps73
   go_wp2
   go_ret
   exact ⟨by simp; rfl, val_al _ _⟩
theorem Valid_small (n : Int) (s : ByteArray) (w : World) (y : Bool) (hy : decide (-2147483648 ≤ n ∧ n ≤ 2147483647) = y) : Calls Tryz.prog 73 #[.agg #[.bool false, .int .i64 n, .string s], .int .i64 2] w fun e w' => e = .returned (.bool (y && empS s)) ∧ Below w.heap.size w w' := by
 by_cases h1 : n < -2147483648
 ·
  obtain rfl : y = false := by rw [← hy]; simp; omega
  clear hy
  go_enter Tryz.func73, Tryz.ntmps73
  go_wp2
  go_ret
  exact ⟨by simp, val_al _ _⟩
 ·
  by_cases h2 : n > 2147483647
  ·
   obtain rfl : y = false := by rw [← hy]; simp; omega
   clear hy
   go_enter Tryz.func73, Tryz.ntmps73
   go_wp2
   go_ret
   exact ⟨by simp, val_al _ _⟩
  ·
   obtain rfl : y = true := by rw [← hy]; simp; omega
   clear hy
   go_enter Tryz.func73, Tryz.ntmps73
   go_wp2
   go_ret
   exact ⟨by simp; rfl, val_al _ _⟩
theorem Valid_int (n : Int) (s : ByteArray) (w : World) : Calls Tryz.prog 73 #[.agg #[.bool false, .int .i64 n, .string s], .int .i64 3] w fun e w' => e = .returned (.bool (empS s)) ∧ Below w.heap.size w w' := by
 go_enter Tryz.func73, Tryz.ntmps73
 go_wp2
 go_ret
 exact ⟨by simp; rfl, val_al _ _⟩
theorem Valid_text (n : Int) (s : ByteArray) (w : World) (y : Bool) (hy : (decide (n = 0) && decide (s.size ≤ 200)) = y) (hs : s.size ≤ 9223372036854775807) : Calls Tryz.prog 73 #[.agg #[.bool false, .int .i64 n, .string s], .int .i64 4] w fun e w' => e = .returned (.bool y) ∧ Below w.heap.size w w' := by
 by_cases h1 : n = 0
 ·
  subst h1
  obtain rfl : y = decide (s.size ≤ 200) := by rw [← hy]; simp
  clear hy
  go_enter Tryz.func73, Tryz.ntmps73
  go_wp2
  go_ret
  exact ⟨by simp; try omega, val_al _ _⟩
 ·
  obtain rfl : y = false := by rw [← hy]; simp [h1]
  clear hy
  go_enter Tryz.func73, Tryz.ntmps73
  go_wp2
  go_ret
  exact ⟨by simp, val_al _ _⟩
theorem Valid_else (n : Int) (s : ByteArray) (t : Int) (w : World) (ht : t < 1 ∨ 5 < t) : Calls Tryz.prog 73 #[.agg #[.bool false, .int .i64 n, .string s], .int .i64 t] w fun e w' => e = .returned (.bool false) ∧ Below w.heap.size w w' := by
 have i1 : ¬ t = 1 := by omega
 have i2 : ¬ t = 5 := by omega
 have i3 : ¬ t = 2 := by omega
 have i4 : ¬ t = 3 := by omega
 have i5 : ¬ t = 4 := by omega
 clear ht
 go_enter Tryz.func73, Tryz.ntmps73
 go_wp2
 go_ret
 exact ⟨by simp, val_al _ _⟩
/-- Valid. -/
theorem Valid_any (v : Va) (t : Int) (z : Bool) (w : World) (hz : okV v t = z) (hs : v.s.size ≤ 9223372036854775807) : Calls Tryz.prog 73 #[v.val, .int .i64 t] w fun e w' => e = .returned (.bool z) ∧ Below w.heap.size w w' := by
 subst hz
 obtain ⟨b, n, s⟩ := v
 unfold Va.val okV
 cases b with
 | true => simpa using Valid_null n s t w _ rfl
 | false =>
  by_cases h1 : t = 1
  ·
   subst h1; simpa using Valid_bool n s w _ rfl
  ·
   by_cases h5 : t = 5
   ·
    subst h5; simpa using Valid_day n s w _ rfl
   ·
    by_cases h2 : t = 2
    ·
     subst h2; simpa using Valid_small n s w _ rfl
    ·
     by_cases h3 : t = 3
     ·
      subst h3; simpa using Valid_int n s w
     ·
      by_cases h4 : t = 4
      ·
       subst h4; simpa using Valid_text n s w _ rfl hs
      ·
       simpa [h1, h2, h3, h4, h5] using Valid_else n s t w (by omega)
end Go.Proofs.YtfeemipnalgjnaaGreat
namespace Go.Proofs.YtfeemipnalgjnaaGreat
open Go.RowKit

theorem RType_any (t : Int) (z : Bool) (w : World) (hz : decide (1 ≤ t ∧ t ≤ 5) = z) : Calls Tryz.prog 59 #[.int .i64 t] w fun e w' => e = .returned (.bool z) ∧ w' = w := by
 subst hz
 by_cases h1 : 1 ≤ t
 ·
  by_cases h2 : t ≤ 5
  ·
   have e : decide (1 ≤ t ∧ t ≤ 5) = true := by simp [h1, h2]
   rw [e]
   clear e
   go_enter Tryz.func59, Tryz.ntmps59
   go_wp2
   go_ret
   exact ⟨by simp, rfl⟩
  ·
   have e : decide (1 ≤ t ∧ t ≤ 5) = false := by simp [h2]
   rw [e]
   clear e
   go_enter Tryz.func59, Tryz.ntmps59
   go_wp2
   go_ret
   exact ⟨by simp <;> omega, rfl⟩
 ·
  have e : decide (1 ≤ t ∧ t ≤ 5) = false := by simp [h1]
  rw [e]
  clear e
  go_enter Tryz.func59, Tryz.ntmps59
  go_wp2
  go_ret
  exact ⟨by simp, rfl⟩
theorem empS_eq (s : ByteArray) (q : Bool) (h : empS s = q) : (s.toList == []) = q := by
 rw [← h]
 unfold empS
 cases s.toList <;> rfl
theorem RValid_bool (n : Int) (s : ByteArray) (w : World) : Calls Tryz.prog 48 #[.agg #[.bool false, .int .i64 n, .string s], .int .i64 1] w fun e w' => e = .returned (.bool (decide (0 ≤ n ∧ n ≤ 1) && empS s)) ∧ Below w.heap.size w w' := by
 have hz : decide (1 ≤ (1 : Int) ∧ (1 : Int) ≤ 5) = true := by decide
 obtain ⟨q, hq⟩ : ∃ q, empS s = q := ⟨_, rfl⟩
 have he := empS_eq s q hq
 rw [hq]
 clear hq
 cases q
 ·
  rw [Bool.and_false]
  go_enter Tryz.func48, Tryz.ntmps48
  go_wp2_with (go_at_call 59; refine (RType_any _ true _ hz).mono ?_; rintro e w' ⟨rfl, rfl⟩)
  go_ret
  exact ⟨by simp, val_al _ _⟩
 ·
  rw [Bool.and_true]
  by_cases h1 : 0 ≤ n
  ·
   by_cases h2 : n ≤ 1
   ·
    rw [decide_eq_true (show 0 ≤ n ∧ n ≤ 1 from ⟨h1, h2⟩)]
    go_enter Tryz.func48, Tryz.ntmps48
    go_wp2_with (go_at_call 59; refine (RType_any _ true _ hz).mono ?_; rintro e w' ⟨rfl, rfl⟩)
    go_ret
    exact ⟨by simp, val_al _ _⟩
   ·
    rw [decide_eq_false (show ¬ (0 ≤ n ∧ n ≤ 1) from fun h => h2 h.2)]
    go_enter Tryz.func48, Tryz.ntmps48
    go_wp2_with (go_at_call 59; refine (RType_any _ true _ hz).mono ?_; rintro e w' ⟨rfl, rfl⟩)
    go_ret
    exact ⟨by simp <;> omega, val_al _ _⟩
  ·
   rw [decide_eq_false (show ¬ (0 ≤ n ∧ n ≤ 1) from fun h => h1 h.1)]
   have k1 : decide (0 ≤ n) = false := decide_eq_false h1
   have k2 : n < 0 := by omega
   go_enter Tryz.func48, Tryz.ntmps48
   go_wp2_with (go_at_call 59; refine (RType_any _ true _ hz).mono ?_; rintro e w' ⟨rfl, rfl⟩)
   go_ret
   exact ⟨by simp <;> omega, val_al _ _⟩
theorem RValid_small (n : Int) (s : ByteArray) (w : World) : Calls Tryz.prog 48 #[.agg #[.bool false, .int .i64 n, .string s], .int .i64 2] w fun e w' => e = .returned (.bool (decide (-2147483648 ≤ n ∧ n ≤ 2147483647) && empS s)) ∧ Below w.heap.size w w' := by
 have hz : decide (1 ≤ (2 : Int) ∧ (2 : Int) ≤ 5) = true := by decide
 obtain ⟨q, hq⟩ : ∃ q, empS s = q := ⟨_, rfl⟩
 have he := empS_eq s q hq
 rw [hq]
 clear hq
 cases q
 ·
  rw [Bool.and_false]
  go_enter Tryz.func48, Tryz.ntmps48
  go_wp2_with (go_at_call 59; refine (RType_any _ true _ hz).mono ?_; rintro e w' ⟨rfl, rfl⟩)
  go_ret
  exact ⟨by simp, val_al _ _⟩
 ·
  rw [Bool.and_true]
  by_cases h1 : -2147483648 ≤ n
  ·
   by_cases h2 : n ≤ 2147483647
   ·
    rw [decide_eq_true (show -2147483648 ≤ n ∧ n ≤ 2147483647 from ⟨h1, h2⟩)]
    go_enter Tryz.func48, Tryz.ntmps48
    go_wp2_with (go_at_call 59; refine (RType_any _ true _ hz).mono ?_; rintro e w' ⟨rfl, rfl⟩)
    go_ret
    exact ⟨by simp, val_al _ _⟩
   ·
    rw [decide_eq_false (show ¬ (-2147483648 ≤ n ∧ n ≤ 2147483647) from fun h => h2 h.2)]
    go_enter Tryz.func48, Tryz.ntmps48
    go_wp2_with (go_at_call 59; refine (RType_any _ true _ hz).mono ?_; rintro e w' ⟨rfl, rfl⟩)
    go_ret
    exact ⟨by simp <;> omega, val_al _ _⟩
  ·
   rw [decide_eq_false (show ¬ (-2147483648 ≤ n ∧ n ≤ 2147483647) from fun h => h1 h.1)]
   have k1 : decide (-2147483648 ≤ n) = false := decide_eq_false h1
   have k2 : n < -2147483648 := by omega
   go_enter Tryz.func48, Tryz.ntmps48
   go_wp2_with (go_at_call 59; refine (RType_any _ true _ hz).mono ?_; rintro e w' ⟨rfl, rfl⟩)
   go_ret
   exact ⟨by simp <;> omega, val_al _ _⟩
theorem RValid_day (n : Int) (s : ByteArray) (w : World) : Calls Tryz.prog 48 #[.agg #[.bool false, .int .i64 n, .string s], .int .i64 5] w fun e w' => e = .returned (.bool (decide (-1000000 ≤ n ∧ n ≤ 1000000) && empS s)) ∧ Below w.heap.size w w' := by
 have hz : decide (1 ≤ (5 : Int) ∧ (5 : Int) ≤ 5) = true := by decide
 obtain ⟨q, hq⟩ : ∃ q, empS s = q := ⟨_, rfl⟩
 have he := empS_eq s q hq
 rw [hq]
 clear hq
 cases q
 ·
  rw [Bool.and_false]
  go_enter Tryz.func48, Tryz.ntmps48
  go_wp2_with (go_at_call 59; refine (RType_any _ true _ hz).mono ?_; rintro e w' ⟨rfl, rfl⟩)
  go_ret
  exact ⟨by simp, val_al _ _⟩
 ·
  rw [Bool.and_true]
  by_cases h1 : -1000000 ≤ n
  ·
   by_cases h2 : n ≤ 1000000
   ·
    rw [decide_eq_true (show -1000000 ≤ n ∧ n ≤ 1000000 from ⟨h1, h2⟩)]
    go_enter Tryz.func48, Tryz.ntmps48
    go_wp2_with (go_at_call 59; refine (RType_any _ true _ hz).mono ?_; rintro e w' ⟨rfl, rfl⟩)
    go_ret
    exact ⟨by simp, val_al _ _⟩
   ·
    rw [decide_eq_false (show ¬ (-1000000 ≤ n ∧ n ≤ 1000000) from fun h => h2 h.2)]
    go_enter Tryz.func48, Tryz.ntmps48
    go_wp2_with (go_at_call 59; refine (RType_any _ true _ hz).mono ?_; rintro e w' ⟨rfl, rfl⟩)
    go_ret
    exact ⟨by simp <;> omega, val_al _ _⟩
  ·
   rw [decide_eq_false (show ¬ (-1000000 ≤ n ∧ n ≤ 1000000) from fun h => h1 h.1)]
   have k1 : decide (-1000000 ≤ n) = false := decide_eq_false h1
   have k2 : n < -1000000 := by omega
   go_enter Tryz.func48, Tryz.ntmps48
   go_wp2_with (go_at_call 59; refine (RType_any _ true _ hz).mono ?_; rintro e w' ⟨rfl, rfl⟩)
   go_ret
   exact ⟨by simp <;> omega, val_al _ _⟩
theorem RValid_null (n : Int) (s : ByteArray) (t : Int) (w : World) (hz : decide (1 ≤ t ∧ t ≤ 5) = true) : Calls Tryz.prog 48 #[.agg #[.bool true, .int .i64 n, .string s], .int .i64 t] w fun e w' => e = .returned (.bool (decide (n = 0) && empS s)) ∧ Below w.heap.size w w' := by
 obtain ⟨q, hq⟩ : ∃ q, empS s = q := ⟨_, rfl⟩
 have he := empS_eq s q hq
 rw [hq]
 clear hq
 by_cases hn : n = 0
 ·
  subst hn
  go_enter Tryz.func48, Tryz.ntmps48
  go_wp2_with (go_at_call 59; refine (RType_any _ true _ hz).mono ?_; rintro e w' ⟨rfl, rfl⟩)
  go_ret
  exact ⟨by simp, val_al _ _⟩
 ·
  go_enter Tryz.func48, Tryz.ntmps48
  go_wp2_with (go_at_call 59; refine (RType_any _ true _ hz).mono ?_; rintro e w' ⟨rfl, rfl⟩)
  go_ret
  exact ⟨by simp [hn], val_al _ _⟩
theorem RValid_out (b : Bool) (n : Int) (s : ByteArray) (t : Int) (w : World) (hz : decide (1 ≤ t ∧ t ≤ 5) = false) : Calls Tryz.prog 48 #[.agg #[.bool b, .int .i64 n, .string s], .int .i64 t] w fun e w' => e = .returned (.bool false) ∧ Below w.heap.size w w' := by
 go_enter Tryz.func48, Tryz.ntmps48
 go_wp2_with (go_at_call 59; refine (RType_any _ false _ hz).mono ?_; rintro e w' ⟨rfl, rfl⟩)
 go_ret
 exact ⟨by simp, val_al _ _⟩
theorem RValid_int (n : Int) (s : ByteArray) (w : World) : Calls Tryz.prog 48 #[.agg #[.bool false, .int .i64 n, .string s], .int .i64 3] w fun e w' => e = .returned (.bool (empS s)) ∧ Below w.heap.size w w' := by
 have hz : decide (1 ≤ (3 : Int) ∧ (3 : Int) ≤ 5) = true := by decide
 obtain ⟨q, hq⟩ : ∃ q, empS s = q := ⟨_, rfl⟩
 have he := empS_eq s q hq
 rw [hq]
 clear hq
 go_enter Tryz.func48, Tryz.ntmps48
 go_wp2_with (go_at_call 59; refine (RType_any _ true _ hz).mono ?_; rintro e w' ⟨rfl, rfl⟩)
 go_ret
 exact ⟨by simp, val_al _ _⟩
theorem RValid_text (n : Int) (s : ByteArray) (w : World) (hs : s.size ≤ 9223372036854775807) : Calls Tryz.prog 48 #[.agg #[.bool false, .int .i64 n, .string s], .int .i64 4] w fun e w' => e = .returned (.bool (decide (n = 0) && decide (s.size ≤ 200))) ∧ Below w.heap.size w w' := by
 have hz : decide (1 ≤ (4 : Int) ∧ (4 : Int) ≤ 5) = true := by decide
 by_cases hn : n = 0
 ·
  subst hn
  go_enter Tryz.func48, Tryz.ntmps48
  go_wp2_with (go_at_call 59; refine (RType_any _ true _ hz).mono ?_; rintro e w' ⟨rfl, rfl⟩)
  go_ret
  exact ⟨by simp; try omega, val_al _ _⟩
 ·
  go_enter Tryz.func48, Tryz.ntmps48
  go_wp2_with (go_at_call 59; refine (RType_any _ true _ hz).mono ?_; rintro e w' ⟨rfl, rfl⟩)
  go_ret
  exact ⟨by simp [hn], val_al _ _⟩
/-- the reference's Valid -/
theorem RValid_any (b : Bool) (n : Int) (s : ByteArray) (t : Int) (w : World) (hs : s.size ≤ 9223372036854775807) : Calls Tryz.prog 48 #[.agg #[.bool b, .int .i64 n, .string s], .int .i64 t] w fun e w' => e = .returned (.bool (okV ⟨b, n, s⟩ t)) ∧ Below w.heap.size w w' := by
 by_cases ht : 1 ≤ t ∧ t ≤ 5
 ·
  unfold okV
  cases b with
  | true => simpa [ht] using RValid_null n s t w (decide_eq_true ht)
  | false =>
   rcases (by omega : t = 1 ∨ t = 2 ∨ t = 3 ∨ t = 4 ∨ t = 5) with rfl | rfl | rfl | rfl | rfl
   ·
    simpa using RValid_bool n s w
   ·
    simpa using RValid_small n s w
   ·
    simpa using RValid_int n s w
   ·
    simpa using RValid_text n s w hs
   ·
    simpa using RValid_day n s w
 ·
  have e : okV ⟨b, n, s⟩ t = false := by
   rw [Bool.eq_false_iff]
   intro h
   unfold okV at h
   cases b <;> simp at h
   ·
    repeat' split at h
    all_goals first | omega | (simp at h; omega) | simp at h
   ·
    exact ht h.1
  rw [e]
  exact RValid_out b n s t w (decide_eq_false ht)
end Go.Proofs.YtfeemipnalgjnaaGreat
namespace Go.Proofs.YtfeemipnalgjnaaGreat
open Go.RowKit

theorem ok1 (n : Int) : okV ⟨false, n, ⟨#[]⟩⟩ 1 = decide (0 ≤ n ∧ n ≤ 1) := by unfold okV; simp [empS_mt]
theorem ok3 (n : Int) : okV ⟨false, n, ⟨#[]⟩⟩ 3 = true := by unfold okV; simp [empS_mt]
theorem okn (t : Int) : okV ⟨true, 0, ⟨#[]⟩⟩ t = decide (1 ≤ t ∧ t ≤ 5) := by unfold okV; simp [empS_mt]
theorem and1_i64 (n : Int) : bits .and .i64 n 1 = 0 ∨ bits .and .i64 n 1 = 1 := by
 show IntKind.i64.wrap ((BitVec.ofInt 64 n &&& BitVec.ofInt 64 1).toNat : Int) = 0 ∨ IntKind.i64.wrap ((BitVec.ofInt 64 n &&& BitVec.ofInt 64 1).toNat : Int) = 1
 have h : ((BitVec.ofInt 64 n) &&& BitVec.ofInt 64 1).toNat < 2 := by
  rw [BitVec.toNat_and]
  exact Nat.lt_of_le_of_lt Nat.and_le_right (by decide)
 rw [IntKind.wrap_i64]
 omega
theorem ok_fitB (z : Int) (h : z = 0 ∨ z = 1) : okV ⟨false, z, ⟨#[]⟩⟩ 1 = true := by rw [ok1]; rcases h with rfl | rfl <;> rfl
theorem ok_fit2 (z : Int) (h : -2147483648 ≤ z ∧ z ≤ 2147483647) : okV ⟨false, z, ⟨#[]⟩⟩ 2 = true := by unfold okV; simp [empS_mt, h.1, h.2]
theorem ok_fit5 (z : Int) (h : -1000000 ≤ z ∧ z ≤ 1000000) : okV ⟨false, z, ⟨#[]⟩⟩ 5 = true := by unfold okV; simp [empS_mt, h.1, h.2]
theorem ok_fit4 (s : ByteArray) (h : s.size ≤ 200) : okV ⟨false, 0, s⟩ 4 = true := by unfold okV; simp [h]
/-- what Fit and Made answer -/
def fitV (u : Va) (t : Int) : Va :=
 if u.b = true then ⟨true, 0, ⟨#[]⟩⟩ else if t = 1 then ⟨false, bits .and .i64 u.n 1, ⟨#[]⟩⟩ else if t = 2 then ⟨false, IntKind.i32.wrap u.n, ⟨#[]⟩⟩ else if t = 5 then ⟨false, u.n.tmod 1000001, ⟨#[]⟩⟩ else if t = 4 then ⟨false, 0, u.s.extract 0 (min (u.s.size : Int) 200).toNat⟩ else ⟨false, u.n, ⟨#[]⟩⟩
def mdV (u : Va) (t : Int) : Va := if 1 ≤ t ∧ t ≤ 5 then fitV u t else ⟨true, 0, ⟨#[]⟩⟩
theorem fit_ret {x : Va} {w w' : World} {b : Bool} {n : Int} {s : ByteArray} {t : Int} (hk : okV ⟨b, n, s⟩ t = true) (h0 : -9223372036854775808 ≤ n) (h1 : n ≤ 9223372036854775807) (h2 : s.size ≤ 200) (hx : (⟨b, n, s⟩ : Va) = x) (hb : ∃ o o', w' = (w.alloc o).alloc o') :
  (∃ u : Va, Ending.returned (.agg #[.bool b, .int .i64 n, .string s]) = Ending.returned u.val ∧ okV u t = true ∧ u.Fine ∧ u.s.size ≤ 200 ∧ u = x) ∧ ∃ o o', w' = (w.alloc o).alloc o' :=
 ⟨⟨⟨b, n, s⟩, rfl, hk, ⟨h0, h1, by show s.size ≤ _; omega⟩, h2, hx⟩, hb⟩
set_option maxHeartbeats 1000000 in
theorem Fit_w (b : Bool) (n : Int) (s : ByteArray) (t : Int) (w : World) (hv : Va.Fine ⟨b, n, s⟩) (hs : s.size ≤ 9223372036854775807) (ht : 1 ≤ t ∧ t ≤ 5) : Calls Tryz.prog 60 #[.agg #[.bool b, .int .i64 n, .string s], .int .i64 t] w fun e w' =>
  (∃ u : Va, e = .returned u.val ∧ okV u t = true ∧ u.Fine ∧ u.s.size ≤ 200 ∧ u = fitV ⟨b, n, s⟩ t) ∧ ∃ o o', w' = (w.alloc o).alloc o' := by
 have hlo := hv.lo
 have hhi := hv.hi
 simp only at hlo hhi
 clear hv
 cases b
 ·
  rcases (by omega : t = 1 ∨ t = 2 ∨ t = 5 ∨ t = 4 ∨ t = 3) with rfl | rfl | rfl | rfl | rfl
  ·
   have ha := and1_i64 n
   obtain ⟨z, hz⟩ : ∃ z, bits .and .i64 n 1 = z := ⟨_, rfl⟩
   rw [hz] at ha
   clear ht hlo hhi hs
   go_enter Tryz.func60, Tryz.ntmps60
   go_wp2
   refine bodyPost_ret (v := .agg #[.bool false, .int .i64 z, .string ⟨#[]⟩]) (by simp [results, Tryz.results60, go_sem]) rfl (fit_ret (ok_fitB z ha) (by omega) (by omega) (by decide) (by first | exact congrArg (fun z => Va.mk false z ⟨#[]⟩) hz.symm | exact congrArg (fun z => Va.mk false z ⟨#[]⟩) HZ.out.symm) ?_)
   exact ⟨_, _, rfl⟩
  ·
   obtain ⟨z, hz, hz2⟩ : ∃ z, IntKind.i32.wrap n = z ∧ -2147483648 ≤ z ∧ z ≤ 2147483647 := ⟨_, rfl, by rw [IntKind.wrap_i32]; omega⟩
   have hw : IntKind.i64.wrap z = z := by rw [IntKind.wrap_i64]; omega
   clear ht hlo hhi hs
   go_enter Tryz.func60, Tryz.ntmps60
   go_wp2
   refine bodyPost_ret (v := .agg #[.bool false, .int .i64 z, .string ⟨#[]⟩]) (by simp [results, Tryz.results60, go_sem]) rfl (fit_ret (ok_fit2 z hz2) (by omega) (by omega) (by decide) (by first | exact congrArg (fun z => Va.mk false z ⟨#[]⟩) hz.symm | exact congrArg (fun z => Va.mk false z ⟨#[]⟩) HZ.out.symm) ?_)
   exact ⟨_, _, rfl⟩
  ·
   obtain ⟨z, hz, hz2⟩ : ∃ z, n.tmod 1000001 = z ∧ -1000000 ≤ z ∧ z ≤ 1000000 := by
    refine ⟨_, rfl, ?_⟩
    have h1 := Int.tmod_lt_of_pos n (by decide : (0 : Int) < 1000001)
    have h2 := Int.lt_tmod_of_pos n (by decide : (0 : Int) < 1000001)
    omega
   clear ht hlo hhi hs
   go_enter Tryz.func60, Tryz.ntmps60
   go_wp2
   refine bodyPost_ret (v := .agg #[.bool false, .int .i64 z, .string ⟨#[]⟩]) (by simp [results, Tryz.results60, go_sem]) rfl (fit_ret (ok_fit5 z hz2) (by omega) (by omega) (by decide) (by first | exact congrArg (fun z => Va.mk false z ⟨#[]⟩) hz.symm | exact congrArg (fun z => Va.mk false z ⟨#[]⟩) HZ.out.symm) ?_)
   exact ⟨_, _, rfl⟩
  ·
   have hx : (s.extract 0 (min (s.size : Int) 200).toNat).size ≤ 200 := by simp [ByteArray.size_extract]; omega
   clear ht hlo hhi
   go_enter Tryz.func60, Tryz.ntmps60
   go_wp2
   refine bodyPost_ret (v := .agg #[.bool false, .int .i64 0, .string (s.extract 0 (min (s.size : Int) 200).toNat)]) (by simp [results, Tryz.results60, go_sem]) rfl (fit_ret (ok_fit4 _ hx) (by decide) (by decide) (by omega) rfl ?_)
   exact ⟨_, _, rfl⟩
  ·
   clear ht hs
   go_enter Tryz.func60, Tryz.ntmps60
   go_wp2
   refine bodyPost_ret (v := .agg #[.bool false, .int .i64 n, .string ⟨#[]⟩]) (by simp [results, Tryz.results60, go_sem]) rfl (fit_ret (ok3 n) hlo hhi (by decide) rfl ?_)
   exact ⟨_, _, rfl⟩
 ·
  have hk : okV ⟨true, 0, ⟨#[]⟩⟩ t = true := by rw [okn]; simpa using ht
  clear ht hlo hhi hs
  go_enter Tryz.func60, Tryz.ntmps60
  go_wp2
  refine bodyPost_ret (v := .agg #[.bool true, .int .i64 0, .string ⟨#[]⟩]) (by simp [results, Tryz.results60, go_sem]) rfl (fit_ret hk (by decide) (by decide) (by decide) rfl ?_)
  exact ⟨_, _, rfl⟩
/-- a value that fits the type, or null -/
def MadeV (u : Va) (t : Int) (e : Ending) : Prop := ∃ (ub : Bool) (un : Int) (us : ByteArray), e = .returned (.agg #[.bool ub, .int .i64 un, .string us]) ∧ (ub = true ∨ okV ⟨ub, un, us⟩ t = true) ∧ Va.Fine ⟨ub, un, us⟩ ∧ us.size ≤ 200 ∧ (⟨ub, un, us⟩ : Va) = mdV u t
/-- The reference's Made: a value that is valid for the type; null if it is no type. -/
theorem VMade_any (b : Bool) (n : Int) (s : ByteArray) (t : Int) (w : World) (hv : Va.Fine ⟨b, n, s⟩) (hs : s.size ≤ 9223372036854775807) : Calls Tryz.prog 36 #[.agg #[.bool b, .int .i64 n, .string s], .int .i64 t] w fun e w' =>
  MadeV ⟨b, n, s⟩ t e ∧ Below w.heap.size w w' := by
 by_cases ht : 1 ≤ t ∧ t ≤ 5
 ·
  have hz : decide (1 ≤ t ∧ t ≤ 5) = true := decide_eq_true ht
  have HT := Li ht
  have HV := Li hv
  clear ht hv
  go_enter Tryz.func36, Tryz.ntmps36
  go_wp2_with (first | (go_at_call 59; refine (RType_any _ true _ hz).mono ?_; rintro e w' ⟨rfl, rfl⟩) | (go_at_call 60; refine (Fit_w b n s t _ HV.out hs HT.out).mono ?_; rintro e w' ⟨⟨⟨ub, un, us⟩, rfl, h1, h2, h3, h4⟩, o, o', rfl⟩; simp only [Va.val]; have H1 := Li h1; have H2 := Li h2; have H3 := Li h3; have H4 := Li h4; clear h1 h2 h3 h4))
  refine bodyPost_ret (v := .agg #[.bool ub, .int .i64 un, .string us]) (by simp [results, Tryz.results36, go_sem]) rfl ⟨⟨ub, un, us, rfl, .inr H1.out, H2.out, H3.out, by rw [H4.out, mdV, if_pos HT.out]⟩, ?_⟩
  exact al4 _ _ _ _ _
 ·
  have hz : decide (1 ≤ t ∧ t ≤ 5) = false := decide_eq_false ht
  have HT := Li ht
  have HV := Li hv
  clear ht hv
  go_enter Tryz.func36, Tryz.ntmps36
  go_wp2_with (go_at_call 59; refine (RType_any _ false _ hz).mono ?_; rintro e w' ⟨rfl, rfl⟩)
  refine bodyPost_ret (v := .agg #[.bool true, .int .i64 0, .string ⟨#[]⟩]) (by simp [results, Tryz.results36, go_sem]) rfl ⟨⟨true, 0, ⟨#[]⟩, rfl, .inl rfl, ⟨by decide, by decide, by decide⟩, by decide, by rw [mdV, if_neg HT.out]⟩, al2 _ _ _⟩
end Go.Proofs.YtfeemipnalgjnaaGreat
namespace Go.Proofs.YtfeemipnalgjnaaGreat
open Go.RowKit

/-- a cell of a row: number, value -/
structure Ce where
 id : Int
 v : Va
def Ce.cells (c : Ce) : List Value := [.int .i64 c.id, .bool c.v.b, .int .i64 c.v.n, .string c.v.s]
def Ces (w : World) (B : Nat) (A : Option Addr) (l : List Ce) : Prop := RowAt 4 w B A (l.map Ce.cells)
section
variable {w w' : World} {B B' : Nat} {A : Option Addr} {l : List Ce} {f : Ce}
theorem Ces.nil : Ces w B A [] := RowAt.nil
theorem Ces.below (h : Ces w B A l) (hb : Below B w w') : Ces w' B A l := RowAt.below h hb
theorem Ces.more (h : Ces w B A l) (hB : B ≤ B') : Ces w B' A l := RowAt.more h hB
theorem Ces.up (h : Ces w w.heap.size A l) (hb : Below w.heap.size w w') : Ces w' w'.heap.size A l := RowAt.up h hb
theorem Ces.one (h : Ces w B A l) {i : Nat} (hi : l[i]? = some f) : ∃ b off, A = some ⟨b, off, none⟩ ∧ b < B ∧ w.cell? ⟨b, off + i * 4, none⟩ = some (.int .i64 f.id) ∧ w.cell? ⟨b, off + i * 4 + 1, none⟩ = some (.bool f.v.b) ∧
  w.cell? ⟨b, off + i * 4 + 2, none⟩ = some (.int .i64 f.v.n) ∧ w.cell? ⟨b, off + i * 4 + 3, none⟩ = some (.string f.v.s) := by
 obtain ⟨b, off, e, hlt, hc⟩ := RowAt.one h (vs := f.cells) (i := i) (by rw [List.getElem?_map, hi]; rfl)
 exact ⟨b, off, e, hlt, hc 0 _ rfl, hc 1 _ rfl, hc 2 _ rfl, hc 3 _ rfl⟩
end
theorem getE_of {l : List Ce} {k : Nat} (h : k < l.length) : ∃ f, l[k]? = some f := ⟨l[k], List.getElem?_eq_getElem h⟩

/-- whether cells fit, their numbers above last -/
def fitGo (l : List Fd) : Int → List Ce → Bool
 | _, [] => true
 | last, c :: r => if hasF l c.id = true ∧ last < (fieldD l c.id).id ∧ c.v.b = false ∧ okV c.v (fieldD l c.id).ty = true then fitGo l (fieldD l c.id).id r else false
theorem fit_go {l : List Fd} {r : List Ce} {k : Nat} {c : Ce} {last : Int} {z : Bool} (hd : r.drop k = c :: r.drop (k + 1)) (h : fitGo l last (r.drop k) = z) (hc : hasF l c.id = true ∧ last < (fieldD l c.id).id ∧ c.v.b = false ∧ okV c.v (fieldD l c.id).ty = true) : fitGo l (fieldD l c.id).id (r.drop (k + 1)) = z := by
 rw [← h, hd, fitGo, if_pos hc]
theorem fit_no {l : List Fd} {r : List Ce} {k : Nat} {c : Ce} {last : Int} {z : Bool} (hd : r.drop k = c :: r.drop (k + 1)) (h : fitGo l last (r.drop k) = z) (hc : ¬ (hasF l c.id = true ∧ last < (fieldD l c.id).id ∧ c.v.b = false ∧ okV c.v (fieldD l c.id).ty = true)) : z = false := by
 rw [← h, hd, fitGo, if_neg hc]

set_option maxHeartbeats 4000000 in
set_option maxRecDepth 20000 in
theorem Fits_any (A : Option Addr) (n c : Nat) (x : Int) (l : List Fd) (C : Option Addr) (m d : Nat) (r : List Ce) (w : World) (hn : n = l.length) (hs : Fds w w.heap.size A l) (hl : n ≤ 9223372036854775807) (hm : m = r.length) (hr : Ces w w.heap.size C r) (hml : m ≤ 9223372036854775807) (hsz : ∀ c ∈ r, c.v.s.size ≤ 9223372036854775807) :
  Calls Tryz.prog 43 #[.agg #[.slice A n c, .int .i64 x], .agg #[.slice C m d]] w fun e w' => e = .returned (.bool (fitGo l 0 r)) ∧ Below w.heap.size w w' := by
 have HN := Li hn
 have HS := Li hs
 have HM := Li hm
 have HR := Li hr
 have HZ := Li hsz
 clear hn hs hm hr hsz
 go_enter Tryz.func43, Tryz.ntmps43
 go_wp2
 go_loopw [5, 13] (fun la j wr => ∃ (k : Nat) (last : Int), k ≤ m ∧ la = .int .i64 last ∧ j = .int .i64 k ∧ Hid (CB wr w.heap.size 35 [.slice A n c, .int .i64 x]) ∧ Hid (Below w.heap.size w wr) ∧ Hid (fitGo l last (r.drop k) = fitGo l 0 r)) (fun _ j _ => m - (intOf j).toNat)
 case atStart => exact ⟨0, 0, by omega, rfl, rfl, (CB.new _ _ _).alloc _, al2 _ _ _, rfl⟩
 case round =>
  obtain ⟨k, last, hk, rfl, rfl, hcb, hbel, hgo⟩ := hrel
  have hz := hcb.out.lt
  have d0 := hcb.out.c2
  by_cases hlt : k < m
  ·
   have i1 : (k : Int) < (m : Int) := by omega
   obtain ⟨f, hf⟩ := getE_of (l := r) (k := k) (by rw [← HM.out]; exact hlt)
   obtain ⟨b, off, rfl, hb, c0, c1, c2, c3⟩ := (HR.out.below hbel.out).one hf
   have hd := Li (drop_cons hf)
   have hvs : f.v.s.size ≤ 9223372036854775807 := HZ.out f (List.mem_of_getElem? hf)
   have HS2 := Li ((HS.out.below (hbel.out.alloc (by omega) (.cells #[.int .i64 f.id, .bool f.v.b, .int .i64 f.v.n, .string f.v.s] 66))).more (show w.heap.size ≤ (wr.alloc (.cells #[.int .i64 f.id, .bool f.v.b, .int .i64 f.v.n, .string f.v.s] 66)).heap.size by rw [asz]; omega))
   clear hf
   obtain ⟨g, hg⟩ : ∃ g, fieldD l f.id = g := ⟨_, rfl⟩
   obtain ⟨ok, hok⟩ : ∃ ok, hasF l f.id = ok := ⟨_, rfl⟩
   obtain ⟨vv, hvv⟩ : ∃ vv, okV f.v g.ty = vv := ⟨_, rfl⟩
   obtain ⟨bb, hbb⟩ : ∃ bb, f.v.b = bb := ⟨_, rfl⟩
   obtain ⟨id, v⟩ := f
   obtain ⟨vb, vn, vs⟩ := v
   simp only at c0 c1 c2 c3 hbb hok hg hvs HS2
   subst hbb
   have HG := Li hg
   have HO := Li hok
   have HV := Li hvv
   clear hg hok hvv
   have hcase : Hid (∀ z, fitGo l last (r.drop k) = z → if ok = true ∧ last < g.id ∧ vb = false ∧ vv = true then fitGo l g.id (r.drop (k + 1)) = z else z = false) := fun z hz => by
    have e1 := HG.out
    have e2 := HO.out
    have e3 := HV.out
    subst e1 e2 e3
    split
    ·
     next h => exact fit_go hd.out hz h
    ·
     next h => exact fit_no hd.out hz h
   have hfin := Li (hcase.out _ hgo.out)
   clear hcase
   have farm : True := trivial
   cases ok with
   | false =>
    go_wp2_with (go_at_call 72; refine (Field_any _ n c x l id _ HN.out HS2.out hl).mono ?_; rintro e w5 ⟨rfl, hb5⟩; rw [HG.out, HO.out]; have HB5 := Li (below_step (hbel.out.alloc (by omega) _) (by rw [asz]; omega) hb5); have HZ5 := Li hb5.size; clear hb5)
    go_ret
    have hE := hfin.out
    rw [if_neg (by simp)] at hE
    refine ⟨by rw [hE]; rfl, HB5.out.alloc (by have := HZ5.out; rw [asz] at this; omega) _⟩
   | true =>
    by_cases hla : last < g.id
    ·
     have j1 : ¬ g.id ≤ last := by omega
     have j2 : decide (g.id ≤ last) = false := decide_eq_false j1
     cases vb with
     | true =>
      go_wp2_with (go_at_call 72; refine (Field_any _ n c x l id _ HN.out HS2.out hl).mono ?_; rintro e w5 ⟨rfl, hb5⟩; rw [HG.out, HO.out]; have HB5 := Li (below_step (hbel.out.alloc (by omega) _) (by rw [asz]; omega) hb5); have HZ5 := Li hb5.size; have q1 := ((CB.new wr 66 [.int .i64 id, .bool true, .int .i64 vn, .string vs]).up hb5).cell 1 rfl; have hzz := lt_al hb5; clear hb5)
      go_ret
      have hE := hfin.out
      rw [if_neg (by simp)] at hE
      refine ⟨by rw [hE]; rfl, HB5.out.alloc (by have := HZ5.out; rw [asz] at this; omega) _⟩
     | false =>
      cases vv with
      | false =>
       go_wp2_with (first | (go_at_call 72; refine (Field_any _ n c x l id _ HN.out HS2.out hl).mono ?_; rintro e w5 ⟨rfl, hb5⟩; rw [HG.out, HO.out]; have HB5 := Li (below_step (hbel.out.alloc (by omega) _) (by rw [asz]; omega) hb5); have HZ5 := Li hb5.size; have q1 := ((CB.new wr 66 [.int .i64 id, .bool false, .int .i64 vn, .string vs]).up hb5).cell 1 rfl; have q2 := ((CB.new wr 66 [.int .i64 id, .bool false, .int .i64 vn, .string vs]).up hb5).cell 2 rfl; have q3 := ((CB.new wr 66 [.int .i64 id, .bool false, .int .i64 vn, .string vs]).up hb5).cell 3 rfl; have hzz := lt_al hb5; have HC5 := Li ((hcb.out.alloc (.cells #[.int .i64 id, .bool false, .int .i64 vn, .string vs] 66)).up hb5); clear hb5) | (go_at_call 73; refine (Valid_any ⟨false, vn, vs⟩ g.ty false _ HV.out hvs).mono ?_; rintro e w6 ⟨rfl, hb6⟩; have HB6 := Li (below_step (HB5.out.alloc (by omega) _) (by rw [asz]; omega) hb6); have HC6 := Li ((HC5.out.alloc (.cells #[.int .i64 g.id, .string g.nm, .int .i64 g.ty, .int .i64 g.pa] 58)).up hb6); have p0 := ((CB.new w5 58 g.cells).up hb6).cell 0 rfl; clear hb6))
       go_ret
       have hE := hfin.out
       rw [if_neg (by simp)] at hE
       exact ⟨by rw [hE]; rfl, HB6.out⟩
      | true =>
       go_wp2_with (first | (go_at_call 72; refine (Field_any _ n c x l id _ HN.out HS2.out hl).mono ?_; rintro e w5 ⟨rfl, hb5⟩; rw [HG.out, HO.out]; have HB5 := Li (below_step (hbel.out.alloc (by omega) _) (by rw [asz]; omega) hb5); have HZ5 := Li hb5.size; have q1 := ((CB.new wr 66 [.int .i64 id, .bool false, .int .i64 vn, .string vs]).up hb5).cell 1 rfl; have q2 := ((CB.new wr 66 [.int .i64 id, .bool false, .int .i64 vn, .string vs]).up hb5).cell 2 rfl; have q3 := ((CB.new wr 66 [.int .i64 id, .bool false, .int .i64 vn, .string vs]).up hb5).cell 3 rfl; have hzz := lt_al hb5; have HC5 := Li ((hcb.out.alloc (.cells #[.int .i64 id, .bool false, .int .i64 vn, .string vs] 66)).up hb5); clear hb5) | (go_at_call 73; refine (Valid_any ⟨false, vn, vs⟩ g.ty true _ HV.out hvs).mono ?_; rintro e w6 ⟨rfl, hb6⟩; have HB6 := Li (below_step (HB5.out.alloc (by omega) _) (by rw [asz]; omega) hb6); have HC6 := Li ((HC5.out.alloc (.cells #[.int .i64 g.id, .string g.nm, .int .i64 g.ty, .int .i64 g.pa] 58)).up hb6); have p0 := ((CB.new w5 58 g.cells).up hb6).cell 0 rfl; clear hb6))
       go_roundw
       case rel =>
        have hE := hfin.out
        rw [if_pos (by simp; exact hla)] at hE
        exact ⟨k + 1, g.id, by omega, rfl, by go_num, HC6.out, HB6.out, hE⟩
       case measure => simp [intOf]; omega
    ·
     have j1 : g.id ≤ last := by omega
     go_wp2_with (go_at_call 72; refine (Field_any _ n c x l id _ HN.out HS2.out hl).mono ?_; rintro e w5 ⟨rfl, hb5⟩; rw [HG.out, HO.out]; have HB5 := Li (below_step (hbel.out.alloc (by omega) _) (by rw [asz]; omega) hb5); have HZ5 := Li hb5.size; have hzz := lt_al hb5; clear hb5)
     go_ret
     have hE := hfin.out
     rw [if_neg (fun h => by have := h.2.1; omega)] at hE
     refine ⟨by rw [hE]; rfl, HB5.out.alloc (by have := HZ5.out; rw [asz] at this; omega) _⟩
  ·
   have i1 : ¬ (k : Int) < (m : Int) := by omega
   go_wp2
   go_ret
   refine ⟨?_, hbel.out⟩
   rw [← hgo.out, List.drop_of_length_le (by rw [← HM.out]; omega)]
   rfl
end Go.Proofs.YtfeemipnalgjnaaGreat
