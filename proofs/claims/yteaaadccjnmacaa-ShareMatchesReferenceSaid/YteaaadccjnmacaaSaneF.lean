/-
  The examples of the law's sanity.
-/
import Derived.Test.YteaaadccjnmacaaSane
namespace Go.Proofs.Yteaaadccjnmacaa
open Go.RowKit

instance (l : List Sh) (need n : Nat) : Decidable (Fits l need n) := inferInstanceAs (Decidable (∀ s ∈ l.drop need, s.2 = interpB (l.take need) s.1 n))
def LW : List Sh := [(1, [6]), (2, [3]), (3, [0])]
theorem lw_is : ([(1, [6]), (2, [3]), (3, [0])] : List Sh) = LW := rfl
theorem f_split : splitL [5] [3] 2 3 = LW := by decide +kernel
theorem f_c2 : wfB [(3, [0]), (1, [6])] = true ∧ Fits [(3, [0]), (1, [6])] 2 1 ∧ interpB (([(3, [0]), (1, [6])] : List Sh).take 2) 0 1 = [5] := by decide +kernel
theorem f_c3 : wfB [(1, [6]), (2, [4]), (3, [0])] = true ∧ ¬ Fits [(1, [6]), (2, [4]), (3, [0])] 2 1 := by decide +kernel
theorem f_c0 : wfB [(0, [6])] = false := by decide +kernel
theorem f_r1 : wfB [(1, [6])] = true ∧ masks 1 [3] [(1, [6])] = [(1, [5])] := by decide +kernel
theorem f_mul : gmul 87 131 = 193 ∧ ginv 2 = 141 ∧ ginv 0 = 0 := by decide +kernel

theorem c_split (A B : Option Addr) (w : World) (h1 : Shows w w.heap.size A [5]) (h2 : Shows w w.heap.size B [3]) :
    Calls Try.prog 7 #[.slice A 1 1, .slice B 1 1, .agg #[.int .i64 2, .int .i64 3]] w fun e w' => ∃ g, e = .returned (.tuple #[.slice (some ⟨g, 0, none⟩) 3 3, .int .i64 0]) ∧ ShL w' w'.heap.size (some ⟨g, 0, none⟩) LW ∧ Below w.heap.size w w' := by
  have := split_any A 1 [5] B 1 [3] 2 3 w h1 (by decide) (by decide) h2 (by decide) (by decide) (by omega)
  rw [show (2 : Int).toNat = 2 from rfl, show (3 : Int).toNat = 3 from rfl, f_split] at this
  exact this
theorem c_comb2 (A : Option Addr) (w : World) (h : ShL w w.heap.size A [(3, [0]), (1, [6])]) :
    Calls Try.prog 9 #[.slice A 2 2, .int .i64 2] w fun e w' => ∃ g, e = .returned (.tuple #[.slice (some ⟨g, 0, none⟩) 1 1, .int .i64 0]) ∧ Blk w' g [5] ∧ Below w.heap.size w w' := by
  have := combine_ok A 2 2 [(3, [0]), (1, [6])] 2 1 w rfl h (by decide) (by decide) (by decide) (by decide) (by decide) (by decide) f_c2.1 (by decide) f_c2.2.1
  rw [f_c2.2.2] at this
  refine this.mono ?_
  rintro e w' ⟨g, h1, h2, _, h3⟩
  exact ⟨g, h1, h2, h3⟩
theorem c_comb3 (A : Option Addr) (w : World) (h : ShL w w.heap.size A [(1, [6]), (2, [4]), (3, [0])]) :
    Calls Try.prog 9 #[.slice A 3 3, .int .i64 2] w fun e w' => e = .returned (.tuple #[.slice none 0 0, .int .i64 40]) ∧ Below w.heap.size w w' :=
  combine_no A 3 3 [(1, [6]), (2, [4]), (3, [0])] 2 1 w rfl h (by decide) (by decide) (by decide) (by decide) (by decide) (by decide) f_c3.1 (by decide) f_c3.2
theorem c_comb1 (A : Option Addr) (w : World) (h : ShL w w.heap.size A [(1, [6])]) :
    Calls Try.prog 9 #[.slice A 1 1, .int .i64 2] w fun e w' => e = .returned (.tuple #[.slice none 0 0, .int .i64 40]) ∧ Below w.heap.size w w' :=
  combine_wf A 1 1 [(1, [6])] 2 w rfl h (by decide) (by decide) (by omega) (by omega) (.inr (by omega))
theorem c_comb0 (A : Option Addr) (w : World) (h : ShL w w.heap.size A [(0, [6])]) :
    Calls Try.prog 9 #[.slice A 1 1, .int .i64 1] w fun e w' => e = .returned (.tuple #[.slice none 0 0, .int .i64 40]) ∧ Below w.heap.size w w' :=
  combine_wf A 1 1 [(0, [6])] 1 w rfl h (by decide) (by decide) (by omega) (by omega) (.inl f_c0)
theorem c_refr (A B : Option Addr) (w : World) (h : ShL w w.heap.size A [(1, [6])]) (h2 : Shows w w.heap.size B [3]) :
    Calls Try.prog 11 #[.slice A 1 1, .slice B 1 1, .int .i64 2] w fun e w' => ∃ g, e = .returned (.tuple #[.slice (some ⟨g, 0, none⟩) 1 1, .int .i64 0]) ∧ ShL w' w'.heap.size (some ⟨g, 0, none⟩) [(1, [5])] ∧ Below w.heap.size w w' := by
  have := refresh_any A 1 1 [(1, [6])] B 1 1 [3] 2 w rfl rfl h (by decide) (by decide) h2 (by decide) (by decide) (by omega) (by omega) f_r1.1
  rw [show (2 : Int).toNat - 1 = 1 from rfl, f_r1.2] at this
  exact this
theorem c_mul (w : World) : Calls Try.prog 18 #[.int .u8 87, .int .u8 131] w fun e w' => e = .returned (.int .u8 193) ∧ Below w.heap.size w w' := by
  have := Mul_any 87 131 w
  rw [f_mul.1] at this
  exact this
theorem c_inv2 (w : World) : Calls Try.prog 19 #[.int .u8 2] w fun e w' => e = .returned (.int .u8 141) ∧ Below w.heap.size w w' := by
  have := Inv_any 2 w
  rw [f_mul.2.1] at this
  exact this
theorem c_inv0 (w : World) : Calls Try.prog 19 #[.int .u8 0] w fun e w' => e = .returned (.int .u8 0) ∧ Below w.heap.size w w' := by
  have := Inv_any 0 w
  rw [f_mul.2.2] at this
  exact this
theorem c_ss (A C : Option Addr) (n : Nat) (l : List Sh) (w : World) (hn : n = l.length) (hl : n ≤ 1000000) (h1 : ShL w w.heap.size A l) (h2 : ShL w w.heap.size C l) :
    Calls Try.prog 13 #[.slice A n n, .slice C n n] w fun e w' => e = .returned (.bool true) ∧ ∃ m, w' = w.drewN m := by
  have := SameShares_any A n n l C n n l w h1 h2 hn hn hl hl
  rw [decide_eq_true rfl] at this
  exact this
theorem c_same (A C : Option Addr) (l : List UInt8) (n : Nat) (w : World) (hn : n = l.length) (hl : n ≤ 1000000) (h1 : Shows w w.heap.size A l) (h2 : Shows w w.heap.size C l) :
    Calls Try.prog 14 #[.slice A n n, .slice C n n] w fun e w' => e = .returned (.bool true) ∧ ∃ m, w' = w.drewN m := by
  have := Same_any A n n l C n n l w h1 h2 hn hn (by omega) (by omega)
  rw [decide_eq_true rfl] at this
  exact this

theorem cW_split (w : World) : Calls Try.prog 7 #[.slice (some ⟨w.heap.size, 0, none⟩) 1 1, .slice (some ⟨w.heap.size + 1, 0, none⟩) 1 1, .agg #[.int .i64 2, .int .i64 3]] ((w.alloc (.cells #[.int .u8 5] 5)).alloc (.cells #[.int .u8 3] 5)) fun e w' => ∃ g, e = .returned (.tuple #[.slice (some ⟨g, 0, none⟩) 3 3, .int .i64 0]) ∧ ShL w' w'.heap.size (some ⟨g, 0, none⟩) LW ∧ Below w.heap.size w w' := by
  have s1 : Shows ((w.alloc (.cells #[.int .u8 5] 5)).alloc (.cells #[.int .u8 3] 5)) ((w.alloc (.cells #[.int .u8 5] 5)).alloc (.cells #[.int .u8 3] 5)).heap.size (some ⟨w.heap.size, 0, none⟩) [5] := ((show_1 w 5 5 rfl).below ((ba1 (w.alloc (.cells #[.int .u8 5] 5)) (.cells #[.int .u8 3] 5)).mono (by rw [hz]; exact Nat.le_refl _))).more (by rw [hz, hz]; omega)
  have s2 : Shows ((w.alloc (.cells #[.int .u8 5] 5)).alloc (.cells #[.int .u8 3] 5)) ((w.alloc (.cells #[.int .u8 5] 5)).alloc (.cells #[.int .u8 3] 5)).heap.size (some ⟨w.heap.size + 1, 0, none⟩) [3] := by
    have h := show_1 (w.alloc (.cells #[.int .u8 5] 5)) 3 3 rfl
    rw [hz] at h
    exact h.more (by rw [hz, hz]; exact Nat.le_refl _)
  refine (c_split _ _ ((w.alloc (.cells #[.int .u8 5] 5)).alloc (.cells #[.int .u8 3] 5)) s1 s2).mono ?_
  rintro e w' ⟨g, h1, h2, h3⟩
  exact ⟨g, h1, h2, step_al (ba2 w _ _) h3⟩

theorem cW_comb2 (w : World) : Calls Try.prog 9 #[.slice (some ⟨w.heap.size + 1 + 1, 0, none⟩) 2 2, .int .i64 2] (((w.alloc (.cells #[.int .u8 0] 5)).alloc (.cells #[.int .u8 6] 5)).alloc (.cells #[.int .u8 3, .slice (some ⟨w.heap.size, 0, none⟩) 1 1, .int .u8 1, .slice (some ⟨w.heap.size + 1, 0, none⟩) 1 1] 29)) fun e w' => (∃ g, e = .returned (.tuple #[.slice (some ⟨g, 0, none⟩) 1 1, .int .i64 0]) ∧ Blk w' g [5]) ∧ Below w.heap.size w w' := by
  have s1 : ShL (((w.alloc (.cells #[.int .u8 0] 5)).alloc (.cells #[.int .u8 6] 5)).alloc (.cells #[.int .u8 3, .slice (some ⟨w.heap.size, 0, none⟩) 1 1, .int .u8 1, .slice (some ⟨w.heap.size + 1, 0, none⟩) 1 1] 29)) (((w.alloc (.cells #[.int .u8 0] 5)).alloc (.cells #[.int .u8 6] 5)).alloc (.cells #[.int .u8 3, .slice (some ⟨w.heap.size, 0, none⟩) 1 1, .int .u8 1, .slice (some ⟨w.heap.size + 1, 0, none⟩) 1 1] 29)).heap.size (some ⟨w.heap.size + 1 + 1, 0, none⟩) _ := (shl_2 w 3 0 1 6 3 0 1 6 rfl rfl rfl rfl).more (by rw [hz, hz, hz]; exact Nat.le_refl _)
  refine (c_comb2 _ (((w.alloc (.cells #[.int .u8 0] 5)).alloc (.cells #[.int .u8 6] 5)).alloc (.cells #[.int .u8 3, .slice (some ⟨w.heap.size, 0, none⟩) 1 1, .int .u8 1, .slice (some ⟨w.heap.size + 1, 0, none⟩) 1 1] 29)) s1).mono ?_
  rintro e w' ⟨g, h1, h2, h3⟩
  exact ⟨⟨g, h1, h2⟩, step_al (ba3 w _ _ _) h3⟩

theorem cW_comb3 (w : World) : Calls Try.prog 9 #[.slice (some ⟨w.heap.size + 1 + 1 + 1, 0, none⟩) 3 3, .int .i64 2] ((((w.alloc (.cells #[.int .u8 6] 5)).alloc (.cells #[.int .u8 4] 5)).alloc (.cells #[.int .u8 0] 5)).alloc (.cells #[.int .u8 1, .slice (some ⟨w.heap.size, 0, none⟩) 1 1, .int .u8 2, .slice (some ⟨w.heap.size + 1, 0, none⟩) 1 1, .int .u8 3, .slice (some ⟨w.heap.size + 1 + 1, 0, none⟩) 1 1] 29)) fun e w' => e = .returned (.tuple #[.slice none 0 0, .int .i64 40]) ∧ Below w.heap.size w w' := by
  have s1 : ShL ((((w.alloc (.cells #[.int .u8 6] 5)).alloc (.cells #[.int .u8 4] 5)).alloc (.cells #[.int .u8 0] 5)).alloc (.cells #[.int .u8 1, .slice (some ⟨w.heap.size, 0, none⟩) 1 1, .int .u8 2, .slice (some ⟨w.heap.size + 1, 0, none⟩) 1 1, .int .u8 3, .slice (some ⟨w.heap.size + 1 + 1, 0, none⟩) 1 1] 29)) ((((w.alloc (.cells #[.int .u8 6] 5)).alloc (.cells #[.int .u8 4] 5)).alloc (.cells #[.int .u8 0] 5)).alloc (.cells #[.int .u8 1, .slice (some ⟨w.heap.size, 0, none⟩) 1 1, .int .u8 2, .slice (some ⟨w.heap.size + 1, 0, none⟩) 1 1, .int .u8 3, .slice (some ⟨w.heap.size + 1 + 1, 0, none⟩) 1 1] 29)).heap.size (some ⟨w.heap.size + 1 + 1 + 1, 0, none⟩) _ := (shl_3 w 1 6 2 4 3 0 1 6 2 4 3 0 rfl rfl rfl rfl rfl rfl).more (by rw [hz, hz, hz, hz]; exact Nat.le_refl _)
  refine (c_comb3 _ ((((w.alloc (.cells #[.int .u8 6] 5)).alloc (.cells #[.int .u8 4] 5)).alloc (.cells #[.int .u8 0] 5)).alloc (.cells #[.int .u8 1, .slice (some ⟨w.heap.size, 0, none⟩) 1 1, .int .u8 2, .slice (some ⟨w.heap.size + 1, 0, none⟩) 1 1, .int .u8 3, .slice (some ⟨w.heap.size + 1 + 1, 0, none⟩) 1 1] 29)) s1).mono ?_
  rintro e w' ⟨h1, h2⟩
  exact ⟨h1, step_al (ba4 w _ _ _ _) h2⟩

theorem cW_comb1 (w : World) : Calls Try.prog 9 #[.slice (some ⟨w.heap.size + 1, 0, none⟩) 1 1, .int .i64 2] ((w.alloc (.cells #[.int .u8 6] 5)).alloc (.cells #[.int .u8 1, .slice (some ⟨w.heap.size, 0, none⟩) 1 1] 29)) fun e w' => e = .returned (.tuple #[.slice none 0 0, .int .i64 40]) ∧ Below w.heap.size w w' := by
  have s1 : ShL ((w.alloc (.cells #[.int .u8 6] 5)).alloc (.cells #[.int .u8 1, .slice (some ⟨w.heap.size, 0, none⟩) 1 1] 29)) ((w.alloc (.cells #[.int .u8 6] 5)).alloc (.cells #[.int .u8 1, .slice (some ⟨w.heap.size, 0, none⟩) 1 1] 29)).heap.size (some ⟨w.heap.size + 1, 0, none⟩) _ := (shl_1 w 1 6 1 6 rfl rfl).more (by rw [hz, hz]; exact Nat.le_refl _)
  refine (c_comb1 _ ((w.alloc (.cells #[.int .u8 6] 5)).alloc (.cells #[.int .u8 1, .slice (some ⟨w.heap.size, 0, none⟩) 1 1] 29)) s1).mono ?_
  rintro e w' ⟨h1, h2⟩
  exact ⟨h1, step_al (ba2 w _ _) h2⟩

theorem cW_comb0 (w : World) : Calls Try.prog 9 #[.slice (some ⟨w.heap.size + 1, 0, none⟩) 1 1, .int .i64 1] ((w.alloc (.cells #[.int .u8 6] 5)).alloc (.cells #[.int .u8 0, .slice (some ⟨w.heap.size, 0, none⟩) 1 1] 29)) fun e w' => e = .returned (.tuple #[.slice none 0 0, .int .i64 40]) ∧ Below w.heap.size w w' := by
  have s1 : ShL ((w.alloc (.cells #[.int .u8 6] 5)).alloc (.cells #[.int .u8 0, .slice (some ⟨w.heap.size, 0, none⟩) 1 1] 29)) ((w.alloc (.cells #[.int .u8 6] 5)).alloc (.cells #[.int .u8 0, .slice (some ⟨w.heap.size, 0, none⟩) 1 1] 29)).heap.size (some ⟨w.heap.size + 1, 0, none⟩) _ := (shl_1 w 0 6 0 6 rfl rfl).more (by rw [hz, hz]; exact Nat.le_refl _)
  refine (c_comb0 _ ((w.alloc (.cells #[.int .u8 6] 5)).alloc (.cells #[.int .u8 0, .slice (some ⟨w.heap.size, 0, none⟩) 1 1] 29)) s1).mono ?_
  rintro e w' ⟨h1, h2⟩
  exact ⟨h1, step_al (ba2 w _ _) h2⟩

theorem cW_refr (w : World) : Calls Try.prog 11 #[.slice (some ⟨w.heap.size + 1, 0, none⟩) 1 1, .slice (some ⟨w.heap.size + 1 + 1, 0, none⟩) 1 1, .int .i64 2] (((w.alloc (.cells #[.int .u8 6] 5)).alloc (.cells #[.int .u8 1, .slice (some ⟨w.heap.size, 0, none⟩) 1 1] 29)).alloc (.cells #[.int .u8 3] 5)) fun e w' => ∃ g, e = .returned (.tuple #[.slice (some ⟨g, 0, none⟩) 1 1, .int .i64 0]) ∧ ShL w' w'.heap.size (some ⟨g, 0, none⟩) [(1, [5])] ∧ Below w.heap.size w w' := by
  have s1 : ShL (((w.alloc (.cells #[.int .u8 6] 5)).alloc (.cells #[.int .u8 1, .slice (some ⟨w.heap.size, 0, none⟩) 1 1] 29)).alloc (.cells #[.int .u8 3] 5)) (((w.alloc (.cells #[.int .u8 6] 5)).alloc (.cells #[.int .u8 1, .slice (some ⟨w.heap.size, 0, none⟩) 1 1] 29)).alloc (.cells #[.int .u8 3] 5)).heap.size (some ⟨w.heap.size + 1, 0, none⟩) _ := ((shl_1 w 1 6 1 6 rfl rfl).below ((ba1 ((w.alloc (.cells #[.int .u8 6] 5)).alloc (.cells #[.int .u8 1, .slice (some ⟨w.heap.size, 0, none⟩) 1 1] 29)) (.cells #[.int .u8 3] 5)).mono (by rw [hz, hz]; exact Nat.le_refl _))).more (by rw [hz, hz, hz]; omega)
  have s2 : Shows (((w.alloc (.cells #[.int .u8 6] 5)).alloc (.cells #[.int .u8 1, .slice (some ⟨w.heap.size, 0, none⟩) 1 1] 29)).alloc (.cells #[.int .u8 3] 5)) (((w.alloc (.cells #[.int .u8 6] 5)).alloc (.cells #[.int .u8 1, .slice (some ⟨w.heap.size, 0, none⟩) 1 1] 29)).alloc (.cells #[.int .u8 3] 5)).heap.size (some ⟨w.heap.size + 1 + 1, 0, none⟩) [3] := by
    have h := show_1 ((w.alloc (.cells #[.int .u8 6] 5)).alloc (.cells #[.int .u8 1, .slice (some ⟨w.heap.size, 0, none⟩) 1 1] 29)) 3 3 rfl
    rw [hz, hz] at h
    exact h.more (by rw [hz, hz, hz]; exact Nat.le_refl _)
  refine (c_refr _ _ (((w.alloc (.cells #[.int .u8 6] 5)).alloc (.cells #[.int .u8 1, .slice (some ⟨w.heap.size, 0, none⟩) 1 1] 29)).alloc (.cells #[.int .u8 3] 5)) s1 s2).mono ?_
  rintro e w' ⟨g, h1, h2, h3⟩
  exact ⟨g, h1, h2, step_al (ba3 w _ _ _) h3⟩

theorem cW_mul (w : World) : Calls Try.prog 18 #[.int .u8 87, .int .u8 131] ((((w.alloc (.cells #[.int .u8 6] 5)).alloc (.cells #[.int .u8 3] 5)).alloc (.cells #[.int .u8 0] 5)).alloc (.cells #[.int .u8 1, .slice (some ⟨w.heap.size, 0, none⟩) 1 1, .int .u8 2, .slice (some ⟨w.heap.size + 1, 0, none⟩) 1 1, .int .u8 3, .slice (some ⟨w.heap.size + 1 + 1, 0, none⟩) 1 1] 29)) fun e w' => e = .returned (.int .u8 193) ∧ ShL w' w'.heap.size (some ⟨w.heap.size + 1 + 1 + 1, 0, none⟩) LW ∧ Below w.heap.size w w' := by
  have s1 : ShL ((((w.alloc (.cells #[.int .u8 6] 5)).alloc (.cells #[.int .u8 3] 5)).alloc (.cells #[.int .u8 0] 5)).alloc (.cells #[.int .u8 1, .slice (some ⟨w.heap.size, 0, none⟩) 1 1, .int .u8 2, .slice (some ⟨w.heap.size + 1, 0, none⟩) 1 1, .int .u8 3, .slice (some ⟨w.heap.size + 1 + 1, 0, none⟩) 1 1] 29)) ((((w.alloc (.cells #[.int .u8 6] 5)).alloc (.cells #[.int .u8 3] 5)).alloc (.cells #[.int .u8 0] 5)).alloc (.cells #[.int .u8 1, .slice (some ⟨w.heap.size, 0, none⟩) 1 1, .int .u8 2, .slice (some ⟨w.heap.size + 1, 0, none⟩) 1 1, .int .u8 3, .slice (some ⟨w.heap.size + 1 + 1, 0, none⟩) 1 1] 29)).heap.size (some ⟨w.heap.size + 1 + 1 + 1, 0, none⟩) LW := (shl_3 w 1 6 2 3 3 0 1 6 2 3 3 0 rfl rfl rfl rfl rfl rfl).more (by rw [hz, hz, hz, hz]; exact Nat.le_refl _)
  refine (c_mul ((((w.alloc (.cells #[.int .u8 6] 5)).alloc (.cells #[.int .u8 3] 5)).alloc (.cells #[.int .u8 0] 5)).alloc (.cells #[.int .u8 1, .slice (some ⟨w.heap.size, 0, none⟩) 1 1, .int .u8 2, .slice (some ⟨w.heap.size + 1, 0, none⟩) 1 1, .int .u8 3, .slice (some ⟨w.heap.size + 1 + 1, 0, none⟩) 1 1] 29))).mono ?_
  rintro e w' ⟨h1, h2⟩
  exact ⟨h1, s1.up h2, step_al (ba4 w _ _ _ _) h2⟩
theorem lw_len : 3 = LW.length := rfl
theorem cW_ss (A C : Option Addr) (w : World) (h1 : ShL w w.heap.size A LW) (h2 : ShL w w.heap.size C LW) :
    Calls Try.prog 13 #[.slice A 3 3, .slice C 3 3] w fun e w' => e = .returned (.bool true) ∧ Below w.heap.size w w' := by
  refine (c_ss A C 3 LW w lw_len (by omega) h1 h2).mono ?_
  rintro e w' ⟨h3, m, rfl⟩
  exact ⟨h3, below_drewN (Below.refl _ _) m⟩
theorem cW_same (A : Option Addr) (w : World) (h : Shows w w.heap.size A [5]) :
    Calls Try.prog 14 #[.slice A 1 1, .slice (some ⟨w.heap.size, 0, none⟩) 1 1] (w.alloc (.cells #[.int .u8 5] 5)) fun e w' => e = .returned (.bool true) ∧ Below w.heap.size w w' := by
  refine (c_same A _ [5] 1 (w.alloc (.cells #[.int .u8 5] 5)) rfl (by omega) (h.up (ba1 w _)) ((show_1 w 5 5 rfl).more (by rw [hz]; exact Nat.le_refl _))).mono ?_
  rintro e w' ⟨h3, m, rfl⟩
  exact ⟨h3, below_drewN (ba1 w _) m⟩
theorem cW_ss1 (A : Option Addr) (w : World) (h : ShL w w.heap.size A [(1, [5])]) :
    Calls Try.prog 13 #[.slice A 1 1, .slice (some ⟨w.heap.size + 1, 0, none⟩) 1 1] ((w.alloc (.cells #[.int .u8 5] 5)).alloc (.cells #[.int .u8 1, .slice (some ⟨w.heap.size, 0, none⟩) 1 1] 29)) fun e w' => e = .returned (.bool true) ∧ Below w.heap.size w w' := by
  refine (c_ss A _ 1 [(1, [5])] ((w.alloc (.cells #[.int .u8 5] 5)).alloc (.cells #[.int .u8 1, .slice (some ⟨w.heap.size, 0, none⟩) 1 1] 29)) rfl (by omega) (h.up (ba2 w _ _)) ((shl_1 w 1 5 1 5 rfl rfl).more (by rw [hz, hz]; exact Nat.le_refl _))).mono ?_
  rintro e w' ⟨h3, m, rfl⟩
  exact ⟨h3, below_drewN (ba2 w _ _) m⟩
end Go.Proofs.Yteaaadccjnmacaa
