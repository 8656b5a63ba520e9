/-
  The program's isK, isValid, number: by contracts.
-/
import Derived.Test.YtmdokldbggingaaDoorPop
import Derived.Test.YtmdokldbggingaaDoorHd
import Derived.Test.YtmdokldbggingaaDoorWordsP
import Derived.LoopTactic
namespace Go.Proofs.YtmdokldbggingaaDoor
open Go.RowKit

def isKB (K : Int) : Bool := decide (1 ≤ K ∧ K ≤ 16)
theorem isK_any (K : Int) (w : World) : Calls Tryd.prog 32 #[.int .i64 K] w fun e w' => e = .returned (.bool (isKB K)) ∧ w' = w := by
  by_cases h1 : (1 : Int) ≤ K
  · by_cases h2 : K ≤ 16
    · have e : Hid (isKB K = true) := Li (decide_eq_true ⟨h1, h2⟩)
      go_enter Tryd.func32, Tryd.ntmps32
      go_wp2
      go_ret
      exact ⟨by rw [e.out]; rfl, rfl⟩
    · have e : Hid (isKB K = false) := Li (decide_eq_false (fun h => h2 h.2))
      have h3 : decide (K ≤ 16) = false := decide_eq_false h2
      go_enter Tryd.func32, Tryd.ntmps32
      go_wp2
      go_ret
      exact ⟨by rw [e.out]; rfl, rfl⟩
  · have e : Hid (isKB K = false) := Li (decide_eq_false (fun h => h1 h.1))
    have h3 : decide ((1 : Int) ≤ K) = false := decide_eq_false h1
    go_enter Tryd.func32, Tryd.ntmps32
    go_wp2
    go_ret
    exact ⟨by rw [e.out]; rfl, rfl⟩
def validB (K : Int) (n : Nat) : Bool := isKB K && powB n
theorem isValid_any (K : Int) (A : Option Addr) (n c : Nat) (w : World) (hn : n ≤ 9223372036854775807) :
    Calls Tryd.prog 26 #[.agg #[.int .i64 K, .slice A n c]] w fun e w' => e = .returned (.bool (validB K n)) ∧ w' = w.alloc (.cells #[.int .i64 K, .slice A n c] 24) := by
  obtain ⟨b, hb⟩ : ∃ b, isKB K = b := ⟨_, rfl⟩
  have HB := Li hb
  cases b with
  | false =>
    have e : Hid (validB K n = false) := Li (by unfold validB; rw [hb]; rfl)
    clear hb
    go_enter Tryd.func26, Tryd.ntmps26
    go_wp2_with (go_at_call 32; refine (isK_any K _).mono ?_; rintro e w' ⟨rfl, rfl⟩; rw [HB.out])
    go_ret
    exact ⟨by rw [e.out]; rfl, rfl⟩
  | true =>
    by_cases h1 : n ≤ 65536
    · have e : Hid (validB K n = (((popN n : Nat) : Int) == 1)) := Li (by
        unfold validB
        rw [hb, Bool.true_and, ← pop_pow h1]
        have : ∀ m : Nat, (m == 1) = ((m : Int) == 1) := fun m => by
          by_cases h : m = 1
          · subst h; rfl
          · rw [beq_false_of_ne h, beq_false_of_ne (by omega)]
        exact this _)
      have i1 : (n : Int) ≤ 65536 := by omega
      have i0 : (0 : Int) ≤ (n : Int) := by omega
      clear hb
      go_enter Tryd.func26, Tryd.ntmps26
      go_wp2_with (first | (go_at_call 32; refine (isK_any K _).mono ?_; rintro e w' ⟨rfl, rfl⟩; rw [HB.out]) | (go_at_call 39; refine (pop_any n _ h1).mono ?_; rintro e w' ⟨rfl, rfl⟩))
      go_ret
      exact ⟨by rw [e.out]; rfl, rfl⟩
    · have e : Hid (validB K n = false) := Li (by
        unfold validB
        cases hp : powB n
        · simp
        · exact absurd (pow_le hp).2 h1)
      have i1 : decide ((n : Int) ≤ 65536) = false := decide_eq_false (by omega)
      clear hb
      go_enter Tryd.func26, Tryd.ntmps26
      go_wp2_with (go_at_call 32; refine (isK_any K _).mono ?_; rintro e w' ⟨rfl, rfl⟩; rw [HB.out])
      go_ret
      exact ⟨by rw [e.out]; rfl, rfl⟩
end Go.Proofs.YtmdokldbggingaaDoor
