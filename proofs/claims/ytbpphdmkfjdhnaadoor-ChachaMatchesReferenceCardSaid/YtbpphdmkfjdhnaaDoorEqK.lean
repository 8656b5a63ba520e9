/-
  '==' of two keys.
-/
import Derived.Test.YtbpphdmkfjdhnaaDoorInitP
import Derived.ChangeKeysEq
import Derived.KernelRfl
namespace Go.Proofs.YtbpphdmkfjdhnaaDoor
open Go.RowKit

theorem eqItemsK_same (l : List UInt8) (w : World) (d : Nat) : ∀ is : List Nat, (∀ i ∈ is, i < l.length) → (Op.eqItems (d + 1) 5 1 (cb l).toArray (cb l).toArray is).run Tryd.prog w = .ok true w
  | [], _ => by simp [Op.eqItems]
  | i :: is, h => by
    have hi : i < l.length := h i (by simp)
    have hx : (cb l).toArray[i * 1]? = some (.int .u8 (l[i].toNat : Int)) := by simp [cb, hi]
    have hp := run_part_plain (P := Tryd.prog) (w := w) (e := 5) (by kernel_rfl) hx
    have he := run_equalIn_int (P := Tryd.prog) w d 5 .u8 .u8 (l[i].toNat : Int) (l[i].toNat : Int) Tryd.underlying5
    simp only [beq_self_eq_true] at he
    simp only [Op.eqItems, Sem.run_bind, hp, Result.andThen_ok, he, Bool.not_true, Bool.false_eq_true, if_false]
    exact eqItemsK_same l w d is (fun j hj => h j (by simp [hj]))

theorem equalK_same (l : List UInt8) (hl : l.length = 32) (w : World) : (Op.equal 26 (.agg (cb l).toArray) (.agg (cb l).toArray)).run Tryd.prog w = .ok true w := by
  obtain ⟨i, hi⟩ : ∃ i, Tryd.prog.info? 5 = some i := by
    have h5 := info5
    cases hi : Tryd.prog.info? 5 with
    | none => rw [hi] at h5; cases h5
    | some i => exact ⟨i, rfl⟩
  have e := run_equalIn_array (P := Tryd.prog) (w := w) 9999 (t := 26) (e := 5) (n := 32) (cb l).toArray (cb l).toArray Tryd.underlying26 hi
  refine Eq.trans e ?_
  have c : Tryd.prog.cellsOf 5 = 1 := by kernel_rfl
  rw [c]
  exact eqItemsK_same l w 9998 _ (fun i hi => by rw [hl]; simpa using hi)

theorem eqlK_same (l : List UInt8) (hl : l.length = 32) (w : World) : (binOp .eql 26 (.agg (cb l).toArray) (.agg (cb l).toArray)).run Tryd.prog w = .ok (.bool true) w := by
  show (do pure (.bool (← Op.equal 26 (.agg (cb l).toArray) (.agg (cb l).toArray))) : Sem Value).run _ _ = _
  simp only [Sem.run_bind, equalK_same l hl, Result.andThen_ok, Sem.run_pure]
theorem eqGuard_k (x y : Operand) (a b : Array Value) (w : World) : (eqGuard .eql 26 x y (.agg a) (.agg b)).run Tryd.prog w = .ok () w := by
  have e : Tryd.prog.eqGuardType Tryd.prog.depth 26 = false := by kernel_rfl
  simp [eqGuard, e]
end Go.Proofs.YtbpphdmkfjdhnaaDoor
