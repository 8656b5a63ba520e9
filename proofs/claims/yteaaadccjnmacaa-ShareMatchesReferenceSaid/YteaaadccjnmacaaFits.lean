/-
  The law's fits, by a contract.
-/
import Derived.Test.YteaaadccjnmacaaBox
import Derived.Test.YteaaadccjnmacaaSane
import Derived.Deep.RegionHeld3
import Derived.Laws.ResultCell
namespace Go.Proofs.Yteaaadccjnmacaa
open Go.RowKit

theorem info30 : (Try.prog.info? 25).map (·.size) = some 2 := by kernel_rfl
set_option maxHeartbeats 2000000 in
set_option maxRecDepth 20000 in
theorem fits_any (A B : Option Addr) (n c m d p q : Nat) (x y : UInt8) (w : World) (hp : p = x.toNat % 8) (hq : q = y.toNat % 9) (hn : n ≤ 9223372036854775807) (hm : m ≤ 9223372036854775807) :
    Calls Try.prog 15 #[.agg #[.slice A n c, .slice B m d, .int .u8 (x.toNat : Int), .int .u8 (y.toNat : Int)]] w
      fun e w' => e = .returned (.tuple #[.agg #[.int .i64 (1 + (p : Int)), .int .i64 (1 + (p : Int) + (q : Int))], .bool (decide (n ≤ 40) && decide (m ≤ 400))]) ∧ Below w.heap.size w w' := by
  have hx := x.toNat_lt
  have hy := y.toNat_lt
  have e1 : (x.toNat : Int).tmod 8 = (p : Int) := by rw [Int.tmod_eq_emod_of_nonneg (by omega)]; omega
  have e2 : (y.toNat : Int).tmod 9 = (q : Int) := by rw [Int.tmod_eq_emod_of_nonneg (by omega)]; omega
  have hp8 : p ≤ 7 := by omega
  have hq8 : q ≤ 8 := by omega
  clear hp hq
  have g1 : ∀ cs : Array Value, ((w.alloc (.cells #[.slice A n c, .slice B m d, .int .u8 (x.toNat : Int), .int .u8 (y.toNat : Int)] 24)).alloc (.cells cs 25)).cell? ⟨w.heap.size, 0, none⟩ = some (.slice A n c) ∧ ((w.alloc (.cells #[.slice A n c, .slice B m d, .int .u8 (x.toNat : Int), .int .u8 (y.toNat : Int)] 24)).alloc (.cells cs 25)).cell? ⟨w.heap.size, 1, none⟩ = some (.slice B m d) ∧ ((w.alloc (.cells #[.slice A n c, .slice B m d, .int .u8 (x.toNat : Int), .int .u8 (y.toNat : Int)] 24)).alloc (.cells cs 25)).cell? ⟨w.heap.size, 3, none⟩ = some (.int .u8 (y.toNat : Int)) := by
    intro cs
    have h := (Below.heap_alloc (w.alloc (.cells #[.slice A n c, .slice B m d, .int .u8 (x.toNat : Int), .int .u8 (y.toNat : Int)] 24)) (.cells cs 25) w.heap.size (by simp)).trans (heap_alloc_new w _)
    exact ⟨cell_of_row _ w.heap.size 0 _ _ (0, 0) h, cell_of_row _ w.heap.size 1 _ _ (0, 0) h, cell_of_row _ w.heap.size 3 _ _ (0, 0) h⟩
  have hb2 : ∀ cs : Array Value, Hid (Below w.heap.size w ((w.alloc (.cells #[.slice A n c, .slice B m d, .int .u8 (x.toNat : Int), .int .u8 (y.toNat : Int)] 24)).alloc (.cells cs 25))) := fun cs => ba2 w _ _
  have z1 : IntKind.i64.wrap (y.toNat : Int) = (y.toNat : Int) := IntWalk.i64_in _ ⟨by omega, by omega⟩
  have z2 : IntKind.i64.wrap (1 + (p : Int) + (q : Int)) = 1 + (p : Int) + (q : Int) := IntWalk.i64_in _ ⟨by omega, by omega⟩
  by_cases h1 : n ≤ 40
  · have j1 : (n : Int) ≤ 40 := by omega
    by_cases h2 : m ≤ 400
    · have j2 : (m : Int) ≤ 400 := by omega
      have hdb : (decide (n ≤ 40) && decide (m ≤ 400)) = true := by simp [h1, h2]
      go_enter Try.func15, Try.ntmps15
      go_wp2
      go_region_held3 (fun w' => w'.cell? ⟨w.heap.size, 0, none⟩ = some (.slice A n c) ∧ w'.cell? ⟨w.heap.size, 1, none⟩ = some (.slice B m d) ∧ w'.cell? ⟨w.heap.size, 3, none⟩ = some (.int .u8 (y.toNat : Int))) (first | exact g1 _) (fail)
      go_wp2
      have hnew : ((w.alloc (.cells #[.slice A n c, .slice B m d, .int .u8 (x.toNat : Int), .int .u8 (y.toNat : Int)] 24)).alloc (.cells #[.int .i64 (1 + (p : Int)), .int .i64 (1 + (p : Int) + (q : Int))] 25)).drew.heap[w.heap.size + 1]? = some (.cells #[.int .i64 (1 + (p : Int)), .int .i64 (1 + (p : Int) + (q : Int))] 25 (0, 0)) := by
        have h := heap_alloc_new (w.alloc (.cells #[.slice A n c, .slice B m d, .int .u8 (x.toNat : Int), .int .u8 (y.toNat : Int)] 24)) (.cells #[.int .i64 (1 + (p : Int)), .int .i64 (1 + (p : Int) + (q : Int))] 25)
        rw [hz] at h
        exact h
      refine bodyPost_ret (v := .tuple #[.agg #[.int .i64 (1 + (p : Int)), .int .i64 (1 + (p : Int) + (q : Int))], .bool true]) ?_ rfl ⟨by rw [hdb], (hb2 _).out.drew⟩
      rw [results_cell_tmp Try.results15]
      simp [asAddr, run_loadVar_row _ _ _ _ _ (0, 0) _ hnew Try.underlying25 rfl (by rw [info30]; rfl)]
    · have j2 : ¬ (m : Int) ≤ 400 := by omega
      have hdb : (decide (n ≤ 40) && decide (m ≤ 400)) = false := by simp [h1, h2]
      go_enter Try.func15, Try.ntmps15
      go_wp2
      go_region_held3 (fun w' => w'.cell? ⟨w.heap.size, 0, none⟩ = some (.slice A n c) ∧ w'.cell? ⟨w.heap.size, 1, none⟩ = some (.slice B m d) ∧ w'.cell? ⟨w.heap.size, 3, none⟩ = some (.int .u8 (y.toNat : Int))) (first | exact g1 _) (fail)
      go_wp2
      have hnew : ((w.alloc (.cells #[.slice A n c, .slice B m d, .int .u8 (x.toNat : Int), .int .u8 (y.toNat : Int)] 24)).alloc (.cells #[.int .i64 (1 + (p : Int)), .int .i64 (1 + (p : Int) + (q : Int))] 25)).drew.heap[w.heap.size + 1]? = some (.cells #[.int .i64 (1 + (p : Int)), .int .i64 (1 + (p : Int) + (q : Int))] 25 (0, 0)) := by
        have h := heap_alloc_new (w.alloc (.cells #[.slice A n c, .slice B m d, .int .u8 (x.toNat : Int), .int .u8 (y.toNat : Int)] 24)) (.cells #[.int .i64 (1 + (p : Int)), .int .i64 (1 + (p : Int) + (q : Int))] 25)
        rw [hz] at h
        exact h
      refine bodyPost_ret (v := .tuple #[.agg #[.int .i64 (1 + (p : Int)), .int .i64 (1 + (p : Int) + (q : Int))], .bool false]) ?_ rfl ⟨by rw [hdb], (hb2 _).out.drew⟩
      rw [results_cell_tmp Try.results15]
      simp [asAddr, run_loadVar_row _ _ _ _ _ (0, 0) _ hnew Try.underlying25 rfl (by rw [info30]; rfl)]
      omega
  · have j1 : ¬ (n : Int) ≤ 40 := by omega
    have j3 : decide ((n : Int) ≤ 40) = false := decide_eq_false j1
    have j4 : 40 < n := by omega
    have j5 : decide (n ≤ 40) = false := decide_eq_false h1
    have hdb : (decide (n ≤ 40) && decide (m ≤ 400)) = false := by simp [h1]
    go_enter Try.func15, Try.ntmps15
    go_wp2
    go_region
    go_wp2
    have hnew : ((w.alloc (.cells #[.slice A n c, .slice B m d, .int .u8 (x.toNat : Int), .int .u8 (y.toNat : Int)] 24)).alloc (.cells #[.int .i64 (1 + (p : Int)), .int .i64 (1 + (p : Int) + (q : Int))] 25)).drew.heap[w.heap.size + 1]? = some (.cells #[.int .i64 (1 + (p : Int)), .int .i64 (1 + (p : Int) + (q : Int))] 25 (0, 0)) := by
      have h := heap_alloc_new (w.alloc (.cells #[.slice A n c, .slice B m d, .int .u8 (x.toNat : Int), .int .u8 (y.toNat : Int)] 24)) (.cells #[.int .i64 (1 + (p : Int)), .int .i64 (1 + (p : Int) + (q : Int))] 25)
      rw [hz] at h
      exact h
    refine bodyPost_ret (v := .tuple #[.agg #[.int .i64 (1 + (p : Int)), .int .i64 (1 + (p : Int) + (q : Int))], .bool false]) ?_ rfl ⟨by rw [hdb], (hb2 _).out.drew⟩
    rw [results_cell_tmp Try.results15]
    simp [asAddr, run_loadVar_row _ _ _ _ _ (0, 0) _ hnew Try.underlying25 rfl (by rw [info30]; rfl)]
end Go.Proofs.Yteaaadccjnmacaa
