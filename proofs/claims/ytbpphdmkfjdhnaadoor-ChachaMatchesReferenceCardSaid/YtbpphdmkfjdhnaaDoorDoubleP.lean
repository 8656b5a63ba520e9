/-
  The program's double round, by a contract.
-/
import Derived.Test.YtbpphdmkfjdhnaaDoorQuartP
import Derived.Test.YtbpphdmkfjdhnaaDoorRows8
import Derived.LoopTactic
import Derived.Deep.LoopGhost
import Derived.Deep.Cut
import Derived.StillTailTactics
import Derived.Deep.DeepMust
namespace Go.Proofs.YtbpphdmkfjdhnaaDoor
open Go.RowKit

/-- What the package's variable rows holds. -/
structure GlobQ (w : World) : Prop where
  rows : ∀ k i, k < 8 → i < 4 → w.cell? ⟨1, k * 4 + i, none⟩ = some (.int .u8 (pick (q4 k) i))
  size : 1 < w.heap.size
theorem GlobQ.below {w w' : World} {B : Nat} (h : GlobQ w) (hb : Below B w w') (h2 : 1 < B) : GlobQ w' :=
  ⟨fun k i hk hi => (hb.cell (p := ⟨1, k * 4 + i, none⟩) h2).trans (h.rows k i hk hi), Nat.lt_of_lt_of_le h.size hb.size⟩
theorem GlobQ.up {w w' : World} (h : GlobQ w) (hb : Below w.heap.size w w') : GlobQ w' := h.below hb h.size
theorem GlobQ.drew {w : World} (h : GlobQ w) : GlobQ w.drew := ⟨h.rows, h.size⟩

/-- the table's cells -/
def qcells : List Value := (List.range 32).map fun j => Value.int .u8 (pick (q4 (j / 4)) (j % 4))
theorem GlobQ.range {w : World} (G : GlobQ w) : w.rangeAt 1 0 qcells := fun j v hv => by
  simp only [qcells, List.getElem?_map, Option.map_eq_some_iff] at hv
  obtain ⟨a, ha, rfl⟩ := hv
  obtain ⟨hj, e⟩ := List.getElem?_eq_some_iff.1 ha
  simp only [List.length_range, List.getElem_range] at hj e
  subst e
  have := G.rows (j / 4) (j % 4) (by omega) (by omega)
  rw [show j / 4 * 4 + j % 4 = j by omega] at this
  rw [Nat.zero_add]
  exact this
theorem info71 : (Tryd.prog.info? 71).map (·.size) = some 32 := by kernel_rfl
theorem info70 : (Tryd.prog.info? 70).map (·.size) = some 4 := by kernel_rfl
def qrow (k : Nat) : List Value := [.int .u8 (pick (q4 k) 0), .int .u8 (pick (q4 k) 1), .int .u8 (pick (q4 k) 2), .int .u8 (pick (q4 k) 3)]
theorem index_rows (k : Nat) (w : World) (hk : k < 8) : (Instr.index 71 (.agg qcells.toArray) (.int .i64 k)).run Tryd.prog w = .ok (.agg (qrow k).toArray) w := by
  obtain rfl | rfl | rfl | rfl | rfl | rfl | rfl | rfl : k = 0 ∨ k = 1 ∨ k = 2 ∨ k = 3 ∨ k = 4 ∨ k = 5 ∨ k = 6 ∨ k = 7 := by omega
  all_goals kernel_rfl
theorem qcells_len : qcells.length = 32 := rfl
theorem qrow_len (k : Nat) : (qrow k).length = 4 := rfl
/-- a row in block g -/
def QB4 (w : World) (g k : Nat) : Prop := w.heap[g]? = some (.cells (qrow k).toArray 70 (0, 0))
theorem QB4.cells {w : World} {g k : Nat} (h : QB4 w g k) : w.cell? ⟨g, 0, none⟩ = some (.int .u8 (pick (q4 k) 0)) ∧ w.cell? ⟨g, 1, none⟩ = some (.int .u8 (pick (q4 k) 1)) ∧ w.cell? ⟨g, 2, none⟩ = some (.int .u8 (pick (q4 k) 2)) ∧ w.cell? ⟨g, 3, none⟩ = some (.int .u8 (pick (q4 k) 3)) := by
  refine ⟨?_, ?_, ?_, ?_⟩ <;> exact cell_of_row _ _ _ _ _ (0, 0) h
theorem qrow_one (k : Nat) : ∀ u ∈ qrow k, u.oneCell' = true := by
  intro u hu
  simp only [qrow, List.mem_cons, List.not_mem_nil, or_false] at hu
  rcases hu with rfl | rfl | rfl | rfl <;> rfl
attribute [local irreducible] qrow qcells
set_option maxHeartbeats 1000000 in
set_option maxRecDepth 20000 in
theorem doubleP_any (g : Nat) (t : TypeId) (v : List UInt32) (w : World) (h : WB w g t v) (hl : v.length = 16) (G : GlobQ w) :
    Calls Tryd.prog 30 #[.pointer (some ⟨g, 0, none⟩)] w
      fun e w' => e = .returned (.tuple #[]) ∧ WB w' g t (quarters v 8) ∧ w.grownBy w' (some g) := by
  have HV := Lib.hid h
  have HL := Lib.hid hl
  have HG := Lib.hid G.range
  have HR := Lib.hid index_rows
  clear h hl G
  go_enter Tryd.func30, Tryd.ntmps30
  go_wp2_with ((with_reducible show wpList _ _ _ _ _ _); refine wpList_load_mid rfl 71 _ rfl 1 0 rfl qcells (.array 8 70) HG.out Tryd.underlying71 rfl (by rw [info71, qcells_len]) ?_)
  have hg0 := Lib.hid (World.grownBy.refl w (some g))
  go_loopw [5] (fun i wr => ∃ k : Nat, k ≤ 8 ∧ i = .int .i64 k ∧ Hid (WB wr g t (quarters v k)) ∧ Hid (w.grownBy wr (some g))) (fun i _ => 8 - (intOf i).toNat)
  case atStart => exact ⟨0, by omega, rfl, HV, hg0⟩
  case round =>
    obtain ⟨k, hk, rfl, hv, hg⟩ := hrel
    obtain ⟨wo, hwo⟩ : ∃ wo : World, wo = wr := ⟨_, rfl⟩
    subst hwo
    by_cases hlt : k < 8
    · have i1 : (k : Int) < 8 := by omega
      have hix := fun W => HR.out k W hlt
      go_wp2_with ((with_reducible show wpList _ _ _ _ _ _); refine wpList_store_all rfl 70 (.tmp 3) (.tmp 7) rfl wo.heap.size (qrow k) rfl rfl 70 #[Value.int IntKind.u8 0, Value.int IntKind.u8 0, Value.int IntKind.u8 0, Value.int IntKind.u8 0] 4 (heap_alloc_new wo _) info70 rfl (qrow_len k) (qrow_one k) ?_; intro w5 hb5 hg5 hz5)
      have hv5 : Hid (WB w5 g t (quarters v k)) := (hv.out.alloc _).grown hg5 (by have := hv.out.lt; simp; omega)
      have hg5' : Hid (w.grownBy w5 (some g)) := by
        have h1 := hg.out
        refine ⟨hg5.os.trans h1.os, hg5.tape.trans h1.tape, hg5.output.trans h1.output, Nat.le_trans h1.size (Nat.le_trans (by simp) hg5.size), fun i hi hn => ?_⟩
        have hlt' := h1.size
        exact (hg5.block i (by simp; omega) (by simp; omega)).trans ((Below.heap_alloc _ _ _ (by omega)).trans (h1.block i hi hn))
      obtain ⟨c0, c1, c2, c3⟩ := QB4.cells hb5
      obtain ⟨b0, b1, b2, b3⟩ := (show pick (q4 k) 0 < 16 ∧ pick (q4 k) 1 < 16 ∧ pick (q4 k) 2 < 16 ∧ pick (q4 k) 3 < 16 from ⟨(q4_ok k hlt).2 0 (by decide), (q4_ok k hlt).2 1 (by decide), (q4_ok k hlt).2 2 (by decide), (q4_ok k hlt).2 3 (by decide)⟩)
      have j0 : ((pick (q4 k) 0 : Nat) : Int) < 16 := by omega
      have j1 : ((pick (q4 k) 1 : Nat) : Int) < 16 := by omega
      have j2 : ((pick (q4 k) 2 : Nat) : Int) < 16 := by omega
      have j3 : ((pick (q4 k) 3 : Nat) : Int) < 16 := by omega
      have BB := Lib.hid (And.intro b0 (And.intro b1 (And.intro b2 b3)))
      clear hb5 hg5 hz5 b0 b1 b2 b3 hix HG
      go_still_tail 20, (by kernel_rfl)
      change wpList _ _ _ _ _ w5.drew
      go_wp2_with (go_at_call 38; refine (quartP_any g (pick (q4 k) 0) (pick (q4 k) 1) (pick (q4 k) 2) (pick (q4 k) 3) t (quarters v k) w5.drew hv5.out.drew (by rw [quarters_len, HL.out]; exact BB.out.1) (by rw [quarters_len, HL.out]; exact BB.out.2.1) (by rw [quarters_len, HL.out]; exact BB.out.2.2.1) (by rw [quarters_len, HL.out]; exact BB.out.2.2.2)).mono ?_; rintro e w6 ⟨rfl, hv6, hg6⟩)
      go_roundw
      case rel => exact ⟨k + 1, by omega, by go_num, hv6, grown_trans (b := w5.drew) ⟨hg5'.out.os, hg5'.out.tape, hg5'.out.output, hg5'.out.size, hg5'.out.block⟩ hg6⟩
      case measure => simp [intOf]; omega
    · have hk8 : k = 8 := by omega
      rw [hk8] at hv
      go_wp2
      go_end0
      exact ⟨rfl, hv.out, hg.out⟩
end Go.Proofs.YtbpphdmkfjdhnaaDoor
