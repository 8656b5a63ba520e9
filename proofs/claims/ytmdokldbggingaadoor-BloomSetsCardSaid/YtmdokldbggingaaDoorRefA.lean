/-
  The reference's start and rows, by contracts; appends of words.
-/
import Derived.Test.YtmdokldbggingaaDoorMixR
import Derived.Test.YtmdokldbggingaaDoorSpec
import Derived.Test.YtmdokldbggingaaDoorRows8
namespace Go.Proofs.YtmdokldbggingaaDoor
open Go.RowKit

attribute [local go_sem] wd_add wd_addw wd_xor wd_or wd_not

theorem start_any (w : World) : Calls Tryd.prog 58 #[] w fun e w' => e = .returned (.slice (some ⟨w.heap.size, 0, none⟩) 8 8) ∧ WB w' w.heap.size 74 IV ∧ Below w.heap.size w w' ∧ w'.heap.size = w.heap.size + 1 := by
  go_enter Tryd.func58, Tryd.ntmps58
  go_wp2
  go_ret
  exact ⟨rfl, heap_alloc_new w _, (Below.refl _ _).alloc (Nat.le_refl _) _, by simp⟩

/-- new blocks, one after the other -/
def allocs : World → List Obj → World
  | w, [] => w
  | w, o :: r => allocs (w.alloc o) r
theorem allocs_size : ∀ (os : List Obj) (w : World), (allocs w os).heap.size = w.heap.size + os.length
  | [], _ => rfl
  | o :: r, w => by rw [allocs, allocs_size r]; simp; omega
theorem allocs_old : ∀ (os : List Obj) (w : World) (k : Nat), k < w.heap.size → (allocs w os).heap[k]? = w.heap[k]?
  | [], _, _, _ => rfl
  | o :: r, w, k, h => by rw [allocs, allocs_old r _ k (by simp; omega), Below.heap_alloc w o k h]
theorem allocs_new : ∀ (os : List Obj) (w : World) (k : Nat) (o : Obj), os[k]? = some o → (allocs w os).heap[w.heap.size + k]? = some o
  | [], _, k, o, h => by simp at h
  | o' :: r, w, 0, o, h => by
    simp at h
    subst h
    rw [allocs, allocs_old r _ _ (by simp)]
    exact heap_alloc_new w _
  | o' :: r, w, k + 1, o, h => by
    rw [allocs, show w.heap.size + (k + 1) = (w.alloc o').heap.size + k by simp; omega]
    exact allocs_new r _ k o (by simpa using h)
theorem allocs_below : ∀ (os : List Obj) (w w0 : World) (B : Nat), Below B w0 w → B ≤ w.heap.size → Below B w0 (allocs w os)
  | [], _, _, _, h, _ => h
  | o :: r, w, _, _, h, hB => allocs_below r _ _ _ (h.alloc hB o) (by simp; omega)

/-- The reference's table: block g holds ten slices, over the ten blocks from base on. -/
structure TB (w : World) (g base : Nat) : Prop where
  rows : ∀ r, r < 10 → w.cell? ⟨g, r, none⟩ = some (.slice (some ⟨base + r, 0, none⟩) 16 16)
  cells : ∀ r i, r < 10 → i < 16 → w.cell? ⟨base + r, i, none⟩ = some (.int .i64 (pick (row r) i))
theorem TB.grown {w w' : World} {g base : Nat} (h : TB w g base) {k : Nat} (hb : w.grownBy w' (some k)) (hg : g < w.heap.size) (hk : base + 10 ≤ w.heap.size) (h1 : k < base) (h2 : base ≤ g) : TB w' g base :=
  ⟨fun r hr => (World.cell?_of_block (a := ⟨g, r, none⟩) (hb.block g hg (by simp; omega))).trans (h.rows r hr),
   fun r i hr hi => (World.cell?_of_block (a := ⟨base + r, i, none⟩) (hb.block (base + r) (by omega) (by simp; omega))).trans (h.cells r i hr hi)⟩

def rowObjs : List Obj := [
  Obj.cells #[.int .i64 0, .int .i64 1, .int .i64 2, .int .i64 3, .int .i64 4, .int .i64 5, .int .i64 6, .int .i64 7, .int .i64 8, .int .i64 9, .int .i64 10, .int .i64 11, .int .i64 12, .int .i64 13, .int .i64 14, .int .i64 15] 3,
  Obj.cells #[.int .i64 14, .int .i64 10, .int .i64 4, .int .i64 8, .int .i64 9, .int .i64 15, .int .i64 13, .int .i64 6, .int .i64 1, .int .i64 12, .int .i64 0, .int .i64 2, .int .i64 11, .int .i64 7, .int .i64 5, .int .i64 3] 3,
  Obj.cells #[.int .i64 11, .int .i64 8, .int .i64 12, .int .i64 0, .int .i64 5, .int .i64 2, .int .i64 15, .int .i64 13, .int .i64 10, .int .i64 14, .int .i64 3, .int .i64 6, .int .i64 7, .int .i64 1, .int .i64 9, .int .i64 4] 3,
  Obj.cells #[.int .i64 7, .int .i64 9, .int .i64 3, .int .i64 1, .int .i64 13, .int .i64 12, .int .i64 11, .int .i64 14, .int .i64 2, .int .i64 6, .int .i64 5, .int .i64 10, .int .i64 4, .int .i64 0, .int .i64 15, .int .i64 8] 3,
  Obj.cells #[.int .i64 9, .int .i64 0, .int .i64 5, .int .i64 7, .int .i64 2, .int .i64 4, .int .i64 10, .int .i64 15, .int .i64 14, .int .i64 1, .int .i64 11, .int .i64 12, .int .i64 6, .int .i64 8, .int .i64 3, .int .i64 13] 3,
  Obj.cells #[.int .i64 2, .int .i64 12, .int .i64 6, .int .i64 10, .int .i64 0, .int .i64 11, .int .i64 8, .int .i64 3, .int .i64 4, .int .i64 13, .int .i64 7, .int .i64 5, .int .i64 15, .int .i64 14, .int .i64 1, .int .i64 9] 3,
  Obj.cells #[.int .i64 12, .int .i64 5, .int .i64 1, .int .i64 15, .int .i64 14, .int .i64 13, .int .i64 4, .int .i64 10, .int .i64 0, .int .i64 7, .int .i64 6, .int .i64 3, .int .i64 9, .int .i64 2, .int .i64 8, .int .i64 11] 3,
  Obj.cells #[.int .i64 13, .int .i64 11, .int .i64 7, .int .i64 14, .int .i64 12, .int .i64 1, .int .i64 3, .int .i64 9, .int .i64 5, .int .i64 0, .int .i64 15, .int .i64 4, .int .i64 8, .int .i64 6, .int .i64 2, .int .i64 10] 3,
  Obj.cells #[.int .i64 6, .int .i64 15, .int .i64 14, .int .i64 9, .int .i64 11, .int .i64 3, .int .i64 0, .int .i64 8, .int .i64 12, .int .i64 2, .int .i64 13, .int .i64 7, .int .i64 1, .int .i64 4, .int .i64 10, .int .i64 5] 3,
  Obj.cells #[.int .i64 10, .int .i64 2, .int .i64 8, .int .i64 4, .int .i64 7, .int .i64 6, .int .i64 1, .int .i64 5, .int .i64 15, .int .i64 11, .int .i64 9, .int .i64 14, .int .i64 3, .int .i64 12, .int .i64 13, .int .i64 0] 3]
def tableObj (base : Nat) : Obj := Obj.cells #[.slice (some ⟨base, 0, none⟩) 16 16, .slice (some ⟨base + 1, 0, none⟩) 16 16, .slice (some ⟨base + 1 + 1, 0, none⟩) 16 16, .slice (some ⟨base + 1 + 1 + 1, 0, none⟩) 16 16, .slice (some ⟨base + 1 + 1 + 1 + 1, 0, none⟩) 16 16, .slice (some ⟨base + 1 + 1 + 1 + 1 + 1, 0, none⟩) 16 16, .slice (some ⟨base + 1 + 1 + 1 + 1 + 1 + 1, 0, none⟩) 16 16, .slice (some ⟨base + 1 + 1 + 1 + 1 + 1 + 1 + 1, 0, none⟩) 16 16, .slice (some ⟨base + 1 + 1 + 1 + 1 + 1 + 1 + 1 + 1, 0, none⟩) 16 16, .slice (some ⟨base + 1 + 1 + 1 + 1 + 1 + 1 + 1 + 1 + 1, 0, none⟩) 16 16] 60
theorem rowObjs_eq : rowObjs = ROWS.map fun s => Obj.cells (s.map fun n : Nat => Value.int .i64 (n : Int)).toArray 3 := rfl
theorem tableObj_eq (base : Nat) : tableObj base = Obj.cells ((List.range 10).map fun r => Value.slice (some ⟨base + r, 0, none⟩) 16 16).toArray 60 := rfl

theorem table_tb (w : World) : TB (allocs w (rowObjs ++ [tableObj w.heap.size])) (w.heap.size + 10) w.heap.size := by
  have hl : rowObjs.length = 10 := rfl
  constructor
  · intro r hr
    have h : (allocs w (rowObjs ++ [tableObj w.heap.size])).heap[w.heap.size + 10]? = some (Obj.cells ((List.range 10).map fun r => Value.slice (some ⟨w.heap.size + r, 0, none⟩) 16 16).toArray 60) := by
      rw [← tableObj_eq]
      exact allocs_new _ w 10 (tableObj w.heap.size) rfl
    rw [cell_of_row _ _ r _ _ (0, 0) h]
    simp [hr]
  · intro r i hr hi
    obtain ⟨hrl, _⟩ := row_ok r hr
    have hR : ROWS[r]? = some (row r) := by
      have : r < ROWS.length := hr
      unfold row
      simp [List.getD, this]
    have h := allocs_new (rowObjs ++ [tableObj w.heap.size]) w r (Obj.cells ((row r).map fun n : Nat => Value.int .i64 (n : Int)).toArray 3) (by
      rw [List.getElem?_append_left (by rw [hl]; exact hr)]
      rw [rowObjs_eq, List.getElem?_map, hR]
      rfl)
    rw [cell_of_row _ _ i _ _ (0, 0) h]
    simp [pick, hrl, hi]

set_option maxRecDepth 20000 in
set_option maxHeartbeats 2000000 in
theorem rows_any (w : World) : Calls Tryd.prog 61 #[] w fun e w' => e = .returned (.slice (some ⟨w.heap.size + 10, 0, none⟩) 10 10) ∧ TB w' (w.heap.size + 10) w.heap.size ∧ Below w.heap.size w w' ∧ w'.heap.size = w.heap.size + 11 := by
  go_enter Tryd.func61, Tryd.ntmps61
  go_wp2
  go_ret
  exact ⟨rfl, table_tb w, allocs_below (rowObjs ++ [tableObj w.heap.size]) w w _ (Below.refl _ _) (Nat.le_refl _), allocs_size (rowObjs ++ [tableObj w.heap.size]) w⟩

end Go.Proofs.YtmdokldbggingaaDoor
