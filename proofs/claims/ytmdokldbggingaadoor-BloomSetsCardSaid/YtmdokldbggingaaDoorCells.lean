/-
  A block of words in memory.
-/
import Derived.Test.YtmdokldbggingaaDoorWord
import Derived.Test.YtmdokldbggingaaDoorMem
import Derived.Deep.Draws
namespace Go.Proofs.YtmdokldbggingaaDoor
open Go.RowKit

/-- words as cells -/
def cw (v : List UInt32) : List Value := v.map fun x => Value.int .u32 (wd x)
theorem cw_len (v : List UInt32) : (cw v).length = v.length := by simp [cw]
theorem cw_app (v r : List UInt32) : cw (v ++ r) = cw v ++ cw r := by simp [cw]
theorem cw_set (v : List UInt32) (i : Nat) (x : UInt32) : cw (v.set i x) = (cw v).set i (.int .u32 (wd x)) := by simp [cw, List.map_set]
theorem cw_get (v : List UInt32) (i : Nat) (h : i < v.length) : (cw v)[i]? = some (.int .u32 (wd (at_ v i))) := by
  simp [cw, at_, h]

/-- Block g holds just the words v, and is not frozen. -/
def WB (w : World) (g : Nat) (t : TypeId) (v : List UInt32) : Prop := w.heap[g]? = some (.cells (cw v).toArray t (0, 0))
section
variable {w w' : World} {g : Nat} {t : TypeId} {v : List UInt32}
theorem WB.lt (h : WB w g t v) : g < w.heap.size := (Array.getElem?_eq_some_iff.1 h).1
theorem WB.cell (h : WB w g t v) (i : Nat) (hi : i < v.length) : w.cell? ⟨g, i, none⟩ = some (.int .u32 (wd (at_ v i))) := by
  rw [cell_of_row w g i _ t (0, 0) h, List.getElem?_toArray, cw_get v i hi]
theorem WB.frozen (h : WB w g t v) (i : Nat) : w.frozen? ⟨g, i, none⟩ = false := by
  unfold WB at h
  simp [World.frozen?, h]
theorem WB.drew (h : WB w g t v) : WB w.drew g t v := h
theorem WB.drewN (h : WB w g t v) (n : Nat) : WB (w.drewN n) g t v := h
theorem WB.alloc (h : WB w g t v) (o : Obj) : WB (w.alloc o) g t v := (Below.heap_alloc w o g h.lt).trans h
theorem WB.set_ (h : WB w g t v) (i : Nat) (x : UInt32) : WB (w.setCell ⟨g, i, none⟩ (.int .u32 (wd x))) g t (v.set i x) := by
  unfold WB at h ⊢
  simp [World.setCell, Array.getElem?_modify, h, cw_set]
theorem WB.far (h : WB w g t v) {p : Addr} (hp : g ≠ p.block) (u : Value) : WB (w.setCell p u) g t v := (Below.heap_setCell w p u g hp).trans h
theorem WB.below {B : Nat} (h : WB w g t v) (hb : Below B w w') (hg : g < B) : WB w' g t v := (hb.block g hg).trans h
theorem WB.up (h : WB w g t v) (hb : Below w.heap.size w w') : WB w' g t v := h.below hb h.lt
theorem WB.grown {row : Option Nat} (h : WB w g t v) (hb : w.grownBy w' row) (hg : some g ≠ row) : WB w' g t v := (hb.block g h.lt hg).trans h
end

/-- Block g begins with the words v, some tail follows; it is not frozen. -/
def WR (w : World) (g : Nat) (t : TypeId) (v : List UInt32) (tail : List Value) : Prop := w.heap[g]? = some (.cells (cw v ++ tail).toArray t (0, 0))
section
variable {w w' : World} {g : Nat} {t : TypeId} {v : List UInt32} {tail : List Value}
theorem WB.wr (h : WB w g t v) : WR w g t v [] := by
  unfold WR
  rw [List.append_nil]
  exact h
theorem WR.wb (h : WR w g t v []) : WB w g t v := by
  unfold WR at h
  rw [List.append_nil] at h
  exact h
theorem WR.lt (h : WR w g t v tail) : g < w.heap.size := (Array.getElem?_eq_some_iff.1 h).1
theorem WR.cell (h : WR w g t v tail) (i : Nat) (hi : i < v.length) : w.cell? ⟨g, i, none⟩ = some (.int .u32 (wd (at_ v i))) := by
  rw [cell_of_row w g i _ t (0, 0) h, List.getElem?_toArray, List.getElem?_append_left (by rw [cw_len]; exact hi), cw_get v i hi]
theorem WR.frozen (h : WR w g t v tail) (i : Nat) : w.frozen? ⟨g, i, none⟩ = false := by
  unfold WR at h
  simp [World.frozen?, h]
theorem WR.drew (h : WR w g t v tail) : WR w.drew g t v tail := h
theorem WR.alloc (h : WR w g t v tail) (o : Obj) : WR (w.alloc o) g t v tail := (Below.heap_alloc w o g h.lt).trans h
theorem WR.set_ (h : WR w g t v tail) (i : Nat) (x : UInt32) (hi : i < v.length) : WR (w.setCell ⟨g, i, none⟩ (.int .u32 (wd x))) g t (v.set i x) tail := by
  unfold WR at h ⊢
  have e : cw (v.set i x) ++ tail = (cw v ++ tail).set i (.int .u32 (wd x)) := by rw [cw_set, List.set_append_left _ _ (by rw [cw_len]; exact hi)]
  simp [World.setCell, Array.getElem?_modify, h, e]
theorem WR.below {B : Nat} (h : WR w g t v tail) (hb : Below B w w') (hg : g < B) : WR w' g t v tail := (hb.block g hg).trans h
theorem WR.up (h : WR w g t v tail) (hb : Below w.heap.size w w') : WR w' g t v tail := h.below hb h.lt
theorem WR.grown {row : Option Nat} (h : WR w g t v tail) (hb : w.grownBy w' row) (hg : some g ≠ row) : WR w' g t v tail := (hb.block g h.lt hg).trans h
end

theorem grown_set (w : World) (g i : Nat) (u : Value) : w.grownBy (w.setCell ⟨g, i, none⟩ u) (some g) :=
  ⟨rfl, rfl, rfl, by simp [World.setCell], fun k _ hk => Below.heap_setCell w _ u k (fun e => hk (by rw [e]))⟩
theorem grown_setd (w : World) (g i : Nat) (u : Value) : w.grownBy (w.setCell ⟨g, i, none⟩ u).drew (some g) := 
  ⟨rfl, rfl, rfl, by simp [World.setCell, World.drew], fun k _ hk => Below.heap_setCell w _ u k (fun e => hk (by rw [e]))⟩
theorem grown_step {a b c : World} {g : Option Nat} (h : a.grownBy b g) (k : b.grownBy c g) : a.grownBy c g :=
  ⟨k.os.trans h.os, k.tape.trans h.tape, k.output.trans h.output, Nat.le_trans h.size k.size, fun i hi hn => (k.block i (Nat.lt_of_lt_of_le hi h.size) hn).trans (h.block i hi hn)⟩
end Go.Proofs.YtmdokldbggingaaDoor
