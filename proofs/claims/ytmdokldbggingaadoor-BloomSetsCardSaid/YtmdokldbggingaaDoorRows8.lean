/-
  A whole array loaded from a block, and stored into one. Plain theorems; no function of the dump.
-/
import Derived.Test.YtmdokldbggingaaDoorCells
import Derived.Deep.MidRow
namespace Go.Proofs.YtmdokldbggingaaDoor
open Go.RowKit

theorem setCell_cells {w : World} {b o : Nat} {t : TypeId} {cs : Array Value} (v : Value) (h : w.heap[b]? = some (.cells cs t (0, 0))) : (w.setCell ⟨b, o, none⟩ v).heap[b]? = some (.cells (cs.setIfInBounds o v) t (0, 0)) := by
  simp [World.setCell, Array.getElem?_modify, h]

theorem setCells_some {b : Nat} {t : TypeId} : ∀ (vs : List Value) (o : Nat) (w : World) (cs : Array Value), w.heap[b]? = some (.cells cs t (0, 0)) → ∃ C, (w.setCells b o vs).heap[b]? = some (.cells C t (0, 0)) ∧ C.size = cs.size
  | [], _, _, cs, h => ⟨cs, h, rfl⟩
  | v :: r, o, w, cs, h => by
    obtain ⟨C, h1, h2⟩ := setCells_some r (o + 1) _ _ (setCell_cells (o := o) v h)
    exact ⟨C, h1, by rw [h2]; simp⟩

theorem setCells_block {w : World} {b : Nat} {t : TypeId} {cs : Array Value} {vs : List Value} (h : w.heap[b]? = some (.cells cs t (0, 0))) (hl : cs.size = vs.length) :
    (w.setCells b 0 vs).heap[b]? = some (.cells vs.toArray t (0, 0)) := by
  obtain ⟨C, h1, h2⟩ := setCells_some vs 0 w cs h
  rw [h1]
  have hs : ∀ j, j < vs.length → (w.cell? ⟨b, 0 + j, none⟩).isSome = true := fun j hj => by
    rw [Nat.zero_add, cell_of_row w b j cs t (0, 0) h]
    simp; omega
  have e : C = vs.toArray := by
    apply Array.ext
    · simp; omega
    · intro i hi hi2
      have hi3 : i < vs.length := by simpa using hi2
      have h3 := World.cell?_setCells_in b vs 0 w hs i hi3
      rw [Nat.zero_add, cell_of_row _ b i C t (0, 0) h1, Array.getElem?_eq_getElem hi] at h3
      simpa using h3
  rw [e]

theorem setCells_grown (b : Nat) : ∀ (vs : List Value) (o : Nat) (w : World), w.grownBy (w.setCells b o vs) (some b)
  | [], _, _ => World.grownBy.refl _ _
  | v :: r, o, w => grown_step (grown_set w b o v) (setCells_grown b r (o + 1) _)

/-- A whole array out of a block. -/
theorem wpList_load_all {P : Program} {w : World} {ops : Array Oper} {rest : List Oper} {o : Oper} {a : Act} {Q : Exit → Act → World → Prop} (hgd : o.guard = none) (ty : TypeId) (x : Operand) (ho : o.op = .load ty x)
    (g : Nat) (hx : a.eval x = .pointer (some ⟨g, 0, none⟩)) (t : TypeId) (l : List Value) (e : TypeId) (n : Nat) (hg : w.heap[g]? = some (.cells l.toArray t (0, 0)))
    (hu : P.underlying ty = some (.array n e)) (hi : (P.info? ty).map (·.size) = some n) (hl : l.length = n)
    (h : wpList P ops Q rest (a.put o.dst (.agg l.toArray)) w) : wpList P ops Q (o :: rest) a w :=
  wpList_load_row hgd ty x ho g hx t l.toArray (0, 0) _ hg hu rfl (by rw [hi]; simp [hl]) h

/-- A whole array into a block. -/
theorem wpList_store_all {P : Program} {w : World} {ops : Array Oper} {rest : List Oper} {o : Oper} {a : Act} {Q : Exit → Act → World → Prop} (hgd : o.guard = none) (ty : TypeId) (x y : Operand) (ho : o.op = .store ty x y)
    (g : Nat) (l : List Value) (hx : a.eval x = .pointer (some ⟨g, 0, none⟩)) (hy : a.eval y = .agg l.toArray) (t : TypeId) (old : Array Value) (n : Nat) (hg : w.heap[g]? = some (.cells old t (0, 0)))
    (hi : (P.info? ty).map (·.size) = some n) (hn : old.size = n) (hl : l.length = n) (h1 : ∀ u ∈ l, u.oneCell' = true)
    (h : ∀ w', w'.heap[g]? = some (.cells l.toArray t (0, 0)) → w.grownBy w' (some g) → w'.heap.size = w.heap.size → wpList P ops Q rest (a.put o.dst undef) w') : wpList P ops Q (o :: rest) a w := by
  refine wpList_store_mid hgd ty x y ho g 0 l.toArray hx hy ?_ (by rw [hi]; simp [hl]) (all_oneCell_toArray h1) ?_
  · intro j hj
    rw [Nat.zero_add, cell_of_row w g j old t (0, 0) hg, frozen_of_row w g j old t hg]
    simp at hj ⊢; omega
  · refine h _ (setCells_block hg (by simp [hl, hn])) (setCells_grown g _ _ _) ?_
    have : ∀ (vs : List Value) (o : Nat) (w : World), (w.setCells g o vs).heap.size = w.heap.size := by
      intro vs
      induction vs with
      | nil => intro o w; rfl
      | cons v r ih => intro o w; rw [World.setCells, ih]; simp [World.setCell]
    exact this _ _ _

theorem cw_one (l : List UInt32) : ∀ u ∈ cw l, u.oneCell' = true := by
  intro u hu
  obtain ⟨c, _, rfl⟩ := List.mem_map.1 hu
  rfl

end Go.Proofs.YtmdokldbggingaaDoor
