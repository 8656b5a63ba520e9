/-
  Blocks of bytes, whole rows loaded and stored. Plain theorems; no function of the dump.
-/
import Derived.Test.YteaaadccjnmacaaMem
import Derived.Deep.MidRow
import Derived.Deep.Draws
namespace Go.Proofs.Yteaaadccjnmacaa
open Go.RowKit

def byte (l : List UInt8) (i : Nat) : UInt8 := l.getD i 0
theorem byte_of {l : List UInt8} {i : Nat} {c : UInt8} (h : l[i]? = some c) : byte l i = c := by simp [byte, h]
theorem byte_get {l : List UInt8} {i : Nat} (h : i < l.length) : l[i]? = some (byte l i) := by simp [byte, h]
theorem grown_set (w : World) (g i : Nat) (u : Value) : w.grownBy (w.setCell ⟨g, i, none⟩ u) (some g) :=
  ⟨rfl, rfl, rfl, by simp [World.setCell], fun k _ hk => Below.heap_setCell w _ u k (fun e => hk (by rw [e]))⟩
theorem grown_step {a b c : World} {g : Option Nat} (h : a.grownBy b g) (k : b.grownBy c g) : a.grownBy c g :=
  ⟨k.os.trans h.os, k.tape.trans h.tape, k.output.trans h.output, Nat.le_trans h.size k.size, fun i hi hn => (k.block i (Nat.lt_of_lt_of_le hi h.size) hn).trans (h.block i hi hn)⟩
theorem below_alloc {w : World} (o : Obj) : Below w.heap.size w (w.alloc o) := (Below.refl _ _).alloc (Nat.le_refl _) o

theorem setCell_cells {w : World} {b o : Nat} {t : TypeId} {cs : Array Value} (v : Value) (h : w.heap[b]? = some (.cells cs t (0, 0))) : (w.setCell ⟨b, o, none⟩ v).heap[b]? = some (.cells (cs.setIfInBounds o v) t (0, 0)) := by
  simp [World.setCell, Array.getElem?_modify, h]

theorem setCells_some {b : Nat} {t : TypeId} : ∀ (vs : List Value) (o : Nat) (w : World) (cs : Array Value), w.heap[b]? = some (.cells cs t (0, 0)) → ∃ C, (w.setCells b o vs).heap[b]? = some (.cells C t (0, 0)) ∧ C.size = cs.size
  | [], _, _, cs, h => ⟨cs, h, rfl⟩
  | v :: r, o, w, cs, h => by
    obtain ⟨C, h1, h2⟩ := setCells_some r (o + 1) _ _ (setCell_cells (o := o) v h)
    exact ⟨C, h1, by rw [h2]; simp⟩

theorem setCells_block {w : World} {b : Nat} {t : TypeId} {cs : Array Value} {vs : List Value} (h : w.heap[b]? = some (.cells cs t (0, 0))) (hl : cs.size = vs.length) :
    (w.setCells b 0 vs).heap[b]? = some (.cells vs.toArray t (0, 0)) := by
  obtain ⟨C, h1, h2⟩ := setCells_some vs 0 w cs h
  rw [h1]
  have hs : ∀ j, j < vs.length → (w.cell? ⟨b, 0 + j, none⟩).isSome = true := fun j hj => by
    rw [Nat.zero_add, cell_of_row w b j cs t (0, 0) h]
    simp; omega
  have e : C = vs.toArray := by
    apply Array.ext
    · simp; omega
    · intro i hi hi2
      have hi3 : i < vs.length := by simpa using hi2
      have h3 := World.cell?_setCells_in b vs 0 w hs i hi3
      rw [Nat.zero_add, cell_of_row _ b i C t (0, 0) h1, Array.getElem?_eq_getElem hi] at h3
      simpa using h3
  rw [e]

theorem setCells_grown (b : Nat) : ∀ (vs : List Value) (o : Nat) (w : World), w.grownBy (w.setCells b o vs) (some b)
  | [], _, _ => World.grownBy.refl _ _
  | v :: r, o, w => grown_step (grown_set w b o v) (setCells_grown b r (o + 1) _)

/-- A whole row out of a block. -/
theorem wpList_load_all {P : Program} {w : World} {ops : Array Oper} {rest : List Oper} {o : Oper} {a : Act} {Q : Exit → Act → World → Prop} (hgd : o.guard = none) (ty : TypeId) (x : Operand) (ho : o.op = .load ty x)
    (g : Nat) (hx : a.eval x = .pointer (some ⟨g, 0, none⟩)) (t : TypeId) (l : List Value) (d : TypeDesc) (hg : w.heap[g]? = some (.cells l.toArray t (0, 0)))
    (hu : P.underlying ty = some d) (hd : (match d with | .struct _ | .array _ _ => true | _ => false) = true) (n : Nat) (hi : (P.info? ty).map (·.size) = some n) (hl : l.length = n)
    (h : wpList P ops Q rest (a.put o.dst (.agg l.toArray)) w) : wpList P ops Q (o :: rest) a w :=
  wpList_load_row hgd ty x ho g hx t l.toArray (0, 0) _ hg hu hd (by rw [hi]; simp [hl]) h

/-- A whole array into a block. -/
theorem wpList_store_all {P : Program} {w : World} {ops : Array Oper} {rest : List Oper} {o : Oper} {a : Act} {Q : Exit → Act → World → Prop} (hgd : o.guard = none) (ty : TypeId) (x y : Operand) (ho : o.op = .store ty x y)
    (g : Nat) (l : List Value) (hx : a.eval x = .pointer (some ⟨g, 0, none⟩)) (hy : a.eval y = .agg l.toArray) (t : TypeId) (old : Array Value) (n : Nat) (hg : w.heap[g]? = some (.cells old t (0, 0)))
    (hi : (P.info? ty).map (·.size) = some n) (hn : old.size = n) (hl : l.length = n) (h1 : ∀ u ∈ l, u.oneCell' = true)
    (h : ∀ w', w'.heap[g]? = some (.cells l.toArray t (0, 0)) → w.grownBy w' (some g) → w'.heap.size = w.heap.size → wpList P ops Q rest (a.put o.dst undef) w') : wpList P ops Q (o :: rest) a w := by
  refine wpList_store_mid hgd ty x y ho g 0 l.toArray hx hy ?_ (by rw [hi]; simp [hl]) (all_oneCell_toArray h1) ?_
  · intro j hj
    rw [Nat.zero_add, cell_of_row w g j old t (0, 0) hg, frozen_of_row w g j old t hg]
    simp at hj ⊢; omega
  · refine h _ (setCells_block hg (by simp [hl, hn])) (setCells_grown g _ _ _) ?_
    have : ∀ (vs : List Value) (o : Nat) (w : World), (w.setCells g o vs).heap.size = w.heap.size := by
      intro vs
      induction vs with
      | nil => intro o w; rfl
      | cons v r ih => intro o w; rw [World.setCells, ih]; simp [World.setCell]
    exact this _ _ _


/-- Block g holds just the bytes l, and is not frozen. -/
def BT (w : World) (g : Nat) (t : TypeId) (l : List UInt8) : Prop := w.heap[g]? = some (.cells (cb l).toArray t (0, 0))
theorem cb_set (l : List UInt8) (i : Nat) (c : UInt8) : cb (l.set i c) = (cb l).set i (.int .u8 (c.toNat : Int)) := by simp [cb, List.map_set]
section
variable {w w' : World} {g : Nat} {t : TypeId} {l : List UInt8}
theorem BT.lt (h : BT w g t l) : g < w.heap.size := (Array.getElem?_eq_some_iff.1 h).1
theorem BT.cell (h : BT w g t l) (i : Nat) (hi : i < l.length) : w.cell? ⟨g, i, none⟩ = some (.int .u8 ((byte l i).toNat : Int)) := by
  rw [cell_of_row w g i _ _ (0, 0) h]
  simp [cb, byte, hi]
theorem BT.frozen (h : BT w g t l) (i : Nat) : w.frozen? ⟨g, i, none⟩ = false := by
  unfold BT at h
  simp [World.frozen?, h]
theorem BT.drew (h : BT w g t l) : BT w.drew g t l := h
theorem BT.alloc (h : BT w g t l) (o : Obj) : BT (w.alloc o) g t l := (Below.heap_alloc w o g h.lt).trans h
theorem BT.set_ (h : BT w g t l) (i : Nat) (c : UInt8) : BT (w.setCell ⟨g, i, none⟩ (.int .u8 (c.toNat : Int))) g t (l.set i c) := by
  unfold BT at h ⊢
  simp [World.setCell, Array.getElem?_modify, h, cb_set]
theorem BT.below {B : Nat} (h : BT w g t l) (hb : Below B w w') (hg : g < B) : BT w' g t l := (hb.block g hg).trans h
theorem BT.up (h : BT w g t l) (hb : Below w.heap.size w w') : BT w' g t l := h.below hb h.lt
theorem BT.grown {row : Option Nat} (h : BT w g t l) (hb : w.grownBy w' row) (hg : some g ≠ row) : BT w' g t l := (hb.block g h.lt hg).trans h
theorem BT.shows (h : BT w g t l) {B : Nat} (hB : g < B) : Shows w B (some ⟨g, 0, none⟩) l := fun _ => ⟨g, 0, rfl, hB, fun i c hi => by
  have hl := (List.getElem?_eq_some_iff.1 hi).1
  rw [Nat.zero_add, h.cell i hl]
  simp [byte, hi]⟩
end

theorem grown_setRow (w : World) (g : Nat) (cs : Array Value) : w.grownBy (w.setRow g cs) (some g) :=
  ⟨rfl, rfl, rfl, by simp [World.setRow], fun k _ hk => setRow_other w g k cs (fun e => hk (by rw [e]))⟩

theorem below_drewN {B : Nat} {w w' : World} (h : Below B w w') (n : Nat) : Below B w (w'.drewN n) := ⟨h.os, h.tape, h.output, h.size, h.block⟩
end Go.Proofs.Yteaaadccjnmacaa
