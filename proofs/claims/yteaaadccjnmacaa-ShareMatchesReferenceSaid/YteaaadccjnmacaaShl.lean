/-
  Lists of shares in memory. Plain theorems; no function of the dump.
-/
import Derived.Test.YteaaadccjnmacaaBox
namespace Go.Proofs.Yteaaadccjnmacaa
open Go.RowKit

/-- a share: its point and its bytes -/
abbrev Sh := UInt8 × List UInt8

/-- The share s lies at offset o of block b; its bytes can be read below B. -/
def ShAt (w : World) (B b o : Nat) (s : Sh) : Prop :=
  w.cell? ⟨b, o, none⟩ = some (.int .u8 (s.1.toNat : Int)) ∧ ∃ A c, w.cell? ⟨b, o + 1, none⟩ = some (.slice A s.2.length c) ∧ Shows w B A s.2 ∧ s.2.length ≤ c ∧ c ≤ 9223372036854775807
/-- The shares l can be read at address A, in a block below B, with all their bytes. -/
def ShL (w : World) (B : Nat) (A : Option Addr) (l : List Sh) : Prop :=
  0 < l.length → ∃ b off, A = some ⟨b, off, none⟩ ∧ b < B ∧ ∀ i s, l[i]? = some s → ShAt w B b (off + i * 2) s
section
variable {w w' : World} {B B' : Nat} {A : Option Addr} {l : List Sh} {b o : Nat} {s : Sh}
theorem ShAt.below (h : ShAt w B b o s) (hb : Below B w w') (hlt : b < B) : ShAt w' B b o s := by
  obtain ⟨h1, A, c, h2, h3, h4, h5⟩ := h
  exact ⟨(hb.cell (p := ⟨b, o, none⟩) hlt).trans h1, A, c, (hb.cell (p := ⟨b, o + 1, none⟩) hlt).trans h2, h3.below hb, h4, h5⟩
theorem ShAt.more (h : ShAt w B b o s) (hB : B ≤ B') : ShAt w B' b o s := by
  obtain ⟨h1, A, c, h2, h3, h4, h5⟩ := h
  exact ⟨h1, A, c, h2, h3.more hB, h4, h5⟩
theorem ShL.nil : ShL w B A [] := fun h => absurd h (by simp)
theorem ShL.below (h : ShL w B A l) (hb : Below B w w') : ShL w' B A l := fun hl => by
  obtain ⟨b, off, e, hlt, hc⟩ := h hl
  exact ⟨b, off, e, hlt, fun i s hi => (hc i s hi).below hb hlt⟩
theorem ShL.more (h : ShL w B A l) (hB : B ≤ B') : ShL w B' A l := fun hl => by
  obtain ⟨b, off, e, hlt, hc⟩ := h hl
  exact ⟨b, off, e, by omega, fun i s hi => (hc i s hi).more hB⟩
theorem ShL.up (h : ShL w w.heap.size A l) (hb : Below w.heap.size w w') : ShL w' w'.heap.size A l := (h.below hb).more hb.size
theorem ShL.take (h : ShL w B A l) (n : Nat) : ShL w B A (l.take n) := fun hl => by
  obtain ⟨b, off, e, hlt, hc⟩ := h (by simp only [List.length_take] at hl; omega)
  refine ⟨b, off, e, hlt, fun i s hi => hc i s ?_⟩
  rw [List.getElem?_take] at hi
  split at hi
  · exact hi
  · cases hi
theorem ShL.drop (h : ShL w B A l) {k cap : Nat} (hc : l.length ≤ cap) : ShL w B (if cap = k then A else A.map (·.add (k * 2))) (l.drop k) := fun hl => by
  simp only [List.length_drop] at hl
  obtain ⟨b, off, rfl, hlt, hcell⟩ := h (by omega)
  rw [if_neg (by omega)]
  refine ⟨b, off + k * 2, by simp [Addr.add_lit], hlt, fun i s hi => ?_⟩
  rw [List.getElem?_drop] at hi
  have := hcell (k + i) s hi
  rwa [show off + (k + i) * 2 = off + k * 2 + i * 2 by omega] at this
theorem ShL.one (h : ShL w B A l) {i : Nat} (hi : l[i]? = some s) : ∃ b off, A = some ⟨b, off, none⟩ ∧ b < B ∧ ShAt w B b (off + i * 2) s := by
  obtain ⟨b, off, e, hlt, hc⟩ := h (by have := (List.getElem?_eq_some_iff.1 hi).1; omega)
  exact ⟨b, off, e, hlt, hc i s hi⟩
end

/-- What makes a list well-formed: no point 0, no point twice, all byte strings as long as the first. -/
def lenOf (l : List Sh) : Nat := (l.headD (0, [])).2.length
structure WF (l : List Sh) : Prop where
  nz : ∀ s ∈ l, s.1 ≠ 0
  nd : (l.map (·.1)).Nodup
  ln : ∀ s ∈ l, s.2.length = lenOf l

/-- The call's own block of cells, all of them known; not frozen. -/
def CB (w : World) (g : Nat) (t : TypeId) (l : List Value) : Prop := w.heap[g]? = some (.cells l.toArray t (0, 0))
section
variable {w w' : World} {g : Nat} {t : TypeId} {l : List Value}
theorem CB.lt (h : CB w g t l) : g < w.heap.size := (Array.getElem?_eq_some_iff.1 h).1
theorem CB.cell (h : CB w g t l) (i : Nat) {v : Value} (hi : l[i]? = some v) : w.cell? ⟨g, i, none⟩ = some v := by
  rw [cell_of_row w g i _ _ (0, 0) h]
  simpa using hi
theorem CB.frozen (h : CB w g t l) (i : Nat) : w.frozen? ⟨g, i, none⟩ = false := by
  unfold CB at h
  simp [World.frozen?, h]
theorem CB.alloc (h : CB w g t l) (o : Obj) : CB (w.alloc o) g t l := (Below.heap_alloc w o g h.lt).trans h
theorem CB.set_ (h : CB w g t l) (i : Nat) (v : Value) : CB (w.setCell ⟨g, i, none⟩ v) g t (l.set i v) := by
  unfold CB at h ⊢
  simp [World.setCell, Array.getElem?_modify, h]
theorem CB.below {B : Nat} (h : CB w g t l) (hb : Below B w w') (hg : g < B) : CB w' g t l := (hb.block g hg).trans h
theorem CB.up (h : CB w g t l) (hb : Below w.heap.size w w') : CB w' g t l := h.below hb h.lt
theorem CB.grown {row : Option Nat} (h : CB w g t l) (hb : w.grownBy w' row) (hg : some g ≠ row) : CB w' g t l := (hb.block g h.lt hg).trans h
end
end Go.Proofs.Yteaaadccjnmacaa
