/-
  Rows of shares of the call's own, one share of which is replaced. Plain theorems, and Combine of a list that is not well-formed.
-/
import Derived.Test.YteaaadccjnmacaaDetM
import Derived.Test.YteaaadccjnmacaaOwnSh
import Derived.Test.YteaaadccjnmacaaSaneW
namespace Go.Proofs.Yteaaadccjnmacaa
open Go.RowKit

/-- The shares L lie at the head of block g; their bytes can be read below B. -/
def ShIn (w : World) (B g : Nat) (L : List Sh) : Prop := ∀ i s, L[i]? = some s → ShAt w B g (i * 2) s
/-- The block g holds n shares or more, and is not frozen. -/
def Rw (w : World) (g n : Nat) : Prop := ∃ cur, w.heap[g]? = some (.cells cur 29 (0, 0)) ∧ n * 2 ≤ cur.size
section
variable {w w' : World} {B g n : Nat} {L : List Sh}
theorem ShIn.keep (h : ShIn w B g L) (hk : ∀ p : Addr, p.block < B ∨ p.block = g → w'.cell? p = w.cell? p) : ShIn w' B g L := fun i s hi => by
  obtain ⟨h1, A, c, h2, h3, h4, h5⟩ := h i s hi
  exact ⟨(hk _ (.inr rfl)).trans h1, A, c, (hk _ (.inr rfl)).trans h2, h3.keep (fun p hp => hk p (.inl hp)), h4, h5⟩
theorem ShIn.up (h : ShIn w B g L) (hb : Below w.heap.size w w') (hg : g < w.heap.size) (hB : B ≤ w.heap.size) : ShIn w' B g L := h.keep fun p hp => hb.cell (by rcases hp with h | h <;> omega)
theorem ShIn.shl (h : ShIn w B g L) (hg : g < w.heap.size) (hB : B ≤ w.heap.size) : ShL w w.heap.size (some ⟨g, 0, none⟩) L := fun _ => ⟨g, 0, rfl, hg, fun i s hi => by
  rw [Nat.zero_add]
  exact (h i s hi).more hB⟩
theorem Rw.lt (h : Rw w g n) : g < w.heap.size := by
  obtain ⟨cur, h1, _⟩ := h
  exact (Array.getElem?_eq_some_iff.1 h1).1
theorem Rw.cell (h : Rw w g n) {i : Nat} (hi : i < n * 2) : ∃ v, w.cell? ⟨g, i, none⟩ = some v := by
  obtain ⟨cur, h1, h2⟩ := h
  refine ⟨cur[i]'(by omega), ?_⟩
  rw [cell_of_row w g i _ _ (0, 0) h1]
  exact Array.getElem?_eq_getElem (by omega)
theorem Rw.frozen (h : Rw w g n) (i : Nat) : w.frozen? ⟨g, i, none⟩ = false := by
  obtain ⟨cur, h1, h2⟩ := h
  simp [World.frozen?, h1]
theorem Rw.keep (h : Rw w g n) (hk : w'.heap[g]? = w.heap[g]?) : Rw w' g n := by
  obtain ⟨cur, h1, h2⟩ := h
  exact ⟨cur, hk.trans h1, h2⟩
theorem Rw.up (h : Rw w g n) (hb : Below w.heap.size w w') : Rw w' g n := h.keep (hb.block g h.lt)
theorem Rw.set (h : Rw w g n) (i : Nat) (v : Value) : Rw (w.setCell ⟨g, i, none⟩ v) g n := by
  obtain ⟨cur, h1, h2⟩ := h
  refine ⟨cur.setIfInBounds i v, ?_, by simpa using h2⟩
  simp [World.setCell, Array.getElem?_modify, h1]
theorem Rw.put (h : Rw w g n) {k : Nat} (hk : k ≠ g) (i : Nat) (v : Value) : Rw (w.setCell ⟨k, i, none⟩ v) g n := h.keep (Below.heap_setCell w _ v g (fun e => hk e.symm))
end
/-- the world behind a store of a share -/
def put2 (w : World) (g k : Nat) (x : Value) (v : Value) : World := (w.setCell ⟨g, k * 2, none⟩ x).setCell ⟨g, k * 2 + 1, none⟩ v
theorem put2_size (w : World) (g k : Nat) (x v : Value) : (put2 w g k x v).heap.size = w.heap.size := by simp [put2, World.setCell]
theorem put2_other (w : World) (g k : Nat) (x v : Value) (p : Addr) (hp : p.block ≠ g) : (put2 w g k x v).cell? p = w.cell? p := by
  have e1 := Below.heap_setCell (w.setCell ⟨g, k * 2, none⟩ x) ⟨g, k * 2 + 1, none⟩ v p.block (fun e => hp e)
  have e2 := Below.heap_setCell w ⟨g, k * 2, none⟩ x p.block (fun e => hp e)
  exact World.cell?_of_block (e1.trans e2)
theorem Rw.put2 {w : World} {g n : Nat} (h : Rw w g n) (j k : Nat) (x v : Value) : Rw (put2 w j k x v) g n := by
  unfold Proofs.Yteaaadccjnmacaa.put2
  by_cases hj : j = g
  · subst hj
    exact (h.set _ _).set _ _
  · exact (h.put hj _ _).put hj _ _
theorem put2_below {B : Nat} {w0 w : World} (h : Below B w0 w) {g : Nat} (hg : B ≤ g) (k : Nat) (x v : Value) : Below B w0 (put2 w g k x v) := (h.setCell hg _).setCell hg _
theorem ShIn.put_other {w : World} {B g j k : Nat} {L : List Sh} (h : ShIn w B g L) (hB : B ≤ j) (hj : j ≠ g) (x v : Value) : ShIn (put2 w j k x v) B g L := h.keep fun p hp => put2_other _ _ _ _ _ p (by rcases hp with h | h <;> omega)
theorem ShIn.put {w : World} {B B' g k : Nat} {L : List Sh} (h : ShIn w B g L) (hB : B ≤ g) (hBB : B ≤ B') (hr : Rw w g L.length) (hk : k < L.length) (x : UInt8) (l : List UInt8) (A : Option Addr) (n c : Nat) (X : Int) (hX : X = (x.toNat : Int)) (hn : n = l.length)
    (hs : Shows (put2 w g k (.int .u8 X) (.slice A n c)) B' A l) (hc : n ≤ c) (hc2 : c ≤ 9223372036854775807) : ShIn (put2 w g k (.int .u8 X) (.slice A n c)) B' g (L.set k (x, l)) := by
  subst hX hn
  obtain ⟨v0, h0⟩ := hr.cell (i := k * 2) (by omega)
  obtain ⟨v1, h1⟩ := hr.cell (i := k * 2 + 1) (by omega)
  intro i s hi
  by_cases e : k = i
  · subst e
    rw [List.getElem?_set_self hk] at hi
    injection hi with hi
    subst hi
    refine ⟨?_, A, c, ?_, hs, hc, hc2⟩
    · simp [put2, go_sem, h0, h1]
    · simp [put2, go_sem, h0, h1]
  · rw [List.getElem?_set_ne e] at hi
    obtain ⟨h2, A', c', h3, h4, h5, h6⟩ := h i s hi
    have n1 : ¬ k * 2 = i * 2 := by omega
    have n2 : ¬ k * 2 + 1 = i * 2 := by omega
    have n3 : ¬ k * 2 = i * 2 + 1 := by omega
    refine ⟨?_, A', c', ?_, (h4.keep fun p hp => put2_other _ _ _ _ _ p (by omega)).more hBB, h5, h6⟩
    · simp [put2, go_sem, h2, n1, n2]
      first | exact h2 | (split <;> simp_all) | skip
    · simp [put2, go_sem, h3, n3, e]
      first | exact h3 | (split <;> simp_all) | skip
end Go.Proofs.Yteaaadccjnmacaa
