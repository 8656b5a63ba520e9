/-
  Layer 6's contracts and plain theorems, texts of layer 6's own claims put together: Mm Sch FldP AncP NamP ChkP NmdP BackP PathP FindP ValS ValP ValR FitR FitsP EdP RepP KindP RFld RGrp Hand RTak.
-/
import Derived.WalkKit
import Derived.Laws.CopyOwn
import Derived.Lib.AppendStr
import Derived.Lib.Hide
import Derived.Deep.MidRow
import Derived.Deep.Draws
import Derived.Test.YtiafcdaephcfeaaProg
import Derived.Laws.ResultCell
import Derived.Outline
import Derived.Deep.LoopGhost
import Derived.BigGuardPart
import Derived.Lib.Strings
import Derived.RangeFuncNested
import Derived.RangeFuncBound
import Derived.RangeFuncCalls
import Derived.RangeFuncLeaves
import Derived.Shelf.Abstract
import Derived.Shelf.RegionOpen
import Derived.OwnWalkIn
import Derived.TacticsInMore
import Derived.LoopNIn
import Derived.LoopIn
import Derived.Test.YtiafcdaephcfeaaLays
import Derived.Maps.AppendAt
import Derived.Lib.MinMax
import Derived.WalkSpells
import Derived.Deep.RegionHeldLaw
import Derived.Deep.RegionWith
import Derived.BigQuiet
import Derived.Deep.QuietTactic
import Derived.Deep.RegionHeld3
namespace Go.Proofs.Ytiafcdaephcfeaa
open Go.RowKit

theorem grown_set (w : World) (g i : Nat) (u : Value) : w.grownBy (w.setCell ⟨g, i, none⟩ u) (some g) :=
  ⟨rfl, rfl, rfl, by simp [World.setCell], fun k _ hk => Below.heap_setCell w _ u k (fun e => hk (by rw [e]))⟩
theorem grown_step {a b c : World} {g : Option Nat} (h : a.grownBy b g) (k : b.grownBy c g) : a.grownBy c g :=
  ⟨k.os.trans h.os, k.tape.trans h.tape, k.output.trans h.output, Nat.le_trans h.size k.size, fun i hi hn => (k.block i (Nat.lt_of_lt_of_le hi h.size) hn).trans (h.block i hi hn)⟩
theorem al1 (w : World) (o : Obj) : Below w.heap.size w (w.alloc o) := (Below.refl _ _).alloc (Nat.le_refl _) o
theorem al2 (w : World) (a b : Obj) : Below w.heap.size w ((w.alloc a).alloc b) := (al1 w a).alloc (by simp) b
theorem al3 (w : World) (a b c : Obj) : Below w.heap.size w (((w.alloc a).alloc b).alloc c) := (al2 w a b).alloc (by simp; omega) c
theorem al4 (w : World) (a b c d : Obj) : Below w.heap.size w ((((w.alloc a).alloc b).alloc c).alloc d) := (al3 w a b c).alloc (by simp; omega) d
theorem asz (w : World) (o : Obj) : (w.alloc o).heap.size = w.heap.size + 1 := by simp
theorem below_drewN {B : Nat} {w w' : World} (h : Below B w w') (n : Nat) : Below B w (w'.drewN n) := ⟨h.os, h.tape, h.output, h.size, h.block⟩
theorem lt_al {w w1 : World} {o : Obj} {B : Nat} (h : Below B (w.alloc o) w1) : w.heap.size < w1.heap.size := by
  have := h.size
  rw [asz] at this
  omega
theorem lt_ald {w w1 : World} {o : Obj} {B : Nat} (h : Below B (w.alloc o).drew w1) : w.heap.size < w1.heap.size := by
  have : (w.alloc o).heap.size ≤ w1.heap.size := h.size
  rw [asz] at this
  omega
/-- One more call in a chain: what was there at the chain's beginning is as it was. -/
theorem below_step {B : Nat} {w W w1 : World} (h : Below B w W) (hB : B ≤ W.heap.size) (h1 : Below W.heap.size W w1) : Below B w w1 := h.trans (h1.mono hB)
theorem below_grown {w0 w w' : World} {base g : Nat} (h : Below base w0 w) (hg : w.grownBy w' (some g)) (hB : base ≤ w.heap.size) (hr : base ≤ g) : Below base w0 w' :=
  h.grown hg hB (fun k hk => by injection hk with hk; omega)
theorem bd (w : World) : Below w.heap.size w w.drew := (Below.refl _ _).drew
theorem bda (w : World) (o : Obj) : Below w.heap.size w (w.drew.alloc o) := (bd w).alloc (Nat.le_refl _) o
theorem bdad (w : World) (o : Obj) : Below w.heap.size w (w.drew.alloc o).drew := (bda w o).drew
theorem bad (w : World) (o : Obj) : Below w.heap.size w (w.alloc o).drew := (al1 w o).drew
theorem bcell {W w1 : World} (hb : Below W.heap.size W w1) : (∀ b o, b < W.heap.size → w1.cell? ⟨b, o, none⟩ = W.cell? ⟨b, o, none⟩) ∧ (∀ b o, b < W.heap.size → w1.frozen? ⟨b, o, none⟩ = W.frozen? ⟨b, o, none⟩) :=
  ⟨fun b o h => hb.cell (p := ⟨b, o, none⟩) h, fun b o h => hb.frozen (p := ⟨b, o, none⟩) h⟩

theorem setCell_cells {w : World} {b o : Nat} {t : TypeId} {cs : Array Value} (v : Value) (h : w.heap[b]? = some (.cells cs t (0, 0))) : (w.setCell ⟨b, o, none⟩ v).heap[b]? = some (.cells (cs.setIfInBounds o v) t (0, 0)) := by
  simp [World.setCell, Array.getElem?_modify, h]
theorem setCells_some {b : Nat} {t : TypeId} : ∀ (vs : List Value) (o : Nat) (w : World) (cs : Array Value), w.heap[b]? = some (.cells cs t (0, 0)) → ∃ C, (w.setCells b o vs).heap[b]? = some (.cells C t (0, 0)) ∧ C.size = cs.size
  | [], _, _, cs, h => ⟨cs, h, rfl⟩
  | v :: r, o, w, cs, h => by
    obtain ⟨C, h1, h2⟩ := setCells_some r (o + 1) _ _ (setCell_cells (o := o) v h)
    exact ⟨C, h1, by rw [h2]; simp⟩
theorem setCells_block {w : World} {b : Nat} {t : TypeId} {cs : Array Value} {vs : List Value} (h : w.heap[b]? = some (.cells cs t (0, 0))) (hl : cs.size = vs.length) :
    (w.setCells b 0 vs).heap[b]? = some (.cells vs.toArray t (0, 0)) := by
  obtain ⟨C, h1, h2⟩ := setCells_some vs 0 w cs h
  rw [h1]
  have hs : ∀ j, j < vs.length → (w.cell? ⟨b, 0 + j, none⟩).isSome = true := fun j hj => by
    rw [Nat.zero_add, cell_of_row w b j cs t (0, 0) h]
    simp; omega
  have e : C = vs.toArray := by
    apply Array.ext
    · simp; omega
    · intro i hi hi2
      have hi3 : i < vs.length := by simpa using hi2
      have h3 := World.cell?_setCells_in b vs 0 w hs i hi3
      rw [Nat.zero_add, cell_of_row _ b i C t (0, 0) h1, Array.getElem?_eq_getElem hi] at h3
      simpa using h3
  rw [e]
theorem setCells_grown (b : Nat) : ∀ (vs : List Value) (o : Nat) (w : World), w.grownBy (w.setCells b o vs) (some b)
  | [], _, _ => World.grownBy.refl _ _
  | v :: r, o, w => grown_step (grown_set w b o v) (setCells_grown b r (o + 1) _)
theorem setCells_size (b : Nat) : ∀ (vs : List Value) (o : Nat) (w : World), (w.setCells b o vs).heap.size = w.heap.size
  | [], _, _ => rfl
  | v :: r, o, w => by rw [World.setCells, setCells_size b r]; simp [World.setCell]

/-- The call's own block of cells, all of them known; not frozen. -/
def CB (w : World) (g : Nat) (t : TypeId) (l : List Value) : Prop := w.heap[g]? = some (.cells l.toArray t (0, 0))
section
variable {w w' : World} {g : Nat} {t : TypeId} {l : List Value}
theorem CB.lt (h : CB w g t l) : g < w.heap.size := (Array.getElem?_eq_some_iff.1 h).1
theorem CB.cell (h : CB w g t l) (i : Nat) {v : Value} (hi : l[i]? = some v) : w.cell? ⟨g, i, none⟩ = some v := by
  rw [cell_of_row w g i _ _ (0, 0) h]
  simpa using hi
theorem CB.frozen (h : CB w g t l) (i : Nat) : w.frozen? ⟨g, i, none⟩ = false := by
  unfold CB at h
  simp [World.frozen?, h]
theorem CB.new (w : World) (t : TypeId) (l : List Value) : CB (w.alloc (.cells l.toArray t)) w.heap.size t l := heap_alloc_new w _
theorem CB.new1 (w : World) (o : Obj) (t : TypeId) (l : List Value) : CB ((w.alloc o).alloc (.cells l.toArray t)) (w.heap.size + 1) t l := by
  have := CB.new (w.alloc o) t l
  rwa [asz] at this
theorem CB.new2 (w : World) (o o' : Obj) (t : TypeId) (l : List Value) : CB (((w.alloc o).alloc o').alloc (.cells l.toArray t)) (w.heap.size + 1 + 1) t l := by
  have := CB.new ((w.alloc o).alloc o') t l
  rwa [asz, asz] at this
theorem CB.alloc (h : CB w g t l) (o : Obj) : CB (w.alloc o) g t l := (Below.heap_alloc w o g h.lt).trans h
theorem CB.drewN (h : CB w g t l) (n : Nat) : CB (w.drewN n) g t l := h
theorem CB.dr (h : CB w g t l) : CB w.drew g t l := h
theorem CB.set_ (h : CB w g t l) (i : Nat) (v : Value) : CB (w.setCell ⟨g, i, none⟩ v) g t (l.set i v) := by
  unfold CB at h ⊢
  simp [World.setCell, Array.getElem?_modify, h]
theorem CB.below {B : Nat} (h : CB w g t l) (hb : Below B w w') (hg : g < B) : CB w' g t l := (hb.block g hg).trans h
theorem CB.up (h : CB w g t l) (hb : Below w.heap.size w w') : CB w' g t l := h.below hb h.lt
theorem CB.grown {row : Option Nat} (h : CB w g t l) (hb : w.grownBy w' row) (hg : some g ≠ row) : CB w' g t l := (hb.block g h.lt hg).trans h
end

section
variable {P : Program} {w : World} {ops : Array Oper} {rest : List Oper} {o : Oper} {a : Act} {Q : Exit → Act → World → Prop}
/-- A whole row out of a block. -/
theorem wpList_load_cb (hgd : o.guard = none) (ty : TypeId) (x : Operand) (ho : o.op = .load ty x)
    (g : Nat) (hx : a.eval x = .pointer (some ⟨g, 0, none⟩)) (t : TypeId) (l : List Value) (d : TypeDesc) (hg : CB w g t l)
    (hu : P.underlying ty = some d) (hd : (match d with | .struct _ | .array _ _ => true | _ => false) = true) (n : Nat) (hi : (P.info? ty).map (·.size) = some n) (hl : l.length = n)
    (h : wpList P ops Q rest (a.put o.dst (.agg l.toArray)) w) : wpList P ops Q (o :: rest) a w :=
  wpList_load_row hgd ty x ho g hx t l.toArray (0, 0) _ hg hu hd (by rw [hi]; simp [hl]) h
/-- A whole row into a block. -/
theorem wpList_store_cb (hgd : o.guard = none) (ty : TypeId) (x y : Operand) (ho : o.op = .store ty x y)
    (g : Nat) (l : List Value) (hx : a.eval x = .pointer (some ⟨g, 0, none⟩)) (hy : a.eval y = .agg l.toArray) (t : TypeId) (old : List Value) (n : Nat) (hg : CB w g t old)
    (hi : (P.info? ty).map (·.size) = some n) (hn : old.length = n) (hl : l.length = n) (h1 : ∀ u ∈ l, u.oneCell' = true)
    (h : ∀ w', CB w' g t l → w.grownBy w' (some g) → w'.heap.size = w.heap.size → wpList P ops Q rest (a.put o.dst undef) w') : wpList P ops Q (o :: rest) a w := by
  refine wpList_store_mid hgd ty x y ho g 0 l.toArray hx hy ?_ (by rw [hi]; simp [hl]) (all_oneCell_toArray h1) ?_
  · intro j hj
    rw [Nat.zero_add, cell_of_row w g j _ t (0, 0) hg, frozen_of_row w g j _ t hg]
    simp at hj ⊢; omega
  · exact h _ (setCells_block hg (by simp [hl, hn])) (setCells_grown g _ _ _) (setCells_size g _ _ _)
end

/-- The cells of one element: vs at offset o of block b. -/
def At (w : World) (b o : Nat) (vs : List Value) : Prop := ∀ j v, vs[j]? = some v → w.cell? ⟨b, o + j, none⟩ = some v
/-- The elements L, of k cells each, can be read from address A on, in a block below B. -/
def RowAt (k : Nat) (w : World) (B : Nat) (A : Option Addr) (L : List (List Value)) : Prop :=
  0 < L.length → ∃ b off, A = some ⟨b, off, none⟩ ∧ b < B ∧ ∀ i vs, L[i]? = some vs → At w b (off + i * k) vs
section
variable {k : Nat} {w w' : World} {B B' : Nat} {A : Option Addr} {L : List (List Value)} {b o : Nat} {vs : List Value}
theorem At.keep (h : At w b o vs) (hk : ∀ j, w'.cell? ⟨b, o + j, none⟩ = w.cell? ⟨b, o + j, none⟩) : At w' b o vs := fun j v hj => (hk j).trans (h j v hj)
theorem At.below (h : At w b o vs) (hb : Below B w w') (hlt : b < B) : At w' b o vs := h.keep fun j => hb.cell (p := ⟨b, o + j, none⟩) hlt
theorem RowAt.nil : RowAt k w B A [] := fun h => absurd h (by simp)
theorem RowAt.below (h : RowAt k w B A L) (hb : Below B w w') : RowAt k w' B A L := fun hl => by
  obtain ⟨b, off, e, hlt, hc⟩ := h hl
  exact ⟨b, off, e, hlt, fun i vs hi => (hc i vs hi).below hb hlt⟩
theorem RowAt.more (h : RowAt k w B A L) (hB : B ≤ B') : RowAt k w B' A L := fun hl => by
  obtain ⟨b, off, e, hlt, hc⟩ := h hl
  exact ⟨b, off, e, by omega, hc⟩
theorem RowAt.up (h : RowAt k w w.heap.size A L) (hb : Below w.heap.size w w') : RowAt k w' w'.heap.size A L := (h.below hb).more hb.size
theorem RowAt.grown {row : Option Nat} (h : RowAt k w B A L) (hb : w.grownBy w' row) (hB : B ≤ w.heap.size) (hr : ∀ g, row = some g → B ≤ g) : RowAt k w' B A L :=
  h.below ((Below.refl B w).grown hb hB hr)
theorem RowAt.take (h : RowAt k w B A L) (n : Nat) : RowAt k w B A (L.take n) := fun hl => by
  obtain ⟨b, off, e, hlt, hc⟩ := h (by simp only [List.length_take] at hl; omega)
  refine ⟨b, off, e, hlt, fun i s hi => hc i s ?_⟩
  rw [List.getElem?_take] at hi
  split at hi
  · exact hi
  · cases hi
theorem RowAt.one (h : RowAt k w B A L) {i : Nat} (hi : L[i]? = some vs) : ∃ b off, A = some ⟨b, off, none⟩ ∧ b < B ∧ At w b (off + i * k) vs := by
  obtain ⟨b, off, e, hlt, hc⟩ := h (by have := (List.getElem?_eq_some_iff.1 hi).1; omega)
  exact ⟨b, off, e, hlt, hc i vs hi⟩
end

/-- The value v is a slice over the call's own row of elements of type E, k cells each, that holds just L. -/
def Own (E : TypeId) (k : Nat) (w : World) (base : Nat) (v : Value) (L : List (List Value)) : Prop := w.ownsRow base E k v L.length L.flatten ∧ ∀ vs ∈ L, vs.length = k
theorem flat_get {k : Nat} : ∀ {L : List (List Value)}, (∀ vs ∈ L, vs.length = k) → ∀ {i : Nat} {vs : List Value}, L[i]? = some vs → ∀ {j : Nat} {v : Value}, vs[j]? = some v → L.flatten[i * k + j]? = some v
  | [], _, i, vs, hi, _, _, _ => by simp at hi
  | x :: r, h, 0, vs, hi, j, v, hj => by
    have e : x = vs := by simpa using hi
    subst e
    have := (List.getElem?_eq_some_iff.1 hj).1
    rw [Nat.zero_mul, Nat.zero_add, List.flatten_cons, List.getElem?_append_left this]
    exact hj
  | x :: r, h, i + 1, vs, hi, j, v, hj => by
    have hx : x.length = k := h x (by simp)
    rw [List.flatten_cons, List.getElem?_append_right (by rw [hx, Nat.add_mul]; omega), hx, show (i + 1) * k + j - k = i * k + j by rw [Nat.add_mul]; omega]
    exact flat_get (fun vs hv => h vs (by simp [hv])) (by simpa using hi) hj
theorem flat_len {k : Nat} : ∀ {L : List (List Value)}, (∀ vs ∈ L, vs.length = k) → L.flatten.length = L.length * k
  | [], _ => by simp
  | x :: r, h => by rw [List.flatten_cons, List.length_append, h x (by simp), flat_len (fun vs hv => h vs (by simp [hv])), List.length_cons, Nat.add_mul]; omega
section
variable {E : TypeId} {k : Nat} {w w' : World} {base : Nat} {v : Value} {L : List (List Value)}
theorem Own.nil (E : TypeId) (k : Nat) (w : World) (base : Nat) : Own E k w base (.slice none 0 0) [] := ⟨World.ownsRow_nil w base E k, fun _ h => by simp at h⟩
theorem Own.shape (h : Own E k w base v L) : (v = .slice none 0 0 ∧ L = []) ∨ ∃ g cap, v = .slice (some ⟨g, 0, none⟩) L.length cap ∧ base ≤ g ∧ g < w.heap.size ∧ L.length ≤ cap ∧ cap ≤ 9223372036854775807 := by
  have h2 := h.1.2
  rcases h2 with ⟨rfl, hl⟩ | ⟨g, cap, cur, rfl, hb, hg, hn, hm, _⟩
  · exact .inl ⟨rfl, List.eq_nil_of_length_eq_zero hl⟩
  · exact .inr ⟨g, cap, rfl, hb, (Array.getElem?_eq_some_iff.1 hg).1, hn, by simpa [maxLen] using hm⟩
theorem Own.slice (h : Own E k w base v L) : ∃ A c, v = .slice A L.length c ∧ L.length ≤ c ∧ c ≤ 9223372036854775807 := by
  rcases h.shape with ⟨rfl, rfl⟩ | ⟨g, cap, rfl, _, _, h3, h4⟩
  · exact ⟨_, _, rfl, Nat.le_refl _, by omega⟩
  · exact ⟨_, _, rfl, h3, h4⟩
theorem Own.row {A : Option Addr} {n c : Nat} (h : Own E k w base (.slice A n c) L) : n = L.length ∧ L.length ≤ c ∧ c ≤ 9223372036854775807 ∧ RowAt k w w.heap.size A L := by
  rcases h.shape with ⟨hv, rfl⟩ | ⟨g, cap, hv, _, hlt, hcap, hm⟩
  · injection hv with h1 h2 h3
    subst h1 h2 h3
    exact ⟨rfl, by simp, by omega, RowAt.nil⟩
  · injection hv with h1 h2 h3
    subst h1 h2 h3
    refine ⟨rfl, hcap, hm, fun _ => ⟨g, 0, rfl, hlt, fun i vs hi j u hj => ?_⟩⟩
    have := World.ownsRow.cells h.1 (g := g) rfl (i * k + j) u (flat_get h.2 hi hj)
    rw [Addr.add_lit] at this
    rw [← this]
    congr 2
    omega
theorem Own.low (h : Own E k w base v L) {b : Nat} (hb : b ≤ base) : Own E k w b v L :=
  ⟨⟨h.1.1, h.1.2.imp id fun ⟨g, cap, cur, h1, h2, h3⟩ => ⟨g, cap, cur, h1, by omega, h3⟩⟩, h.2⟩
theorem Own.dr (h : Own E k w base v L) : Own E k w.drew base v L := h
theorem Own.lt (h : Own E k w base v L) : ∀ g, v.ownBlock = some g → base ≤ g ∧ g < w.heap.size := World.ownsRow.lt h.1
theorem Own.kept {row : Option Nat} (h : Own E k w base v L) (hg : w.grownBy w' row) (hne : v.ownBlock = none ∨ v.ownBlock ≠ row) : Own E k w' base v L := ⟨h.1.kept hg hne, h.2⟩
theorem Own.alloc (h : Own E k w base v L) (o : Obj) : Own E k (w.alloc o) base v L := ⟨World.ownsRow.alloc h.1 o, h.2⟩
theorem Own.drewN (h : Own E k w base v L) (n : Nat) : Own E k (w.drewN n) base v L := h
/-- what has turned new blocks alone -/
theorem Own.up (h : Own E k w base v L) (hb : Below w.heap.size w w') : Own E k w' base v L :=
  h.kept (row := none) ⟨hb.os, hb.tape, hb.output, hb.size, fun i hi _ => hb.block i hi⟩ (by cases v.ownBlock <;> simp)
/-- Such a row is no block of another type. -/
theorem Own.ne {U : Nat} {t : TypeId} {l : List Value} (h : Own E k w base v L) (hU : CB w U t l) (ht : t ≠ E) : some U ≠ v.ownBlock := by
  rcases h.1.2 with ⟨e, _⟩ | ⟨g, cap, cur, e, _, hg, _⟩
  · rw [e]
    simp [Value.ownBlock]
  · rw [e]
    intro hx
    have hx' : some U = some g := hx
    injection hx' with hx'
    subst hx'
    unfold CB at hU
    rw [hU] at hg
    have := Option.some.inj hg
    injection this with _ h2
    exact ht h2
theorem Own.set_ (h : Own E k w base v L) {g : Nat} (i : Nat) (u : Value) (hne : some g ≠ v.ownBlock) : Own E k (w.setCell ⟨g, i, none⟩ u) base v L := h.kept (grown_set w g i u) (.inr hne.symm)
theorem Own.new_ne (h : Own E k w base v L) : some w.heap.size ≠ v.ownBlock := fun e => by have := (h.lt _ e.symm).2; omega
/-- A block below the row's base is not the row. -/
theorem Own.below_ne {U : Nat} (h : Own E k w base v L) (hU : U < base) : some U ≠ v.ownBlock := fun e => by have := (h.lt U e.symm).1; omega
end
section
variable {P : Program} {w wr : World} {ops : Array Oper} {rest : List Oper} {o : Oper} {a : Act} {Q : Exit → Act → World → Prop}
/-- append(v, x): v the call's own row, x one element in a block of its own; the row may grow. -/
theorem wpList_push {E T : TypeId} {k : Nat} {z : Value} {by_ : Nat} (hgd : o.guard = none) (d x : Operand) (ho : o.op = .call { callee := .builtin .append, args := #[d, x], argTypes := #[T, T] })
    (hT : P.underlying T = some (.slice E)) (hE : (P.info? E).map (fun i => (i.zero, i.size, i.bytes)) = some (some z, k, by_)) (hz : z.cells.size = k) (hk : 0 < k)
    (base : Nat) (v : Value) (L : List (List Value)) (vs : List Value) (N : Nat) (hs : a.eval d = v) (hx : a.eval x = .slice (some ⟨N, 0, none⟩) 1 1) (hN : N = wr.heap.size) (hw : w = wr.alloc (.cells vs.toArray E))
    (hr : Own E k wr base v L) (hvs : vs.length = k) (h1 : ∀ u ∈ vs, u.oneCell' = true) (hroom : L.length + 1 ≤ 1000000000) (hby : by_ ≤ 1000) (hbase : base ≤ wr.heap.size)
    (hK : ∀ A' c' w', Own E k w' base (.slice A' (L ++ [vs]).length c') (L ++ [vs]) → wr.grownBy w' v.ownBlock → Below base wr w' → wpList P ops Q rest (a.put o.dst (.slice A' (L ++ [vs]).length c')) w') : wpList P ops Q (o :: rest) a w := by
  subst hw hN
  obtain ⟨i, hi, hz0, hsz, hb⟩ := info_parts hE
  have hnew := heap_alloc_new wr (.cells vs.toArray E)
  refine wpList_append_own _ hgd d x T ho base E i z k by_ hT hi hz0 hsz hb hz hk v L.length L.flatten hs (World.ownsRow.alloc hr.1 _) ⟨wr.heap.size, 0, none⟩ 1 1 vs hx (by omega) ?_ h1 (by simp only [maxLen]; omega) ?_ (by simp; omega) ?_
  · intro j u hj
    rw [Addr.add_lit, Nat.zero_add, cell_of_row _ wr.heap.size j _ _ (0, 0) hnew]
    simpa using hj
  · exact Nat.le_trans (Nat.mul_le_mul hroom hby) (by decide)
  · intro v' w' g1 g2 _
    have hb : Below base wr w' := ((Below.refl base wr).alloc hbase _).grown g2 (by simp; omega) (fun g hg => (World.ownsRow.lt hr.1 g hg).1)
    have ho' : Own E k w' base v' (L ++ [vs]) := by
      refine ⟨by simpa using g1, fun u hu => ?_⟩
      rcases List.mem_append.1 hu with hu | hu
      · exact hr.2 u hu
      · rw [List.mem_singleton] at hu; rw [hu, hvs]
    obtain ⟨A', c', rfl, _⟩ := ho'.slice
    refine hK A' c' w' ho' ⟨g2.os, g2.tape, g2.output, Nat.le_trans (by simp) g2.size, fun j hj hne => ?_⟩ hb
    exact (g2.block j (by simp; omega) hne).trans (Below.heap_alloc _ _ _ hj)
theorem run_append_none {P : Program} (w : World) (t ty E : TypeId) (i : TypeInfo) (ht : P.underlying t = some (.slice E)) (hi : P.info? E = some i) (g n cap c : Nat) (hn : n ≤ cap) :
    (Builtin.append_ #[t, t] ty #[.slice (some ⟨g, 0, none⟩) n cap, .slice none 0 c]).run P w = .ok (.slice (some ⟨g, 0, none⟩) n cap) w := by
  simp [Builtin.append_, run_underlying ht, sizeOf, typeInfo, hi, Builtin.lenOf, Builtin.firstCells, hn, storeCells]
/-- append(v, x...): v the call's own row, x a row that can be read; it may grow. -/
theorem wpList_cat {w : World} {E T : TypeId} {k : Nat} {z : Value} {by_ : Nat} (hgd : o.guard = none) (d x : Operand) (ho : o.op = .call { callee := .builtin .append, args := #[d, x], argTypes := #[T, T] })
    (hT : P.underlying T = some (.slice E)) (hE : (P.info? E).map (fun i => (i.zero, i.size, i.bytes)) = some (some z, k, by_)) (hz : z.cells.size = k) (hk : 0 < k)
    (base : Nat) (v : Value) (L : List (List Value)) (A : Option Addr) (n c B : Nat) (L2 : List (List Value)) (hs : a.eval d = v) (hx : a.eval x = .slice A n c) (hn : n = L2.length)
    (hr : Own E k w base v L) (h2 : RowAt k w B A L2) (hvs : ∀ vs ∈ L2, vs.length = k) (h1 : ∀ vs ∈ L2, ∀ u ∈ vs, u.oneCell' = true) (hroom : L.length + n ≤ 1000000000) (hby : by_ ≤ 1000) (hbase : base ≤ w.heap.size)
    (hK : ∀ A' c' w', Own E k w' base (.slice A' (L.length + n) c') (L ++ L2) → w.grownBy w' v.ownBlock → Below base w w' → wpList P ops Q rest (a.put o.dst (.slice A' (L.length + n) c')) w') : wpList P ops Q (o :: rest) a w := by
  subst hn
  obtain ⟨i, hi, hz0, hsz, hb⟩ := info_parts hE
  cases A with
  | none =>
    have h0 : L2 = [] := by
      rcases Nat.eq_zero_or_pos L2.length with h0 | h0
      · exact List.eq_nil_of_length_eq_zero h0
      · obtain ⟨b, off, h, _⟩ := h2 h0
        cases h
    subst h0
    obtain ⟨A', c', rfl, _⟩ := hr.slice
    have hrun : (Builtin.append_ #[T, T] o.type #[.slice A' L.length c', .slice none 0 c]).run P w = .ok (.slice A' L.length c') w := by
      rcases hr.shape with ⟨e, rfl⟩ | ⟨g, cap, e, _, _, hcap, _⟩
      · injection e with e1 e2 e3
        subst e1 e3
        simp [Builtin.append_, run_underlying hT, sizeOf, typeInfo, hi, Builtin.lenOf, Builtin.firstCells]
      · injection e with e1 e2 e3
        subst e1 e3
        exact run_append_none w T o.type E i hT hi g L.length c' c hcap
    refine wpList_plain hgd fun K hK' => ?_
    unfold Oper.wp execOp
    simp only [ho, resolve, invoke, builtin, Sem.run_bind, Sem.run_pure, Result.andThen_ok, List.map_toArray, List.map_cons, List.map_nil, hs, hx, List.length_nil, hrun]
    have h := hK A' c' w (by simpa using hr) (World.grownBy.refl _ _) (Below.refl _ _)
    simp only [List.length_nil, Nat.add_zero] at h
    exact hK' _ _ h
  | some ad =>
    refine wpList_append_own _ hgd d x T ho base E i z k by_ hT hi hz0 hsz hb hz hk v L.length L.flatten hs hr.1 ad L2.length c L2.flatten hx (flat_len hvs) ?_ ?_ (by simp only [maxLen]; omega) ?_ hbase ?_
    · intro j u hj
      rcases Nat.eq_zero_or_pos L2.length with h0 | h0
      · rw [List.eq_nil_of_length_eq_zero h0] at hj
        simp at hj
      · obtain ⟨b, off, e, hlt, hc⟩ := h2 h0
        injection e with e
        subst e
        rw [Addr.add_lit]
        have hjl : j < L2.length * k := by rw [← flat_len hvs]; exact (List.getElem?_eq_some_iff.1 hj).1
        have hq : j / k < L2.length := (Nat.div_lt_iff_lt_mul hk).2 hjl
        have hm : j % k < k := Nat.mod_lt _ hk
        have hvl : L2[j / k].length = k := hvs _ (List.getElem_mem hq)
        have hg := flat_get hvs (List.getElem?_eq_getElem hq) (List.getElem?_eq_getElem (l := L2[j / k]) (i := j % k) (by omega))
        have e : j / k * k + j % k = j := by rw [Nat.mul_comm]; exact Nat.div_add_mod j k
        rw [e, hj] at hg
        have hcc := hc (j / k) _ (List.getElem?_eq_getElem hq) (j % k) _ (List.getElem?_eq_getElem (by omega))
        rw [Nat.add_assoc, e] at hcc
        rw [hcc, ← Option.some.inj hg]
    · intro u hu
      obtain ⟨vs, hv, hu'⟩ := List.mem_flatten.1 hu
      exact h1 vs hv u hu'
    · exact Nat.le_trans (Nat.mul_le_mul hroom hby) (by decide)
    · intro v' w' g1 g2 _
      have ho' : Own E k w' base v' (L ++ L2) := by
        refine ⟨by simpa using g1, fun u hu => ?_⟩
        rcases List.mem_append.1 hu with hu | hu
        · exact hr.2 u hu
        · exact hvs u hu
      obtain ⟨A', c', rfl, _⟩ := ho'.slice
      rw [List.length_append] at ho' ⊢
      exact hK A' c' w' ho' g2 ((Below.refl base w).grown g2 hbase (fun g hg => (World.ownsRow.lt hr.1 g hg).1))
end
section
variable {P : Program} {w : World} {ops : Array Oper} {o : Oper} {a : Act} {K : Act → World → Prop} {Q : Exit → Act → World → Prop} {F : Prop}
/-- append(v, x) within a region that draws its order: x one element in a block that is known. -/
theorem step_push {E T : TypeId} {k : Nat} {z : Value} {by_ : Nat} (hgd : o.guard = none) (d x : Operand) (ho : o.op = .call { callee := .builtin .append, args := #[d, x], argTypes := #[T, T] })
    (hT : P.underlying T = some (.slice E)) (hE : (P.info? E).map (fun i => (i.zero, i.size, i.bytes)) = some (some z, k, by_)) (hz : z.cells.size = k) (hk : 0 < k)
    (base : Nat) (v : Value) (L : List (List Value)) (vs : List Value) (g : Nat) (hs : a.eval d = v) (hx : a.eval x = .slice (some ⟨g, 0, none⟩) 1 1)
    (hr : Own E k w base v L) (hg : CB w g E vs) (hvs : vs.length = k) (h1 : ∀ u ∈ vs, u.oneCell' = true) (hroom : L.length + 1 ≤ 1000000000) (hby : by_ ≤ 1000) (hbase : base ≤ w.heap.size)
    (hK : ∀ A' c' w', Own E k w' base (.slice A' (L.length + 1) c') (L ++ [vs]) → w.grownBy w' v.ownBlock → Below base w w' → K (a.put o.dst (.slice A' (L.length + 1) c')) w') : if Region.wanted o (yielded ops a.tmps) = true then Oper.wp P o a w K Q else F := by
  rw [if_pos (by simp [Region.wanted, hgd])]
  obtain ⟨i, hi, hz0, hsz, hb⟩ := info_parts hE
  refine wp_append_own _ d x T ho base E i z k by_ hT hi hz0 hsz hb hz hk v L.length L.flatten hs hr.1 ⟨g, 0, none⟩ 1 1 vs hx (by omega) ?_ h1 (by simp only [maxLen]; omega) ?_ hbase ?_
  · intro j u hj
    rw [Addr.add_lit, Nat.zero_add]
    exact hg.cell j hj
  · exact Nat.le_trans (Nat.mul_le_mul hroom hby) (by decide)
  · intro v' w' g1 g2 _
    have ho' : Own E k w' base v' (L ++ [vs]) := by
      refine ⟨by simpa using g1, fun u hu => ?_⟩
      rcases List.mem_append.1 hu with hu | hu
      · exact hr.2 u hu
      · rw [List.mem_singleton] at hu; rw [hu, hvs]
    obtain ⟨A', c', rfl, _⟩ := ho'.slice
    have e : (L ++ [vs]).length = L.length + 1 := by simp
    rw [e] at ho' ⊢
    exact hK A' c' w' ho' g2 ((Below.refl base w).grown g2 hbase (fun g hg => (World.ownsRow.lt hr.1 g hg).1))
/-- A whole row into a block, within a region that draws its order. -/
theorem step_store_cb (hgd : o.guard = none) (ty : TypeId) (x y : Operand) (ho : o.op = .store ty x y)
    (g : Nat) (l : List Value) (hx : a.eval x = .pointer (some ⟨g, 0, none⟩)) (hy : a.eval y = .agg l.toArray) (t : TypeId) (old : List Value) (n : Nat) (hg : CB w g t old)
    (hi : (P.info? ty).map (·.size) = some n) (hn : old.length = n) (hl : l.length = n) (h1 : ∀ u ∈ l, u.oneCell' = true)
    (h : ∀ w', CB w' g t l → w.grownBy w' (some g) → w'.heap.size = w.heap.size → K (a.put o.dst undef) w') : if Region.wanted o (yielded ops a.tmps) = true then Oper.wp P o a w K Q else F := by
  rw [if_pos (by simp [Region.wanted, hgd])]
  refine wp_store_mid ty x y ho g 0 l.toArray hx hy ?_ (by rw [hi]; simp [hl]) (all_oneCell_toArray h1) ?_
  · intro j hj
    rw [Nat.zero_add, cell_of_row w g j _ t (0, 0) hg, frozen_of_row w g j _ t hg]
    simp at hj ⊢; omega
  · exact h _ (setCells_block hg (by simp [hl, hn])) (setCells_grown g _ _ _) (setCells_size g _ _ _)
end
theorem own_cell {E : TypeId} {k : Nat} {w : World} {base g n c : Nat} {L : List (List Value)} (h : Own E k w base (.slice (some ⟨g, 0, none⟩) n c) L) {j : Nat} (hj : j < L.flatten.length) : w.cell? ⟨g, j, none⟩ = L.flatten[j]? ∧ w.frozen? ⟨g, j, none⟩ = false := by
  rcases h.1.2 with ⟨e, _⟩ | ⟨g', cap, cur, e, _, hg, hn, hm, hs, ht⟩
  · cases e
  · injection e with e1
    injection e1 with e1
    injection e1 with e1
    subst e1
    refine ⟨?_, frozen_of_row w g j cur E hg⟩
    rw [cell_of_row w g j cur E (0, 0) hg, ← ht, List.getElem?_take]
    rw [← ht, List.length_take] at hj
    rw [if_pos (by omega)]
    simp
/-- an element of the call's own row is written -/
theorem own_store {E : TypeId} {k : Nat} {w : World} {base g n c : Nat} {L : List (List Value)} (hk : 0 < k) (h : Own E k w base (.slice (some ⟨g, 0, none⟩) n c) L) {i : Nat} (hi : i < L.length) {vs : List Value} (hv : vs.length = k) :
    Own E k (w.setCells g (i * k) vs) base (.slice (some ⟨g, 0, none⟩) n c) (L.set i vs) := by
  have hlen : ∀ us ∈ L.set i vs, us.length = k := by
    intro us hu
    rcases List.mem_or_eq_of_mem_set hu with h1 | rfl
    · exact h.2 us h1
    · exact hv
  have hfl : (L.set i vs).flatten.length = L.flatten.length := by rw [flat_len hlen, flat_len h.2, List.length_set]
  have hb : ∀ j, j < vs.length → (w.cell? ⟨g, i * k + j, none⟩).isSome = true := fun j hj => by
    have hlt : i * k + j < L.flatten.length := by
      rw [flat_len h.2]
      have := Nat.mul_le_mul_right k (show i + 1 ≤ L.length by omega)
      rw [Nat.add_mul] at this
      omega
    rw [(own_cell h hlt).1, List.getElem?_eq_getElem hlt]
    rfl
  have hc := fun j hj => (own_cell h (j := j) hj).1
  refine ⟨?_, hlen⟩
  rcases h.1.2 with ⟨e, _⟩ | ⟨g', cap, cur, e, hbg, hg, hn, hm, hs, ht⟩
  · cases e
  · injection e with e1 e2 e3
    injection e1 with e1
    injection e1 with e1
    subst e1 e2 e3
    obtain ⟨C, h1, h2⟩ := setCells_some vs (i * k) w cur hg
    refine ⟨by rw [hfl, h.1.1, List.length_set], .inr ⟨g, c, C, by rw [List.length_set], hbg, h1, by rw [List.length_set]; exact hn, hm, by rw [h2]; exact hs, ?_⟩⟩
    rw [List.length_set]
    apply List.ext_getElem?
    intro j
    by_cases hj : j < L.length * k
    · rw [List.getElem?_take, if_pos hj, Array.getElem?_toList, ← cell_of_row _ g j C E (0, 0) h1]
      have hq : j / k < L.length := (Nat.div_lt_iff_lt_mul hk).2 hj
      have hm' : j % k < k := Nat.mod_lt _ hk
      have ej : j / k * k + j % k = j := by rw [Nat.mul_comm]; exact Nat.div_add_mod j k
      by_cases hqi : j / k = i
      · have e1 : (L.set i vs)[j / k]? = some vs := by rw [hqi, List.getElem?_set_self hi]
        have e2 := flat_get hlen e1 (List.getElem?_eq_getElem (l := vs) (i := j % k) (by omega))
        rw [ej] at e2
        rw [e2]
        have e3 := World.cell?_setCells_in g vs (i * k) w hb (j % k) (by omega)
        rw [← hqi, ej] at e3
        rw [← hqi]
        exact e3
      · have e1 : (L.set i vs)[j / k]? = L[j / k]? := List.getElem?_set_ne (fun e => hqi e.symm)
        have hvl : L[j / k].length = k := h.2 _ (List.getElem_mem hq)
        have e2 := flat_get hlen (e1.trans (List.getElem?_eq_getElem hq)) (List.getElem?_eq_getElem (l := L[j / k]) (i := j % k) (by omega))
        have e4 := flat_get h.2 (List.getElem?_eq_getElem hq) (List.getElem?_eq_getElem (l := L[j / k]) (i := j % k) (by omega))
        rw [ej] at e2 e4
        rw [e2, ← e4, ← hc j (by rw [flat_len h.2]; exact hj)]
        refine World.cell?_setCells_out g vs (i * k) w ⟨g, j, none⟩ (fun _ _ => ?_)
        show j < i * k ∨ i * k + vs.length ≤ j
        rw [hv]
        rcases Nat.lt_or_gt_of_ne hqi with hlt | hgt
        · left
          have := Nat.mul_le_mul_right k (show j / k + 1 ≤ i by omega)
          rw [Nat.add_mul] at this
          omega
        · right
          have := Nat.mul_le_mul_right k (show i + 1 ≤ j / k by omega)
          rw [Nat.add_mul] at this
          omega
    · rw [List.getElem?_eq_none (by rw [List.length_take]; omega), List.getElem?_eq_none (by rw [hfl, flat_len h.2]; omega)]
theorem wpList_store_own {P : Program} {w : World} {ops : Array Oper} {rest : List Oper} {o : Oper} {a : Act} {Q : Exit → Act → World → Prop} {E : TypeId} {k : Nat} (hgd : o.guard = none) (ty : TypeId) (x y : Operand) (ho : o.op = .store ty x y)
    (base g n c i q : Nat) (L : List (List Value)) (vs : List Value) (hx : a.eval x = .pointer (some ⟨g, q, none⟩)) (hq : q = i * k) (hy : a.eval y = .agg vs.toArray) (hr : Own E k w base (.slice (some ⟨g, 0, none⟩) n c) L) (hk : 0 < k) (hi : i < L.length) (hv : vs.length = k)
    (hs : (P.info? ty).map (·.size) = some k) (h1 : ∀ u ∈ vs, u.oneCell' = true)
    (h : ∀ w', Own E k w' base (.slice (some ⟨g, 0, none⟩) n c) (L.set i vs) → w.grownBy w' (some g) → w'.heap.size = w.heap.size → wpList P ops Q rest (a.put o.dst undef) w') : wpList P ops Q (o :: rest) a w := by
  subst hq
  refine wpList_store_mid hgd ty x y ho g (i * k) vs.toArray hx hy ?_ (by rw [hs]; simp [hv]) (all_oneCell_toArray h1) ?_
  · intro j hj
    have hlt : i * k + j < L.flatten.length := by
      rw [flat_len hr.2]
      have := Nat.mul_le_mul_right k (show i + 1 ≤ L.length by omega)
      rw [Nat.add_mul] at this
      simp at hj
      omega
    have := own_cell hr hlt
    refine ⟨by rw [this.1, List.getElem?_eq_getElem hlt]; rfl, this.2⟩
  · exact h _ (own_store hk hr hi hv) (setCells_grown g _ _ _) (setCells_size g _ _ _)
theorem own_empty {E : TypeId} {k : Nat} (w : World) (c : Array Value) (hc : c = #[]) : Own E k (w.alloc (.cells c E)) w.heap.size (.slice (some ⟨w.heap.size, 0, none⟩) 0 0) [] := by
  subst hc
  exact ⟨⟨by simp, .inr ⟨w.heap.size, 0, #[], rfl, Nat.le_refl _, heap_alloc_new w _, Nat.le_refl _, by simp [maxLen], by simp, by simp⟩⟩, fun _ h => by simp at h⟩
end Go.Proofs.Ytiafcdaephcfeaa
namespace Go.Proofs.Ytiafcdaephcfeaa
open Go.RowKit

/-- a field: number, name, type, group -/
structure Fd where
  id : Int
  nm : ByteArray
  ty : Int
  pa : Int
def Fd.cells (f : Fd) : List Value := [.int .i64 f.id, .string f.nm, .int .i64 f.ty, .int .i64 f.pa]
abbrev Fd.val (f : Fd) : Value := .agg #[.int .i64 f.id, .string f.nm, .int .i64 f.ty, .int .i64 f.pa]
def Fd.zero : Fd := ⟨0, ⟨#[]⟩, 0, 0⟩
/-- a schema: its fields and the next number -/
structure Sc where
  fs : List Fd
  next : Int
def Sc.zero : Sc := ⟨[], 0⟩
/-- a change -/
structure Ch where
  kind : Int
  id : Int
  wi : Int
  nm : ByteArray
  ot : ByteArray
  ty : Int
  pa : Int
  sep : ByteArray
def Ch.cells (c : Ch) : List Value := [.int .i64 c.kind, .int .i64 c.id, .int .i64 c.wi, .string c.nm, .string c.ot, .int .i64 c.ty, .int .i64 c.pa, .string c.sep]
abbrev Ch.val (c : Ch) : Value := .agg #[.int .i64 c.kind, .int .i64 c.id, .int .i64 c.wi, .string c.nm, .string c.ot, .int .i64 c.ty, .int .i64 c.pa, .string c.sep]

/-- The fields l can be read at address A. -/
def Fds (w : World) (B : Nat) (A : Option Addr) (l : List Fd) : Prop := RowAt 4 w B A (l.map Fd.cells)
def Chs (w : World) (B : Nat) (A : Option Addr) (l : List Ch) : Prop := RowAt 8 w B A (l.map Ch.cells)
section
variable {w w' : World} {B B' : Nat} {A : Option Addr} {l : List Fd} {f : Fd} {m : List Ch} {c : Ch}
theorem Fds.nil : Fds w B A [] := RowAt.nil
theorem Fds.below (h : Fds w B A l) (hb : Below B w w') : Fds w' B A l := RowAt.below h hb
theorem Fds.more (h : Fds w B A l) (hB : B ≤ B') : Fds w B' A l := RowAt.more h hB
theorem Fds.up (h : Fds w w.heap.size A l) (hb : Below w.heap.size w w') : Fds w' w'.heap.size A l := RowAt.up h hb
theorem Fds.take (h : Fds w B A l) (n : Nat) : Fds w B A (l.take n) := by
  unfold Fds
  rw [List.map_take]
  exact RowAt.take h n
theorem Fds.one (h : Fds w B A l) {i : Nat} (hi : l[i]? = some f) : ∃ b off, A = some ⟨b, off, none⟩ ∧ b < B ∧ w.cell? ⟨b, off + i * 4, none⟩ = some (.int .i64 f.id) ∧ w.cell? ⟨b, off + i * 4 + 1, none⟩ = some (.string f.nm) ∧
    w.cell? ⟨b, off + i * 4 + 2, none⟩ = some (.int .i64 f.ty) ∧ w.cell? ⟨b, off + i * 4 + 3, none⟩ = some (.int .i64 f.pa) := by
  obtain ⟨b, off, e, hlt, hc⟩ := RowAt.one h (vs := f.cells) (i := i) (by rw [List.getElem?_map, hi]; rfl)
  exact ⟨b, off, e, hlt, hc 0 _ rfl, hc 1 _ rfl, hc 2 _ rfl, hc 3 _ rfl⟩
theorem Chs.below (h : Chs w B A m) (hb : Below B w w') : Chs w' B A m := RowAt.below h hb
theorem Chs.more (h : Chs w B A m) (hB : B ≤ B') : Chs w B' A m := RowAt.more h hB
theorem Chs.up (h : Chs w w.heap.size A m) (hb : Below w.heap.size w w') : Chs w' w'.heap.size A m := RowAt.up h hb
theorem Chs.take (h : Chs w B A m) (n : Nat) : Chs w B A (m.take n) := by
  unfold Chs
  rw [List.map_take]
  exact RowAt.take h n
theorem Chs.one (h : Chs w B A m) {i : Nat} (hi : m[i]? = some c) : ∃ b off, A = some ⟨b, off, none⟩ ∧ b < B ∧ w.cell? ⟨b, off + i * 8, none⟩ = some (.int .i64 c.kind) ∧ w.cell? ⟨b, off + i * 8 + 1, none⟩ = some (.int .i64 c.id) ∧
    w.cell? ⟨b, off + i * 8 + 2, none⟩ = some (.int .i64 c.wi) ∧ w.cell? ⟨b, off + i * 8 + 3, none⟩ = some (.string c.nm) ∧ w.cell? ⟨b, off + i * 8 + 4, none⟩ = some (.string c.ot) ∧ w.cell? ⟨b, off + i * 8 + 5, none⟩ = some (.int .i64 c.ty) ∧
    w.cell? ⟨b, off + i * 8 + 6, none⟩ = some (.int .i64 c.pa) ∧ w.cell? ⟨b, off + i * 8 + 7, none⟩ = some (.string c.sep) := by
  obtain ⟨b, off, e, hlt, hc⟩ := RowAt.one h (vs := c.cells) (i := i) (by rw [List.getElem?_map, hi]; rfl)
  exact ⟨b, off, e, hlt, hc 0 _ rfl, hc 1 _ rfl, hc 2 _ rfl, hc 3 _ rfl, hc 4 _ rfl, hc 5 _ rfl, hc 6 _ rfl, hc 7 _ rfl⟩
end

/-- the field with a number -/
def field : List Fd → Int → Option Fd
  | [], _ => none
  | f :: r, i => if f.id = i then some f else field r i
def fieldD (l : List Fd) (i : Int) : Fd := (field l i).getD Fd.zero
def hasF (l : List Fd) (i : Int) : Bool := (field l i).isSome
theorem field_mem : ∀ {l : List Fd} {i : Int} {f : Fd}, field l i = some f → f ∈ l ∧ f.id = i
  | [], _, _, h => by simp [field] at h
  | g :: r, i, f, h => by
    unfold field at h
    split at h
    · next hg => cases h; exact ⟨by simp, hg⟩
    · have := field_mem h; exact ⟨by simp [this.1], this.2⟩
theorem field_none : ∀ {l : List Fd} {i : Int}, field l i = none ↔ ∀ f ∈ l, f.id ≠ i
  | [], _ => by simp [field]
  | g :: r, i => by
    unfold field
    split
    · next hg => simp [hg]
    · next hg => rw [field_none]; simp [hg]
theorem drop_cons {α : Type} {l : List α} {k : Nat} {x : α} (h : l[k]? = some x) : l.drop k = x :: l.drop (k + 1) := by
  obtain ⟨hl, e⟩ := List.getElem?_eq_some_iff.1 h
  rw [List.drop_eq_getElem_cons hl, e]
theorem getD_of {l : List Fd} {k : Nat} (h : k < l.length) : ∃ f, l[k]? = some f := ⟨l[k], List.getElem?_eq_getElem h⟩

theorem infoF : (Try.prog.info? 50).map (fun i => (i.zero, i.size, i.bytes)) = some (some (.agg #[.int .i64 0, .string ⟨#[]⟩, .int .i64 0, .int .i64 0]), 4, 40) := by kernel_rfl
theorem sizeF : (Try.prog.info? 50).map (·.size) = some 4 := by kernel_rfl
theorem sizeS : (Try.prog.info? 31).map (·.size) = some 2 := by kernel_rfl
theorem one_f (f : Fd) : ∀ u ∈ f.cells, u.oneCell' = true := by
  intro u hu
  simp only [Fd.cells, List.mem_cons, List.not_mem_nil, or_false] at hu
  rcases hu with rfl | rfl | rfl | rfl <;> rfl
theorem one_f' (a : Int) (s : ByteArray) (b c : Int) : ∀ u ∈ [Value.int .i64 a, .string s, .int .i64 b, .int .i64 c], u.oneCell' = true := one_f ⟨a, s, b, c⟩
theorem one_s (A : Option Addr) (n c : Nat) (x : Int) : ∀ u ∈ [Value.slice A n c, .int .i64 x], u.oneCell' = true := by
  intro u hu
  simp only [List.mem_cons, List.not_mem_nil, or_false] at hu
  rcases hu with rfl | rfl <;> rfl
/-- append(v, f): v the call's own row of fields. -/
theorem push_fd {w wr : World} {ops : Array Oper} {rest : List Oper} {o : Oper} {a : Act} {Q : Exit → Act → World → Prop} (hgd : o.guard = none) (d x : Operand)
    (ho : o.op = .call { callee := .builtin .append, args := #[d, x], argTypes := #[29, 29] }) (base : Nat) (v : Value) (acc : List Fd) (f : Fd) (N : Nat) (hs : a.eval d = v) (hx : a.eval x = .slice (some ⟨N, 0, none⟩) 1 1)
    (hN : N = wr.heap.size) (hw : w = wr.alloc (.cells #[.int .i64 f.id, .string f.nm, .int .i64 f.ty, .int .i64 f.pa] 50)) (hr : Own 50 4 wr base v (acc.map Fd.cells)) (hroom : acc.length ≤ 1000000) (hbase : base ≤ wr.heap.size)
    (hK : ∀ A' c' w', Own 50 4 w' base (.slice A' (acc.length + 1) c') ((acc ++ [f]).map Fd.cells) → wr.grownBy w' v.ownBlock → Below base wr w' → wpList Try.prog ops Q rest (a.put o.dst (.slice A' (acc.length + 1) c')) w') : wpList Try.prog ops Q (o :: rest) a w := by
  refine wpList_push hgd d x ho Try.underlying29 infoF rfl (by decide) base v (acc.map Fd.cells) f.cells N hs hx hN hw hr rfl (one_f f) (by simp; omega) (by decide) hbase ?_
  intro A' c' w' h1 h2 h3
  have e : (acc.map Fd.cells ++ [f.cells]).length = acc.length + 1 := by simp
  rw [e] at h1 ⊢
  exact hK A' c' w' (by simpa using h1) h2 h3
end Go.Proofs.Ytiafcdaephcfeaa
namespace Go.Proofs.Ytiafcdaephcfeaa
open Go.RowKit

/-- a result that lies in a block, and a bool -/
theorem res_cell {fn : Func} {p u : Tmp} {ty T : TypeId} {tmps : Array Value} {P : Program} {w : World} {g : Nat} {l : List Value} {fs : Array Go.Field} {n : Nat} {x : Value} (h : fn.results = #[.cell p ty, .tmp u]) (hp : tmps.getD p undef = .pointer (some ⟨g, 0, none⟩)) (hx : tmps.getD u undef = x)
    (hg : CB w g T l) (hu : P.underlying ty = some (.struct fs)) (hi : (P.info? ty).map (·.size) = some n) (hl : l.length = n) :
    (results fn tmps).run P w = .ok (.tuple #[.agg l.toArray, x]) w := by
  rw [results_cell_tmp h, hp, hx]
  simp [asAddr, run_loadVar_row _ _ _ _ _ (0, 0) _ hg hu rfl (by rw [hi]; simp [hl])]
theorem res_cell1 {fn : Func} {p : Tmp} {ty T : TypeId} {tmps : Array Value} {P : Program} {w : World} {g : Nat} {l : List Value} {fs : Array Go.Field} {n : Nat} (h : fn.results = #[.cell p ty]) (hp : tmps.getD p undef = .pointer (some ⟨g, 0, none⟩))
    (hg : CB w g T l) (hu : P.underlying ty = some (.struct fs)) (hi : (P.info? ty).map (·.size) = some n) (hl : l.length = n) :
    (results fn tmps).run P w = .ok (.agg l.toArray) w := by
  rw [Array.getD_eq_getD_getElem?] at hp
  simp only [results, h]
  simp [hp, asAddr, run_loadVar_row _ _ _ _ _ (0, 0) _ hg hu rfl (by rw [hi]; simp [hl])]

theorem fld_fin {l : List Fd} {k : Nat} {i : Int} {f : Fd} (hd : l.drop k = f :: l.drop (k + 1)) (hgo : field (l.drop k) i = field l i) (hf : f.id = i) : field l i = some f := by
  rw [← hgo, hd, field, if_pos hf]
theorem fld_go {l : List Fd} {k : Nat} {i : Int} {f : Fd} (hd : l.drop k = f :: l.drop (k + 1)) (hgo : field (l.drop k) i = field l i) (hf : ¬ f.id = i) : field (l.drop (k + 1)) i = field l i := by
  rw [← hgo, hd, field, if_neg hf]
theorem fld_end {l : List Fd} {k : Nat} {i : Int} (hk : l.length ≤ k) (hgo : field (l.drop k) i = field l i) : field l i = none := by
  rw [← hgo, List.drop_of_length_le hk, field]
theorem fld_some {l : List Fd} {i : Int} {f : Fd} (h : field l i = some f) : (Ending.returned (.tuple #[.agg f.cells.toArray, .bool true])) = .returned (.tuple #[(fieldD l i).val, .bool (hasF l i)]) := by
  unfold fieldD hasF
  rw [h]
  rfl
theorem fld_none {l : List Fd} {i : Int} (h : field l i = none) : (Ending.returned (.tuple #[.agg Fd.zero.cells.toArray, .bool false])) = .returned (.tuple #[(fieldD l i).val, .bool (hasF l i)]) := by
  unfold fieldD hasF
  rw [h]
  rfl

set_option maxHeartbeats 1000000 in
set_option maxRecDepth 20000 in
theorem Field_any (A : Option Addr) (n c : Nat) (x : Int) (l : List Fd) (i : Int) (w : World) (hn : n = l.length) (hs : Fds w w.heap.size A l) (hl : n ≤ 9223372036854775807) :
    Calls Try.prog 21 #[.agg #[.slice A n c, .int .i64 x], .int .i64 i] w fun e w' => e = .returned (.tuple #[(fieldD l i).val, .bool (hasF l i)]) ∧ Below w.heap.size w w' := by
  have HN := Lib.hid hn
  have HS := Lib.hid hs
  clear hn hs
  go_enter Try.func21, Try.ntmps21
  go_wp2
  go_loopw [11] (fun j wr => ∃ k : Nat, k ≤ n ∧ j = .int .i64 k ∧ Hid (CB wr (w.heap.size + 1) 50 Fd.zero.cells) ∧ Hid (Below w.heap.size w wr) ∧ Hid (field (l.drop k) i = field l i)) (fun j _ => n - (intOf j).toNat)
  case atStart => exact ⟨0, by omega, rfl, CB.new1 w _ 50 Fd.zero.cells, al2 _ _ _, rfl⟩
  case round =>
    obtain ⟨k, hk, rfl, hcb, hbel, hgo⟩ := hrel
    by_cases hlt : k < n
    · have i1 : (k : Int) < (n : Int) := by omega
      obtain ⟨f, hf⟩ := getD_of (l := l) (k := k) (by rw [← HN.out]; exact hlt)
      obtain ⟨b, off, rfl, hb, c0, c1, c2, c3⟩ := (HS.out.below hbel.out).one hf
      have hd := Lib.hid (drop_cons hf)
      have hsz : w.heap.size + 1 < wr.heap.size := hcb.out.lt
      by_cases he : f.id = i
      · have e1 : (f.id == i) = true := by simpa using he
        have HE := Lib.hid he
        clear he hf
        go_wp2_with ((with_reducible show wpList _ _ _ _ _ _); refine wpList_store_cb rfl 50 (.tmp 4) (.tmp 19) rfl (w.heap.size + 1) f.cells rfl rfl 50 Fd.zero.cells 4 (hcb.out.alloc _) sizeF rfl rfl (one_f f) ?_; intro w1 hc1 hg1 hz1)
        refine bodyPost_ret (res_cell Try.results21 rfl rfl hc1 Try.underlying50 sizeF rfl) rfl ⟨fld_some (fld_fin hd.out hgo.out HE.out), ?_⟩
        exact below_grown (hbel.out.alloc (by omega) _) hg1 (by simp; omega) (by omega)
      · have e1 : (f.id == i) = false := by simpa using he
        have HE := Lib.hid he
        clear he hf
        go_wp2
        go_roundw
        case rel => exact ⟨k + 1, by omega, by go_num, hcb.out.alloc _, hbel.out.alloc (by omega) _, fld_go hd.out hgo.out HE.out⟩
        case measure => simp [intOf]; omega
    · have i1 : ¬ (k : Int) < (n : Int) := by omega
      have hsz : w.heap.size + 1 < wr.heap.size := hcb.out.lt
      go_wp2_with ((with_reducible show wpList _ _ _ _ _ _); refine wpList_store_cb rfl 50 (.tmp 4) (.tmp 21) rfl (w.heap.size + 1) Fd.zero.cells rfl rfl 50 Fd.zero.cells 4 hcb.out sizeF rfl rfl (one_f Fd.zero) ?_; intro w1 hc1 hg1 hz1)
      refine bodyPost_ret (res_cell Try.results21 rfl rfl hc1 Try.underlying50 sizeF rfl) rfl ⟨fld_none (fld_end (by rw [← HN.out]; omega) hgo.out), ?_⟩
      exact below_grown hbel.out hg1 (by omega) (by omega)
end Go.Proofs.Ytiafcdaephcfeaa
namespace Go.Proofs.Ytiafcdaephcfeaa
open Go.RowKit

/-- the first field with a number, a group unless it is the first one on the way -/
def fieldG (fi : Bool) : List Fd → Int → Option Fd
  | [], _ => none
  | f :: r, i => if f.id = i ∧ (fi = true ∨ f.ty = 6) then some f else fieldG fi r i
/-- a field and the groups around it, from the inside out, and what is left to find -/
def anc (l : List Fd) : Nat → Bool → Int → List Fd × Int
  | 0, _, i => ([], i)
  | m + 1, fi, i => if i = 0 then ([], i) else match fieldG fi l i with
    | none => ([], i)
    | some f => (f :: (anc l m false f.pa).1, (anc l m false f.pa).2)

theorem anc_zero (l : List Fd) (m : Nat) (fi : Bool) : anc l m fi 0 = ([], 0) := by cases m <;> simp [anc]
theorem anc_none {l : List Fd} {m : Nat} {fi : Bool} {i : Int} (h : fieldG fi l i = none) : anc l m fi i = ([], i) := by
  cases m with
  | zero => rfl
  | succ m =>
    unfold anc
    rw [h]
    split <;> rfl
theorem anc_some {l : List Fd} {m : Nat} {fi : Bool} {i : Int} {f : Fd} (hi : ¬ i = 0) (h : fieldG fi l i = some f) : anc l (m + 1) fi i = (f :: (anc l m false f.pa).1, (anc l m false f.pa).2) := by
  rw [anc, if_neg hi, h]
theorem fldG_yes {l : List Fd} {k : Nat} {i : Int} {f : Fd} {fi : Bool} (hd : l.drop k = f :: l.drop (k + 1)) (hgo : fieldG fi (l.drop k) i = fieldG fi l i) (hf : f.id = i ∧ (fi = true ∨ f.ty = 6)) : fieldG fi l i = some f := by
  rw [← hgo, hd, fieldG, if_pos hf]
theorem fldG_go {l : List Fd} {k : Nat} {i : Int} {f : Fd} {fi : Bool} (hd : l.drop k = f :: l.drop (k + 1)) (hgo : fieldG fi (l.drop k) i = fieldG fi l i) (hf : ¬ (f.id = i ∧ (fi = true ∨ f.ty = 6))) : fieldG fi (l.drop (k + 1)) i = fieldG fi l i := by
  rw [← hgo, hd, fieldG, if_neg hf]
theorem fldG_end {l : List Fd} {k : Nat} {i : Int} {fi : Bool} (hk : l.length ≤ k) (hgo : fieldG fi (l.drop k) i = fieldG fi l i) : fieldG fi l i = none := by
  rw [← hgo, List.drop_of_length_le hk, fieldG]
/-- what holds at the head of the climb -/
structure Climb (w wr : World) (l : List Fd) (i : Int) (g : Nat) (v : Value) (id : Int) (acc : List Fd) : Prop where
  own : Own 50 4 wr w.heap.size v (acc.map Fd.cells)
  len : acc.length + g = 8
  bel : Below w.heap.size w wr
  sz : w.heap.size ≤ wr.heap.size
  eq : anc l 8 true i = (acc ++ (anc l g (acc.length == 0) id).1, (anc l g (acc.length == 0) id).2)
theorem climb_done {w wr : World} {l : List Fd} {i : Int} {g : Nat} {A : Option Addr} {n c : Nat} {id : Int} {acc : List Fd} {z : Bool} (h : Climb w wr l i g (.slice A n c) id acc) (he : anc l g (acc.length == 0) id = ([], id)) (hz : decide (id = 0) = z) :
    (∃ A' c', Ending.returned (.tuple #[.slice A n c, .bool z]) = .returned (.tuple #[.slice A' (anc l 8 true i).1.length c', .bool (decide ((anc l 8 true i).2 = 0))]) ∧ Own 50 4 wr w.heap.size (.slice A' (anc l 8 true i).1.length c') ((anc l 8 true i).1.map Fd.cells)) ∧ Below w.heap.size w wr := by
  have e := h.eq
  rw [he, List.append_nil] at e
  obtain ⟨h1, h2, h3, h4⟩ := h.own.row
  refine ⟨⟨A, c, ?_, ?_⟩, h.bel⟩
  · rw [e, ← hz, h1, List.length_map]
  · have ho := h.own
    rw [h1, List.length_map] at ho
    rw [e]
    exact ho
theorem climb_step {w wr w1 : World} {l : List Fd} {i : Int} {g : Nat} {v : Value} {id : Int} {acc : List Fd} {f : Fd} {A : Option Addr} {c : Nat} (h : Climb w wr l i (g + 1) v id acc) (hi : ¬ id = 0) (hf : fieldG (acc.length == 0) l id = some f)
    (ho : Own 50 4 w1 w.heap.size (.slice A (acc.length + 1) c) ((acc ++ [f]).map Fd.cells)) (hb : Below w.heap.size w w1) (hz : w.heap.size ≤ w1.heap.size) : Climb w w1 l i g (.slice A (acc.length + 1) c) f.pa (acc ++ [f]) := by
  refine ⟨ho, by have := h.len; simp; omega, hb, hz, ?_⟩
  rw [h.eq, anc_some hi hf, show ((acc ++ [f]).length == 0) = false by simp]
  simp

set_option maxHeartbeats 4000000 in
set_option maxRecDepth 20000 in
theorem ancestry_any (A : Option Addr) (n c : Nat) (l : List Fd) (i : Int) (w : World) (hn : n = l.length) (hs : Fds w w.heap.size A l) (hl : n ≤ 9223372036854775807) :
    Calls Try.prog 29 #[.slice A n c, .int .i64 i] w fun e w' => (∃ A' c', e = .returned (.tuple #[.slice A' (anc l 8 true i).1.length c', .bool (decide ((anc l 8 true i).2 = 0))]) ∧ Own 50 4 w' w.heap.size (.slice A' (anc l 8 true i).1.length c') ((anc l 8 true i).1.map Fd.cells)) ∧ Below w.heap.size w w' := by
  have HN := Lib.hid hn
  have HS := Lib.hid hs
  clear hn hs
  go_enter Try.func29, Try.ntmps29
  go_wp2
  go_step3
  go_wp2
  go_step3
  go_wp2
  go_loopg [1, 6] 8 (fun g s1 s6 wx => ∃ (id : Int) (acc : List Fd), s1 = .int .i64 id ∧ Hid (Climb w wx l i g s6 id acc))
  case atStart => exact ⟨i, [], rfl, ⟨Own.nil _ _ _ _, rfl, Below.refl _ _, Nat.le_refl _, by simp⟩⟩
  case round =>
    obtain ⟨id, acc, rfl, HI⟩ := hrel
    obtain ⟨A6, c6, hv6, hlc, hc6⟩ := HI.out.own.slice
    subst hv6
    rw [List.length_map] at hlc HI ⊢
    have hlen := HI.out.len
    by_cases h0 : id = 0
    · subst h0
      go_wp2
      try rw [Exit.noGoto_ret]
      go_ret2
      exact climb_done HI.out (anc_zero _ _ _) rfl
    · have e0 : (id == 0) = false := by simpa using h0
      have H0 := Lib.hid h0
      clear h0
      cases gk with
      | zero =>
        have e1 : ¬ ((acc.length : Int) < 8) := by omega
        go_wp2
        try rw [Exit.noGoto_ret]
        go_ret2
        exact climb_done HI.out rfl (by simpa using H0.out)
      | succ g =>
        have e1 : ((acc.length : Int) < 8) := by omega
        have hsz0 := HI.out.sz
        go_wp2
        go_loopg [1, 6, 18] n (fun g2 s1 s6 s18 wy => ∃ j : Nat, j + g2 = n ∧ s1 = .int .i64 id ∧ s6 = .slice A6 acc.length c6 ∧ s18 = .int .i64 j ∧ Hid (Climb w wy l i (g + 1) (.slice A6 acc.length c6) id acc) ∧ Hid (fieldG (acc.length == 0) (l.drop j) id = fieldG (acc.length == 0) l id))
        case atStart => exact ⟨0, by omega, rfl, rfl, rfl, HI.out, rfl⟩
        case round =>
          obtain ⟨j, hjg, rfl, rfl, rfl, HJ, HG⟩ := hrel
          cases gk with
          | zero =>
            have hjz : ¬ ((j : Int) < (n : Int)) := by omega
            go_wp2
            try rw [Exit.noGoto_ret]
            go_ret2
            exact climb_done HJ.out (anc_none (fldG_end (by rw [← HN.out]; omega) HG.out)) (by simpa using H0.out)
          | succ g2 =>
            have hjz : ((j : Int) < (n : Int)) := by omega
            obtain ⟨f, hf⟩ := getD_of (l := l) (k := j) (by rw [← HN.out]; omega)
            obtain ⟨b, off, rfl, hb, c0, c1, c2, c3⟩ := (HS.out.below HJ.out.bel).one hf
            have HD := Lib.hid (drop_cons hf)
            have hsz := HJ.out.sz
            by_cases he : f.id = id
            · have e2 : (f.id == id) = true := by simpa using he
              by_cases h1 : acc.length = 0
              · have e3 : ((acc.length : Int) == 0) = true := by simp [h1]
                have HE : Hid (f.id = id ∧ ((acc.length == 0) = true ∨ f.ty = 6)) := ⟨he, .inl (by simpa using h1)⟩
                clear he h1 hf
                go_wp2_with (at_builtin; refine push_fd (wr := wr.alloc (.cells #[.int .i64 f.id, .string f.nm, .int .i64 f.ty, .int .i64 f.pa] 50)) rfl (.tmp 36) (.tmp 38) rfl w.heap.size (.slice A6 acc.length c6) acc f (wr.heap.size + 1) rfl rfl (asz _ _).symm rfl (HJ.out.own.alloc _) (by omega) (by rw [asz]; omega) ?_; intro A7 c7 w7 ho7 hg7 hb7; have HO7 := Lib.hid ho7; have HB7 := Lib.hid hb7; have HZ7 := Lib.hid hg7.size; have hp7 := ((CB.new wr 50 f.cells).grown hg7 HJ.out.own.new_ne).cell 3 rfl; clear ho7 hb7 hg7)
                go_roundg g
                case measure => omega
                case rel => exact ⟨f.pa, acc ++ [f], rfl, climb_step HJ.out H0.out (fldG_yes HD.out HG.out HE.out) HO7.out ((HJ.out.bel.alloc HJ.out.sz _).trans HB7.out) (by have := HZ7.out; rw [asz] at this; omega)⟩
              · have e3 : ((acc.length : Int) == 0) = false := by simpa using h1
                by_cases ht : f.ty = 6
                · have e4 : (f.ty == 6) = true := by simpa using ht
                  have HE : Hid (f.id = id ∧ ((acc.length == 0) = true ∨ f.ty = 6)) := ⟨he, .inr ht⟩
                  clear he h1 ht hf
                  go_wp2_with (at_builtin; refine push_fd (wr := wr.alloc (.cells #[.int .i64 f.id, .string f.nm, .int .i64 f.ty, .int .i64 f.pa] 50)) rfl (.tmp 36) (.tmp 38) rfl w.heap.size (.slice A6 acc.length c6) acc f (wr.heap.size + 1) rfl rfl (asz _ _).symm rfl (HJ.out.own.alloc _) (by omega) (by rw [asz]; omega) ?_; intro A7 c7 w7 ho7 hg7 hb7; have HO7 := Lib.hid ho7; have HB7 := Lib.hid hb7; have HZ7 := Lib.hid hg7.size; have hp7 := ((CB.new wr 50 f.cells).grown hg7 HJ.out.own.new_ne).cell 3 rfl; clear ho7 hb7 hg7)
                  go_roundg g
                  case measure => omega
                  case rel => exact ⟨f.pa, acc ++ [f], rfl, climb_step HJ.out H0.out (fldG_yes HD.out HG.out HE.out) HO7.out ((HJ.out.bel.alloc HJ.out.sz _).trans HB7.out) (by have := HZ7.out; rw [asz] at this; omega)⟩
                · have e4 : (f.ty == 6) = false := by simpa using ht
                  have HE : Hid (¬ (f.id = id ∧ ((acc.length == 0) = true ∨ f.ty = 6))) := fun h => by rcases h.2 with h | h; exact h1 (by simpa using h); exact ht h
                  clear he h1 ht hf
                  go_wp2
                  go_roundg g2
                  case measure => omega
                  case rel => exact ⟨j + 1, by omega, rfl, rfl, by go_num, ⟨HJ.out.own.alloc _, HJ.out.len, HJ.out.bel.alloc HJ.out.sz _, by simp; omega, HJ.out.eq⟩, fldG_go HD.out HG.out HE.out⟩
            · have e2 : (f.id == id) = false := by simpa using he
              have HE : Hid (¬ (f.id = id ∧ ((acc.length == 0) = true ∨ f.ty = 6))) := fun h => he h.1
              clear he hf
              go_wp2
              go_roundg g2
              case measure => omega
              case rel => exact ⟨j + 1, by omega, rfl, rfl, by go_num, ⟨HJ.out.own.alloc _, HJ.out.len, HJ.out.bel.alloc HJ.out.sz _, by simp; omega, HJ.out.eq⟩, fldG_go HD.out HG.out HE.out⟩
end Go.Proofs.Ytiafcdaephcfeaa
namespace Go.Proofs.Ytiafcdaephcfeaa
open Go.RowKit

def typB (t : Int) : Bool := decide (1 ≤ t ∧ t ≤ 6)
def sepB (s : ByteArray) : Bool := decide (1 ≤ s.size ∧ s.size ≤ 16)
def okC (c : UInt8) : Bool := decide ((97 ≤ c.toNat ∧ c.toNat ≤ 122) ∨ (48 ≤ c.toNat ∧ c.toNat ≤ 57) ∨ c.toNat = 95)
def namB (s : ByteArray) : Bool := decide (1 ≤ s.size ∧ s.size ≤ 32) && s.data.toList.all okC
def limB (s : Sc) : Bool := decide (s.fs.length ≤ 64 ∧ s.next ≤ 1073741824)

theorem schType_any (t : Int) (z : Bool) (w : World) (hz : typB t = z) : Calls Try.prog 57 #[.int .i64 t] w fun e w' => e = .returned (.bool z) ∧ w' = w := by
  unfold typB at hz
  by_cases h1 : 1 ≤ t
  · by_cases h2 : t ≤ 6
    · obtain rfl : z = true := by rw [← hz]; simp; omega
      clear hz
      go_enter Try.func57, Try.ntmps57
      go_wp2
      go_ret
      exact ⟨rfl, rfl⟩
    · obtain rfl : z = false := by rw [← hz]; simp; omega
      clear hz
      go_enter Try.func57, Try.ntmps57
      go_wp2
      go_ret
      exact ⟨rfl, rfl⟩
  · obtain rfl : z = false := by rw [← hz]; simp; omega
    clear hz
    go_enter Try.func57, Try.ntmps57
    go_wp2
    go_ret
    exact ⟨rfl, rfl⟩
theorem isSep_any (s : ByteArray) (z : Bool) (w : World) (hz : sepB s = z) (hs : s.size ≤ 9223372036854775807) : Calls Try.prog 68 #[.string s] w fun e w' => e = .returned (.bool z) ∧ w' = w := by
  unfold sepB at hz
  by_cases h1 : 1 ≤ s.size
  · by_cases h2 : s.size ≤ 16
    · obtain rfl : z = true := by rw [← hz]; simp; omega
      clear hz
      have i1 : (1 : Int) ≤ (s.size : Int) := by omega
      have i2 : (s.size : Int) ≤ 16 := by omega
      go_enter Try.func68, Try.ntmps68
      go_wp2
      go_ret
      exact ⟨rfl, rfl⟩
    · obtain rfl : z = false := by rw [← hz]; simp; omega
      clear hz
      have i1 : (1 : Int) ≤ (s.size : Int) := by omega
      have i2 : ¬ (s.size : Int) ≤ 16 := by omega
      go_enter Try.func68, Try.ntmps68
      go_wp2
      go_ret
      exact ⟨rfl, rfl⟩
  · obtain rfl : z = false := by rw [← hz]; simp; omega
    clear hz
    have i1 : ¬ (1 : Int) ≤ (s.size : Int) := by omega
    go_enter Try.func68, Try.ntmps68
    go_wp2
    go_ret
    exact ⟨rfl, rfl⟩
theorem limited_any (A : Option Addr) (n c : Nat) (x : Int) (z : Bool) (w : World) (hz : decide (n ≤ 64 ∧ x ≤ 1073741824) = z) (hn : n ≤ 9223372036854775807) : Calls Try.prog 28 #[.agg #[.slice A n c, .int .i64 x]] w fun e w' => e = .returned (.bool z) ∧ Below w.heap.size w w' := by
  by_cases h1 : n ≤ 64
  · by_cases h2 : x ≤ 1073741824
    · obtain rfl : z = true := by rw [← hz]; simp; omega
      clear hz
      have i1 : (n : Int) ≤ 64 := by omega
      go_enter Try.func28, Try.ntmps28
      go_wp2
      go_ret
      exact ⟨rfl, al1 _ _⟩
    · obtain rfl : z = false := by rw [← hz]; simp; omega
      clear hz
      have i1 : (n : Int) ≤ 64 := by omega
      go_enter Try.func28, Try.ntmps28
      go_wp2
      go_ret
      exact ⟨rfl, al1 _ _⟩
  · obtain rfl : z = false := by rw [← hz]; simp; omega
    clear hz
    have i1 : ¬ (n : Int) ≤ 64 := by omega
    go_enter Try.func28, Try.ntmps28
    go_wp2
    go_ret
    exact ⟨rfl, al1 _ _⟩
theorem New_any (w : World) : Calls Try.prog 16 #[] w fun e w' => e = .returned (.agg #[.slice none 0 0, .int .i64 1]) ∧ Below w.heap.size w w' := by
  go_enter Try.func16, Try.ntmps16
  go_wp2
  refine bodyPost_ret (v := .agg #[.slice none 0 0, .int .i64 1]) (by simp [results, Try.results16, go_sem]) rfl ⟨rfl, ?_⟩
  exact al1 _ _

theorem nam_drop {s : ByteArray} {k : Nat} (hk : k < s.size) : s.data.toList.drop k = s[k] :: s.data.toList.drop (k + 1) := by
  rw [List.drop_eq_getElem_cons (by simpa using hk)]
  rfl
theorem all_step {l : List UInt8} {k : Nat} {c : UInt8} (hd : l.drop k = c :: l.drop (k + 1)) (h : (l.drop k).all okC = l.all okC) (hc : okC c = true) : (l.drop (k + 1)).all okC = l.all okC := by
  rw [← h, hd, List.all_cons, hc, Bool.true_and]
theorem all_stop {l : List UInt8} {k : Nat} {c : UInt8} (hd : l.drop k = c :: l.drop (k + 1)) (h : (l.drop k).all okC = l.all okC) (hc : okC c = false) : l.all okC = false := by
  rw [← h, hd, List.all_cons, hc, Bool.false_and]
theorem c_cases (c : UInt8) : (okC c = true ∧ ((97 ≤ c.toNat ∧ c.toNat ≤ 122) ∨ (48 ≤ c.toNat ∧ c.toNat ≤ 57) ∨ c.toNat = 95)) ∨ (okC c = false ∧ (c.toNat < 48 ∨ (57 < c.toNat ∧ c.toNat < 95) ∨ c.toNat = 96 ∨ 122 < c.toNat)) := by
  unfold okC
  by_cases h : (97 ≤ c.toNat ∧ c.toNat ≤ 122) ∨ (48 ≤ c.toNat ∧ c.toNat ≤ 57) ∨ c.toNat = 95
  · exact .inl ⟨by simpa using h, h⟩
  · exact .inr ⟨by simpa using h, by omega⟩

set_option maxHeartbeats 4000000 in
theorem isName_any (s : ByteArray) (w : World) (hs : s.size ≤ 9223372036854775807) : Calls Try.prog 52 #[.string s] w fun e w' => e = .returned (.bool (namB s)) ∧ w' = w := by
  by_cases h1 : 1 ≤ s.size
  · by_cases h2 : s.size ≤ 32
    · have hz : Hid (namB s = s.data.toList.all okC) := by show _ = _; unfold namB; simp [h1, h2]
      have i1 : ¬ (s.size : Int) < 1 := by omega
      have i2 : ¬ 32 < (s.size : Int) := by omega
      have i3 : decide (32 < (s.size : Int)) = false := decide_eq_false i2
      go_enter Try.func52, Try.ntmps52
      go_wp2
      go_loop [15] (fun i => ∃ k : Nat, k ≤ s.size ∧ i = .int .i64 k ∧ Hid ((s.data.toList.drop k).all okC = s.data.toList.all okC)) (fun i => s.size - (intOf i).toNat)
      case atStart => exact ⟨0, Nat.zero_le _, rfl, rfl⟩
      case round =>
        obtain ⟨k, hk, rfl, hgo⟩ := hrel
        by_cases hlt : k < s.size
        · have j1 : (k : Int) < (s.size : Int) := by omega
          have hd := Lib.hid (nam_drop hlt)
          have hx := s[k].toNat_lt
          rcases c_cases s[k] with ⟨hc, hcs⟩ | ⟨hc, hcs⟩
          · have HC := Lib.hid hc
            clear hc
            rcases hcs with ⟨a, b⟩ | ⟨a, b⟩ | a
            all_goals
              go_wp2
              all_goals (first | (exfalso; omega) | skip)
              all_goals
                go_round
                case rel => exact ⟨k + 1, by omega, by go_num, all_step hd.out hgo.out HC.out⟩
                case measure => simp [intOf]; omega
          · have HC := Lib.hid hc
            clear hc
            rcases hcs with a | ⟨a, b⟩ | a | a
            all_goals
              go_wp2
              all_goals (first | (exfalso; omega) | skip)
              all_goals
                go_ret
                refine ⟨?_, rfl⟩
                rw [hz.out, all_stop hd.out hgo.out HC.out]; rfl
        · have j1 : ¬ (k : Int) < (s.size : Int) := by omega
          go_wp2
          go_ret
          refine ⟨?_, rfl⟩
          rw [hz.out, ← hgo.out, List.drop_of_length_le (by simpa using by omega)]
          rfl
    · have hz := Lib.hid (show namB s = false by unfold namB; simp [h2])
      have i1 : ¬ (s.size : Int) < 1 := by omega
      have i2 : 32 < (s.size : Int) := by omega
      go_enter Try.func52, Try.ntmps52
      go_wp2
      go_ret
      exact ⟨by rw [hz.out]; rfl, rfl⟩
  · have hz := Lib.hid (show namB s = false by unfold namB; simp [h1])
    have i1 : (s.size : Int) < 1 := by omega
    go_enter Try.func52, Try.ntmps52
    go_wp2
    go_ret
    exact ⟨by rw [hz.out]; rfl, rfl⟩
end Go.Proofs.Ytiafcdaephcfeaa
namespace Go.Proofs.Ytiafcdaephcfeaa
open Go.RowKit

/-- numbers increase from last on, and end below nx -/
def numGo (nx : Int) : Int → List Fd → Bool
  | last, [] => decide (last < nx)
  | last, f :: r => if f.id ≤ last then false else numGo nx f.id r
def typsB (l : List Fd) : Bool := l.all fun f => typB f.ty
def plcB (l : List Fd) (f : Fd) : Bool := decide ((anc l 8 true f.id).2 = 0)
def plcsB (l : List Fd) : Bool := l.all (plcB l)
theorem alls_step {p : Fd → Bool} {r : List Fd} {k : Nat} {f : Fd} (hd : r.drop k = f :: r.drop (k + 1)) (h : (r.drop k).all p = r.all p) (hc : p f = true) : (r.drop (k + 1)).all p = r.all p := by
  rw [← h, hd, List.all_cons, hc, Bool.true_and]
theorem alls_stop {p : Fd → Bool} {r : List Fd} {k : Nat} {f : Fd} (hd : r.drop k = f :: r.drop (k + 1)) (h : (r.drop k).all p = r.all p) (hc : p f = false) : r.all p = false := by
  rw [← h, hd, List.all_cons, hc, Bool.false_and]
theorem alls_end {p : Fd → Bool} {r : List Fd} {k : Nat} (hk : r.length ≤ k) (h : (r.drop k).all p = r.all p) : r.all p = true := by
  rw [← h, List.drop_of_length_le hk]
  rfl

set_option maxHeartbeats 1000000 in
set_option maxRecDepth 20000 in
theorem typed_any (A : Option Addr) (n c : Nat) (l : List Fd) (w : World) (hn : n = l.length) (hs : Fds w w.heap.size A l) (hl : n ≤ 9223372036854775807) :
    Calls Try.prog 33 #[.slice A n c] w fun e w' => e = .returned (.bool (typsB l)) ∧ Below w.heap.size w w' := by
  have HN := Lib.hid hn
  have HS := Lib.hid hs
  clear hn hs
  go_enter Try.func33, Try.ntmps33
  go_wp2
  go_loopw [7] (fun j wr => ∃ k : Nat, k ≤ n ∧ j = .int .i64 k ∧ Hid (Below w.heap.size w wr) ∧ Hid (w.heap.size ≤ wr.heap.size) ∧ Hid ((l.drop k).all (fun f => typB f.ty) = l.all (fun f => typB f.ty))) (fun j _ => n - (intOf j).toNat)
  case atStart => exact ⟨0, by omega, rfl, Below.refl _ _, Nat.le_refl _, rfl⟩
  case round =>
    obtain ⟨k, hk, rfl, hbel, hsz, hgo⟩ := hrel
    by_cases hlt : k < n
    · have i1 : (k : Int) < (n : Int) := by omega
      obtain ⟨f, hf⟩ := getD_of (l := l) (k := k) (by rw [← HN.out]; exact hlt)
      obtain ⟨b, off, rfl, hb, c0, c1, c2, c3⟩ := (HS.out.below hbel.out).one hf
      have hd := Lib.hid (drop_cons hf)
      have hz := hsz.out
      cases ht : typB f.ty with
      | true =>
        have HT := Lib.hid ht
        clear ht hf
        go_wp2_with (go_at_call 57; refine (schType_any _ true _ HT.out).mono ?_; rintro e w' ⟨rfl, rfl⟩)
        go_roundw
        case rel => exact ⟨k + 1, by omega, by go_num, hbel.out.alloc hz _, by show _ ≤ _; rw [asz]; omega, alls_step hd.out hgo.out HT.out⟩
        case measure => simp [intOf]; omega
      | false =>
        have HT := Lib.hid ht
        clear ht hf
        go_wp2_with (go_at_call 57; refine (schType_any _ false _ HT.out).mono ?_; rintro e w' ⟨rfl, rfl⟩)
        go_ret
        refine ⟨?_, hbel.out.alloc hz _⟩
        unfold typsB
        rw [alls_stop hd.out hgo.out HT.out]
        rfl
    · have i1 : ¬ (k : Int) < (n : Int) := by omega
      go_wp2
      go_ret
      refine ⟨?_, hbel.out⟩
      unfold typsB
      rw [alls_end (by rw [← HN.out]; omega) hgo.out]
      rfl

set_option maxHeartbeats 1000000 in
set_option maxRecDepth 20000 in
theorem placed_any (A : Option Addr) (n c : Nat) (l : List Fd) (w : World) (hn : n = l.length) (hs : Fds w w.heap.size A l) (hl : n ≤ 9223372036854775807) :
    Calls Try.prog 26 #[.slice A n c] w fun e w' => e = .returned (.bool (plcsB l)) ∧ Below w.heap.size w w' := by
  have HN := Lib.hid hn
  have HS := Lib.hid hs
  clear hn hs
  go_enter Try.func26, Try.ntmps26
  go_wp2
  go_loopw [9] (fun j wr => ∃ k : Nat, k ≤ n ∧ j = .int .i64 k ∧ Hid (Below w.heap.size w wr) ∧ Hid (w.heap.size ≤ wr.heap.size) ∧ Hid ((l.drop k).all (plcB l) = l.all (plcB l))) (fun j _ => n - (intOf j).toNat)
  case atStart => exact ⟨0, by omega, rfl, Below.refl _ _, Nat.le_refl _, rfl⟩
  case round =>
    obtain ⟨k, hk, rfl, hbel, hsz, hgo⟩ := hrel
    by_cases hlt : k < n
    · have i1 : (k : Int) < (n : Int) := by omega
      obtain ⟨f, hf⟩ := getD_of (l := l) (k := k) (by rw [← HN.out]; exact hlt)
      obtain ⟨b, off, rfl, hb, c0, c1, c2, c3⟩ := (HS.out.below hbel.out).one hf
      have hd := Lib.hid (drop_cons hf)
      have hz := hsz.out
      have HS2 := Lib.hid ((HS.out.below (hbel.out.alloc hz (.cells #[.int .i64 f.id, .string f.nm, .int .i64 f.ty, .int .i64 f.pa] 50))).more (show w.heap.size ≤ (wr.alloc (.cells #[.int .i64 f.id, .string f.nm, .int .i64 f.ty, .int .i64 f.pa] 50)).heap.size by rw [asz]; omega))
      cases ht : plcB l f with
      | true =>
        have HT := Lib.hid ht
        have HZ := Lib.hid (show decide ((anc l 8 true f.id).2 = 0) = true from ht)
        clear ht hf
        go_wp2_with (go_at_call 29; refine (ancestry_any _ n c l f.id _ HN.out HS2.out hl).mono ?_; rintro e w5 ⟨⟨A5, c5, rfl, hf5⟩, hb5⟩; rw [HZ.out]; have HB5 := Lib.hid hb5; clear hf5 hb5)
        go_roundw
        case rel => exact ⟨k + 1, by omega, by go_num, below_step (hbel.out.alloc hz _) (by rw [asz]; omega) HB5.out, by show _ ≤ _; have := HB5.out.size; rw [asz] at this; omega, alls_step hd.out hgo.out HT.out⟩
        case measure => simp [intOf]; omega
      | false =>
        have HT := Lib.hid ht
        have HZ := Lib.hid (show decide ((anc l 8 true f.id).2 = 0) = false from ht)
        clear ht hf
        go_wp2_with (go_at_call 29; refine (ancestry_any _ n c l f.id _ HN.out HS2.out hl).mono ?_; rintro e w5 ⟨⟨A5, c5, rfl, hf5⟩, hb5⟩; rw [HZ.out]; have HB5 := Lib.hid hb5; clear hf5 hb5)
        go_ret
        refine ⟨?_, below_step (hbel.out.alloc hz _) (by rw [asz]; omega) HB5.out⟩
        unfold plcsB
        rw [alls_stop hd.out hgo.out HT.out]
        rfl
    · have i1 : ¬ (k : Int) < (n : Int) := by omega
      go_wp2
      go_ret
      refine ⟨?_, hbel.out⟩
      unfold plcsB
      rw [alls_end (by rw [← HN.out]; omega) hgo.out]
      rfl

set_option maxHeartbeats 1000000 in
set_option maxRecDepth 20000 in
theorem numbered_any (A : Option Addr) (n c : Nat) (x : Int) (l : List Fd) (w : World) (hn : n = l.length) (hs : Fds w w.heap.size A l) (hl : n ≤ 9223372036854775807) :
    Calls Try.prog 32 #[.agg #[.slice A n c, .int .i64 x]] w fun e w' => e = .returned (.bool (numGo x 0 l)) ∧ Below w.heap.size w w' := by
  have HN := Lib.hid hn
  have HS := Lib.hid hs
  clear hn hs
  go_enter Try.func32, Try.ntmps32
  go_wp2
  go_loopw [3, 9] (fun la j wr => ∃ (k : Nat) (last : Int), k ≤ n ∧ la = .int .i64 last ∧ j = .int .i64 k ∧ Hid (CB wr w.heap.size 31 [.slice A n c, .int .i64 x]) ∧ Hid (Below w.heap.size w wr) ∧ Hid (numGo x last (l.drop k) = numGo x 0 l)) (fun _ j _ => n - (intOf j).toNat)
  case atStart => exact ⟨0, 0, by omega, rfl, rfl, CB.new _ _ _, al1 _ _, rfl⟩
  case round =>
    obtain ⟨k, last, hk, rfl, rfl, hcb, hbel, hgo⟩ := hrel
    have hz := hcb.out.lt
    have d1 := hcb.out.cell 1 rfl
    by_cases hlt : k < n
    · have i1 : (k : Int) < (n : Int) := by omega
      obtain ⟨f, hf⟩ := getD_of (l := l) (k := k) (by rw [← HN.out]; exact hlt)
      obtain ⟨b, off, rfl, hb, c0, c1, c2, c3⟩ := (HS.out.below hbel.out).one hf
      have hd := Lib.hid (drop_cons hf)
      clear hf
      by_cases he : f.id ≤ last
      · go_wp2
        go_ret
        refine ⟨?_, hbel.out.alloc (by omega) _⟩
        rw [← hgo.out, hd.out, numGo, if_pos he]
        rfl
      · go_wp2
        go_roundw
        case rel => exact ⟨k + 1, f.id, by omega, rfl, by go_num, hcb.out.alloc _, hbel.out.alloc (by omega) _, by show _ = _; rw [← hgo.out, hd.out, numGo, if_neg he]⟩
        case measure => simp [intOf]; omega
    · have i1 : ¬ (k : Int) < (n : Int) := by omega
      have HE := Lib.hid (show numGo x 0 l = decide (last < x) by rw [← hgo.out, List.drop_of_length_le (by rw [← HN.out]; omega), numGo])
      by_cases he : last < x
      · go_wp2
        go_ret
        exact ⟨by rw [HE.out, decide_eq_true he]; rfl, hbel.out⟩
      · go_wp2
        go_ret
        exact ⟨by rw [HE.out, decide_eq_false (by omega)]; rfl, hbel.out⟩
end Go.Proofs.Ytiafcdaephcfeaa
namespace Go.Proofs.Ytiafcdaephcfeaa
open Go.RowKit

def sameB (a b : ByteArray) : Bool := a.toList == b.toList
theorem sameB_iff {a b : ByteArray} : sameB a b = true ↔ a = b := by
  unfold sameB
  rw [Lib.toList_data, Lib.toList_data]
  constructor
  · intro h
    have h : a.data.toList = b.data.toList := by simpa using h
    cases a; cases b
    congr 1
    exact Array.toList_inj.1 h
  · rintro rfl; simp
def clash (f o : Fd) : Bool := decide (o.pa = f.pa) && sameB o.nm f.nm
def namGo : List Fd → List Fd → Bool
  | _, [] => true
  | pre, f :: r => if namB f.nm then (if pre.any (clash f) then false else namGo (pre ++ [f]) r) else false
theorem any_step {p : Fd → Bool} {r : List Fd} {k : Nat} {f : Fd} (hd : r.drop k = f :: r.drop (k + 1)) (h : (r.drop k).any p = r.any p) (hc : p f = false) : (r.drop (k + 1)).any p = r.any p := by
  rw [← h, hd, List.any_cons, hc, Bool.false_or]
theorem any_stop {p : Fd → Bool} {r : List Fd} {k : Nat} {f : Fd} (hd : r.drop k = f :: r.drop (k + 1)) (h : (r.drop k).any p = r.any p) (hc : p f = true) : r.any p = true := by
  rw [← h, hd, List.any_cons, hc, Bool.true_or]
theorem any_end {p : Fd → Bool} {r : List Fd} {k : Nat} (hk : r.length ≤ k) (h : (r.drop k).any p = r.any p) : r.any p = false := by
  rw [← h, List.drop_of_length_le hk]
  rfl
theorem take_snoc {α : Type} {l : List α} {k : Nat} {f : α} (h : l[k]? = some f) : l.take (k + 1) = l.take k ++ [f] := by
  rw [List.take_add_one, h]
  rfl

set_option maxHeartbeats 2000000 in
set_option maxRecDepth 20000 in
theorem named_any (A : Option Addr) (n c : Nat) (l : List Fd) (w : World) (hn : n = l.length) (hc : n ≤ c) (hs : Fds w w.heap.size A l) (hl : c ≤ 9223372036854775807) (hsz : ∀ f ∈ l, f.nm.size ≤ 9223372036854775807) :
    Calls Try.prog 27 #[.slice A n c] w fun e w' => e = .returned (.bool (namGo [] l)) ∧ Below w.heap.size w w' := by
  have HN := Lib.hid hn
  have HS := Lib.hid hs
  have HM := Lib.hid hsz
  clear hn hs hsz
  go_enter Try.func27, Try.ntmps27
  go_wp2
  go_loopw [9] (fun j wr => ∃ k : Nat, k ≤ n ∧ j = .int .i64 k ∧ Hid (Below w.heap.size w wr) ∧ Hid (w.heap.size ≤ wr.heap.size) ∧ Hid (namGo (l.take k) (l.drop k) = namGo [] l)) (fun j _ => n - (intOf j).toNat)
  case atStart => exact ⟨0, by omega, rfl, Below.refl _ _, Nat.le_refl _, rfl⟩
  case round =>
    obtain ⟨k, hk, rfl, hbel, hsz, hgo⟩ := hrel
    obtain ⟨wo, rfl⟩ : ∃ wo : World, wo = wr := ⟨_, rfl⟩
    by_cases hlt : k < n
    · have i1 : (k : Int) < (n : Int) := by omega
      obtain ⟨f, hf⟩ := getD_of (l := l) (k := k) (by rw [← HN.out]; exact hlt)
      obtain ⟨b, off, rfl, hb, c0, c1, c2, c3⟩ := (HS.out.below hbel.out).one hf
      have hd := Lib.hid (drop_cons hf)
      have ht := Lib.hid (take_snoc hf)
      have hz := hsz.out
      have hfz : f.nm.size ≤ 9223372036854775807 := HM.out f (List.mem_of_getElem? hf)
      have hstep : Hid (namGo [] l = if namB f.nm then (if (l.take k).any (clash f) then false else namGo (l.take (k + 1)) (l.drop (k + 1))) else false) := by
        show _ = _
        rw [← hgo.out, hd.out, namGo, ht.out]
      clear hf
      cases hm : namB f.nm with
      | false =>
        have HT := Lib.hid hm
        clear hm
        go_wp2_with (go_at_call 52; refine (isName_any _ _ hfz).mono ?_; rintro e w' ⟨rfl, rfl⟩; rw [HT.out])
        go_ret
        refine ⟨?_, hbel.out.alloc hz _⟩
        rw [hstep.out, HT.out]
        rfl
      | true =>
        have HT := Lib.hid hm
        clear hm
        have e1 : (k : Int).toNat = k := by omega
        go_wp2_with (go_at_call 52; refine (isName_any _ _ hfz).mono ?_; rintro e w' ⟨rfl, rfl⟩; rw [HT.out])
        go_loopw [22] (fun j wr => ∃ m : Nat, m ≤ k ∧ j = .int .i64 m ∧ Hid (Below w.heap.size w wr) ∧ Hid (CB wr wo.heap.size 50 f.cells) ∧ Hid (((l.take k).drop m).any (clash f) = (l.take k).any (clash f))) (fun j _ => k - (intOf j).toNat)
        case atStart => exact ⟨0, by omega, rfl, hbel.out.alloc hz _, CB.new _ _ _, rfl⟩
        case round =>
          obtain ⟨m, hmk, rfl, hbel2, hcb, hgo2⟩ := hrel
          have hz2 := hcb.out.lt
          by_cases hlt2 : m < k
          · have i2 : (m : Int) < (k : Int) := by omega
            obtain ⟨g, hg⟩ := getD_of (l := l.take k) (k := m) (by simp; rw [← HN.out]; omega)
            obtain ⟨b', off', e', hb', g0, g1, g2, g3⟩ := ((HS.out.below hbel2.out).take k).one hg
            injection e' with e'
            injection e' with e1' e2'
            subst e1' e2'
            have hd2 := Lib.hid (drop_cons hg)
            have f1 := hcb.out.cell 1 rfl
            have f3 := hcb.out.cell 3 rfl
            have hm2 : m < n := by omega
            clear hg hb'
            by_cases hp : g.pa = f.pa
            · have p1 : (g.pa == f.pa) = true := by simpa using hp
              cases hq : sameB g.nm f.nm with
              | true =>
                have q1 : (g.nm.toList == f.nm.toList) = true := hq
                have HC : Hid (clash f g = true) := by show _ = _; unfold clash; rw [hq]; simpa using hp
                clear hq hp
                go_wp2
                go_ret
                refine ⟨?_, hbel2.out.alloc (by omega) _⟩
                rw [hstep.out, HT.out, any_stop hd2.out hgo2.out HC.out]
                rfl
              | false =>
                have q1 : (g.nm.toList == f.nm.toList) = false := hq
                have HC : Hid (clash f g = false) := by show _ = _; unfold clash; rw [hq]; simp
                clear hq hp
                go_wp2
                go_roundw
                case rel => exact ⟨m + 1, by omega, by go_num, hbel2.out.alloc (by omega) _, hcb.out.alloc _, any_step hd2.out hgo2.out HC.out⟩
                case measure => simp [intOf]; omega
            · have p1 : (g.pa == f.pa) = false := by simpa using hp
              have HC : Hid (clash f g = false) := by show _ = _; unfold clash; simp [hp]
              clear hp
              go_wp2
              go_roundw
              case rel => exact ⟨m + 1, by omega, by go_num, hbel2.out.alloc (by omega) _, hcb.out.alloc _, any_step hd2.out hgo2.out HC.out⟩
              case measure => simp [intOf]; omega
          · have i2 : ¬ (m : Int) < (k : Int) := by omega
            have HF := Lib.hid (any_end (by simp; omega) hgo2.out)
            go_wp2
            go_roundw
            case rel => exact ⟨k + 1, by omega, by go_num, hbel2.out, by show _ ≤ _; omega, by show _ = _; rw [hstep.out, HT.out, HF.out]; rfl⟩
            case measure => simp [intOf]; omega
    · have i1 : ¬ (k : Int) < (n : Int) := by omega
      go_wp2
      go_ret
      refine ⟨?_, hbel.out⟩
      rw [← hgo.out, List.drop_of_length_le (by rw [← HN.out]; omega)]
      rfl
end Go.Proofs.Ytiafcdaephcfeaa
namespace Go.Proofs.Ytiafcdaephcfeaa
open Go.RowKit Go.Shelf
attribute [local go_sem] Oper.semAt_some

def upto {α : Type} (f : Nat → α) (k : Nat) : List α := (List.range k).map f
theorem upto_succ {α : Type} (f : Nat → α) (k : Nat) : upto f (k + 1) = upto f k ++ [f k] := by simp [upto, List.range_succ]
theorem upto_length {α : Type} (f : Nat → α) (k : Nat) : (upto f k).length = k := by simp [upto]
/-- what comes in round j -/
def backAt (l : List Fd) (j : Nat) : Nat × Fd := (l.length - 1 - j, l.getD (l.length - 1 - j) Fd.zero)
theorem back_names (l : List Fd) : (upto (backAt l) l.length).map (fun p => p.2) = l.reverse := by
  apply List.ext_getElem?
  intro i
  unfold upto
  rw [List.map_map, List.getElem?_map]
  by_cases hi : i < l.length
  · rw [List.getElem?_range hi, List.getElem?_reverse hi]
    simp only [Option.map_some, Function.comp, backAt]
    rw [List.getD_eq_getElem?_getD, List.getElem?_eq_getElem (by omega)]
    rfl
  · rw [List.getElem?_eq_none (by simp; omega), List.getElem?_eq_none (by simp; omega)]
    rfl

/-- The fields l can be read at address A, in block b. -/
def FdsIn (w : World) (b : Nat) (A : Option Addr) (l : List Fd) : Prop := 0 < l.length → ∃ off, A = some ⟨b, off, none⟩ ∧ b < w.heap.size ∧ ∀ i f, l[i]? = some f → At w b (off + i * 4) f.cells
/-- what a round keeps: the row's block and the iterator's own box -/
structure KB (b Bs : Nat) (W W' : World) : Prop where
  row : W'.heap[b]? = W.heap[b]?
  box : W'.heap[Bs]? = W.heap[Bs]?
theorem KB.refl (n Bs : Nat) (W : World) : KB n Bs W W := ⟨rfl, rfl⟩
theorem KB.trans {n Bs : Nat} {A B C : World} (h : KB n Bs A B) (k : KB n Bs B C) : KB n Bs A C := ⟨k.row.trans h.row, k.box.trans h.box⟩
theorem KB.cell {n Bs : Nat} {A B : World} (h : KB n Bs A B) : B.cell? ⟨Bs, 0, none⟩ = A.cell? ⟨Bs, 0, none⟩ := by
  unfold World.cell?
  simp only [h.box]
theorem KB.cellR {n Bs : Nat} {A B : World} (h : KB n Bs A B) (o : Nat) : B.cell? ⟨n, o, none⟩ = A.cell? ⟨n, o, none⟩ := by
  unfold World.cell?
  simp only [h.row]
theorem FdsIn.kept {w w' : World} {b Bs : Nat} {A : Option Addr} {l : List Fd} (h : FdsIn w b A l) (hk : KB b Bs w w') : FdsIn w' b A l := fun hl => by
  obtain ⟨off, e, hlt, hc⟩ := h hl
  refine ⟨off, e, ?_, fun i f hi => (hc i f hi).keep fun j => hk.cellR _⟩
  have h1 : w.heap[b]? = some (w.heap[b]'hlt) := Array.getElem?_eq_getElem hlt
  rw [← hk.row] at h1
  exact (Array.getElem?_eq_some_iff.1 h1).1
theorem FdsIn.one {w : World} {b : Nat} {A : Option Addr} {l : List Fd} {f : Fd} (h : FdsIn w b A l) {i : Nat} (hi : l[i]? = some f) : ∃ off, A = some ⟨b, off, none⟩ ∧ w.cell? ⟨b, off + i * 4, none⟩ = some (.int .i64 f.id) ∧ w.cell? ⟨b, off + i * 4 + 1, none⟩ = some (.string f.nm) ∧
    w.cell? ⟨b, off + i * 4 + 2, none⟩ = some (.int .i64 f.ty) ∧ w.cell? ⟨b, off + i * 4 + 3, none⟩ = some (.int .i64 f.pa) := by
  obtain ⟨off, e, hlt, hc⟩ := h (by have := (List.getElem?_eq_some_iff.1 hi).1; omega)
  exact ⟨off, e, hc i f hi 0 _ rfl, hc i f hi 1 _ rfl, hc i f hi 2 _ rfl, hc i f hi 3 _ rfl⟩
theorem kb_put {b Bs : Nat} {w : World} (hb : b < w.heap.size) (hB : Bs < w.heap.size) (W : World) (l : Nat) (o o' : Obj) (hl : w.heap.size ≤ l) (ho : W.heap[l]? = some o) (_ : o.isCells = false) (_ : o.isWalk = false) : KB b Bs W (W.putObj l o') := by
  have hlt := (Array.getElem?_eq_some_iff.1 ho).1
  exact ⟨(grownBy_putObj' W l o').block b (by omega) (by simp; omega), (grownBy_putObj' W l o').block Bs (by omega) (by simp; omega)⟩

def encF (x : Nat × Fd) : Array Value := #[Value.int .i64 (x.1 : Int), .agg #[.int .i64 x.2.id, .string x.2.nm, .int .i64 x.2.ty, .int .i64 x.2.pa]]

set_option maxRecDepth 100000 in
set_option maxHeartbeats 2000000 in
theorem back1_in (F : Fence) (n : Nat) (hf : F.fn 53) (hro : F.round = none) (hn : 1 ≤ n) (y Bs b cap : Nat) (A : Option Addr) (l : List Fd) (hreach : l.length ≤ 140737488351232) (J Jx : List (Nat × Fd) → World → Prop)
    (hY : ∀ pre x W, J pre W → pre.length < l.length → YieldAt F (n - 1) Try.prog y (encF x) W fun e W' =>
      (e = .returned (.bool true) ∧ J (pre ++ [x]) W' ∧ KB b Bs W W') ∨ (e = .returned (.bool false) ∧ Jx (pre ++ [x]) W'))
    (W : World) (hBs : W.cell? ⟨Bs, 0, none⟩ = some (.slice A l.length cap)) (hc : FdsIn W b A l) (h0 : J [] W) :
    CallsIn F n Try.prog 53 #[.func (.yield y) #[] #[], .pointer (some ⟨Bs, 0, none⟩)] W fun e W' => (∃ v, e = .returned v) ∧
      ((∃ ys, ys = upto (backAt l) l.length ∧ J ys W') ∨ (∃ pre, (∃ k, k ≤ l.length ∧ pre = upto (backAt l) k) ∧ Jx pre W')) := by
  refine callsIn_of_wp Try.func53 rfl hf ?_ hro
  simp only [Try.ntmps53, List.size_toArray, List.length_cons, List.length_nil, Nat.reduceAdd, Nat.reduceSub, Array.replicate_succ, Array.replicate_zero, List.push_toArray, List.append_toArray, List.nil_append, List.cons_append]
  obtain ⟨N, hN⟩ : ∃ N, N = l.length := ⟨_, rfl⟩
  have HN := Lib.hid hN
  rw [← hN] at hBs hreach ⊢
  clear hN
  have HY := Lib.hid hY
  have HC := Lib.hid hc
  clear hY hc
  gi_wp2
  gi_loopw [3] (fun i wr => ∃ k m : Nat, k + m = N ∧ i = .int .i64 ((m : Int) - 1) ∧ J (upto (backAt l) k) wr ∧ Hid (KB b Bs W wr))
    (fun i _ => ((intOf i) + 1).toNat)
  case atStart => exact ⟨0, N, by omega, rfl, h0, KB.refl _ _ _⟩
  case round =>
    obtain ⟨k, m, hk, rfl, hJs, hnx⟩ := hrel
    cases m with
    | zero =>
      gi_wp2
      go_end0
      exact ⟨⟨_, rfl⟩, .inl ⟨_, by rw [show N = k by omega], hJs⟩⟩
    | succ m =>
      have e : (((m + 1 : Nat) : Int) - 1) = (m : Int) := by omega
      rw [e]
      have hm : m < l.length := by have := HN.out; omega
      obtain ⟨f, hf'⟩ := getD_of hm
      obtain ⟨off, rfl, c0, c1, c2, c3⟩ := (HC.out.kept hnx.out).one hf'
      have hbx : wr.cell? ⟨Bs, 0, none⟩ = some (.slice (some ⟨b, off, none⟩) N cap) := hnx.out.cell.trans hBs
      obtain ⟨fn, tmps, assign, body, hy, hR⟩ := HY.out _ (m, f) wr hJs (by rw [upto_length]; have := HN.out; omega)
      have hfk : Hid (backAt l k = (m, f)) := by
        show _ = _
        unfold backAt
        rw [show l.length - 1 - k = m by have := HN.out; omega, List.getD_eq_getElem?_getD, hf']
        rfl
      simp only [encF] at hy
      have i0 : 0 ≤ (m : Int) := by omega
      have i1 : (m : Int) < (N : Int) := by omega
      clear hm hf'
      gi_wp2
      refine hR.mono ?_
      rintro e W3 (⟨rfl, hJ3, hk3⟩ | ⟨rfl, hJx3⟩)
      · gi_wp2
        go_roundw
        case rel => exact ⟨k + 1, m, by omega, (by first | rfl | go_num), by rw [upto_succ, hfk.out]; exact hJ3, hnx.out.trans hk3⟩
        case measure => simp [intOf]
      · gi_wp2
        refine bodyPost_ret (results_none rfl _ _ _) rfl ?_
        exact ⟨⟨_, rfl⟩, .inr ⟨_, ⟨k + 1, by have := HN.out; omega, by rw [upto_succ, hfk.out]⟩, hJx3⟩⟩

set_option maxHeartbeats 1000000 in
theorem back_in (F : Fence) (n : Nat) (hf : F.fn 30) (hro : F.round = none) (a : Option Addr) (len cap : Nat) (w : World) :
    CallsIn F n Try.prog 30 #[.slice a len cap] w fun e w' => e = .returned (.func (.func 53) #[] #[.pointer (some ⟨w.heap.size, 0, none⟩)]) ∧ w' = w.alloc (.cells #[.slice a len cap] 29) := by
  refine callsIn_of_wp Try.func30 rfl hf ?_ hro
  simp only [Try.ntmps30, List.size_toArray, List.length_cons, List.length_nil, Nat.reduceAdd, Nat.reduceSub, Array.replicate_succ, Array.replicate_zero, List.push_toArray, List.append_toArray, List.nil_append, List.cons_append]
  gi_wp2
  go_ret
  exact ⟨rfl, rfl⟩

theorem back_stops (F : Fence) (n : Nat) (hf : F.fn 53) (hro : F.round = none) (hn : 1 ≤ n) (Bs b cap : Nat) (A : Option Addr) (l : List Fd) (hreach : l.length ≤ 140737488351232) (w : World) (hBs : Bs < w.heap.size)
    (hc : w.cell? ⟨Bs, 0, none⟩ = some (.slice A l.length cap)) (hI : FdsIn w b A l) (hb : b < w.heap.size) :
    SeqStopsK F n Try.prog 53 #[.pointer (some ⟨Bs, 0, none⟩)] encF (KB b Bs) (fun ys => ys = upto (backAt l) l.length)
      (fun pre => ∃ k, k ≤ l.length ∧ pre = upto (backAt l) k) l.length w := fun y J Jx W hW _ _ hY h0 => by
  have hc' := (hW.cell (p := ⟨Bs, 0, none⟩) hBs).trans hc
  exact back1_in F n hf hro hn y Bs b cap A l hreach J Jx hY W hc' (hI.kept (Bs := Bs) ⟨hW.block b hb, hW.block Bs hBs⟩) h0
end Go.Proofs.Ytiafcdaephcfeaa
namespace Go.Proofs.Ytiafcdaephcfeaa
open Go.RowKit Go.Shelf
attribute [local go_sem] Oper.semAt_some

/-- the bytes of a field's path -/
def pathB (line : List Fd) : List UInt8 := Lib.join (line.reverse.map (·.nm.data.toList)) [46]
def pathOf (l : List Fd) (i : Int) : ByteArray := ⟨(pathB (anc l 8 true i).1).toArray⟩
theorem anc_len (l : List Fd) : ∀ (m : Nat) (fi : Bool) (i : Int), (anc l m fi i).1.length ≤ m
  | 0, _, _ => Nat.le_refl _
  | m + 1, fi, i => by
    unfold anc
    split
    · simp
    · split
      · simp
      · simp only [List.length_cons]
        have := anc_len l m false (by assumption : Fd).pa
        omega
theorem fieldG_mem {fi : Bool} : ∀ {l : List Fd} {i : Int} {f : Fd}, fieldG fi l i = some f → f ∈ l ∧ f.id = i ∧ (fi = true ∨ f.ty = 6)
  | [], _, _, h => by simp [fieldG] at h
  | g :: r, i, f, h => by
    unfold fieldG at h
    split at h
    · next hg => cases h; exact ⟨by simp, hg⟩
    · have := fieldG_mem h; exact ⟨by simp [this.1], this.2⟩
theorem anc_mem (l : List Fd) : ∀ (m : Nat) (fi : Bool) (i : Int), ∀ f ∈ (anc l m fi i).1, f ∈ l
  | 0, _, _ => by simp [anc]
  | m + 1, fi, i => by
    intro f hf
    unfold anc at hf
    split at hf
    · simp at hf
    · split at hf
      · simp at hf
      · next g hg =>
        simp only [List.mem_cons] at hf
        rcases hf with rfl | hf
        · exact (fieldG_mem hg).1
        · exact anc_mem l m false g.pa f hf
theorem cb_own {β : Type} (B : Nat) (t : TypeId) (f : β → List Value) : Go.Own (fun s W => CB W B t (f s)) := fun s X Y row hs hg hrow =>
  CB.grown hs hg (fun e' => by obtain ⟨o, ho, hc⟩ := hrow B e'.symm; rw [show X.heap[B]? = _ from hs] at ho; cases ho; cases hc)
theorem ownFrom_size {β : Type} (m B : Nat) : OwnFrom B (fun (_ : β) W => m ≤ W.heap.size) := fun _ _ _ _ hs hg _ => Nat.le_trans hs hg.size
theorem row_mono {W : World} {B B' : Nat} {e : TypeId} {k n : Nat} {v : Value} {xs : List Value} (h : W.ownsRow B e k v n xs) (hB : B' ≤ B) : W.ownsRow B' e k v n xs :=
  ⟨h.1, h.2.imp id fun ⟨g, cap, cur, h1, h2, h3⟩ => ⟨g, cap, cur, h1, by omega, h3⟩⟩
theorem infoStr : (Try.prog.info? 9).map (fun i => (i.zero, i.size, i.bytes)) = some (some (.string ⟨#[]⟩), 1, 16) := by kernel_rfl

theorem nms_snoc (pre : List (Nat × Fd)) (p : Nat × Fd) : (pre ++ [p]).map (fun q => Value.string q.2.nm) = pre.map (fun q => Value.string q.2.nm) ++ [.string p.2.nm] := by simp
theorem nms_get {W : World} {base A c : Nat} {v : Value} {xs : List ByteArray} (_ : A = c) (h : W.ownsRow base 9 1 v xs.length (xs.map Value.string)) : (v = .slice none 0 0 ∧ xs = []) ∨ ∃ g cap, v = .slice (some ⟨g, 0, none⟩) xs.length cap ∧ g < W.heap.size ∧ xs.length ≤ cap ∧ ∀ (j : Nat) x, xs[j]? = some x → W.cell? ⟨g, 0 + j, none⟩ = some (.string x) := by
  have h2 := h.2
  rcases h2 with ⟨e, h0⟩ | ⟨g, cap, cur, e, hb, hg, hn, hm, hs, ht⟩
  · exact .inl ⟨e, List.eq_nil_of_length_eq_zero h0⟩
  · refine .inr ⟨g, cap, e, (Array.getElem?_eq_some_iff.1 hg).1, hn, fun j x hj => ?_⟩
    have := World.ownsRow.cells h (g := g) (by rw [e]; rfl) j (.string x) (by rw [List.getElem?_map, hj]; rfl)
    rwa [Addr.add_lit] at this
theorem join_len : ∀ (xs : List (List UInt8)) (B : Nat), (∀ x ∈ xs, x.length ≤ B) → (Lib.join xs [46]).length ≤ xs.length * (B + 1)
  | [], _, _ => by simp [Lib.join]
  | [x], B, h => by
    have := h x (by simp)
    simp [Lib.join_one]
    omega
  | x :: y :: r, B, h => by
    have h1 := h x (by simp)
    have h2 := join_len (y :: r) B (fun z hz => h z (by simp at hz ⊢; right; exact hz))
    have e : Lib.join (x :: y :: r) [46] = x ++ ([46] ++ Lib.join (y :: r) [46]) := by rw [Lib.join_cons, Lib.join_cons]; simp [Lib.joinTail]
    rw [e]
    simp only [List.length_append, List.length_cons, List.length_nil] at h2 ⊢
    have : (r.length + 1 + 1) * (B + 1) = (r.length + 1) * (B + 1) + (B + 1) := by rw [Nat.add_mul (r.length + 1) 1, Nat.one_mul]
    omega

theorem Join_row (base : Nat) (v : Value) (xs : List ByteArray) (w : World) (h : w.ownsRow base 9 1 v xs.length (xs.map Value.string)) (hN : xs.length ≤ 8) (hB : ∀ x ∈ xs, x.size ≤ 1000000) :
    Calls Try.prog 31 #[v, .string ⟨#[46]⟩] w fun e w' => e = .returned (.string ⟨(Lib.join (xs.map (·.data.toList)) [46]).toArray⟩) ∧ Below w.heap.size w w' := by
  rcases nms_get (A := 0) (c := 0) rfl h with ⟨rfl, rfl⟩ | ⟨g, cap, rfl, hg, hc, hcells⟩
  · refine (Try.strings_Join_none none 0 ⟨#[46]⟩ w).mono ?_
    rintro e w' ⟨rfl, rfl⟩
    exact ⟨rfl, Below.refl _ _⟩
  · refine Try.strings_Join g 0 cap xs ⟨#[46]⟩ w hcells hg (by omega) hc ?_
    have h1 := join_len (xs.map (·.data.toList)) 1000000 (fun y hy => by
      obtain ⟨x, hx, rfl⟩ := List.mem_map.1 hy
      have := hB x hx
      rw [Array.length_toList]
      exact this)
    rw [List.length_map] at h1
    show (Lib.join _ [46]).length ≤ _
    have : xs.length * (1000000 + 1) ≤ 8 * (1000000 + 1) := Nat.mul_le_mul_right _ hN
    omega

set_option maxRecDepth 100000 in
set_option maxHeartbeats 8000000 in
theorem Path_any (A : Option Addr) (n c : Nat) (x : Int) (l : List Fd) (i : Int) (w : World) (hn : n = l.length) (hs : Fds w w.heap.size A l) (hl : n ≤ 9223372036854775807) (hsz : ∀ f ∈ l, f.nm.size ≤ 1000000) :
    Calls Try.prog 14 #[.agg #[.slice A n c, .int .i64 x], .int .i64 i] w fun e w' => e = .returned (.string (pathOf l i)) ∧ Below w.heap.size w w' := by
  refine (callsIn_wide (n := 6)).1 ?_
  have HN := Lib.hid hn
  have HS := Lib.hid hs
  have HM := Lib.hid hsz
  clear hn hs hsz
  refine callsIn_of_wp_marks Try.func14 rfl trivial ?_ rfl
  simp only [Try.ntmps14, List.size_toArray, List.length_cons, List.length_nil, Nat.reduceAdd, Nat.reduceSub, Array.replicate_succ, Array.replicate_zero, List.push_toArray, List.append_toArray, List.nil_append, List.cons_append]
  have HS2 := Lib.hid ((HS.out.below (al2 w (.cells #[.slice A n c, .int .i64 x] 31) (.cells #[.slice none 0 0] 66))).more (show w.heap.size ≤ ((w.alloc (.cells #[.slice A n c, .int .i64 x] 31)).alloc (.cells #[.slice none 0 0] 66)).heap.size by rw [asz, asz]; omega))
  gi_wp2_with (first | (refine ⟨trivial, ?_⟩; gi_at_call 29; refine (callsIn_wide.2 (ancestry_any _ n c l i _ HN.out HS2.out hl)).mono ?_; rintro e w5 ⟨⟨A5, c5, rfl, hf5⟩, hb5⟩; have HF5 := Lib.hid hf5; have HB5 := Lib.hid hb5; clear hf5 hb5) | (refine ⟨trivial, ?_⟩; gi_at_call 30; refine (back_in Fence.wide (6 - 1) trivial rfl _ _ _ _).mono ?_; rintro e w' ⟨rfl, rfl⟩))
  have HL8 := Lib.hid (anc_len l 8 true i)
  have HMM := Lib.hid (anc_mem l 8 true i)
  have hz5 : w.heap.size + 1 < w5.heap.size := by have := HB5.out.size; rw [asz, asz] at this; omega
  have hbx0 : Boxed w5 (w.heap.size + 1) 66 (.slice none 0 0) := by
    have h0 : Boxed ((w.alloc (.cells #[.slice A n c, .int .i64 x] 31)).alloc (.cells #[.slice none 0 0] 66)) (w.heap.size + 1) 66 (.slice none 0 0) := by
      have := Boxed.new (w.alloc (.cells #[.slice A n c, .int .i64 x] 31)) 66 (.slice none 0 0)
      rwa [asz] at this
    exact (HB5.out.block _ (by rw [asz, asz]; omega)).trans h0
  have hB0 : Below w.heap.size w w5 := (al2 w _ _).trans (HB5.out.mono (by rw [asz, asz]; omega))
  obtain ⟨b5, hb5, hne5, hin5⟩ : ∃ b5, b5 < w5.heap.size ∧ b5 ≠ w.heap.size + 1 ∧ FdsIn w5 b5 A5 (anc l 8 true i).1 := by
    rcases HF5.out.shape with ⟨hv, h0⟩ | ⟨g, cap, hv, hbg, hlt, hcap, hm⟩
    · refine ⟨w.heap.size, by omega, by omega, ?_⟩
      intro h
      have h0' := congrArg List.length h0
      simp at h0'
      rw [h0'] at h
      simp at h
    · rw [asz, asz] at hbg
      refine ⟨g, hlt, by omega, fun h => ?_⟩
      obtain ⟨_, _, _, hrow⟩ := HF5.out.row
      obtain ⟨b, off, e, hb, hc⟩ := hrow (by simpa using h)
      injection hv with hv1
      rw [hv1] at e
      injection e with e
      injection e with e1 e2
      subst e1
      refine ⟨off, by rw [hv1, e2], hb, fun i f hi => hc i f.cells (by rw [List.getElem?_map, hi]; rfl)⟩
  have hp0 : Hid (pathOf l i = ⟨(pathB (anc l 8 true i).1).toArray⟩) := rfl
  generalize (anc l 8 true i).1 = line at *
  generalize (decide ((anc l 8 true i).2 = 0)) = okb at *
  have hW0z : (w5.alloc (.cells #[.slice A5 line.length c5] 29)).heap.size = w5.heap.size + 1 := asz _ _
  have hbxI : (w5.alloc (.cells #[.slice A5 line.length c5] 29)).cell? ⟨w5.heap.size, 0, none⟩ = some (.slice A5 line.length c5) := (Boxed.new w5 29 (.slice A5 line.length c5)).cell
  have hbx1 := hbx0.alloc (.cells #[.slice A5 line.length c5] 29)
  have hin6 : FdsIn (w5.alloc (.cells #[.slice A5 line.length c5] 29)) b5 A5 line := fun h => by
    obtain ⟨off, e, hlt, hc⟩ := hin5 h
    exact ⟨off, e, by rw [hW0z]; omega, fun i f hi => (hc i f hi).below (al1 _ _) hlt⟩
  have hB1 : Below w.heap.size w (w5.alloc (.cells #[.slice A5 line.length c5] 29)) := hB0.alloc (by omega) _
  generalize (w5.alloc (.cells #[.slice A5 line.length c5] 29)) = w0 at hbxI hbx1 hin6 hW0z hB1 ⊢
  have HQ := Lib.hid hin6
  clear hin5 hin6 hbx0 hB0 HF5 HB5
  obtain ⟨i9, hi9, hz9, hs9, hb9⟩ := info_parts infoStr
  refine wpIn_rangeFunc_ownH rfl (by decide) (gf := 53) (lb := #[.pointer (some ⟨w5.heap.size, 0, none⟩)]) rfl trivial (enters_of Try.func53 (by kernel_rfl) rfl)
    (back_stops Fence.wide (6 - 1) trivial rfl (by omega) w5.heap.size b5 c5 A5 line (by have := HL8.out; omega) w0 (by omega) hbxI HQ.out (by omega)) KB.trans (kb_put (by omega) (by omega)) (Below.refl _ _) (fun _ => rfl)
    (fun pre W => (∃ v, Boxed W (w.heap.size + 1) 66 v ∧ W.ownsRow w0.heap.size 9 1 v pre.length (pre.map fun q => Value.string q.2.nm) ∧ True) ∧ (Below w.heap.size w W ∧ w0.heap.size ≤ W.heap.size))
    (fun _ _ _ => False)
    (OwnFrom.and (Own.from (holdsRow_own w0.heap.size (w.heap.size + 1) 66 9 1 (fun pre : List (Nat × Fd) => pre.length) (fun pre => pre.map fun q => Value.string q.2.nm) (fun _ _ => True)) _) (OwnFrom.and (ownFrom_below (Nat.le_refl _) (by omega)) (ownFrom_size _ _)))
    (fun _ _ _ _ _ hs _ _ => hs)
    ⟨⟨_, hbx1, World.ownsRow_nil _ _ _ _, trivial⟩, hB1, Nat.le_refl _⟩
    (fun p a' W => ∃ Bx, w.heap.size + 1 < Bx ∧ CB W Bx 50 p.2.cells ∧ a' = { tmps := #[.agg #[.slice A n c, .int .i64 x], .int .i64 i, .pointer (some ⟨w.heap.size, 0, none⟩), undef, .string ⟨#[]⟩, .pointer (some ⟨w.heap.size + 1, 0, none⟩), .slice A5 line.length c5, .bool okb, undef, .pointer (some ⟨Bx, 0, none⟩), .tuple #[.slice A5 line.length c5, .bool okb], .pointer (some ⟨w.heap.size, 0, none⟩), .slice A n c, .int .i64 i, .tuple #[.slice A5 line.length c5, .bool okb], .slice A5 line.length c5, .bool okb, .slice A5 line.length c5, .func (.func 53) #[] #[.pointer (some ⟨w5.heap.size, 0, none⟩)], .int .i64 (p.1 : Int), .agg #[.int .i64 p.2.id, .string p.2.nm, .int .i64 p.2.ty, .int .i64 p.2.pa], undef, undef, undef, undef, undef, undef, undef], defers := [] })
    (fun p a' _ X Y row hs hg hr => by obtain ⟨Bx, h1, h2, h3⟩ := hs; exact ⟨Bx, h1, cb_own Bx 50 (fun (_ : Unit) => p.2.cells) () X Y row h2 hg (fun r e => (hr r e).2), h3⟩)
    ?assign ?body ?done ?stop
  case assign =>
    rintro y pre p W K ⟨⟨v, hv, hr, _⟩, hB, hz⟩ hK
    have HV := Lib.hid hv
    have HR := Lib.hid hr
    clear hv hr
    simp only [encF]
    gi_wp2
    exact hK _ _ ((KeepsOthers.alloc _ _).from _) ⟨Below.heap_alloc _ _ _ (by omega), Below.heap_alloc _ _ _ (by omega)⟩ ⟨⟨v, HV.out.alloc _, World.ownsRow.alloc HR.out _, trivial⟩, hB.alloc hB.size _, by rw [asz]; omega⟩ ⟨W.heap.size, HV.out.lt, CB.new W 50 p.2.cells, rfl⟩
  case body =>
    rintro y pre p a' W hy ⟨r, hr⟩ ⟨⟨v, hv, hrow, _⟩, hB, hz⟩ ⟨Bx, hBx, hX, rfl⟩ hlt
    have cv := hv.cell
    have cx := hX.cell 1 rfl
    have HV := Lib.hid hv
    have HR := Lib.hid hrow
    clear hrow hv
    have hp8 : pre.length ≤ 8 := by have := HL8.out; omega
    have hm1 : pre.length + 1 ≤ maxLen := by simp only [maxLen]; omega
    have hz1 : w0.heap.size ≤ (W.alloc (.cells #[.string p.2.nm] 9)).heap.size := by rw [asz]; omega
    have h1c : ∀ u ∈ [Value.string p.2.nm], u.oneCell' = true := by simp [Value.oneCell']
    gi_wp2_with (gi_at_builtin; refine wpListIn_append_own _ rfl (.tmp 21) (.tmp 24) 66 rfl w0.heap.size 9 i9 (.string ⟨#[]⟩) 1 16 Try.underlying66 hi9 hz9 hs9 hb9 rfl (by decide) v pre.length _ rfl (World.ownsRow.alloc HR.out _) ⟨W.heap.size, 0, none⟩ 1 1 [.string p.2.nm] rfl rfl (cell_one_new _ _ _) h1c hm1 (by omega) hz1 ?_; intro v' w1 hown' hgrow _; obtain ⟨g', cap', rfl⟩ := ownsRow_succ hown'; have HO := Lib.hid hown'; have HG := Lib.hid hgrow; obtain ⟨hv1, hv2, hr2, hk2, hb2⟩ := Boxed.appended (n₀ := 0) HV.out (by decide) (row_mono HR.out (Nat.zero_le _)) (Nat.zero_le _) (Nat.zero_le _) (row_mono hown' (Nat.zero_le _)) hgrow; have hc1 := hv1.cell; have hf1 := hv1.frozen; clear hown' hgrow hr2 hb2)
    have hbl : ∀ k, k < w0.heap.size → k ≠ w.heap.size + 1 → (w1.setCell ⟨w.heap.size + 1, 0, none⟩ (.slice (some ⟨g', 0, none⟩) (pre.length + 1) cap')).heap[k]? = W.heap[k]? := fun k hk hne => by
      refine (Below.heap_setCell _ _ _ k hne).trans ((HG.out.block k (by rw [asz]; omega) (fun e => ?_)).trans (Below.heap_alloc _ _ _ (by omega)))
      have := (World.ownsRow.lt HR.out k e.symm).1
      omega
    refine ⟨hk2.from _, ⟨hbl _ (by omega) hne5, hbl _ (by omega) (by omega)⟩, ⟨_, hv2, ?_, trivial⟩, ?_, ?_⟩
    · have := HO.out.kept (grownBy_setCell' w1 (w.heap.size + 1) (.slice (some ⟨g', 0, none⟩) (pre.length + 1) cap')) (.inr (hv1.not_row (by decide) HO.out).symm)
      rw [nms_snoc, List.length_append]
      exact this
    · refine ((hB.alloc hB.size _).grown HG.out (by rw [asz]; omega) (fun k hk => ?_)).setCell (p := ⟨w.heap.size + 1, 0, none⟩) (by show w.heap.size ≤ w.heap.size + 1; omega) _
      have := (World.ownsRow.lt HR.out k hk).1
      omega
    · have := HG.out.size
      rw [asz] at this
      simp [World.setCell]
      omega
  case done =>
    rintro D ys W hD rfl ⟨⟨v, hv, hrow, _⟩, hB, hz⟩ hK
    have cv := hv.cell
    have hnm : ((upto (backAt line) line.length).map fun q => Value.string q.2.nm) = (line.reverse.map (·.nm)).map Value.string := by
      rw [← back_names line]
      simp
    have hln : (upto (backAt line) line.length).length = (line.reverse.map (·.nm)).length := by rw [upto_length]; simp
    rw [hnm, hln] at hrow
    have HJ := Lib.hid (Join_row w0.heap.size v (line.reverse.map (·.nm)) W hrow (by simpa using HL8.out) (fun z hz => by
      obtain ⟨f, hf, rfl⟩ := List.mem_map.1 hz
      exact HM.out f (HMM.out f (by simpa using hf))))
    have HD := Lib.hid hD
    have HK := Lib.hid hK
    clear hrow hnm hln hK hD
    gi_wp2_with (refine ⟨trivial, ?_⟩; gi_at_call 31; refine (callsIn_wide.2 HJ.out).mono ?_; rintro e w7 ⟨rfl, hb7⟩; have HB7 := Lib.hid hb7; clear hb7)
    have hK7 : w7.heap[D]? = some (.deferred (some [])) := (HB7.out.block D (Array.getElem?_eq_some_iff.1 HK.out).1).trans HK.out
    refine ⟨by simp, .inl ⟨_, _, rfl, run_takeDeferred hK7, ?_⟩⟩
    have hb8 : Below w.heap.size w w7 := hB.trans (HB7.out.mono (by omega))
    refine ⟨_, results_tmp rfl _ _ _, ?_, hb8.trans (belowK_b (w := w) (Nat.le_refl _) w7 D _ _ (by have := HD.out; omega) hK7 rfl rfl)⟩
    rw [hp0.out]
    unfold pathB
    simp [Function.comp_def]
  case stop =>
    rintro D c pre W _ _ h _
    exact h.elim
end Go.Proofs.Ytiafcdaephcfeaa
namespace Go.Proofs.Ytiafcdaephcfeaa
open Go.RowKit

/-- the first field whose path is p -/
def findGo (q : Fd → ByteArray) (p : ByteArray) : List Fd → Option Int
  | [] => none
  | f :: r => if sameB (q f) p then some f.id else findGo q p r
def leafL (l : List Fd) : List Int := (l.filter fun f => !(f.ty == 6)).map (·.id)
def ic (l : List Int) : List (List Value) := l.map fun i => [Value.int .i64 i]
theorem infoI : (Try.prog.info? 3).map (fun i => (i.zero, i.size, i.bytes)) = some (some (.int .i64 0), 1, 8) := by kernel_rfl
theorem ic_snoc (l : List Int) (i : Int) : ic (l ++ [i]) = ic l ++ [[Value.int .i64 i]] := by simp [ic]
theorem ic_len (l : List Int) : (ic l).length = l.length := by simp [ic]
set_option maxHeartbeats 1000000 in
set_option maxRecDepth 20000 in
theorem Find_any (A : Option Addr) (n c : Nat) (x : Int) (l : List Fd) (p : ByteArray) (w : World) (hn : n = l.length) (hs : Fds w w.heap.size A l) (hl : n ≤ 9223372036854775807) (hsz : ∀ f ∈ l, f.nm.size ≤ 1000000) :
    Calls Try.prog 12 #[.agg #[.slice A n c, .int .i64 x], .string p] w fun e w' => e = .returned (.tuple #[.int .i64 ((findGo (fun f => pathOf l f.id) p l).getD 0), .bool (findGo (fun f => pathOf l f.id) p l).isSome]) ∧ Below w.heap.size w w' := by
  have HN := Lib.hid hn
  have HS := Lib.hid hs
  have HM := Lib.hid hsz
  clear hn hs hsz
  go_enter Try.func12, Try.ntmps12
  go_wp2
  go_loopw [11] (fun j wr => ∃ k : Nat, k ≤ n ∧ j = .int .i64 k ∧ Hid (CB wr w.heap.size 31 [.slice A n c, .int .i64 x]) ∧ Hid (Below w.heap.size w wr) ∧ Hid (findGo (fun f => pathOf l f.id) p (l.drop k) = findGo (fun f => pathOf l f.id) p l)) (fun j _ => n - (intOf j).toNat)
  case atStart => exact ⟨0, by omega, rfl, CB.new _ _ _, al1 _ _, rfl⟩
  case round =>
    obtain ⟨k, hk, rfl, hcb, hbel, hgo⟩ := hrel
    have hz := hcb.out.lt
    by_cases hlt : k < n
    · have i1 : (k : Int) < (n : Int) := by omega
      obtain ⟨f, hf⟩ := getD_of (l := l) (k := k) (by rw [← HN.out]; exact hlt)
      obtain ⟨b, off, rfl, hb, c0, c1, c2, c3⟩ := (HS.out.below hbel.out).one hf
      have hd := Lib.hid (drop_cons hf)
      have d0 := hcb.out.cell 0 rfl
      have d1 := hcb.out.cell 1 rfl
      have HS2 := Lib.hid ((HS.out.below (hbel.out.alloc (by omega) (.cells #[.int .i64 f.id, .string f.nm, .int .i64 f.ty, .int .i64 f.pa] 50))).more (show w.heap.size ≤ (wr.alloc (.cells #[.int .i64 f.id, .string f.nm, .int .i64 f.ty, .int .i64 f.pa] 50)).heap.size by rw [asz]; omega))
      clear hf
      cases hq : sameB (pathOf l f.id) p with
      | true =>
        have q1 : ((pathOf l f.id).toList == p.toList) = true := hq
        have HE := Lib.hid (show findGo (fun f => pathOf l f.id) p l = some f.id by rw [← hgo.out, hd.out, findGo, if_pos hq])
        clear hq
        obtain ⟨pp, hpp⟩ : ∃ pp, pathOf l f.id = pp := ⟨_, rfl⟩
        rw [hpp] at q1
        have HP := Lib.hid hpp
        clear hpp
        go_wp2_with (go_at_call 14; refine (Path_any _ n c x l f.id _ HN.out HS2.out hl HM.out).mono ?_; rintro e w5 ⟨rfl, hb5⟩; rw [HP.out]; have HB5 := Lib.hid hb5; have hcc := (bcell hb5).1 wr.heap.size 0 (by rw [asz]; omega); clear hb5)
        go_ret2
        refine ⟨by rw [HE.out]; rfl, below_step (hbel.out.alloc (by omega) _) (by rw [asz]; omega) HB5.out⟩
      | false =>
        have q1 : ((pathOf l f.id).toList == p.toList) = false := hq
        have HE := Lib.hid (show findGo (fun f => pathOf l f.id) p (l.drop (k + 1)) = findGo (fun f => pathOf l f.id) p l by rw [← hgo.out, hd.out, findGo, hq]; rfl)
        clear hq
        obtain ⟨pp, hpp⟩ : ∃ pp, pathOf l f.id = pp := ⟨_, rfl⟩
        rw [hpp] at q1
        have HP := Lib.hid hpp
        clear hpp
        go_wp2_with (go_at_call 14; refine (Path_any _ n c x l f.id _ HN.out HS2.out hl HM.out).mono ?_; rintro e w5 ⟨rfl, hb5⟩; rw [HP.out]; have HB5 := Lib.hid hb5; clear hb5)
        go_roundw
        case rel => exact ⟨k + 1, by omega, by go_num, (hcb.out.alloc _).up HB5.out, below_step (hbel.out.alloc (by omega) _) (by rw [asz]; omega) HB5.out, HE.out⟩
        case measure => simp [intOf]; omega
    · have i1 : ¬ (k : Int) < (n : Int) := by omega
      have HE := Lib.hid (show findGo (fun f => pathOf l f.id) p l = none by rw [← hgo.out, List.drop_of_length_le (by rw [← HN.out]; omega), findGo])
      go_wp2
      go_ret2
      exact ⟨by rw [HE.out]; rfl, hbel.out⟩

theorem leaf_yes {l : List Fd} {k : Nat} {f : Fd} (h : l.take (k + 1) = l.take k ++ [f]) (ht : f.ty = 6) : leafL (l.take (k + 1)) = leafL (l.take k) := by
  unfold leafL
  rw [h, List.filter_append]
  simp [ht]
theorem leaf_no {l : List Fd} {k : Nat} {f : Fd} (h : l.take (k + 1) = l.take k ++ [f]) (ht : ¬ f.ty = 6) : leafL (l.take (k + 1)) = leafL (l.take k) ++ [f.id] := by
  unfold leafL
  rw [h, List.filter_append]
  simp [ht]
theorem leaf_len (l : List Fd) : (leafL l).length ≤ l.length := by
  unfold leafL
  rw [List.length_map]
  exact List.length_filter_le _ _

/-- whether a schema is valid, as the program looks -/
def vldP (s : Sc) : Bool := decide (s.fs.length ≤ 64 ∧ s.next ≤ 1073741824) && numGo s.next 0 s.fs && typsB s.fs && plcsB s.fs && namGo [] s.fs
theorem Fds.up1 {w : World} {A : Option Addr} {l : List Fd} (h : Fds w w.heap.size A l) {w' : World} (hb : Below w.heap.size w w') : Fds w' w'.heap.size A l := h.up hb
set_option maxHeartbeats 1000000 in
set_option maxRecDepth 20000 in
theorem Valid_sc (A : Option Addr) (n c : Nat) (x : Int) (l : List Fd) (w : World) (hn : n = l.length) (hc : n ≤ c) (hs : Fds w w.heap.size A l) (hl : c ≤ 9223372036854775807) (hsz : ∀ f ∈ l, f.nm.size ≤ 9223372036854775807) :
    Calls Try.prog 15 #[.agg #[.slice A n c, .int .i64 x]] w fun e w' => e = .returned (.bool (vldP ⟨l, x⟩)) ∧ Below w.heap.size w w' := by
  have HN := Lib.hid hn
  have HS := Lib.hid hs
  have HM := Lib.hid hsz
  have hn2 : n ≤ 9223372036854775807 := by omega
  clear hn hs hsz
  obtain ⟨z1, h1⟩ : ∃ z, decide (n ≤ 64 ∧ x ≤ 1073741824) = z := ⟨_, rfl⟩
  obtain ⟨z2, h2⟩ : ∃ z, numGo x 0 l = z := ⟨_, rfl⟩
  obtain ⟨z3, h3⟩ : ∃ z, typsB l = z := ⟨_, rfl⟩
  obtain ⟨z4, h4⟩ : ∃ z, plcsB l = z := ⟨_, rfl⟩
  obtain ⟨z5, h5⟩ : ∃ z, namGo [] l = z := ⟨_, rfl⟩
  have HE : Hid (vldP ⟨l, x⟩ = (z1 && z2 && z3 && z4 && z5)) := by show _ = _; unfold vldP; simp only; rw [← HN.out, h1, h2, h3, h4, h5]
  have H1 := Lib.hid h1
  have H2 := Lib.hid h2
  have H3 := Lib.hid h3
  have H4 := Lib.hid h4
  have H5 := Lib.hid h5
  clear h1 h2 h3 h4 h5
  cases z1 with
  | false =>
    go_enter Try.func15, Try.ntmps15
    go_wp2_with (first | (go_at_call 28; refine (limited_any _ n c x false _ H1.out hn2).mono ?_; rintro e w1 ⟨rfl, hb1⟩; have HB1 := Lib.hid ((al1 w _).trans (hb1.mono (by rw [asz]; omega))); have d0 := ((CB.new w 31 [.slice A n c, .int .i64 x]).up hb1).cell 0 rfl; have d1 := ((CB.new w 31 [.slice A n c, .int .i64 x]).up hb1).cell 1 rfl; have HC1 := Lib.hid ((CB.new w 31 [.slice A n c, .int .i64 x]).up hb1); clear hb1) | (go_at_call 32; refine (numbered_any _ n c x l _ HN.out (HS.out.up HB1.out) hn2).mono ?_; rintro e w2 ⟨rfl, hb2⟩; rw [H2.out]; have HB2 := Lib.hid (below_step HB1.out HB1.out.size hb2); have d0 := (HC1.out.up hb2).cell 0 rfl; have d1 := (HC1.out.up hb2).cell 1 rfl; have HC2 := Lib.hid (HC1.out.up hb2); clear hb2) | (go_at_call 33; refine (typed_any _ n c l _ HN.out (HS.out.up HB2.out) hn2).mono ?_; rintro e w3 ⟨rfl, hb3⟩; rw [H3.out]; have HB3 := Lib.hid (below_step HB2.out HB2.out.size hb3); have d0 := (HC2.out.up hb3).cell 0 rfl; have d1 := (HC2.out.up hb3).cell 1 rfl; have HC3 := Lib.hid (HC2.out.up hb3); clear hb3) | (go_at_call 26; refine (placed_any _ n c l _ HN.out (HS.out.up HB3.out) hn2).mono ?_; rintro e w4 ⟨rfl, hb4⟩; rw [H4.out]; have HB4 := Lib.hid (below_step HB3.out HB3.out.size hb4); have d0 := (HC3.out.up hb4).cell 0 rfl; clear hb4) | (go_at_call 27; refine (named_any _ n c l _ HN.out hc (HS.out.up HB4.out) hl HM.out).mono ?_; rintro e w5 ⟨rfl, hb5⟩; rw [H5.out]; have HB5 := Lib.hid (below_step HB4.out HB4.out.size hb5); clear hb5))
    go_ret
    exact ⟨by rw [HE.out]; rfl, HB1.out⟩
  | true =>
    cases z2 with
    | false =>
      go_enter Try.func15, Try.ntmps15
      go_wp2_with (first | (go_at_call 28; refine (limited_any _ n c x true _ H1.out hn2).mono ?_; rintro e w1 ⟨rfl, hb1⟩; have HB1 := Lib.hid ((al1 w _).trans (hb1.mono (by rw [asz]; omega))); have d0 := ((CB.new w 31 [.slice A n c, .int .i64 x]).up hb1).cell 0 rfl; have d1 := ((CB.new w 31 [.slice A n c, .int .i64 x]).up hb1).cell 1 rfl; have HC1 := Lib.hid ((CB.new w 31 [.slice A n c, .int .i64 x]).up hb1); clear hb1) | (go_at_call 32; refine (numbered_any _ n c x l _ HN.out (HS.out.up HB1.out) hn2).mono ?_; rintro e w2 ⟨rfl, hb2⟩; rw [H2.out]; have HB2 := Lib.hid (below_step HB1.out HB1.out.size hb2); have d0 := (HC1.out.up hb2).cell 0 rfl; have d1 := (HC1.out.up hb2).cell 1 rfl; have HC2 := Lib.hid (HC1.out.up hb2); clear hb2) | (go_at_call 33; refine (typed_any _ n c l _ HN.out (HS.out.up HB2.out) hn2).mono ?_; rintro e w3 ⟨rfl, hb3⟩; rw [H3.out]; have HB3 := Lib.hid (below_step HB2.out HB2.out.size hb3); have d0 := (HC2.out.up hb3).cell 0 rfl; have d1 := (HC2.out.up hb3).cell 1 rfl; have HC3 := Lib.hid (HC2.out.up hb3); clear hb3) | (go_at_call 26; refine (placed_any _ n c l _ HN.out (HS.out.up HB3.out) hn2).mono ?_; rintro e w4 ⟨rfl, hb4⟩; rw [H4.out]; have HB4 := Lib.hid (below_step HB3.out HB3.out.size hb4); have d0 := (HC3.out.up hb4).cell 0 rfl; clear hb4) | (go_at_call 27; refine (named_any _ n c l _ HN.out hc (HS.out.up HB4.out) hl HM.out).mono ?_; rintro e w5 ⟨rfl, hb5⟩; rw [H5.out]; have HB5 := Lib.hid (below_step HB4.out HB4.out.size hb5); clear hb5))
      go_ret
      exact ⟨by rw [HE.out]; rfl, HB2.out⟩
    | true =>
      cases z3 with
      | false =>
        go_enter Try.func15, Try.ntmps15
        go_wp2_with (first | (go_at_call 28; refine (limited_any _ n c x true _ H1.out hn2).mono ?_; rintro e w1 ⟨rfl, hb1⟩; have HB1 := Lib.hid ((al1 w _).trans (hb1.mono (by rw [asz]; omega))); have d0 := ((CB.new w 31 [.slice A n c, .int .i64 x]).up hb1).cell 0 rfl; have d1 := ((CB.new w 31 [.slice A n c, .int .i64 x]).up hb1).cell 1 rfl; have HC1 := Lib.hid ((CB.new w 31 [.slice A n c, .int .i64 x]).up hb1); clear hb1) | (go_at_call 32; refine (numbered_any _ n c x l _ HN.out (HS.out.up HB1.out) hn2).mono ?_; rintro e w2 ⟨rfl, hb2⟩; rw [H2.out]; have HB2 := Lib.hid (below_step HB1.out HB1.out.size hb2); have d0 := (HC1.out.up hb2).cell 0 rfl; have d1 := (HC1.out.up hb2).cell 1 rfl; have HC2 := Lib.hid (HC1.out.up hb2); clear hb2) | (go_at_call 33; refine (typed_any _ n c l _ HN.out (HS.out.up HB2.out) hn2).mono ?_; rintro e w3 ⟨rfl, hb3⟩; rw [H3.out]; have HB3 := Lib.hid (below_step HB2.out HB2.out.size hb3); have d0 := (HC2.out.up hb3).cell 0 rfl; have d1 := (HC2.out.up hb3).cell 1 rfl; have HC3 := Lib.hid (HC2.out.up hb3); clear hb3) | (go_at_call 26; refine (placed_any _ n c l _ HN.out (HS.out.up HB3.out) hn2).mono ?_; rintro e w4 ⟨rfl, hb4⟩; rw [H4.out]; have HB4 := Lib.hid (below_step HB3.out HB3.out.size hb4); have d0 := (HC3.out.up hb4).cell 0 rfl; clear hb4) | (go_at_call 27; refine (named_any _ n c l _ HN.out hc (HS.out.up HB4.out) hl HM.out).mono ?_; rintro e w5 ⟨rfl, hb5⟩; rw [H5.out]; have HB5 := Lib.hid (below_step HB4.out HB4.out.size hb5); clear hb5))
        go_ret
        exact ⟨by rw [HE.out]; rfl, HB3.out⟩
      | true =>
        cases z4 with
        | false =>
          go_enter Try.func15, Try.ntmps15
          go_wp2_with (first | (go_at_call 28; refine (limited_any _ n c x true _ H1.out hn2).mono ?_; rintro e w1 ⟨rfl, hb1⟩; have HB1 := Lib.hid ((al1 w _).trans (hb1.mono (by rw [asz]; omega))); have d0 := ((CB.new w 31 [.slice A n c, .int .i64 x]).up hb1).cell 0 rfl; have d1 := ((CB.new w 31 [.slice A n c, .int .i64 x]).up hb1).cell 1 rfl; have HC1 := Lib.hid ((CB.new w 31 [.slice A n c, .int .i64 x]).up hb1); clear hb1) | (go_at_call 32; refine (numbered_any _ n c x l _ HN.out (HS.out.up HB1.out) hn2).mono ?_; rintro e w2 ⟨rfl, hb2⟩; rw [H2.out]; have HB2 := Lib.hid (below_step HB1.out HB1.out.size hb2); have d0 := (HC1.out.up hb2).cell 0 rfl; have d1 := (HC1.out.up hb2).cell 1 rfl; have HC2 := Lib.hid (HC1.out.up hb2); clear hb2) | (go_at_call 33; refine (typed_any _ n c l _ HN.out (HS.out.up HB2.out) hn2).mono ?_; rintro e w3 ⟨rfl, hb3⟩; rw [H3.out]; have HB3 := Lib.hid (below_step HB2.out HB2.out.size hb3); have d0 := (HC2.out.up hb3).cell 0 rfl; have d1 := (HC2.out.up hb3).cell 1 rfl; have HC3 := Lib.hid (HC2.out.up hb3); clear hb3) | (go_at_call 26; refine (placed_any _ n c l _ HN.out (HS.out.up HB3.out) hn2).mono ?_; rintro e w4 ⟨rfl, hb4⟩; rw [H4.out]; have HB4 := Lib.hid (below_step HB3.out HB3.out.size hb4); have d0 := (HC3.out.up hb4).cell 0 rfl; clear hb4) | (go_at_call 27; refine (named_any _ n c l _ HN.out hc (HS.out.up HB4.out) hl HM.out).mono ?_; rintro e w5 ⟨rfl, hb5⟩; rw [H5.out]; have HB5 := Lib.hid (below_step HB4.out HB4.out.size hb5); clear hb5))
          go_ret
          exact ⟨by rw [HE.out]; rfl, HB4.out⟩
        | true =>
          cases z5 with
          | false =>
            go_enter Try.func15, Try.ntmps15
            go_wp2_with (first | (go_at_call 28; refine (limited_any _ n c x true _ H1.out hn2).mono ?_; rintro e w1 ⟨rfl, hb1⟩; have HB1 := Lib.hid ((al1 w _).trans (hb1.mono (by rw [asz]; omega))); have d0 := ((CB.new w 31 [.slice A n c, .int .i64 x]).up hb1).cell 0 rfl; have d1 := ((CB.new w 31 [.slice A n c, .int .i64 x]).up hb1).cell 1 rfl; have HC1 := Lib.hid ((CB.new w 31 [.slice A n c, .int .i64 x]).up hb1); clear hb1) | (go_at_call 32; refine (numbered_any _ n c x l _ HN.out (HS.out.up HB1.out) hn2).mono ?_; rintro e w2 ⟨rfl, hb2⟩; rw [H2.out]; have HB2 := Lib.hid (below_step HB1.out HB1.out.size hb2); have d0 := (HC1.out.up hb2).cell 0 rfl; have d1 := (HC1.out.up hb2).cell 1 rfl; have HC2 := Lib.hid (HC1.out.up hb2); clear hb2) | (go_at_call 33; refine (typed_any _ n c l _ HN.out (HS.out.up HB2.out) hn2).mono ?_; rintro e w3 ⟨rfl, hb3⟩; rw [H3.out]; have HB3 := Lib.hid (below_step HB2.out HB2.out.size hb3); have d0 := (HC2.out.up hb3).cell 0 rfl; have d1 := (HC2.out.up hb3).cell 1 rfl; have HC3 := Lib.hid (HC2.out.up hb3); clear hb3) | (go_at_call 26; refine (placed_any _ n c l _ HN.out (HS.out.up HB3.out) hn2).mono ?_; rintro e w4 ⟨rfl, hb4⟩; rw [H4.out]; have HB4 := Lib.hid (below_step HB3.out HB3.out.size hb4); have d0 := (HC3.out.up hb4).cell 0 rfl; clear hb4) | (go_at_call 27; refine (named_any _ n c l _ HN.out hc (HS.out.up HB4.out) hl HM.out).mono ?_; rintro e w5 ⟨rfl, hb5⟩; rw [H5.out]; have HB5 := Lib.hid (below_step HB4.out HB4.out.size hb5); clear hb5))
            go_ret
            exact ⟨by rw [HE.out]; rfl, HB5.out⟩
          | true =>
            go_enter Try.func15, Try.ntmps15
            go_wp2_with (first | (go_at_call 28; refine (limited_any _ n c x true _ H1.out hn2).mono ?_; rintro e w1 ⟨rfl, hb1⟩; have HB1 := Lib.hid ((al1 w _).trans (hb1.mono (by rw [asz]; omega))); have d0 := ((CB.new w 31 [.slice A n c, .int .i64 x]).up hb1).cell 0 rfl; have d1 := ((CB.new w 31 [.slice A n c, .int .i64 x]).up hb1).cell 1 rfl; have HC1 := Lib.hid ((CB.new w 31 [.slice A n c, .int .i64 x]).up hb1); clear hb1) | (go_at_call 32; refine (numbered_any _ n c x l _ HN.out (HS.out.up HB1.out) hn2).mono ?_; rintro e w2 ⟨rfl, hb2⟩; rw [H2.out]; have HB2 := Lib.hid (below_step HB1.out HB1.out.size hb2); have d0 := (HC1.out.up hb2).cell 0 rfl; have d1 := (HC1.out.up hb2).cell 1 rfl; have HC2 := Lib.hid (HC1.out.up hb2); clear hb2) | (go_at_call 33; refine (typed_any _ n c l _ HN.out (HS.out.up HB2.out) hn2).mono ?_; rintro e w3 ⟨rfl, hb3⟩; rw [H3.out]; have HB3 := Lib.hid (below_step HB2.out HB2.out.size hb3); have d0 := (HC2.out.up hb3).cell 0 rfl; have d1 := (HC2.out.up hb3).cell 1 rfl; have HC3 := Lib.hid (HC2.out.up hb3); clear hb3) | (go_at_call 26; refine (placed_any _ n c l _ HN.out (HS.out.up HB3.out) hn2).mono ?_; rintro e w4 ⟨rfl, hb4⟩; rw [H4.out]; have HB4 := Lib.hid (below_step HB3.out HB3.out.size hb4); have d0 := (HC3.out.up hb4).cell 0 rfl; clear hb4) | (go_at_call 27; refine (named_any _ n c l _ HN.out hc (HS.out.up HB4.out) hl HM.out).mono ?_; rintro e w5 ⟨rfl, hb5⟩; rw [H5.out]; have HB5 := Lib.hid (below_step HB4.out HB4.out.size hb5); clear hb5))
            go_ret
            exact ⟨by rw [HE.out]; rfl, HB5.out⟩
end Go.Proofs.Ytiafcdaephcfeaa
namespace Go.Proofs.Ytiafcdaephcfeaa
open Go.Lib

/-- a value: null, the number, the text -/
structure Va where
  b : Bool
  n : Int
  s : ByteArray
def Va.val (v : Va) : Value := .agg #[.bool v.b, .int .i64 v.n, .string v.s]
/-- the bounds of the machine -/
structure Va.Fine (v : Va) : Prop where
  lo : -9223372036854775808 ≤ v.n
  hi : v.n ≤ 9223372036854775807
  len : v.s.size ≤ 9223372036854775807
def empS (s : ByteArray) : Bool := s.toList.isEmpty
theorem empS_iff (s : ByteArray) : empS s = true ↔ s.size = 0 := by
  unfold empS
  rw [Lib.toList_data, List.isEmpty_iff]
  constructor
  · intro h
    have : s.data.toList.length = 0 := by rw [h]; rfl
    simpa using this
  · intro h
    exact List.eq_nil_of_length_eq_zero (by simpa using h)
theorem empS_mt : empS ⟨#[]⟩ = true := by rw [empS_iff]; rfl
theorem emp_eq {s : ByteArray} (h : empS s = true) : s = ⟨#[]⟩ := by
  rw [empS_iff] at h
  cases s with
  | mk d => 
    congr 1
    exact Array.eq_empty_of_size_eq_zero h
def okV (v : Va) (t : Int) : Bool :=
  if v.b then decide (1 ≤ t ∧ t ≤ 5) && (decide (v.n = 0) && empS v.s)
  else if t = 1 then decide (0 ≤ v.n ∧ v.n ≤ 1) && empS v.s
  else if t = 5 then decide (-1000000 ≤ v.n ∧ v.n ≤ 1000000) && empS v.s
  else if t = 2 then decide (-2147483648 ≤ v.n ∧ v.n ≤ 2147483647) && empS v.s
  else if t = 3 then empS v.s
  else if t = 4 then decide (v.n = 0) && decide (v.s.size ≤ 200)
  else false
end Go.Proofs.Ytiafcdaephcfeaa
namespace Go.Proofs.Ytiafcdaephcfeaa
open Go.RowKit Go.Lib

theorem val_al (w : World) (o : Obj) : Below w.heap.size w (w.alloc o) := (Below.refl _ _).alloc (Nat.le_refl _) _
theorem isType_any (t : Int) (z : Bool) (w : World) (hz : decide (1 ≤ t ∧ t ≤ 5) = z) : Calls Try.prog 44 #[.int .i64 t] w fun e w' => e = .returned (.bool z) ∧ w' = w := by
  by_cases h1 : 1 ≤ t
  · by_cases h2 : t ≤ 5
    · obtain rfl : z = true := by rw [← hz]; simp; omega
      clear hz
      go_enter Try.func44, Try.ntmps44
      go_wp2
      go_ret
      exact ⟨rfl, rfl⟩
    · obtain rfl : z = false := by rw [← hz]; simp; omega
      clear hz
      go_enter Try.func44, Try.ntmps44
      go_wp2
      go_ret
      exact ⟨rfl, rfl⟩
  · obtain rfl : z = false := by rw [← hz]; simp; omega
    clear hz
    go_enter Try.func44, Try.ntmps44
    go_wp2
    go_ret
    exact ⟨rfl, rfl⟩
theorem Valid_null (n : Int) (s : ByteArray) (t : Int) (w : World) (z : Bool) (hz : decide (1 ≤ t ∧ t ≤ 5) = z) : Calls Try.prog 22 #[.agg #[.bool true, .int .i64 n, .string s], .int .i64 t] w fun e w' => e = .returned (.bool (z && (decide (n = 0) && empS s))) ∧ Below w.heap.size w w' := by
  cases z with
  | true =>
    by_cases hn : n = 0
    · subst hn
      go_enter Try.func22, Try.ntmps22
      go_wp2_with (go_at_call 44; refine (isType_any _ true _ hz).mono ?_; rintro e w' ⟨rfl, rfl⟩)
      go_ret
      exact ⟨by simp; rfl, val_al _ _⟩
    · go_enter Try.func22, Try.ntmps22
      go_wp2_with (go_at_call 44; refine (isType_any _ true _ hz).mono ?_; rintro e w' ⟨rfl, rfl⟩)
      go_ret
      exact ⟨by simp [hn], val_al _ _⟩
  | false =>
    go_enter Try.func22, Try.ntmps22
    go_wp2_with (go_at_call 44; refine (isType_any _ false _ hz).mono ?_; rintro e w' ⟨rfl, rfl⟩)
    go_ret
    exact ⟨by simp, val_al _ _⟩
theorem Valid_bool (n : Int) (s : ByteArray) (w : World) (y : Bool) (hy : decide (0 ≤ n ∧ n ≤ 1) = y) : Calls Try.prog 22 #[.agg #[.bool false, .int .i64 n, .string s], .int .i64 1] w fun e w' => e = .returned (.bool (y && empS s)) ∧ Below w.heap.size w w' := by
  by_cases h1 : n < 0
  · obtain rfl : y = false := by rw [← hy]; simp; omega
    clear hy
    go_enter Try.func22, Try.ntmps22
    go_wp2
    go_ret
    exact ⟨by simp, val_al _ _⟩
  · by_cases h2 : n > 1
    · obtain rfl : y = false := by rw [← hy]; simp; omega
      clear hy
      go_enter Try.func22, Try.ntmps22
      go_wp2
      go_ret
      exact ⟨by simp, val_al _ _⟩
    · obtain rfl : y = true := by rw [← hy]; simp; omega
      clear hy
      have j1 : n ≤ 1000000 := by omega
      have j2 : -1000000 ≤ n := by omega
      have j3 : n ≤ 2147483647 := by omega
      have j4 : -2147483648 ≤ n := by omega
      go_enter Try.func22, Try.ntmps22
      go_wp2
      go_ret
      exact ⟨by simp; rfl, val_al _ _⟩
theorem Valid_day (n : Int) (s : ByteArray) (w : World) (y : Bool) (hy : decide (-1000000 ≤ n ∧ n ≤ 1000000) = y) : Calls Try.prog 22 #[.agg #[.bool false, .int .i64 n, .string s], .int .i64 5] w fun e w' => e = .returned (.bool (y && empS s)) ∧ Below w.heap.size w w' := by
  by_cases h1 : n < -1000000
  · obtain rfl : y = false := by rw [← hy]; simp; omega
    clear hy
    go_enter Try.func22, Try.ntmps22
    go_wp2
    go_ret
    exact ⟨by simp, val_al _ _⟩
  · by_cases h2 : n > 1000000
    · obtain rfl : y = false := by rw [← hy]; simp; omega
      clear hy
      go_enter Try.func22, Try.ntmps22
      go_wp2
      go_ret
      exact ⟨by simp, val_al _ _⟩
    · obtain rfl : y = true := by rw [← hy]; simp; omega
      clear hy
      have k3 : decide (n < -2147483648) = false := decide_eq_false (by omega)
      have k4 : decide (2147483647 < n) = false := decide_eq_false (by omega)
      go_enter Try.func22, Try.ntmps22
      go_wp2
      go_ret
      exact ⟨by simp; rfl, val_al _ _⟩
theorem Valid_small (n : Int) (s : ByteArray) (w : World) (y : Bool) (hy : decide (-2147483648 ≤ n ∧ n ≤ 2147483647) = y) : Calls Try.prog 22 #[.agg #[.bool false, .int .i64 n, .string s], .int .i64 2] w fun e w' => e = .returned (.bool (y && empS s)) ∧ Below w.heap.size w w' := by
  by_cases h1 : n < -2147483648
  · obtain rfl : y = false := by rw [← hy]; simp; omega
    clear hy
    go_enter Try.func22, Try.ntmps22
    go_wp2
    go_ret
    exact ⟨by simp, val_al _ _⟩
  · by_cases h2 : n > 2147483647
    · obtain rfl : y = false := by rw [← hy]; simp; omega
      clear hy
      go_enter Try.func22, Try.ntmps22
      go_wp2
      go_ret
      exact ⟨by simp, val_al _ _⟩
    · obtain rfl : y = true := by rw [← hy]; simp; omega
      clear hy
      go_enter Try.func22, Try.ntmps22
      go_wp2
      go_ret
      exact ⟨by simp; rfl, val_al _ _⟩
theorem Valid_int (n : Int) (s : ByteArray) (w : World) : Calls Try.prog 22 #[.agg #[.bool false, .int .i64 n, .string s], .int .i64 3] w fun e w' => e = .returned (.bool (empS s)) ∧ Below w.heap.size w w' := by
  go_enter Try.func22, Try.ntmps22
  go_wp2
  go_ret
  exact ⟨by simp; rfl, val_al _ _⟩
theorem Valid_text (n : Int) (s : ByteArray) (w : World) (y : Bool) (hy : (decide (n = 0) && decide (s.size ≤ 200)) = y) (hs : s.size ≤ 9223372036854775807) : Calls Try.prog 22 #[.agg #[.bool false, .int .i64 n, .string s], .int .i64 4] w fun e w' => e = .returned (.bool y) ∧ Below w.heap.size w w' := by
  by_cases h1 : n = 0
  · subst h1
    obtain rfl : y = decide (s.size ≤ 200) := by rw [← hy]; simp
    clear hy
    go_enter Try.func22, Try.ntmps22
    go_wp2
    go_ret
    exact ⟨by simp; try omega, val_al _ _⟩
  · obtain rfl : y = false := by rw [← hy]; simp [h1]
    clear hy
    go_enter Try.func22, Try.ntmps22
    go_wp2
    go_ret
    exact ⟨by simp, val_al _ _⟩
theorem Valid_else (n : Int) (s : ByteArray) (t : Int) (w : World) (ht : t < 1 ∨ 5 < t) : Calls Try.prog 22 #[.agg #[.bool false, .int .i64 n, .string s], .int .i64 t] w fun e w' => e = .returned (.bool false) ∧ Below w.heap.size w w' := by
  have i1 : ¬ t = 1 := by omega
  have i2 : ¬ t = 5 := by omega
  have i3 : ¬ t = 2 := by omega
  have i4 : ¬ t = 3 := by omega
  have i5 : ¬ t = 4 := by omega
  clear ht
  go_enter Try.func22, Try.ntmps22
  go_wp2
  go_ret
  exact ⟨by simp, val_al _ _⟩
/-- Valid. -/
theorem Valid_any (v : Va) (t : Int) (z : Bool) (w : World) (hz : okV v t = z) (hs : v.s.size ≤ 9223372036854775807) : Calls Try.prog 22 #[v.val, .int .i64 t] w fun e w' => e = .returned (.bool z) ∧ Below w.heap.size w w' := by
  subst hz
  obtain ⟨b, n, s⟩ := v
  unfold Va.val okV
  cases b with
  | true => simpa using Valid_null n s t w _ rfl
  | false =>
    by_cases h1 : t = 1
    · subst h1; simpa using Valid_bool n s w _ rfl
    · by_cases h5 : t = 5
      · subst h5; simpa using Valid_day n s w _ rfl
      · by_cases h2 : t = 2
        · subst h2; simpa using Valid_small n s w _ rfl
        · by_cases h3 : t = 3
          · subst h3; simpa using Valid_int n s w
          · by_cases h4 : t = 4
            · subst h4; simpa using Valid_text n s w _ rfl hs
            · simpa [h1, h2, h3, h4, h5] using Valid_else n s t w (by omega)
end Go.Proofs.Ytiafcdaephcfeaa
namespace Go.Proofs.Ytiafcdaephcfeaa
open Go.RowKit

theorem RType_any (t : Int) (z : Bool) (w : World) (hz : decide (1 ≤ t ∧ t ≤ 5) = z) : Calls Try.prog 42 #[.int .i64 t] w fun e w' => e = .returned (.bool z) ∧ w' = w := by
  subst hz
  by_cases h1 : 1 ≤ t
  · by_cases h2 : t ≤ 5
    · have e : decide (1 ≤ t ∧ t ≤ 5) = true := by simp [h1, h2]
      rw [e]
      clear e
      go_enter Try.func42, Try.ntmps42
      go_wp2
      go_ret
      exact ⟨by simp, rfl⟩
    · have e : decide (1 ≤ t ∧ t ≤ 5) = false := by simp [h2]
      rw [e]
      clear e
      go_enter Try.func42, Try.ntmps42
      go_wp2
      go_ret
      exact ⟨by simp <;> omega, rfl⟩
  · have e : decide (1 ≤ t ∧ t ≤ 5) = false := by simp [h1]
    rw [e]
    clear e
    go_enter Try.func42, Try.ntmps42
    go_wp2
    go_ret
    exact ⟨by simp, rfl⟩
theorem empS_eq (s : ByteArray) (q : Bool) (h : empS s = q) : (s.toList == []) = q := by
  rw [← h]
  unfold empS
  cases s.toList <;> rfl
theorem RValid_bool (n : Int) (s : ByteArray) (w : World) : Calls Try.prog 24 #[.agg #[.bool false, .int .i64 n, .string s], .int .i64 1] w fun e w' => e = .returned (.bool (decide (0 ≤ n ∧ n ≤ 1) && empS s)) ∧ Below w.heap.size w w' := by
  have hz : decide (1 ≤ (1 : Int) ∧ (1 : Int) ≤ 5) = true := by decide
  obtain ⟨q, hq⟩ : ∃ q, empS s = q := ⟨_, rfl⟩
  have he := empS_eq s q hq
  rw [hq]
  clear hq
  cases q
  · rw [Bool.and_false]
    go_enter Try.func24, Try.ntmps24
    go_wp2_with (go_at_call 42; refine (RType_any _ true _ hz).mono ?_; rintro e w' ⟨rfl, rfl⟩)
    go_ret
    exact ⟨by simp, val_al _ _⟩
  · rw [Bool.and_true]
    by_cases h1 : 0 ≤ n
    · by_cases h2 : n ≤ 1
      · rw [decide_eq_true (show 0 ≤ n ∧ n ≤ 1 from ⟨h1, h2⟩)]
        go_enter Try.func24, Try.ntmps24
        go_wp2_with (go_at_call 42; refine (RType_any _ true _ hz).mono ?_; rintro e w' ⟨rfl, rfl⟩)
        go_ret
        exact ⟨by simp, val_al _ _⟩
      · rw [decide_eq_false (show ¬ (0 ≤ n ∧ n ≤ 1) from fun h => h2 h.2)]
        go_enter Try.func24, Try.ntmps24
        go_wp2_with (go_at_call 42; refine (RType_any _ true _ hz).mono ?_; rintro e w' ⟨rfl, rfl⟩)
        go_ret
        exact ⟨by simp <;> omega, val_al _ _⟩
    · rw [decide_eq_false (show ¬ (0 ≤ n ∧ n ≤ 1) from fun h => h1 h.1)]
      have k1 : decide (0 ≤ n) = false := decide_eq_false h1
      have k2 : n < 0 := by omega
      go_enter Try.func24, Try.ntmps24
      go_wp2_with (go_at_call 42; refine (RType_any _ true _ hz).mono ?_; rintro e w' ⟨rfl, rfl⟩)
      go_ret
      exact ⟨by simp <;> omega, val_al _ _⟩
theorem RValid_small (n : Int) (s : ByteArray) (w : World) : Calls Try.prog 24 #[.agg #[.bool false, .int .i64 n, .string s], .int .i64 2] w fun e w' => e = .returned (.bool (decide (-2147483648 ≤ n ∧ n ≤ 2147483647) && empS s)) ∧ Below w.heap.size w w' := by
  have hz : decide (1 ≤ (2 : Int) ∧ (2 : Int) ≤ 5) = true := by decide
  obtain ⟨q, hq⟩ : ∃ q, empS s = q := ⟨_, rfl⟩
  have he := empS_eq s q hq
  rw [hq]
  clear hq
  cases q
  · rw [Bool.and_false]
    go_enter Try.func24, Try.ntmps24
    go_wp2_with (go_at_call 42; refine (RType_any _ true _ hz).mono ?_; rintro e w' ⟨rfl, rfl⟩)
    go_ret
    exact ⟨by simp, val_al _ _⟩
  · rw [Bool.and_true]
    by_cases h1 : -2147483648 ≤ n
    · by_cases h2 : n ≤ 2147483647
      · rw [decide_eq_true (show -2147483648 ≤ n ∧ n ≤ 2147483647 from ⟨h1, h2⟩)]
        go_enter Try.func24, Try.ntmps24
        go_wp2_with (go_at_call 42; refine (RType_any _ true _ hz).mono ?_; rintro e w' ⟨rfl, rfl⟩)
        go_ret
        exact ⟨by simp, val_al _ _⟩
      · rw [decide_eq_false (show ¬ (-2147483648 ≤ n ∧ n ≤ 2147483647) from fun h => h2 h.2)]
        go_enter Try.func24, Try.ntmps24
        go_wp2_with (go_at_call 42; refine (RType_any _ true _ hz).mono ?_; rintro e w' ⟨rfl, rfl⟩)
        go_ret
        exact ⟨by simp <;> omega, val_al _ _⟩
    · rw [decide_eq_false (show ¬ (-2147483648 ≤ n ∧ n ≤ 2147483647) from fun h => h1 h.1)]
      have k1 : decide (-2147483648 ≤ n) = false := decide_eq_false h1
      have k2 : n < -2147483648 := by omega
      go_enter Try.func24, Try.ntmps24
      go_wp2_with (go_at_call 42; refine (RType_any _ true _ hz).mono ?_; rintro e w' ⟨rfl, rfl⟩)
      go_ret
      exact ⟨by simp <;> omega, val_al _ _⟩
theorem RValid_day (n : Int) (s : ByteArray) (w : World) : Calls Try.prog 24 #[.agg #[.bool false, .int .i64 n, .string s], .int .i64 5] w fun e w' => e = .returned (.bool (decide (-1000000 ≤ n ∧ n ≤ 1000000) && empS s)) ∧ Below w.heap.size w w' := by
  have hz : decide (1 ≤ (5 : Int) ∧ (5 : Int) ≤ 5) = true := by decide
  obtain ⟨q, hq⟩ : ∃ q, empS s = q := ⟨_, rfl⟩
  have he := empS_eq s q hq
  rw [hq]
  clear hq
  cases q
  · rw [Bool.and_false]
    go_enter Try.func24, Try.ntmps24
    go_wp2_with (go_at_call 42; refine (RType_any _ true _ hz).mono ?_; rintro e w' ⟨rfl, rfl⟩)
    go_ret
    exact ⟨by simp, val_al _ _⟩
  · rw [Bool.and_true]
    by_cases h1 : -1000000 ≤ n
    · by_cases h2 : n ≤ 1000000
      · rw [decide_eq_true (show -1000000 ≤ n ∧ n ≤ 1000000 from ⟨h1, h2⟩)]
        go_enter Try.func24, Try.ntmps24
        go_wp2_with (go_at_call 42; refine (RType_any _ true _ hz).mono ?_; rintro e w' ⟨rfl, rfl⟩)
        go_ret
        exact ⟨by simp, val_al _ _⟩
      · rw [decide_eq_false (show ¬ (-1000000 ≤ n ∧ n ≤ 1000000) from fun h => h2 h.2)]
        go_enter Try.func24, Try.ntmps24
        go_wp2_with (go_at_call 42; refine (RType_any _ true _ hz).mono ?_; rintro e w' ⟨rfl, rfl⟩)
        go_ret
        exact ⟨by simp <;> omega, val_al _ _⟩
    · rw [decide_eq_false (show ¬ (-1000000 ≤ n ∧ n ≤ 1000000) from fun h => h1 h.1)]
      have k1 : decide (-1000000 ≤ n) = false := decide_eq_false h1
      have k2 : n < -1000000 := by omega
      go_enter Try.func24, Try.ntmps24
      go_wp2_with (go_at_call 42; refine (RType_any _ true _ hz).mono ?_; rintro e w' ⟨rfl, rfl⟩)
      go_ret
      exact ⟨by simp <;> omega, val_al _ _⟩
theorem RValid_null (n : Int) (s : ByteArray) (t : Int) (w : World) (hz : decide (1 ≤ t ∧ t ≤ 5) = true) : Calls Try.prog 24 #[.agg #[.bool true, .int .i64 n, .string s], .int .i64 t] w fun e w' => e = .returned (.bool (decide (n = 0) && empS s)) ∧ Below w.heap.size w w' := by
  obtain ⟨q, hq⟩ : ∃ q, empS s = q := ⟨_, rfl⟩
  have he := empS_eq s q hq
  rw [hq]
  clear hq
  by_cases hn : n = 0
  · subst hn
    go_enter Try.func24, Try.ntmps24
    go_wp2_with (go_at_call 42; refine (RType_any _ true _ hz).mono ?_; rintro e w' ⟨rfl, rfl⟩)
    go_ret
    exact ⟨by simp, val_al _ _⟩
  · go_enter Try.func24, Try.ntmps24
    go_wp2_with (go_at_call 42; refine (RType_any _ true _ hz).mono ?_; rintro e w' ⟨rfl, rfl⟩)
    go_ret
    exact ⟨by simp [hn], val_al _ _⟩
theorem RValid_out (b : Bool) (n : Int) (s : ByteArray) (t : Int) (w : World) (hz : decide (1 ≤ t ∧ t ≤ 5) = false) : Calls Try.prog 24 #[.agg #[.bool b, .int .i64 n, .string s], .int .i64 t] w fun e w' => e = .returned (.bool false) ∧ Below w.heap.size w w' := by
  go_enter Try.func24, Try.ntmps24
  go_wp2_with (go_at_call 42; refine (RType_any _ false _ hz).mono ?_; rintro e w' ⟨rfl, rfl⟩)
  go_ret
  exact ⟨by simp, val_al _ _⟩
theorem RValid_int (n : Int) (s : ByteArray) (w : World) : Calls Try.prog 24 #[.agg #[.bool false, .int .i64 n, .string s], .int .i64 3] w fun e w' => e = .returned (.bool (empS s)) ∧ Below w.heap.size w w' := by
  have hz : decide (1 ≤ (3 : Int) ∧ (3 : Int) ≤ 5) = true := by decide
  obtain ⟨q, hq⟩ : ∃ q, empS s = q := ⟨_, rfl⟩
  have he := empS_eq s q hq
  rw [hq]
  clear hq
  go_enter Try.func24, Try.ntmps24
  go_wp2_with (go_at_call 42; refine (RType_any _ true _ hz).mono ?_; rintro e w' ⟨rfl, rfl⟩)
  go_ret
  exact ⟨by simp, val_al _ _⟩
theorem RValid_text (n : Int) (s : ByteArray) (w : World) (hs : s.size ≤ 9223372036854775807) : Calls Try.prog 24 #[.agg #[.bool false, .int .i64 n, .string s], .int .i64 4] w fun e w' => e = .returned (.bool (decide (n = 0) && decide (s.size ≤ 200))) ∧ Below w.heap.size w w' := by
  have hz : decide (1 ≤ (4 : Int) ∧ (4 : Int) ≤ 5) = true := by decide
  by_cases hn : n = 0
  · subst hn
    go_enter Try.func24, Try.ntmps24
    go_wp2_with (go_at_call 42; refine (RType_any _ true _ hz).mono ?_; rintro e w' ⟨rfl, rfl⟩)
    go_ret
    exact ⟨by simp; try omega, val_al _ _⟩
  · go_enter Try.func24, Try.ntmps24
    go_wp2_with (go_at_call 42; refine (RType_any _ true _ hz).mono ?_; rintro e w' ⟨rfl, rfl⟩)
    go_ret
    exact ⟨by simp [hn], val_al _ _⟩
/-- the reference's Valid -/
theorem RValid_any (b : Bool) (n : Int) (s : ByteArray) (t : Int) (w : World) (hs : s.size ≤ 9223372036854775807) : Calls Try.prog 24 #[.agg #[.bool b, .int .i64 n, .string s], .int .i64 t] w fun e w' => e = .returned (.bool (okV ⟨b, n, s⟩ t)) ∧ Below w.heap.size w w' := by
  by_cases ht : 1 ≤ t ∧ t ≤ 5
  · unfold okV
    cases b with
    | true => simpa [ht] using RValid_null n s t w (decide_eq_true ht)
    | false =>
      rcases (by omega : t = 1 ∨ t = 2 ∨ t = 3 ∨ t = 4 ∨ t = 5) with rfl | rfl | rfl | rfl | rfl
      · simpa using RValid_bool n s w
      · simpa using RValid_small n s w
      · simpa using RValid_int n s w
      · simpa using RValid_text n s w hs
      · simpa using RValid_day n s w
  · have e : okV ⟨b, n, s⟩ t = false := by
      rw [Bool.eq_false_iff]
      intro h
      unfold okV at h
      cases b <;> simp at h
      · repeat' split at h
        all_goals first | omega | (simp at h; omega) | simp at h
      · exact ht h.1
    rw [e]
    exact RValid_out b n s t w (decide_eq_false ht)
end Go.Proofs.Ytiafcdaephcfeaa
namespace Go.Proofs.Ytiafcdaephcfeaa
open Go.RowKit

theorem ok1 (n : Int) : okV ⟨false, n, ⟨#[]⟩⟩ 1 = decide (0 ≤ n ∧ n ≤ 1) := by unfold okV; simp [empS_mt]
theorem ok3 (n : Int) : okV ⟨false, n, ⟨#[]⟩⟩ 3 = true := by unfold okV; simp [empS_mt]
theorem okn (t : Int) : okV ⟨true, 0, ⟨#[]⟩⟩ t = decide (1 ≤ t ∧ t ≤ 5) := by unfold okV; simp [empS_mt]
theorem and1_i64 (n : Int) : bits .and .i64 n 1 = 0 ∨ bits .and .i64 n 1 = 1 := by
  show IntKind.i64.wrap ((BitVec.ofInt 64 n &&& BitVec.ofInt 64 1).toNat : Int) = 0 ∨ IntKind.i64.wrap ((BitVec.ofInt 64 n &&& BitVec.ofInt 64 1).toNat : Int) = 1
  have h : ((BitVec.ofInt 64 n) &&& BitVec.ofInt 64 1).toNat < 2 := by
    rw [BitVec.toNat_and]
    exact Nat.lt_of_le_of_lt Nat.and_le_right (by decide)
  rw [IntKind.wrap_i64]
  omega
theorem ok_fitB (z : Int) (h : z = 0 ∨ z = 1) : okV ⟨false, z, ⟨#[]⟩⟩ 1 = true := by rw [ok1]; rcases h with rfl | rfl <;> rfl
theorem ok_fit2 (z : Int) (h : -2147483648 ≤ z ∧ z ≤ 2147483647) : okV ⟨false, z, ⟨#[]⟩⟩ 2 = true := by unfold okV; simp [empS_mt, h.1, h.2]
theorem ok_fit5 (z : Int) (h : -1000000 ≤ z ∧ z ≤ 1000000) : okV ⟨false, z, ⟨#[]⟩⟩ 5 = true := by unfold okV; simp [empS_mt, h.1, h.2]
theorem ok_fit4 (s : ByteArray) (h : s.size ≤ 200) : okV ⟨false, 0, s⟩ 4 = true := by unfold okV; simp [h]
theorem fit_ret {w w' : World} {b : Bool} {n : Int} {s : ByteArray} {t : Int} (hk : okV ⟨b, n, s⟩ t = true) (h0 : -9223372036854775808 ≤ n) (h1 : n ≤ 9223372036854775807) (h2 : s.size ≤ 200) (hb : ∃ o o', w' = (w.alloc o).alloc o') :
    (∃ u : Va, Ending.returned (.agg #[.bool b, .int .i64 n, .string s]) = Ending.returned u.val ∧ okV u t = true ∧ u.Fine ∧ u.s.size ≤ 200) ∧ ∃ o o', w' = (w.alloc o).alloc o' :=
  ⟨⟨⟨b, n, s⟩, rfl, hk, ⟨h0, h1, by show s.size ≤ _; omega⟩, h2⟩, hb⟩
set_option maxHeartbeats 1000000 in
theorem Fit_w (b : Bool) (n : Int) (s : ByteArray) (t : Int) (w : World) (hv : Va.Fine ⟨b, n, s⟩) (hs : s.size ≤ 9223372036854775807) (ht : 1 ≤ t ∧ t ≤ 5) : Calls Try.prog 43 #[.agg #[.bool b, .int .i64 n, .string s], .int .i64 t] w fun e w' =>
    (∃ u : Va, e = .returned u.val ∧ okV u t = true ∧ u.Fine ∧ u.s.size ≤ 200) ∧ ∃ o o', w' = (w.alloc o).alloc o' := by
  have hlo := hv.lo
  have hhi := hv.hi
  simp only at hlo hhi
  clear hv
  cases b
  · rcases (by omega : t = 1 ∨ t = 2 ∨ t = 5 ∨ t = 4 ∨ t = 3) with rfl | rfl | rfl | rfl | rfl
    · have ha := and1_i64 n
      obtain ⟨z, hz⟩ : ∃ z, bits .and .i64 n 1 = z := ⟨_, rfl⟩
      rw [hz] at ha
      clear ht hlo hhi hs
      go_enter Try.func43, Try.ntmps43
      go_wp2
      refine bodyPost_ret (v := .agg #[.bool false, .int .i64 z, .string ⟨#[]⟩]) (by simp [results, Try.results43, go_sem]) rfl (fit_ret (ok_fitB z ha) (by omega) (by omega) (by decide) ?_)
      exact ⟨_, _, rfl⟩
    · obtain ⟨z, hz, hz2⟩ : ∃ z, IntKind.i32.wrap n = z ∧ -2147483648 ≤ z ∧ z ≤ 2147483647 := ⟨_, rfl, by rw [IntKind.wrap_i32]; omega⟩
      have hw : IntKind.i64.wrap z = z := by rw [IntKind.wrap_i64]; omega
      clear ht hlo hhi hs
      go_enter Try.func43, Try.ntmps43
      go_wp2
      refine bodyPost_ret (v := .agg #[.bool false, .int .i64 z, .string ⟨#[]⟩]) (by simp [results, Try.results43, go_sem]) rfl (fit_ret (ok_fit2 z hz2) (by omega) (by omega) (by decide) ?_)
      exact ⟨_, _, rfl⟩
    · obtain ⟨z, hz, hz2⟩ : ∃ z, n.tmod 1000001 = z ∧ -1000000 ≤ z ∧ z ≤ 1000000 := by
        refine ⟨_, rfl, ?_⟩
        have h1 := Int.tmod_lt_of_pos n (by decide : (0 : Int) < 1000001)
        have h2 := Int.lt_tmod_of_pos n (by decide : (0 : Int) < 1000001)
        omega
      clear ht hlo hhi hs
      go_enter Try.func43, Try.ntmps43
      go_wp2
      refine bodyPost_ret (v := .agg #[.bool false, .int .i64 z, .string ⟨#[]⟩]) (by simp [results, Try.results43, go_sem]) rfl (fit_ret (ok_fit5 z hz2) (by omega) (by omega) (by decide) ?_)
      exact ⟨_, _, rfl⟩
    · have hx : (s.extract 0 (min (s.size : Int) 200).toNat).size ≤ 200 := by simp [ByteArray.size_extract]; omega
      clear ht hlo hhi
      go_enter Try.func43, Try.ntmps43
      go_wp2
      refine bodyPost_ret (v := .agg #[.bool false, .int .i64 0, .string (s.extract 0 (min (s.size : Int) 200).toNat)]) (by simp [results, Try.results43, go_sem]) rfl (fit_ret (ok_fit4 _ hx) (by decide) (by decide) (by omega) ?_)
      exact ⟨_, _, rfl⟩
    · clear ht hs
      go_enter Try.func43, Try.ntmps43
      go_wp2
      refine bodyPost_ret (v := .agg #[.bool false, .int .i64 n, .string ⟨#[]⟩]) (by simp [results, Try.results43, go_sem]) rfl (fit_ret (ok3 n) hlo hhi (by decide) ?_)
      exact ⟨_, _, rfl⟩
  · have hk : okV ⟨true, 0, ⟨#[]⟩⟩ t = true := by rw [okn]; simpa using ht
    clear ht hlo hhi hs
    go_enter Try.func43, Try.ntmps43
    go_wp2
    refine bodyPost_ret (v := .agg #[.bool true, .int .i64 0, .string ⟨#[]⟩]) (by simp [results, Try.results43, go_sem]) rfl (fit_ret hk (by decide) (by decide) (by decide) ?_)
    exact ⟨_, _, rfl⟩
theorem Fit_b (b : Bool) (n : Int) (s : ByteArray) (t : Int) (w : World) (hv : Va.Fine ⟨b, n, s⟩) (hs : s.size ≤ 9223372036854775807) (ht : 1 ≤ t ∧ t ≤ 5) : Calls Try.prog 43 #[.agg #[.bool b, .int .i64 n, .string s], .int .i64 t] w fun e w' =>
    (∃ u : Va, e = .returned u.val ∧ okV u t = true ∧ u.Fine ∧ u.s.size ≤ 200) ∧ Below w.heap.size w w' := by
  refine (Fit_w b n s t w hv hs ht).mono ?_
  rintro e w' ⟨h, o, o', rfl⟩
  exact ⟨h, al2 _ _ _⟩
/-- a value that fits the type, or null -/
def MadeV (t : Int) (e : Ending) : Prop := ∃ (ub : Bool) (un : Int) (us : ByteArray), e = .returned (.agg #[.bool ub, .int .i64 un, .string us]) ∧ (ub = true ∨ okV ⟨ub, un, us⟩ t = true) ∧ Va.Fine ⟨ub, un, us⟩ ∧ us.size ≤ 200
/-- The reference's Made: a value that is valid for the type; null if it is no type. -/
theorem VMade_any (b : Bool) (n : Int) (s : ByteArray) (t : Int) (w : World) (hv : Va.Fine ⟨b, n, s⟩) (hs : s.size ≤ 9223372036854775807) : Calls Try.prog 20 #[.agg #[.bool b, .int .i64 n, .string s], .int .i64 t] w fun e w' =>
    MadeV t e ∧ Below w.heap.size w w' := by
  by_cases ht : 1 ≤ t ∧ t ≤ 5
  · have hz : decide (1 ≤ t ∧ t ≤ 5) = true := decide_eq_true ht
    have HT := Lib.hid ht
    have HV := Lib.hid hv
    clear ht hv
    go_enter Try.func20, Try.ntmps20
    go_wp2_with (first | (go_at_call 42; refine (RType_any _ true _ hz).mono ?_; rintro e w' ⟨rfl, rfl⟩) | (go_at_call 43; refine (Fit_w b n s t _ HV.out hs HT.out).mono ?_; rintro e w' ⟨⟨⟨ub, un, us⟩, rfl, h1, h2, h3⟩, o, o', rfl⟩; simp only [Va.val]; have H1 := Lib.hid h1; have H2 := Lib.hid h2; have H3 := Lib.hid h3; clear h1 h2 h3))
    refine bodyPost_ret (v := .agg #[.bool ub, .int .i64 un, .string us]) (by simp [results, Try.results20, go_sem]) rfl ⟨⟨ub, un, us, rfl, .inr H1.out, H2.out, H3.out⟩, ?_⟩
    exact al4 _ _ _ _ _
  · have hz : decide (1 ≤ t ∧ t ≤ 5) = false := decide_eq_false ht
    have HT := Lib.hid ht
    have HV := Lib.hid hv
    clear ht hv
    go_enter Try.func20, Try.ntmps20
    go_wp2_with (go_at_call 42; refine (RType_any _ false _ hz).mono ?_; rintro e w' ⟨rfl, rfl⟩)
    refine bodyPost_ret (v := .agg #[.bool true, .int .i64 0, .string ⟨#[]⟩]) (by simp [results, Try.results20, go_sem]) rfl ⟨⟨true, 0, ⟨#[]⟩, rfl, .inl rfl, ⟨by decide, by decide, by decide⟩, by decide⟩, al2 _ _ _⟩
end Go.Proofs.Ytiafcdaephcfeaa
namespace Go.Proofs.Ytiafcdaephcfeaa
open Go.RowKit

/-- a cell of a row: number, value -/
structure Ce where
  id : Int
  v : Va
def Ce.cells (c : Ce) : List Value := [.int .i64 c.id, .bool c.v.b, .int .i64 c.v.n, .string c.v.s]
def Ces (w : World) (B : Nat) (A : Option Addr) (l : List Ce) : Prop := RowAt 4 w B A (l.map Ce.cells)
section
variable {w w' : World} {B B' : Nat} {A : Option Addr} {l : List Ce} {f : Ce}
theorem Ces.nil : Ces w B A [] := RowAt.nil
theorem Ces.below (h : Ces w B A l) (hb : Below B w w') : Ces w' B A l := RowAt.below h hb
theorem Ces.more (h : Ces w B A l) (hB : B ≤ B') : Ces w B' A l := RowAt.more h hB
theorem Ces.up (h : Ces w w.heap.size A l) (hb : Below w.heap.size w w') : Ces w' w'.heap.size A l := RowAt.up h hb
theorem Ces.one (h : Ces w B A l) {i : Nat} (hi : l[i]? = some f) : ∃ b off, A = some ⟨b, off, none⟩ ∧ b < B ∧ w.cell? ⟨b, off + i * 4, none⟩ = some (.int .i64 f.id) ∧ w.cell? ⟨b, off + i * 4 + 1, none⟩ = some (.bool f.v.b) ∧
    w.cell? ⟨b, off + i * 4 + 2, none⟩ = some (.int .i64 f.v.n) ∧ w.cell? ⟨b, off + i * 4 + 3, none⟩ = some (.string f.v.s) := by
  obtain ⟨b, off, e, hlt, hc⟩ := RowAt.one h (vs := f.cells) (i := i) (by rw [List.getElem?_map, hi]; rfl)
  exact ⟨b, off, e, hlt, hc 0 _ rfl, hc 1 _ rfl, hc 2 _ rfl, hc 3 _ rfl⟩
end
theorem getE_of {l : List Ce} {k : Nat} (h : k < l.length) : ∃ f, l[k]? = some f := ⟨l[k], List.getElem?_eq_getElem h⟩

/-- whether cells fit, their numbers above last -/
def fitGo (l : List Fd) : Int → List Ce → Bool
  | _, [] => true
  | last, c :: r => if hasF l c.id = true ∧ last < (fieldD l c.id).id ∧ c.v.b = false ∧ okV c.v (fieldD l c.id).ty = true then fitGo l (fieldD l c.id).id r else false
theorem fit_go {l : List Fd} {r : List Ce} {k : Nat} {c : Ce} {last : Int} {z : Bool} (hd : r.drop k = c :: r.drop (k + 1)) (h : fitGo l last (r.drop k) = z) (hc : hasF l c.id = true ∧ last < (fieldD l c.id).id ∧ c.v.b = false ∧ okV c.v (fieldD l c.id).ty = true) : fitGo l (fieldD l c.id).id (r.drop (k + 1)) = z := by
  rw [← h, hd, fitGo, if_pos hc]
theorem fit_no {l : List Fd} {r : List Ce} {k : Nat} {c : Ce} {last : Int} {z : Bool} (hd : r.drop k = c :: r.drop (k + 1)) (h : fitGo l last (r.drop k) = z) (hc : ¬ (hasF l c.id = true ∧ last < (fieldD l c.id).id ∧ c.v.b = false ∧ okV c.v (fieldD l c.id).ty = true)) : z = false := by
  rw [← h, hd, fitGo, if_neg hc]

set_option maxHeartbeats 4000000 in
set_option maxRecDepth 20000 in
theorem Fits_any (A : Option Addr) (n c : Nat) (x : Int) (l : List Fd) (C : Option Addr) (m d : Nat) (r : List Ce) (w : World) (hn : n = l.length) (hs : Fds w w.heap.size A l) (hl : n ≤ 9223372036854775807) (hm : m = r.length) (hr : Ces w w.heap.size C r) (hml : m ≤ 9223372036854775807) (hsz : ∀ c ∈ r, c.v.s.size ≤ 9223372036854775807) :
    Calls Try.prog 8 #[.agg #[.slice A n c, .int .i64 x], .agg #[.slice C m d]] w fun e w' => e = .returned (.bool (fitGo l 0 r)) ∧ Below w.heap.size w w' := by
  have HN := Lib.hid hn
  have HS := Lib.hid hs
  have HM := Lib.hid hm
  have HR := Lib.hid hr
  have HZ := Lib.hid hsz
  clear hn hs hm hr hsz
  go_enter Try.func8, Try.ntmps8
  go_wp2
  go_loopw [5, 13] (fun la j wr => ∃ (k : Nat) (last : Int), k ≤ m ∧ la = .int .i64 last ∧ j = .int .i64 k ∧ Hid (CB wr w.heap.size 31 [.slice A n c, .int .i64 x]) ∧ Hid (Below w.heap.size w wr) ∧ Hid (fitGo l last (r.drop k) = fitGo l 0 r)) (fun _ j _ => m - (intOf j).toNat)
  case atStart => exact ⟨0, 0, by omega, rfl, rfl, (CB.new _ _ _).alloc _, al2 _ _ _, rfl⟩
  case round =>
    obtain ⟨k, last, hk, rfl, rfl, hcb, hbel, hgo⟩ := hrel
    have hz := hcb.out.lt
    have d0 := hcb.out.cell 0 rfl
    have d1 := hcb.out.cell 1 rfl
    by_cases hlt : k < m
    · have i1 : (k : Int) < (m : Int) := by omega
      obtain ⟨f, hf⟩ := getE_of (l := r) (k := k) (by rw [← HM.out]; exact hlt)
      obtain ⟨b, off, rfl, hb, c0, c1, c2, c3⟩ := (HR.out.below hbel.out).one hf
      have hd := Lib.hid (drop_cons hf)
      have hvs : f.v.s.size ≤ 9223372036854775807 := HZ.out f (List.mem_of_getElem? hf)
      have HS2 := Lib.hid ((HS.out.below (hbel.out.alloc (by omega) (.cells #[.int .i64 f.id, .bool f.v.b, .int .i64 f.v.n, .string f.v.s] 27))).more (show w.heap.size ≤ (wr.alloc (.cells #[.int .i64 f.id, .bool f.v.b, .int .i64 f.v.n, .string f.v.s] 27)).heap.size by rw [asz]; omega))
      clear hf
      obtain ⟨g, hg⟩ : ∃ g, fieldD l f.id = g := ⟨_, rfl⟩
      obtain ⟨ok, hok⟩ : ∃ ok, hasF l f.id = ok := ⟨_, rfl⟩
      obtain ⟨vv, hvv⟩ : ∃ vv, okV f.v g.ty = vv := ⟨_, rfl⟩
      obtain ⟨bb, hbb⟩ : ∃ bb, f.v.b = bb := ⟨_, rfl⟩
      obtain ⟨id, v⟩ := f
      obtain ⟨vb, vn, vs⟩ := v
      simp only at c0 c1 c2 c3 hbb hok hg hvs HS2
      subst hbb
      have HG := Lib.hid hg
      have HO := Lib.hid hok
      have HV := Lib.hid hvv
      clear hg hok hvv
      have hcase : Hid (∀ z, fitGo l last (r.drop k) = z → if ok = true ∧ last < g.id ∧ vb = false ∧ vv = true then fitGo l g.id (r.drop (k + 1)) = z else z = false) := fun z hz => by
        have e1 := HG.out
        have e2 := HO.out
        have e3 := HV.out
        subst e1 e2 e3
        split
        · next h => exact fit_go hd.out hz h
        · next h => exact fit_no hd.out hz h
      have hfin := Lib.hid (hcase.out _ hgo.out)
      clear hcase
      have farm : True := trivial
      cases ok with
      | false =>
        go_wp2_with (go_at_call 21; refine (Field_any _ n c x l id _ HN.out HS2.out hl).mono ?_; rintro e w5 ⟨rfl, hb5⟩; rw [HG.out, HO.out]; have HB5 := Lib.hid (below_step (hbel.out.alloc (by omega) _) (by rw [asz]; omega) hb5); have HZ5 := Lib.hid hb5.size; clear hb5)
        go_ret
        have hE := hfin.out
        rw [if_neg (by simp)] at hE
        refine ⟨by rw [hE]; rfl, HB5.out.alloc (by have := HZ5.out; rw [asz] at this; omega) _⟩
      | true =>
        by_cases hla : last < g.id
        · have j1 : ¬ g.id ≤ last := by omega
          have j2 : decide (g.id ≤ last) = false := decide_eq_false j1
          cases vb with
          | true =>
            go_wp2_with (go_at_call 21; refine (Field_any _ n c x l id _ HN.out HS2.out hl).mono ?_; rintro e w5 ⟨rfl, hb5⟩; rw [HG.out, HO.out]; have HB5 := Lib.hid (below_step (hbel.out.alloc (by omega) _) (by rw [asz]; omega) hb5); have HZ5 := Lib.hid hb5.size; have q1 := ((CB.new wr 27 [.int .i64 id, .bool true, .int .i64 vn, .string vs]).up hb5).cell 1 rfl; have hzz := lt_al hb5; clear hb5)
            go_ret
            have hE := hfin.out
            rw [if_neg (by simp)] at hE
            refine ⟨by rw [hE]; rfl, HB5.out.alloc (by have := HZ5.out; rw [asz] at this; omega) _⟩
          | false =>
            cases vv with
            | false =>
              go_wp2_with (first | (go_at_call 21; refine (Field_any _ n c x l id _ HN.out HS2.out hl).mono ?_; rintro e w5 ⟨rfl, hb5⟩; rw [HG.out, HO.out]; have HB5 := Lib.hid (below_step (hbel.out.alloc (by omega) _) (by rw [asz]; omega) hb5); have HZ5 := Lib.hid hb5.size; have q1 := ((CB.new wr 27 [.int .i64 id, .bool false, .int .i64 vn, .string vs]).up hb5).cell 1 rfl; have q2 := ((CB.new wr 27 [.int .i64 id, .bool false, .int .i64 vn, .string vs]).up hb5).cell 2 rfl; have q3 := ((CB.new wr 27 [.int .i64 id, .bool false, .int .i64 vn, .string vs]).up hb5).cell 3 rfl; have hzz := lt_al hb5; have HC5 := Lib.hid ((hcb.out.alloc (.cells #[.int .i64 id, .bool false, .int .i64 vn, .string vs] 27)).up hb5); clear hb5) | (go_at_call 22; refine (Valid_any ⟨false, vn, vs⟩ g.ty false _ HV.out hvs).mono ?_; rintro e w6 ⟨rfl, hb6⟩; have HB6 := Lib.hid (below_step (HB5.out.alloc (by omega) _) (by rw [asz]; omega) hb6); have HC6 := Lib.hid ((HC5.out.alloc (.cells #[.int .i64 g.id, .string g.nm, .int .i64 g.ty, .int .i64 g.pa] 50)).up hb6); have p0 := ((CB.new w5 50 g.cells).up hb6).cell 0 rfl; clear hb6))
              go_ret
              have hE := hfin.out
              rw [if_neg (by simp)] at hE
              exact ⟨by rw [hE]; rfl, HB6.out⟩
            | true =>
              go_wp2_with (first | (go_at_call 21; refine (Field_any _ n c x l id _ HN.out HS2.out hl).mono ?_; rintro e w5 ⟨rfl, hb5⟩; rw [HG.out, HO.out]; have HB5 := Lib.hid (below_step (hbel.out.alloc (by omega) _) (by rw [asz]; omega) hb5); have HZ5 := Lib.hid hb5.size; have q1 := ((CB.new wr 27 [.int .i64 id, .bool false, .int .i64 vn, .string vs]).up hb5).cell 1 rfl; have q2 := ((CB.new wr 27 [.int .i64 id, .bool false, .int .i64 vn, .string vs]).up hb5).cell 2 rfl; have q3 := ((CB.new wr 27 [.int .i64 id, .bool false, .int .i64 vn, .string vs]).up hb5).cell 3 rfl; have hzz := lt_al hb5; have HC5 := Lib.hid ((hcb.out.alloc (.cells #[.int .i64 id, .bool false, .int .i64 vn, .string vs] 27)).up hb5); clear hb5) | (go_at_call 22; refine (Valid_any ⟨false, vn, vs⟩ g.ty true _ HV.out hvs).mono ?_; rintro e w6 ⟨rfl, hb6⟩; have HB6 := Lib.hid (below_step (HB5.out.alloc (by omega) _) (by rw [asz]; omega) hb6); have HC6 := Lib.hid ((HC5.out.alloc (.cells #[.int .i64 g.id, .string g.nm, .int .i64 g.ty, .int .i64 g.pa] 50)).up hb6); have p0 := ((CB.new w5 50 g.cells).up hb6).cell 0 rfl; clear hb6))
              go_roundw
              case rel =>
                have hE := hfin.out
                rw [if_pos (by simp; exact hla)] at hE
                exact ⟨k + 1, g.id, by omega, rfl, by go_num, HC6.out, HB6.out, hE⟩
              case measure => simp [intOf]; omega
        · have j1 : g.id ≤ last := by omega
          go_wp2_with (go_at_call 21; refine (Field_any _ n c x l id _ HN.out HS2.out hl).mono ?_; rintro e w5 ⟨rfl, hb5⟩; rw [HG.out, HO.out]; have HB5 := Lib.hid (below_step (hbel.out.alloc (by omega) _) (by rw [asz]; omega) hb5); have HZ5 := Lib.hid hb5.size; have hzz := lt_al hb5; clear hb5)
          go_ret
          have hE := hfin.out
          rw [if_neg (fun h => by have := h.2.1; omega)] at hE
          refine ⟨by rw [hE]; rfl, HB5.out.alloc (by have := HZ5.out; rw [asz] at this; omega) _⟩
    · have i1 : ¬ (k : Int) < (m : Int) := by omega
      go_wp2
      go_ret
      refine ⟨?_, hbel.out⟩
      rw [← hgo.out, List.drop_of_length_le (by rw [← HM.out]; omega)]
      rfl
end Go.Proofs.Ytiafcdaephcfeaa
namespace Go.Proofs.Ytiafcdaephcfeaa
open Go.RowKit

theorem fds_one (l : List Fd) : ∀ vs ∈ l.map Fd.cells, ∀ u ∈ vs, u.oneCell' = true := by
  intro vs hv u hu
  obtain ⟨f, _, rfl⟩ := List.mem_map.1 hv
  exact one_f f u hu
theorem fds_len (l : List Fd) : ∀ vs ∈ l.map Fd.cells, vs.length = 4 := by
  intro vs hv
  obtain ⟨f, _, rfl⟩ := List.mem_map.1 hv
  rfl
/-- append(v, l...): v the call's own row of fields. -/
theorem cat_fd {w : World} {ops : Array Oper} {rest : List Oper} {o : Oper} {a : Act} {Q : Exit → Act → World → Prop} (hgd : o.guard = none) (d x : Operand)
    (ho : o.op = .call { callee := .builtin .append, args := #[d, x], argTypes := #[29, 29] }) (base : Nat) (v : Value) (acc : List Fd) (A : Option Addr) (n c B : Nat) (l : List Fd) (hs : a.eval d = v) (hx : a.eval x = .slice A n c)
    (hn : n = l.length) (hr : Own 50 4 w base v (acc.map Fd.cells)) (h2 : Fds w B A l) (hroom : acc.length + n ≤ 1000000) (hbase : base ≤ w.heap.size)
    (hK : ∀ A' c' w', Own 50 4 w' base (.slice A' (acc.length + n) c') ((acc ++ l).map Fd.cells) → w.grownBy w' v.ownBlock → Below base w w' → wpList Try.prog ops Q rest (a.put o.dst (.slice A' (acc.length + n) c')) w') : wpList Try.prog ops Q (o :: rest) a w := by
  refine wpList_cat hgd d x ho Try.underlying29 infoF rfl (by decide) base v (acc.map Fd.cells) A n c B (l.map Fd.cells) hs hx (by simpa using hn) hr h2 (fds_len l) (fds_one l) (by rw [List.length_map]; omega) (by decide) hbase ?_
  intro A' c' w' h1 h2 h3
  rw [List.length_map] at h1 ⊢
  exact hK A' c' w' (by simpa using h1) h2 h3

set_option maxHeartbeats 1000000 in
set_option maxRecDepth 20000 in
theorem Clone_any (A : Option Addr) (n c : Nat) (l : List Fd) (w : World) (hn : n = l.length) (hs : Fds w w.heap.size A l) (hl : n ≤ 1000000) :
    Calls Try.prog 72 #[.slice A n c] w fun e w' => (∃ A' c', e = .returned (.slice A' n c') ∧ Own 50 4 w' w.heap.size (.slice A' n c') (l.map Fd.cells)) ∧ Below w.heap.size w w' := by
  cases A with
  | none =>
    have h0 : l = [] := by
      rcases Nat.eq_zero_or_pos l.length with h0 | h0
      · exact List.eq_nil_of_length_eq_zero h0
      · obtain ⟨b, off, h, _⟩ := hs (by simpa using h0)
        cases h
    subst h0
    obtain rfl : n = 0 := hn
    clear hs
    have he := fun (w : World) => Lib.run_eql_slice_nil (P := Try.prog) w 29 50 none 0 c 0 0 Try.underlying29
    go_enter Try.func72, Try.ntmps72
    go_wp2
    go_ret
    exact ⟨⟨_, _, rfl, Own.nil _ _ _ _⟩, Below.refl _ _⟩
  | some ad =>
    have HN := Lib.hid hn
    have HS := Lib.hid hs
    clear hn hs
    have he := fun (w : World) => Lib.run_eql_slice_nil (P := Try.prog) w 29 50 (some ad) n c 0 0 Try.underlying29
    go_enter Try.func72, Try.ntmps72
    go_wp2_with (at_builtin; refine cat_fd rfl (.tmp 5) (.tmp 6) rfl w.heap.size (.slice (some ⟨w.heap.size, 0, none⟩) 0 0) [] (some ad) n c w.heap.size l rfl rfl HN.out (own_empty w _ rfl) (HS.out.below (al1 w _)) (by simp; omega) (by rw [asz]; omega) ?_; intro A7 c7 w7 ho7 hg7 hb7; have HO7 := Lib.hid ho7; have HB7 := Lib.hid hb7; clear ho7 hb7 hg7)
    go_ret
    simp only [List.length_nil, Nat.zero_add, List.nil_append] at HO7
    exact ⟨⟨_, _, rfl, HO7.out⟩, (al1 w _).trans HB7.out⟩

theorem step_push_fd {w : World} {ops : Array Oper} {o : Oper} {a : Act} {K : Act → World → Prop} {Q : Exit → Act → World → Prop} {F : Prop} (hgd : o.guard = none) (d x : Operand)
    (ho : o.op = .call { callee := .builtin .append, args := #[d, x], argTypes := #[29, 29] }) (base : Nat) (v : Value) (acc : List Fd) (f : Fd) (g n : Nat) (hs : a.eval d = v) (hx : a.eval x = .slice (some ⟨g, 0, none⟩) 1 1) (hn : n = acc.length)
    (hr : Own 50 4 w base v (acc.map Fd.cells)) (hg : CB w g 50 f.cells) (hroom : n ≤ 1000000) (hbase : base ≤ w.heap.size)
    (hK : ∀ A' c' w', Own 50 4 w' base (.slice A' (n + 1) c') ((acc ++ [f]).map Fd.cells) → w.grownBy w' v.ownBlock → Below base w w' → K (a.put o.dst (.slice A' (n + 1) c')) w') : if Region.wanted o (yielded ops a.tmps) = true then Oper.wp Try.prog o a w K Q else F := by
  subst hn
  refine step_push hgd d x ho Try.underlying29 infoF rfl (by decide) base v (acc.map Fd.cells) f.cells g hs hx hr hg rfl (one_f f) (by rw [List.length_map]; omega) (by decide) hbase ?_
  intro A' c' w' h1 h2 h3
  rw [List.length_map] at h1 ⊢
  exact hK A' c' w' (by simpa using h1) h2 h3

set_option maxHeartbeats 2000000 in
set_option maxRecDepth 20000 in
theorem with_any (A : Option Addr) (n c : Nat) (x : Int) (l : List Fd) (nm : ByteArray) (ty pa : Int) (w : World) (hn : n = l.length) (hs : Fds w w.heap.size A l) (hl : n ≤ 1000000) (hx0 : 0 ≤ x) (hx1 : x ≤ 4611686018427387904) :
    Calls Try.prog 65 #[.agg #[.slice A n c, .int .i64 x], .string nm, .int .i64 ty, .int .i64 pa] w fun e w' => (∃ A' c', e = .returned (.agg #[.slice A' (n + 1) c', .int .i64 (x + 1)]) ∧ Own 50 4 w' w.heap.size (.slice A' (n + 1) c') ((l ++ [(⟨x, nm, ty, pa⟩ : Fd)]).map Fd.cells)) ∧ Below w.heap.size w w' := by
  have HN := Lib.hid hn
  have HS := Lib.hid hs
  clear hn hs
  have HX : Hid (x + 1 ≤ 9223372036854775807) := by show _ ≤ _; omega
  go_enter Try.func65, Try.ntmps65
  go_wp2
  have q0 := ((CB.new w 31 [.slice A n c, .int .i64 x]).alloc (.cells #[.slice none 0 0, .int .i64 0] 31)).alloc (.cells #[.int .i64 x, .string nm, .int .i64 ty, .int .i64 pa] 50)
  have q1 := (CB.new1 w (.cells #[.slice A n c, .int .i64 x] 31) 31 [.slice none 0 0, .int .i64 0]).alloc (.cells #[.int .i64 x, .string nm, .int .i64 ty, .int .i64 pa] 50)
  have q2 := CB.new2 w (.cells #[.slice A n c, .int .i64 x] 31) (.cells #[.slice none 0 0, .int .i64 0] 31) 50 [.int .i64 x, .string nm, .int .i64 ty, .int .i64 pa]
  have qb := al3 w (.cells #[.slice A n c, .int .i64 x] 31) (.cells #[.slice none 0 0, .int .i64 0] 31) (.cells #[.int .i64 x, .string nm, .int .i64 ty, .int .i64 pa] 50)
  generalize ((w.alloc (.cells #[.slice A n c, .int .i64 x] 31)).alloc (.cells #[.slice none 0 0, .int .i64 0] 31)).alloc (.cells #[.int .i64 x, .string nm, .int .i64 ty, .int .i64 pa] 50) = W0 at *
  have Q0 := Lib.hid q0
  have Q1 := Lib.hid q1
  have Q2 := Lib.hid q2
  have QB := Lib.hid qb
  have HCELL : Hid (∀ W, Below W0.heap.size W0 W → W.cell? ⟨w.heap.size, 0, none⟩ = some (.slice A n c) ∧ W.cell? ⟨w.heap.size, 1, none⟩ = some (.int .i64 x) ∧ W.cell? ⟨w.heap.size + 1 + 1, 0, none⟩ = some (.int .i64 x) ∧ W.cell? ⟨w.heap.size + 1 + 1, 1, none⟩ = some (.string nm) ∧ W.cell? ⟨w.heap.size + 1 + 1, 2, none⟩ = some (.int .i64 ty) ∧ W.cell? ⟨w.heap.size + 1 + 1, 3, none⟩ = some (.int .i64 pa)) := by
    intro W hW
    exact ⟨(Q0.out.up hW).cell 0 rfl, (Q0.out.up hW).cell 1 rfl, (Q2.out.up hW).cell 0 rfl, (Q2.out.up hW).cell 1 rfl, (Q2.out.up hW).cell 2 rfl, (Q2.out.up hW).cell 3 rfl⟩
  have HRES : Hid (∀ W, Below W0.heap.size W0 W → W.cell? ⟨w.heap.size + 1, 0, none⟩ = some (.slice none 0 0) ∧ W.cell? ⟨w.heap.size + 1, 1, none⟩ = some (.int .i64 0) ∧ W.frozen? ⟨w.heap.size + 1, 0, none⟩ = false ∧ W.frozen? ⟨w.heap.size + 1, 1, none⟩ = false) := by
    intro W hW
    exact ⟨(Q1.out.up hW).cell 0 rfl, (Q1.out.up hW).cell 1 rfl, (Q1.out.up hW).frozen 0, (Q1.out.up hW).frozen 1⟩
  have hwx : IntKind.i64.wrap (x + 1) = x + 1 := IntWalk.i64_in _ ⟨by omega, by omega⟩
  obtain ⟨x0, x1, x2, x3, x4, x5⟩ := HCELL.out W0 (Below.refl _ _)
  clear q0 q1 q2 qb
  go_region_held_law (fun w' => w'.cell? ⟨w.heap.size, 0, none⟩ = some (.slice A n c) ∧ w'.cell? ⟨w.heap.size, 1, none⟩ = some (.int .i64 x) ∧ w'.cell? ⟨w.heap.size + 1 + 1, 0, none⟩ = some (.int .i64 x) ∧ w'.cell? ⟨w.heap.size + 1 + 1, 1, none⟩ = some (.string nm) ∧ w'.cell? ⟨w.heap.size + 1 + 1, 2, none⟩ = some (.int .i64 ty) ∧ w'.cell? ⟨w.heap.size + 1 + 1, 3, none⟩ = some (.int .i64 pa))
    (first | exact HCELL.out _ (by first | exact hw7 | exact hw8 | exact hw7.alloc hw7.size _ | exact hw7.drew | exact hw7.drew.alloc hw7.size _ | exact bd _ | exact bda _ _ | exact bdad _ _ | exact bad _ _) | (refine ⟨?_, ?_, ?_, ?_, ?_, ?_⟩ <;> simp [go_sem, z0, z1, z2, z3, z4, z5]) | go_keep)
    (first | (go_at_call 72; refine (Clone_any A n c l _ HN.out (HS.out.up (QB.out.trans ((show Below W0.heap.size W0 _ by first | exact bd _ | exact bda _ _ | exact bdad _ _ | exact bad _ _).mono QB.out.size))) hl).mono ?_; rintro e w7 ⟨⟨A7, c7, rfl, ho7⟩, hb7⟩; have hw7 : Below W0.heap.size W0 w7 := (by first | exact (bd _).trans (hb7.mono (bd _).size) | exact (bda _ _).trans (hb7.mono (bda _ _).size) | exact (bdad _ _).trans (hb7.mono (bdad _ _).size) | exact (bad _ _).trans (hb7.mono (bad _ _).size)); have HO7 := Lib.hid (ho7.low (b := W0.heap.size) (by first | exact (bd W0).size | exact (bda W0 _).size | exact (bdad W0 _).size | exact (bad W0 _).size)); have HB7 := Lib.hid hb7; clear ho7 hb7) | (refine step_push_fd rfl (.tmp 18) (.tmp 20) rfl W0.heap.size (.slice A7 n c7) l ⟨x, nm, ty, pa⟩ _ n rfl rfl HN.out (by first | exact HO7.out | exact HO7.out.alloc _ | exact HO7.out.dr | exact (HO7.out.dr).alloc _) (by first | exact CB.new _ _ _ | exact (CB.new _ _ _).up HB7.out | exact ((CB.new _ _ _).dr).up HB7.out) hl (by first | exact hw7.size | exact Nat.le_trans hw7.size (al1 _ _).size | exact Nat.le_trans hw7.size (bda _ _).size) ?_; intro A8 c8 w8 ho8 hg8 hb8; have hw8 : Below W0.heap.size W0 w8 := (by first | exact hw7.trans hb8 | exact (hw7.alloc hw7.size _).trans hb8 | exact (hw7.drew.alloc hw7.size _).trans hb8); have HO8 := Lib.hid ho8; obtain ⟨y6, y7, y8, y9⟩ := HRES.out _ hw8; obtain ⟨z0, z1, z2, z3, z4, z5⟩ := HCELL.out _ hw8; clear ho8 hg8 hb8)  )
  all_goals
    go_wp2
    have hq : CB ((w8.setCell ⟨w.heap.size + 1, 0, none⟩ (.slice A8 (n + 1) c8)).setCell ⟨w.heap.size + 1, 1, none⟩ (.int .i64 (x + 1))) (w.heap.size + 1) 31 [.slice A8 (n + 1) c8, .int .i64 (x + 1)] := ((Q1.out.up hw8).set_ 0 (.slice A8 (n + 1) c8)).set_ 1 (.int .i64 (x + 1))
    have hne := HO8.out.ne (Q1.out.up hw8) (by decide)
    refine bodyPost_ret (res_cell1 Try.results65 rfl hq Try.underlying31 sizeS rfl) rfl ⟨⟨A8, c8, rfl, ((HO8.out.low QB.out.size).set_ 0 _ hne).set_ 1 _ hne⟩, ?_⟩
    exact ((QB.out.trans (hw8.mono QB.out.size)).setCell (p := ⟨w.heap.size + 1, 0, none⟩) (by show w.heap.size ≤ w.heap.size + 1; omega) _).setCell (p := ⟨w.heap.size + 1, 1, none⟩) (by show w.heap.size ≤ w.heap.size + 1; omega) _
end Go.Proofs.Ytiafcdaephcfeaa
namespace Go.Proofs.Ytiafcdaephcfeaa
open Go.RowKit

def dropF (l : List Fd) (i : Int) : List Fd := l.filter fun f => !(f.id == i)
def putF (l : List Fd) (g : Fd) : List Fd := l.map fun f => if f.id = g.id then g else f
theorem drp_yes {l : List Fd} {k : Nat} {f : Fd} {i : Int} (h : l.take (k + 1) = l.take k ++ [f]) (ht : f.id = i) : dropF (l.take (k + 1)) i = dropF (l.take k) i := by
  unfold dropF
  rw [h, List.filter_append]
  simp [ht]
theorem drp_no {l : List Fd} {k : Nat} {f : Fd} {i : Int} (h : l.take (k + 1) = l.take k ++ [f]) (ht : ¬ f.id = i) : dropF (l.take (k + 1)) i = dropF (l.take k) i ++ [f] := by
  unfold dropF
  rw [h, List.filter_append]
  simp [ht]
theorem drp_len (l : List Fd) (i : Int) : (dropF l i).length ≤ l.length := List.length_filter_le _ _
theorem take_snoc' {α : Type} {l : List α} {k : Nat} {f : α} (h : l[k]? = some f) : l.take (k + 1) = l.take k ++ [f] := by
  rw [List.take_add_one, h]
  rfl

set_option maxHeartbeats 1000000 in
set_option maxRecDepth 20000 in
theorem without_any (A : Option Addr) (n c : Nat) (x : Int) (l : List Fd) (i : Int) (w : World) (hn : n = l.length) (hs : Fds w w.heap.size A l) (hl : n ≤ 1000000) :
    Calls Try.prog 66 #[.agg #[.slice A n c, .int .i64 x], .int .i64 i] w fun e w' => (∃ A' c', e = .returned (.agg #[.slice A' (dropF l i).length c', .int .i64 x]) ∧ Own 50 4 w' w.heap.size (.slice A' (dropF l i).length c') ((dropF l i).map Fd.cells)) ∧ Below w.heap.size w w' := by
  have HN := Lib.hid hn
  have HS := Lib.hid hs
  clear hn hs
  go_enter Try.func66, Try.ntmps66
  go_wp2
  go_loopw [5, 11] (fun v j wr => ∃ k : Nat, k ≤ n ∧ j = .int .i64 k ∧ Hid (Own 50 4 wr w.heap.size v ((dropF (l.take k) i).map Fd.cells)) ∧ Hid (Below w.heap.size w wr) ∧ Hid (CB wr w.heap.size 31 [.slice A n c, .int .i64 x]) ∧ Hid (CB wr (w.heap.size + 1) 31 [.slice none 0 0, .int .i64 0])) (fun _ j _ => n - (intOf j).toNat)
  case atStart => exact ⟨0, by omega, rfl, Own.nil _ _ _ _, al2 _ _ _, (CB.new _ _ _).alloc _, CB.new1 _ _ _ _⟩
  case round =>
    obtain ⟨k, hk, rfl, hown, hbel, hcs, hcr⟩ := hrel
    have hz := hcr.out.lt
    obtain ⟨A3, c3', hv3, hlc, hc3⟩ := hown.out.slice
    rw [List.length_map] at hv3 hlc
    by_cases hlt : k < n
    · have i1 : (k : Int) < (n : Int) := by omega
      obtain ⟨f, hf⟩ := getD_of (l := l) (k := k) (by rw [← HN.out]; exact hlt)
      obtain ⟨b, off, rfl, hb, c0, c1, c2, c3⟩ := (HS.out.below hbel.out).one hf
      have ht := Lib.hid (take_snoc' hf)
      have hll : (dropF (l.take k) i).length ≤ 1000000 := by have := drp_len (l.take k) i; simp at this; omega
      clear hf
      by_cases hy : f.id = i
      · have y2 : (f.id != i) = false := by simpa using hy
        have HE := Lib.hid (drp_yes ht.out hy)
        clear hy
        go_wp2
        go_roundw
        case rel => exact ⟨k + 1, by omega, by go_num, by rw [HE.out]; exact hown.out.alloc _, hbel.out.alloc (by omega) _, hcs.out.alloc _, hcr.out.alloc _⟩
        case measure => simp [intOf]; omega
      · have y2 : (f.id != i) = true := by simpa using hy
        have HE := Lib.hid (drp_no ht.out hy)
        have HV := Lib.hid hv3
        clear hy hv3
        go_wp2_with (at_builtin; refine push_fd (wr := wr.alloc (.cells #[.int .i64 f.id, .string f.nm, .int .i64 f.ty, .int .i64 f.pa] 50)) rfl (.tmp 19) (.tmp 21) rfl w.heap.size _ (dropF (l.take k) i) f (wr.heap.size + 1) rfl rfl (asz _ _).symm rfl (hown.out.alloc _) hll (by rw [asz]; omega) ?_; intro A7 c7 w7 ho7 hg7 hb7; have HO7 := Lib.hid ho7; have HB7 := Lib.hid hb7; have HCS := Lib.hid ((hcs.out.alloc _).grown hg7 (hown.out.ne hcs.out (by decide))); have HCR := Lib.hid ((hcr.out.alloc _).grown hg7 (hown.out.ne hcr.out (by decide))); clear ho7 hb7 hg7)
        go_roundw
        case rel => exact ⟨k + 1, by omega, by go_num, by rw [HE.out]; exact HO7.out, (hbel.out.alloc (by omega) _).trans HB7.out, HCS.out, HCR.out⟩
        case measure => simp [intOf]; omega
    · have i1 : ¬ (k : Int) < (n : Int) := by omega
      have e : l.take k = l := List.take_of_length_le (by rw [← HN.out]; omega)
      rw [e] at hv3 hown hlc
      subst hv3
      have d1 := hcs.out.cell 1 rfl
      go_wp2_with ((with_reducible show wpList _ _ _ _ _ _); refine wpList_store_cb rfl 31 (.tmp 4) (.tmp 27) rfl (w.heap.size + 1) [.slice A3 (dropF l i).length c3', .int .i64 x] rfl rfl 31 [.slice none 0 0, .int .i64 0] 2 hcr.out sizeS rfl rfl (one_s _ _ _ _) ?_; intro w9 hc9 hg9 hz9)
      refine bodyPost_ret (res_cell1 Try.results66 rfl hc9 Try.underlying31 sizeS rfl) rfl ⟨⟨A3, c3', rfl, hown.out.kept hg9 (.inr (hown.out.ne hcr.out (by decide)).symm)⟩, below_grown hbel.out hg9 (by omega) (by omega)⟩

theorem put_step {l : List Fd} {k : Nat} {f g : Fd} (hf : l[k]? = some f) : (putF (l.take k) g ++ l.drop k).set k (if f.id = g.id then g else f) = putF (l.take (k + 1)) g ++ l.drop (k + 1) := by
  have hk := (List.getElem?_eq_some_iff.1 hf).1
  rw [take_snoc' hf, drop_cons hf]
  unfold putF
  rw [List.map_append, List.append_assoc]
  rw [List.set_append_right _ _ (by simp; omega)]
  congr 1
  rw [show k - ((l.take k).map fun f => if f.id = g.id then g else f).length = 0 by simp; omega]
  rfl
theorem put_keep {l : List Fd} {k : Nat} {f g : Fd} (hf : l[k]? = some f) (hne : ¬ f.id = g.id) : putF (l.take (k + 1)) g ++ l.drop (k + 1) = putF (l.take k) g ++ l.drop k := by
  rw [take_snoc' hf, drop_cons hf]
  unfold putF
  rw [List.map_append, List.append_assoc]
  simp [hne]
theorem put_get {l : List Fd} {k : Nat} {f g : Fd} (hf : l[k]? = some f) : (putF (l.take k) g ++ l.drop k)[k]? = some f := by
  have hk := (List.getElem?_eq_some_iff.1 hf).1
  rw [List.getElem?_append_right (by unfold putF; simp; omega), List.getElem?_drop]
  rw [show k + (k - (putF (l.take k) g).length) = k by unfold putF; simp; omega]
  exact hf
theorem put_len {l : List Fd} {k : Nat} {g : Fd} : (putF (l.take k) g ++ l.drop k).length = l.length := by unfold putF; simp; omega

set_option maxHeartbeats 2000000 in
set_option maxRecDepth 20000 in
theorem replacing_any (A : Option Addr) (n c : Nat) (x : Int) (l : List Fd) (g : Fd) (w : World) (hn : n = l.length) (hs : Fds w w.heap.size A l) (hl : n ≤ 1000000) :
    Calls Try.prog 67 #[.agg #[.slice A n c, .int .i64 x], .agg #[.int .i64 g.id, .string g.nm, .int .i64 g.ty, .int .i64 g.pa]] w fun e w' => (∃ A' c', e = .returned (.agg #[.slice A' n c', .int .i64 x]) ∧ Own 50 4 w' w.heap.size (.slice A' n c') ((putF l g).map Fd.cells)) ∧ Below w.heap.size w w' := by
  have HN := Lib.hid hn
  have HS := Lib.hid hs
  clear hn hs
  have HS2 := Lib.hid (HS.out.up (al3 w (.cells #[.slice A n c, .int .i64 x] 31) (.cells #[.int .i64 g.id, .string g.nm, .int .i64 g.ty, .int .i64 g.pa] 50) (.cells #[.slice none 0 0, .int .i64 0] 31)))
  have q0 := Lib.hid (((CB.new w 31 [.slice A n c, .int .i64 x]).alloc (.cells #[.int .i64 g.id, .string g.nm, .int .i64 g.ty, .int .i64 g.pa] 50)).alloc (.cells #[.slice none 0 0, .int .i64 0] 31))
  have q1 := Lib.hid ((CB.new1 w (.cells #[.slice A n c, .int .i64 x] 31) 50 [.int .i64 g.id, .string g.nm, .int .i64 g.ty, .int .i64 g.pa]).alloc (.cells #[.slice none 0 0, .int .i64 0] 31))
  have q2 := Lib.hid (CB.new2 w (.cells #[.slice A n c, .int .i64 x] 31) (.cells #[.int .i64 g.id, .string g.nm, .int .i64 g.ty, .int .i64 g.pa] 50) 31 [.slice none 0 0, .int .i64 0])
  have qb := Lib.hid (al3 w (.cells #[.slice A n c, .int .i64 x] 31) (.cells #[.int .i64 g.id, .string g.nm, .int .i64 g.ty, .int .i64 g.pa] 50) (.cells #[.slice none 0 0, .int .i64 0] 31))
  go_enter Try.func67, Try.ntmps67
  go_wp2_with (go_at_call 72; refine (Clone_any A n c l _ HN.out HS2.out hl).mono ?_; rintro e w7 ⟨⟨A7, c7, rfl, ho7⟩, hb7⟩; have HO7 := Lib.hid (ho7.low (b := w.heap.size + 1 + 1 + 1) (by rw [asz, asz, asz]; exact Nat.le_refl _)); have HB7 := Lib.hid (below_step qb.out qb.out.size hb7); have Q0 := Lib.hid (q0.out.up hb7); have Q1 := Lib.hid (q1.out.up hb7); have Q2 := Lib.hid (q2.out.up hb7); clear ho7 hb7)
  clear q0 q1 q2 qb HS2
  go_loopw [12] (fun j wr => ∃ k : Nat, k ≤ n ∧ j = .int .i64 k ∧ Hid (Own 50 4 wr (w.heap.size + 1 + 1 + 1) (.slice A7 n c7) ((putF (l.take k) g ++ l.drop k).map Fd.cells)) ∧ Hid (Below w.heap.size w wr) ∧ Hid (CB wr w.heap.size 31 [.slice A n c, .int .i64 x]) ∧ Hid (CB wr (w.heap.size + 1) 50 [.int .i64 g.id, .string g.nm, .int .i64 g.ty, .int .i64 g.pa]) ∧ Hid (CB wr (w.heap.size + 1 + 1) 31 [.slice none 0 0, .int .i64 0])) (fun j _ => n - (intOf j).toNat)
  case atStart => exact ⟨0, by omega, rfl, by (have h := HO7.out; show Own _ _ _ _ _ _; simpa [putF] using h), HB7.out, Q0.out, Q1.out, Q2.out⟩
  case round =>
    obtain ⟨k, hk, rfl, hown, hbel, hcs, hcf, hcr⟩ := hrel
    have hz := hcr.out.lt
    by_cases hlt : k < n
    · have i1 : (k : Int) < (n : Int) := by omega
      have i0 : (0 : Int) ≤ (k : Int) := by omega
      obtain ⟨f, hf⟩ := getD_of (l := l) (k := k) (by rw [← HN.out]; exact hlt)
      have hrow : Fds wr wr.heap.size A7 (putF (l.take k) g ++ l.drop k) := hown.out.row.2.2.2
      obtain ⟨b, off, rfl, hb, c0, c1, c2, c3⟩ := hrow.one (put_get (g := g) hf)
      have hoff : off = 0 := by
        rcases hown.out.shape with ⟨e, _⟩ | ⟨g', cap, e, _⟩
        · cases e
        · injection e with e; injection e with e; injection e with e1 e2
      subst hoff
      rw [Nat.zero_add] at c0 c1 c2 c3
      have f0 := hcf.out.cell 0 rfl
      have f1 := hcf.out.cell 1 rfl
      have f2 := hcf.out.cell 2 rfl
      have f3 := hcf.out.cell 3 rfl
      have HP := Lib.hid (put_step (g := g) hf)
      have HK := Lib.hid (put_keep (g := g) hf)
      have hlen : k < (List.map Fd.cells (putF (l.take k) g ++ l.drop k)).length := by rw [List.length_map, put_len, ← HN.out]; exact hlt
      clear hf hrow
      by_cases he : f.id = g.id
      · have e1 : (f.id == g.id) = true := by simpa using he
        have HE := Lib.hid he
        clear he
        go_wp2
        go_quiet (fail)
        go_wp2_with ((with_reducible show wpList _ _ _ _ _ _); refine wpList_store_own rfl 50 (.tmp 26) (.tmp 25) rfl (w.heap.size + 1 + 1 + 1) b n c7 k _ _ g.cells rfl rfl rfl hown.out (by decide) hlen rfl sizeF (one_f g) ?_; intro w9 ho9 hg9 hz9; have HO9 := Lib.hid ho9; have HG9 := Lib.hid hg9; clear ho9 hg9 hz9)
        go_roundw
        case rel =>
          have hne : ∀ u, u < w.heap.size + 1 + 1 + 1 → some u ≠ some b := fun u hu => hown.out.below_ne hu
          refine ⟨k + 1, by omega, by go_num, ?_, below_grown (below_drewN hbel.out _) HG9.out (by show w.heap.size ≤ wr.heap.size; omega) (by have := hown.out.lt b rfl; omega), (hcs.out.drewN _).grown HG9.out (hne _ (by omega)), (hcf.out.drewN _).grown HG9.out (hne _ (by omega)), (hcr.out.drewN _).grown HG9.out (hne _ (by omega))⟩
          have h1 := HP.out
          rw [if_pos HE.out] at h1
          show Own _ _ _ _ _ _
          rw [← h1, List.map_set]
          exact HO9.out
        case measure => simp [intOf]; omega
      · have e1 : (f.id == g.id) = false := by simpa using he
        have HE := Lib.hid he
        clear he
        go_wp2
        go_quiet (fail)
        go_wp2
        go_roundw
        case rel =>
          exact ⟨k + 1, by omega, by go_num, by rw [HK.out HE.out]; exact hown.out.drewN _, below_drewN hbel.out _, hcs.out.drewN _, hcf.out.drewN _, hcr.out.drewN _⟩
        case measure => simp [intOf]; omega
    · have i1 : ¬ (k : Int) < (n : Int) := by omega
      have e : putF (l.take k) g ++ l.drop k = putF l g := by rw [List.take_of_length_le (by rw [← HN.out]; omega), List.drop_of_length_le (by rw [← HN.out]; omega), List.append_nil]
      rw [e] at hown
      have d1 := hcs.out.cell 1 rfl
      go_wp2_with ((with_reducible show wpList _ _ _ _ _ _); refine wpList_store_cb rfl 31 (.tmp 4) (.tmp 31) rfl (w.heap.size + 1 + 1) [.slice A7 n c7, .int .i64 x] rfl rfl 31 [.slice none 0 0, .int .i64 0] 2 hcr.out sizeS rfl rfl (one_s _ _ _ _) ?_; intro w9 hc9 hg9 hz9)
      refine bodyPost_ret (res_cell1 Try.results67 rfl hc9 Try.underlying31 sizeS rfl) rfl ⟨⟨A7, c7, rfl, (hown.out.kept hg9 (.inr (hown.out.ne hcr.out (by decide)).symm)).low (by omega)⟩, below_grown hbel.out hg9 (by omega) (by omega)⟩
end Go.Proofs.Ytiafcdaephcfeaa
namespace Go.Proofs.Ytiafcdaephcfeaa
open Go.RowKit

def withS (s : Sc) (nm : ByteArray) (ty pa : Int) : Sc := ⟨s.fs ++ [⟨s.next, nm, ty, pa⟩], s.next + 1⟩
def dropS (s : Sc) (i : Int) : Sc := ⟨dropF s.fs i, s.next⟩
def putS (s : Sc) (g : Fd) : Sc := ⟨putF s.fs g, s.next⟩
/-- a schema and an error, the schema's fields in the call's own row -/
def ResS (w w' : World) (r : Sc × Int) (e : Ending) : Prop := ∃ A' m' c', e = .returned (.tuple #[.agg #[.slice A' m' c', .int .i64 r.1.next], .int .i64 r.2]) ∧ m' = r.1.fs.length ∧ Own 50 4 w' w.heap.size (.slice A' m' c') (r.1.fs.map Fd.cells)
theorem res_zero (w w' : World) (er : Int) : ResS w w' (Sc.zero, er) (.returned (.tuple #[.agg #[.slice none 0 0, .int .i64 0], .int .i64 er])) := ⟨none, 0, 0, rfl, rfl, Own.nil _ _ _ _⟩
def addE (s : Sc) (c : Ch) : Sc × Int := if typB c.ty then (withS s c.nm c.ty c.pa, 0) else (Sc.zero, 7)
def dropE (s : Sc) (c : Ch) : Sc × Int := if hasF s.fs c.id then (dropS s (fieldD s.fs c.id).id, 0) else (Sc.zero, 61)
def renE (s : Sc) (c : Ch) : Sc × Int := if hasF s.fs c.id then (putS s { fieldD s.fs c.id with nm := c.nm }, 0) else (Sc.zero, 61)
def widE (s : Sc) (c : Ch) : Sc × Int := if hasF s.fs c.id then (if (fieldD s.fs c.id).ty = 2 then (putS s { fieldD s.fs c.id with ty := 3 }, 0) else (Sc.zero, 62)) else (Sc.zero, 61)
def movE (s : Sc) (c : Ch) : Sc × Int := if hasF s.fs c.id then (putS s { fieldD s.fs c.id with pa := c.pa }, 0) else (Sc.zero, 61)
def splE (s : Sc) (c : Ch) : Sc × Int := if hasF s.fs c.id then (if (fieldD s.fs c.id).ty = 4 then (if sepB c.sep then (withS (withS (dropS s (fieldD s.fs c.id).id) c.nm 4 (fieldD s.fs c.id).pa) c.ot 4 (fieldD s.fs c.id).pa, 0) else (Sc.zero, 1)) else (Sc.zero, 7)) else (Sc.zero, 61)
def joiE (s : Sc) (c : Ch) : Sc × Int :=
  if hasF s.fs c.id = true ∧ hasF s.fs c.wi = true ∧ (fieldD s.fs c.id).id ≠ (fieldD s.fs c.wi).id then
    (if (fieldD s.fs c.id).ty = 4 ∧ (fieldD s.fs c.wi).ty = 4 then (if (fieldD s.fs c.id).pa = (fieldD s.fs c.wi).pa then (if sepB c.sep then (withS (dropS (dropS s (fieldD s.fs c.id).id) (fieldD s.fs c.wi).id) c.nm 4 (fieldD s.fs c.id).pa, 0) else (Sc.zero, 1)) else (Sc.zero, 63)) else (Sc.zero, 7))
  else (Sc.zero, 61)

set_option maxHeartbeats 2000000 in
set_option maxRecDepth 20000 in
theorem add_any (A : Option Addr) (n c : Nat) (x : Int) (l : List Fd) (kd id wi : Int) (nm ot : ByteArray) (ty pa : Int) (sep : ByteArray) (w : World) (hn : n = l.length) (hs : Fds w w.heap.size A l) (hl0 : n ≤ 1000) (hx0 : 0 ≤ x) (hx1 : x ≤ 2305843009213693952) (_hsep : sep.size ≤ 9223372036854775807) :
    Calls Try.prog 45 #[.agg #[.slice A n c, .int .i64 x, .int .i64 kd, .int .i64 id, .int .i64 wi, .string nm, .string ot, .int .i64 ty, .int .i64 pa, .string sep]] w fun e w' => ResS w w' (addE ⟨l, x⟩ ⟨kd, id, wi, nm, ot, ty, pa, sep⟩) e ∧ Below w.heap.size w w' := by
  have HN := Lib.hid hn
  have HS := Lib.hid hs
  clear hn hs
  have hl : n ≤ 1000000 := by omega
  have hl2 : n ≤ 9223372036854775807 := by omega
  have hwx : IntKind.i64.wrap (x + 1) = x + 1 := IntWalk.i64_in _ ⟨by omega, by omega⟩
  cases ht : typB ty with
  | false =>
    have HT := Lib.hid ht
    clear ht
    go_enter Try.func45, Try.ntmps45
    go_wp2_with (first | (go_at_call 57; refine (schType_any _ false _ HT.out).mono ?_; rintro e w' ⟨rfl, rfl⟩) | ((with_reducible show wpList _ _ _ _ _ _); refine wpList_store_cb rfl 31 (.tmp 2) (.tmp 9) rfl (w.heap.size + 1) [.slice none 0 0, .int .i64 0] rfl rfl 31 [.slice none 0 0, .int .i64 0] 2 (CB.new1 w _ _ _) sizeS rfl rfl (one_s _ _ _ _) ?_; intro w9 hc9 hg9 hz9))
    refine bodyPost_ret (res_cell Try.results45 rfl rfl hc9 Try.underlying31 sizeS rfl) rfl ⟨?_, below_grown (al2 w _ _) hg9 (by rw [asz, asz]; omega) (by omega)⟩
    unfold addE
    rw [if_neg (by simp only [HT.out]; decide)]
    exact res_zero _ _ _
  | true =>
    have HT := Lib.hid ht
    clear ht
    go_enter Try.func45, Try.ntmps45
    go_wp2_with (first | (go_at_call 57; refine (schType_any _ true _ HT.out).mono ?_; rintro e w' ⟨rfl, rfl⟩) | (go_at_call 65; refine (with_any _ n c x l nm ty pa _ HN.out (HS.out.up (al2 w _ _)) hl hx0 (by omega)).mono ?_; rintro e w6 ⟨⟨A6, c6, rfl, ho6⟩, hb6⟩; have HB6 := Lib.hid ((al2 w _ _).trans (hb6.mono (al2 w _ _).size)); have HR6 := Lib.hid ((CB.new1 w (.cells #[.slice A n c, .int .i64 x, .int .i64 kd, .int .i64 id, .int .i64 wi, .string nm, .string ot, .int .i64 ty, .int .i64 pa, .string sep] 64) 31 [.slice none 0 0, .int .i64 0]).up hb6); have HO6 := Lib.hid (ho6.low (al2 w _ _).size); have hz6 : w.heap.size + 1 < w6.heap.size := HR6.out.lt; clear ho6 hb6) | ((with_reducible show wpList _ _ _ _ _ _); refine wpList_store_cb rfl 31 (.tmp 2) (.tmp 21) rfl (w.heap.size + 1) [.slice A6 (n + 1) c6, .int .i64 (x + 1)] rfl rfl 31 [.slice none 0 0, .int .i64 0] 2 HR6.out sizeS rfl rfl (one_s _ _ _ _) ?_; intro w9 hc9 hg9 hz9))
    refine bodyPost_ret (res_cell Try.results45 rfl rfl hc9 Try.underlying31 sizeS rfl) rfl ⟨?_, below_grown HB6.out hg9 (by omega) (by omega)⟩
    unfold addE
    rw [if_pos (by exact HT.out)]
    exact ⟨A6, n + 1, c6, rfl, by rw [HN.out]; simp [withS], HO6.out.kept hg9 (.inr (HO6.out.ne HR6.out (by decide)).symm)⟩

set_option maxHeartbeats 2000000 in
set_option maxRecDepth 20000 in
theorem drop_any (A : Option Addr) (n c : Nat) (x : Int) (l : List Fd) (kd id wi : Int) (nm ot : ByteArray) (ty pa : Int) (sep : ByteArray) (w : World) (hn : n = l.length) (hs : Fds w w.heap.size A l) (hl0 : n ≤ 1000) (_hx0 : 0 ≤ x) (_hx1 : x ≤ 2305843009213693952) (_hsep : sep.size ≤ 9223372036854775807) :
    Calls Try.prog 46 #[.agg #[.slice A n c, .int .i64 x, .int .i64 kd, .int .i64 id, .int .i64 wi, .string nm, .string ot, .int .i64 ty, .int .i64 pa, .string sep]] w fun e w' => ResS w w' (dropE ⟨l, x⟩ ⟨kd, id, wi, nm, ot, ty, pa, sep⟩) e ∧ Below w.heap.size w w' := by
  have HN := Lib.hid hn
  have HS := Lib.hid hs
  clear hn hs
  have hl : n ≤ 1000000 := by omega
  have hl2 : n ≤ 9223372036854775807 := by omega
  obtain ⟨g, hg⟩ : ∃ g, fieldD l id = g := ⟨_, rfl⟩
  obtain ⟨ok, hok⟩ : ∃ ok, hasF l id = ok := ⟨_, rfl⟩
  have HG := Lib.hid hg
  have HO := Lib.hid hok
  clear hg hok
  cases ok with
  | false =>
    go_enter Try.func46, Try.ntmps46
    go_wp2_with (first | (go_at_call 21; refine (Field_any _ n c x l id _ HN.out (HS.out.up (al2 w _ _)) hl2).mono ?_; rintro e w5 ⟨rfl, hb5⟩; rw [HG.out, HO.out]; have HB5 := Lib.hid ((al2 w _ _).trans (hb5.mono (al2 w _ _).size)); have HR5 := Lib.hid ((CB.new1 w (.cells #[.slice A n c, .int .i64 x, .int .i64 kd, .int .i64 id, .int .i64 wi, .string nm, .string ot, .int .i64 ty, .int .i64 pa, .string sep] 64) 31 [.slice none 0 0, .int .i64 0]).up hb5); have HE5 := Lib.hid (((CB.new w 64 [.slice A n c, .int .i64 x, .int .i64 kd, .int .i64 id, .int .i64 wi, .string nm, .string ot, .int .i64 ty, .int .i64 pa, .string sep]).alloc (.cells #[.slice none 0 0, .int .i64 0] 31)).up hb5); have hz5 : w.heap.size + 1 < w5.heap.size := HR5.out.lt; have hy5 : w.heap.size < w5.heap.size := HE5.out.lt; have e5_0 := HE5.out.cell 0 rfl; have e5_1 := HE5.out.cell 1 rfl; have e5_2 := HE5.out.cell 2 rfl; have e5_3 := HE5.out.cell 3 rfl; have e5_4 := HE5.out.cell 4 rfl; have e5_5 := HE5.out.cell 5 rfl; have e5_6 := HE5.out.cell 6 rfl; have e5_7 := HE5.out.cell 7 rfl; have e5_8 := HE5.out.cell 8 rfl; have e5_9 := HE5.out.cell 9 rfl; clear hb5) | ((with_reducible show wpList _ _ _ _ _ _); refine wpList_store_cb rfl 31 (.tmp 2) (.tmp 17) rfl (w.heap.size + 1) [.slice none 0 0, .int .i64 0] rfl rfl 31 [.slice none 0 0, .int .i64 0] 2 (HR5.out.alloc _) sizeS rfl rfl (one_s _ _ _ _) ?_; intro w9 hc9 hg9 hz9))
    refine bodyPost_ret (res_cell Try.results46 rfl rfl hc9 Try.underlying31 sizeS rfl) rfl ⟨?_, below_grown (HB5.out.alloc (by omega) _) hg9 (by rw [asz]; omega) (by omega)⟩
    unfold dropE
    rw [if_neg (by simp only [HO.out]; decide)]
    exact res_zero _ _ _
  | true =>
    go_enter Try.func46, Try.ntmps46
    go_wp2_with (first | (go_at_call 21; refine (Field_any _ n c x l id _ HN.out (HS.out.up (al2 w _ _)) hl2).mono ?_; rintro e w5 ⟨rfl, hb5⟩; rw [HG.out, HO.out]; have HB5 := Lib.hid ((al2 w _ _).trans (hb5.mono (al2 w _ _).size)); have HR5 := Lib.hid ((CB.new1 w (.cells #[.slice A n c, .int .i64 x, .int .i64 kd, .int .i64 id, .int .i64 wi, .string nm, .string ot, .int .i64 ty, .int .i64 pa, .string sep] 64) 31 [.slice none 0 0, .int .i64 0]).up hb5); have HE5 := Lib.hid (((CB.new w 64 [.slice A n c, .int .i64 x, .int .i64 kd, .int .i64 id, .int .i64 wi, .string nm, .string ot, .int .i64 ty, .int .i64 pa, .string sep]).alloc (.cells #[.slice none 0 0, .int .i64 0] 31)).up hb5); have hz5 : w.heap.size + 1 < w5.heap.size := HR5.out.lt; have hy5 : w.heap.size < w5.heap.size := HE5.out.lt; have e5_0 := HE5.out.cell 0 rfl; have e5_1 := HE5.out.cell 1 rfl; have e5_2 := HE5.out.cell 2 rfl; have e5_3 := HE5.out.cell 3 rfl; have e5_4 := HE5.out.cell 4 rfl; have e5_5 := HE5.out.cell 5 rfl; have e5_6 := HE5.out.cell 6 rfl; have e5_7 := HE5.out.cell 7 rfl; have e5_8 := HE5.out.cell 8 rfl; have e5_9 := HE5.out.cell 9 rfl; clear hb5) | (go_at_call 66; refine (without_any _ n c x l g.id _ HN.out (HS.out.up (HB5.out.alloc (by omega) _)) hl).mono ?_; rintro e w6 ⟨⟨A6, c6, rfl, ho6⟩, hb6⟩; have HB6 := Lib.hid (below_step (HB5.out.alloc (by omega) _) (by rw [asz]; omega) hb6); have HR6 := Lib.hid ((HR5.out.alloc _).up hb6); have HO6 := Lib.hid (ho6.low (b := w.heap.size) (by rw [asz]; omega)); have hz6 : w.heap.size + 1 < w6.heap.size := HR6.out.lt; clear ho6 hb6) | ((with_reducible show wpList _ _ _ _ _ _); refine wpList_store_cb rfl 31 (.tmp 2) (.tmp 22) rfl (w.heap.size + 1) [.slice A6 (dropF l g.id).length c6, .int .i64 x] rfl rfl 31 [.slice none 0 0, .int .i64 0] 2 HR6.out sizeS rfl rfl (one_s _ _ _ _) ?_; intro w9 hc9 hg9 hz9))
    refine bodyPost_ret (res_cell Try.results46 rfl rfl hc9 Try.underlying31 sizeS rfl) rfl ⟨?_, below_grown HB6.out hg9 (by omega) (by omega)⟩
    unfold dropE
    rw [if_pos (by exact HO.out)]
    simp only [HG.out]
    exact ⟨A6, _, c6, rfl, rfl, HO6.out.kept hg9 (.inr (HO6.out.ne HR6.out (by decide)).symm)⟩

set_option maxHeartbeats 2000000 in
set_option maxRecDepth 20000 in
theorem ren_any (A : Option Addr) (n c : Nat) (x : Int) (l : List Fd) (kd id wi : Int) (nm ot : ByteArray) (ty pa : Int) (sep : ByteArray) (w : World) (hn : n = l.length) (hs : Fds w w.heap.size A l) (hl0 : n ≤ 1000) (_hx0 : 0 ≤ x) (_hx1 : x ≤ 2305843009213693952) (_hsep : sep.size ≤ 9223372036854775807) :
    Calls Try.prog 47 #[.agg #[.slice A n c, .int .i64 x, .int .i64 kd, .int .i64 id, .int .i64 wi, .string nm, .string ot, .int .i64 ty, .int .i64 pa, .string sep]] w fun e w' => ResS w w' (renE ⟨l, x⟩ ⟨kd, id, wi, nm, ot, ty, pa, sep⟩) e ∧ Below w.heap.size w w' := by
  have HN := Lib.hid hn
  have HS := Lib.hid hs
  clear hn hs
  have hl : n ≤ 1000000 := by omega
  have hl2 : n ≤ 9223372036854775807 := by omega
  obtain ⟨g, hg⟩ : ∃ g, fieldD l id = g := ⟨_, rfl⟩
  obtain ⟨ok, hok⟩ : ∃ ok, hasF l id = ok := ⟨_, rfl⟩
  have HG := Lib.hid hg
  have HO := Lib.hid hok
  clear hg hok
  cases ok with
  | false =>
    go_enter Try.func47, Try.ntmps47
    go_wp2_with (first | (go_at_call 21; refine (Field_any _ n c x l id _ HN.out (HS.out.up (al2 w _ _)) hl2).mono ?_; rintro e w5 ⟨rfl, hb5⟩; rw [HG.out, HO.out]; have HB5 := Lib.hid ((al2 w _ _).trans (hb5.mono (al2 w _ _).size)); have HR5 := Lib.hid ((CB.new1 w (.cells #[.slice A n c, .int .i64 x, .int .i64 kd, .int .i64 id, .int .i64 wi, .string nm, .string ot, .int .i64 ty, .int .i64 pa, .string sep] 64) 31 [.slice none 0 0, .int .i64 0]).up hb5); have HE5 := Lib.hid (((CB.new w 64 [.slice A n c, .int .i64 x, .int .i64 kd, .int .i64 id, .int .i64 wi, .string nm, .string ot, .int .i64 ty, .int .i64 pa, .string sep]).alloc (.cells #[.slice none 0 0, .int .i64 0] 31)).up hb5); have hz5 : w.heap.size + 1 < w5.heap.size := HR5.out.lt; have hy5 : w.heap.size < w5.heap.size := HE5.out.lt; have e5_0 := HE5.out.cell 0 rfl; have e5_1 := HE5.out.cell 1 rfl; have e5_2 := HE5.out.cell 2 rfl; have e5_3 := HE5.out.cell 3 rfl; have e5_4 := HE5.out.cell 4 rfl; have e5_5 := HE5.out.cell 5 rfl; have e5_6 := HE5.out.cell 6 rfl; have e5_7 := HE5.out.cell 7 rfl; have e5_8 := HE5.out.cell 8 rfl; have e5_9 := HE5.out.cell 9 rfl; clear hb5) | ((with_reducible show wpList _ _ _ _ _ _); refine wpList_store_cb rfl 31 (.tmp 2) (.tmp 17) rfl (w.heap.size + 1) [.slice none 0 0, .int .i64 0] rfl rfl 31 [.slice none 0 0, .int .i64 0] 2 (HR5.out.alloc _) sizeS rfl rfl (one_s _ _ _ _) ?_; intro w9 hc9 hg9 hz9))
    refine bodyPost_ret (res_cell Try.results47 rfl rfl hc9 Try.underlying31 sizeS rfl) rfl ⟨?_, below_grown (HB5.out.alloc (by omega) _) hg9 (by rw [asz]; omega) (by omega)⟩
    unfold renE
    rw [if_neg (by simp only [HO.out]; decide)]
    exact res_zero _ _ _
  | true =>
    go_enter Try.func47, Try.ntmps47
    go_wp2_with (first | (go_at_call 21; refine (Field_any _ n c x l id _ HN.out (HS.out.up (al2 w _ _)) hl2).mono ?_; rintro e w5 ⟨rfl, hb5⟩; rw [HG.out, HO.out]; have HB5 := Lib.hid ((al2 w _ _).trans (hb5.mono (al2 w _ _).size)); have HR5 := Lib.hid ((CB.new1 w (.cells #[.slice A n c, .int .i64 x, .int .i64 kd, .int .i64 id, .int .i64 wi, .string nm, .string ot, .int .i64 ty, .int .i64 pa, .string sep] 64) 31 [.slice none 0 0, .int .i64 0]).up hb5); have HE5 := Lib.hid (((CB.new w 64 [.slice A n c, .int .i64 x, .int .i64 kd, .int .i64 id, .int .i64 wi, .string nm, .string ot, .int .i64 ty, .int .i64 pa, .string sep]).alloc (.cells #[.slice none 0 0, .int .i64 0] 31)).up hb5); have hz5 : w.heap.size + 1 < w5.heap.size := HR5.out.lt; have hy5 : w.heap.size < w5.heap.size := HE5.out.lt; have e5_0 := HE5.out.cell 0 rfl; have e5_1 := HE5.out.cell 1 rfl; have e5_2 := HE5.out.cell 2 rfl; have e5_3 := HE5.out.cell 3 rfl; have e5_4 := HE5.out.cell 4 rfl; have e5_5 := HE5.out.cell 5 rfl; have e5_6 := HE5.out.cell 6 rfl; have e5_7 := HE5.out.cell 7 rfl; have e5_8 := HE5.out.cell 8 rfl; have e5_9 := HE5.out.cell 9 rfl; clear hb5) | (go_at_call 67; refine (replacing_any _ n c x l ⟨g.id, nm, g.ty, g.pa⟩ _ HN.out (HS.out.up (HB5.out.alloc (by omega) _)) hl).mono ?_; rintro e w6 ⟨⟨A6, c6, rfl, ho6⟩, hb6⟩; have HB6 := Lib.hid (below_step (HB5.out.alloc (by omega) _) (by rw [asz]; omega) hb6); have HR6 := Lib.hid ((HR5.out.alloc _).up hb6); have HO6 := Lib.hid (ho6.low (b := w.heap.size) (by rw [asz]; omega)); have hz6 : w.heap.size + 1 < w6.heap.size := HR6.out.lt; clear ho6 hb6) | ((with_reducible show wpList _ _ _ _ _ _); refine wpList_store_cb rfl 31 (.tmp 2) (.tmp 25) rfl (w.heap.size + 1) [.slice A6 n c6, .int .i64 x] rfl rfl 31 [.slice none 0 0, .int .i64 0] 2 HR6.out sizeS rfl rfl (one_s _ _ _ _) ?_; intro w9 hc9 hg9 hz9))
    refine bodyPost_ret (res_cell Try.results47 rfl rfl hc9 Try.underlying31 sizeS rfl) rfl ⟨?_, below_grown HB6.out hg9 (by omega) (by omega)⟩
    unfold renE
    rw [if_pos (by exact HO.out)]
    simp only [HG.out]
    exact ⟨A6, n, c6, rfl, by rw [HN.out]; simp [putS, putF], HO6.out.kept hg9 (.inr (HO6.out.ne HR6.out (by decide)).symm)⟩

set_option maxHeartbeats 2000000 in
set_option maxRecDepth 20000 in
theorem mov_any (A : Option Addr) (n c : Nat) (x : Int) (l : List Fd) (kd id wi : Int) (nm ot : ByteArray) (ty pa : Int) (sep : ByteArray) (w : World) (hn : n = l.length) (hs : Fds w w.heap.size A l) (hl0 : n ≤ 1000) (_hx0 : 0 ≤ x) (_hx1 : x ≤ 2305843009213693952) (_hsep : sep.size ≤ 9223372036854775807) :
    Calls Try.prog 49 #[.agg #[.slice A n c, .int .i64 x, .int .i64 kd, .int .i64 id, .int .i64 wi, .string nm, .string ot, .int .i64 ty, .int .i64 pa, .string sep]] w fun e w' => ResS w w' (movE ⟨l, x⟩ ⟨kd, id, wi, nm, ot, ty, pa, sep⟩) e ∧ Below w.heap.size w w' := by
  have HN := Lib.hid hn
  have HS := Lib.hid hs
  clear hn hs
  have hl : n ≤ 1000000 := by omega
  have hl2 : n ≤ 9223372036854775807 := by omega
  obtain ⟨g, hg⟩ : ∃ g, fieldD l id = g := ⟨_, rfl⟩
  obtain ⟨ok, hok⟩ : ∃ ok, hasF l id = ok := ⟨_, rfl⟩
  have HG := Lib.hid hg
  have HO := Lib.hid hok
  clear hg hok
  cases ok with
  | false =>
    go_enter Try.func49, Try.ntmps49
    go_wp2_with (first | (go_at_call 21; refine (Field_any _ n c x l id _ HN.out (HS.out.up (al2 w _ _)) hl2).mono ?_; rintro e w5 ⟨rfl, hb5⟩; rw [HG.out, HO.out]; have HB5 := Lib.hid ((al2 w _ _).trans (hb5.mono (al2 w _ _).size)); have HR5 := Lib.hid ((CB.new1 w (.cells #[.slice A n c, .int .i64 x, .int .i64 kd, .int .i64 id, .int .i64 wi, .string nm, .string ot, .int .i64 ty, .int .i64 pa, .string sep] 64) 31 [.slice none 0 0, .int .i64 0]).up hb5); have HE5 := Lib.hid (((CB.new w 64 [.slice A n c, .int .i64 x, .int .i64 kd, .int .i64 id, .int .i64 wi, .string nm, .string ot, .int .i64 ty, .int .i64 pa, .string sep]).alloc (.cells #[.slice none 0 0, .int .i64 0] 31)).up hb5); have hz5 : w.heap.size + 1 < w5.heap.size := HR5.out.lt; have hy5 : w.heap.size < w5.heap.size := HE5.out.lt; have e5_0 := HE5.out.cell 0 rfl; have e5_1 := HE5.out.cell 1 rfl; have e5_2 := HE5.out.cell 2 rfl; have e5_3 := HE5.out.cell 3 rfl; have e5_4 := HE5.out.cell 4 rfl; have e5_5 := HE5.out.cell 5 rfl; have e5_6 := HE5.out.cell 6 rfl; have e5_7 := HE5.out.cell 7 rfl; have e5_8 := HE5.out.cell 8 rfl; have e5_9 := HE5.out.cell 9 rfl; clear hb5) | ((with_reducible show wpList _ _ _ _ _ _); refine wpList_store_cb rfl 31 (.tmp 2) (.tmp 17) rfl (w.heap.size + 1) [.slice none 0 0, .int .i64 0] rfl rfl 31 [.slice none 0 0, .int .i64 0] 2 (HR5.out.alloc _) sizeS rfl rfl (one_s _ _ _ _) ?_; intro w9 hc9 hg9 hz9))
    refine bodyPost_ret (res_cell Try.results49 rfl rfl hc9 Try.underlying31 sizeS rfl) rfl ⟨?_, below_grown (HB5.out.alloc (by omega) _) hg9 (by rw [asz]; omega) (by omega)⟩
    unfold movE
    rw [if_neg (by simp only [HO.out]; decide)]
    exact res_zero _ _ _
  | true =>
    go_enter Try.func49, Try.ntmps49
    go_wp2_with (first | (go_at_call 21; refine (Field_any _ n c x l id _ HN.out (HS.out.up (al2 w _ _)) hl2).mono ?_; rintro e w5 ⟨rfl, hb5⟩; rw [HG.out, HO.out]; have HB5 := Lib.hid ((al2 w _ _).trans (hb5.mono (al2 w _ _).size)); have HR5 := Lib.hid ((CB.new1 w (.cells #[.slice A n c, .int .i64 x, .int .i64 kd, .int .i64 id, .int .i64 wi, .string nm, .string ot, .int .i64 ty, .int .i64 pa, .string sep] 64) 31 [.slice none 0 0, .int .i64 0]).up hb5); have HE5 := Lib.hid (((CB.new w 64 [.slice A n c, .int .i64 x, .int .i64 kd, .int .i64 id, .int .i64 wi, .string nm, .string ot, .int .i64 ty, .int .i64 pa, .string sep]).alloc (.cells #[.slice none 0 0, .int .i64 0] 31)).up hb5); have hz5 : w.heap.size + 1 < w5.heap.size := HR5.out.lt; have hy5 : w.heap.size < w5.heap.size := HE5.out.lt; have e5_0 := HE5.out.cell 0 rfl; have e5_1 := HE5.out.cell 1 rfl; have e5_2 := HE5.out.cell 2 rfl; have e5_3 := HE5.out.cell 3 rfl; have e5_4 := HE5.out.cell 4 rfl; have e5_5 := HE5.out.cell 5 rfl; have e5_6 := HE5.out.cell 6 rfl; have e5_7 := HE5.out.cell 7 rfl; have e5_8 := HE5.out.cell 8 rfl; have e5_9 := HE5.out.cell 9 rfl; clear hb5) | (go_at_call 67; refine (replacing_any _ n c x l ⟨g.id, g.nm, g.ty, pa⟩ _ HN.out (HS.out.up (HB5.out.alloc (by omega) _)) hl).mono ?_; rintro e w6 ⟨⟨A6, c6, rfl, ho6⟩, hb6⟩; have HB6 := Lib.hid (below_step (HB5.out.alloc (by omega) _) (by rw [asz]; omega) hb6); have HR6 := Lib.hid ((HR5.out.alloc _).up hb6); have HO6 := Lib.hid (ho6.low (b := w.heap.size) (by rw [asz]; omega)); have hz6 : w.heap.size + 1 < w6.heap.size := HR6.out.lt; clear ho6 hb6) | ((with_reducible show wpList _ _ _ _ _ _); refine wpList_store_cb rfl 31 (.tmp 2) (.tmp 25) rfl (w.heap.size + 1) [.slice A6 n c6, .int .i64 x] rfl rfl 31 [.slice none 0 0, .int .i64 0] 2 HR6.out sizeS rfl rfl (one_s _ _ _ _) ?_; intro w9 hc9 hg9 hz9))
    refine bodyPost_ret (res_cell Try.results49 rfl rfl hc9 Try.underlying31 sizeS rfl) rfl ⟨?_, below_grown HB6.out hg9 (by omega) (by omega)⟩
    unfold movE
    rw [if_pos (by exact HO.out)]
    simp only [HG.out]
    exact ⟨A6, n, c6, rfl, by rw [HN.out]; simp [putS, putF], HO6.out.kept hg9 (.inr (HO6.out.ne HR6.out (by decide)).symm)⟩

set_option maxHeartbeats 2000000 in
set_option maxRecDepth 20000 in
theorem wid_any (A : Option Addr) (n c : Nat) (x : Int) (l : List Fd) (kd id wi : Int) (nm ot : ByteArray) (ty pa : Int) (sep : ByteArray) (w : World) (hn : n = l.length) (hs : Fds w w.heap.size A l) (hl0 : n ≤ 1000) (_hx0 : 0 ≤ x) (_hx1 : x ≤ 2305843009213693952) (_hsep : sep.size ≤ 9223372036854775807) :
    Calls Try.prog 48 #[.agg #[.slice A n c, .int .i64 x, .int .i64 kd, .int .i64 id, .int .i64 wi, .string nm, .string ot, .int .i64 ty, .int .i64 pa, .string sep]] w fun e w' => ResS w w' (widE ⟨l, x⟩ ⟨kd, id, wi, nm, ot, ty, pa, sep⟩) e ∧ Below w.heap.size w w' := by
  have HN := Lib.hid hn
  have HS := Lib.hid hs
  clear hn hs
  have hl : n ≤ 1000000 := by omega
  have hl2 : n ≤ 9223372036854775807 := by omega
  obtain ⟨g, hg⟩ : ∃ g, fieldD l id = g := ⟨_, rfl⟩
  obtain ⟨ok, hok⟩ : ∃ ok, hasF l id = ok := ⟨_, rfl⟩
  have HG := Lib.hid hg
  have HO := Lib.hid hok
  clear hg hok
  cases ok with
  | false =>
    go_enter Try.func48, Try.ntmps48
    go_wp2_with (first | (go_at_call 21; refine (Field_any _ n c x l id _ HN.out (HS.out.up (al2 w _ _)) hl2).mono ?_; rintro e w5 ⟨rfl, hb5⟩; rw [HG.out, HO.out]; have HB5 := Lib.hid ((al2 w _ _).trans (hb5.mono (al2 w _ _).size)); have HR5 := Lib.hid ((CB.new1 w (.cells #[.slice A n c, .int .i64 x, .int .i64 kd, .int .i64 id, .int .i64 wi, .string nm, .string ot, .int .i64 ty, .int .i64 pa, .string sep] 64) 31 [.slice none 0 0, .int .i64 0]).up hb5); have HE5 := Lib.hid (((CB.new w 64 [.slice A n c, .int .i64 x, .int .i64 kd, .int .i64 id, .int .i64 wi, .string nm, .string ot, .int .i64 ty, .int .i64 pa, .string sep]).alloc (.cells #[.slice none 0 0, .int .i64 0] 31)).up hb5); have hz5 : w.heap.size + 1 < w5.heap.size := HR5.out.lt; have hy5 : w.heap.size < w5.heap.size := HE5.out.lt; have e5_0 := HE5.out.cell 0 rfl; have e5_1 := HE5.out.cell 1 rfl; have e5_2 := HE5.out.cell 2 rfl; have e5_3 := HE5.out.cell 3 rfl; have e5_4 := HE5.out.cell 4 rfl; have e5_5 := HE5.out.cell 5 rfl; have e5_6 := HE5.out.cell 6 rfl; have e5_7 := HE5.out.cell 7 rfl; have e5_8 := HE5.out.cell 8 rfl; have e5_9 := HE5.out.cell 9 rfl; clear hb5) | ((with_reducible show wpList _ _ _ _ _ _); refine wpList_store_cb rfl 31 (.tmp 2) (.tmp 18) rfl (w.heap.size + 1) [.slice none 0 0, .int .i64 0] rfl rfl 31 [.slice none 0 0, .int .i64 0] 2 (HR5.out.alloc _) sizeS rfl rfl (one_s _ _ _ _) ?_; intro w9 hc9 hg9 hz9))
    refine bodyPost_ret (res_cell Try.results48 rfl rfl hc9 Try.underlying31 sizeS rfl) rfl ⟨?_, below_grown (HB5.out.alloc (by omega) _) hg9 (by rw [asz]; omega) (by omega)⟩
    unfold widE
    rw [if_neg (by simp only [HO.out]; decide)]
    exact res_zero _ _ _
  | true =>
    by_cases hy : g.ty = 2
    · have y1 : (g.ty != 2) = false := by simpa using hy
      have HY := Lib.hid hy
      clear hy
      go_enter Try.func48, Try.ntmps48
      go_wp2_with (first | (go_at_call 21; refine (Field_any _ n c x l id _ HN.out (HS.out.up (al2 w _ _)) hl2).mono ?_; rintro e w5 ⟨rfl, hb5⟩; rw [HG.out, HO.out]; have HB5 := Lib.hid ((al2 w _ _).trans (hb5.mono (al2 w _ _).size)); have HR5 := Lib.hid ((CB.new1 w (.cells #[.slice A n c, .int .i64 x, .int .i64 kd, .int .i64 id, .int .i64 wi, .string nm, .string ot, .int .i64 ty, .int .i64 pa, .string sep] 64) 31 [.slice none 0 0, .int .i64 0]).up hb5); have HE5 := Lib.hid (((CB.new w 64 [.slice A n c, .int .i64 x, .int .i64 kd, .int .i64 id, .int .i64 wi, .string nm, .string ot, .int .i64 ty, .int .i64 pa, .string sep]).alloc (.cells #[.slice none 0 0, .int .i64 0] 31)).up hb5); have hz5 : w.heap.size + 1 < w5.heap.size := HR5.out.lt; have hy5 : w.heap.size < w5.heap.size := HE5.out.lt; have e5_0 := HE5.out.cell 0 rfl; have e5_1 := HE5.out.cell 1 rfl; have e5_2 := HE5.out.cell 2 rfl; have e5_3 := HE5.out.cell 3 rfl; have e5_4 := HE5.out.cell 4 rfl; have e5_5 := HE5.out.cell 5 rfl; have e5_6 := HE5.out.cell 6 rfl; have e5_7 := HE5.out.cell 7 rfl; have e5_8 := HE5.out.cell 8 rfl; have e5_9 := HE5.out.cell 9 rfl; clear hb5) | (go_at_call 67; refine (replacing_any _ n c x l ⟨g.id, g.nm, 3, g.pa⟩ _ HN.out (HS.out.up (HB5.out.alloc (by omega) _)) hl).mono ?_; rintro e w6 ⟨⟨A6, c6, rfl, ho6⟩, hb6⟩; have HB6 := Lib.hid (below_step (HB5.out.alloc (by omega) _) (by rw [asz]; omega) hb6); have HR6 := Lib.hid ((HR5.out.alloc _).up hb6); have HO6 := Lib.hid (ho6.low (b := w.heap.size) (by rw [asz]; omega)); have hz6 : w.heap.size + 1 < w6.heap.size := HR6.out.lt; clear ho6 hb6) | ((with_reducible show wpList _ _ _ _ _ _); refine wpList_store_cb rfl 31 (.tmp 2) (.tmp 28) rfl (w.heap.size + 1) [.slice A6 n c6, .int .i64 x] rfl rfl 31 [.slice none 0 0, .int .i64 0] 2 HR6.out sizeS rfl rfl (one_s _ _ _ _) ?_; intro w9 hc9 hg9 hz9))
      refine bodyPost_ret (res_cell Try.results48 rfl rfl hc9 Try.underlying31 sizeS rfl) rfl ⟨?_, below_grown HB6.out hg9 (by omega) (by omega)⟩
      unfold widE
      rw [if_pos (by exact HO.out)]
      rw [if_pos (by rw [HG.out]; exact HY.out)]
      simp only [HG.out]
      exact ⟨A6, n, c6, rfl, by rw [HN.out]; simp [putS, putF], HO6.out.kept hg9 (.inr (HO6.out.ne HR6.out (by decide)).symm)⟩
    · have y1 : (g.ty != 2) = true := by simpa using hy
      have HY := Lib.hid hy
      clear hy
      go_enter Try.func48, Try.ntmps48
      go_wp2_with (first | (go_at_call 21; refine (Field_any _ n c x l id _ HN.out (HS.out.up (al2 w _ _)) hl2).mono ?_; rintro e w5 ⟨rfl, hb5⟩; rw [HG.out, HO.out]; have HB5 := Lib.hid ((al2 w _ _).trans (hb5.mono (al2 w _ _).size)); have HR5 := Lib.hid ((CB.new1 w (.cells #[.slice A n c, .int .i64 x, .int .i64 kd, .int .i64 id, .int .i64 wi, .string nm, .string ot, .int .i64 ty, .int .i64 pa, .string sep] 64) 31 [.slice none 0 0, .int .i64 0]).up hb5); have HE5 := Lib.hid (((CB.new w 64 [.slice A n c, .int .i64 x, .int .i64 kd, .int .i64 id, .int .i64 wi, .string nm, .string ot, .int .i64 ty, .int .i64 pa, .string sep]).alloc (.cells #[.slice none 0 0, .int .i64 0] 31)).up hb5); have hz5 : w.heap.size + 1 < w5.heap.size := HR5.out.lt; have hy5 : w.heap.size < w5.heap.size := HE5.out.lt; have e5_0 := HE5.out.cell 0 rfl; have e5_1 := HE5.out.cell 1 rfl; have e5_2 := HE5.out.cell 2 rfl; have e5_3 := HE5.out.cell 3 rfl; have e5_4 := HE5.out.cell 4 rfl; have e5_5 := HE5.out.cell 5 rfl; have e5_6 := HE5.out.cell 6 rfl; have e5_7 := HE5.out.cell 7 rfl; have e5_8 := HE5.out.cell 8 rfl; have e5_9 := HE5.out.cell 9 rfl; clear hb5) | ((with_reducible show wpList _ _ _ _ _ _); refine wpList_store_cb rfl 31 (.tmp 2) (.tmp 23) rfl (w.heap.size + 1) [.slice none 0 0, .int .i64 0] rfl rfl 31 [.slice none 0 0, .int .i64 0] 2 (HR5.out.alloc _) sizeS rfl rfl (one_s _ _ _ _) ?_; intro w9 hc9 hg9 hz9))
      refine bodyPost_ret (res_cell Try.results48 rfl rfl hc9 Try.underlying31 sizeS rfl) rfl ⟨?_, below_grown (HB5.out.alloc (by omega) _) hg9 (by rw [asz]; omega) (by omega)⟩
      unfold widE
      rw [if_pos (by exact HO.out), if_neg (by rw [HG.out]; exact HY.out)]
      exact res_zero _ _ _
end Go.Proofs.Ytiafcdaephcfeaa
namespace Go.Proofs.Ytiafcdaephcfeaa
open Go.RowKit

set_option maxHeartbeats 1000000 in
set_option maxRecDepth 20000 in
theorem RField_any (A : Option Addr) (n c : Nat) (x : Int) (l : List Fd) (i : Int) (w : World) (hn : n = l.length) (hs : Fds w w.heap.size A l) (hl : n ≤ 9223372036854775807) :
    Calls Try.prog 23 #[.agg #[.slice A n c, .int .i64 x], .int .i64 i] w fun e w' => e = .returned (.tuple #[(fieldD l i).val, .bool (hasF l i)]) ∧ Below w.heap.size w w' := by
  have HN := Lib.hid hn
  have HS := Lib.hid hs
  clear hn hs
  go_enter Try.func23, Try.ntmps23
  go_wp2
  go_loopw [6] (fun j wr => ∃ k : Nat, k ≤ n ∧ j = .int .i64 k ∧ Hid (CB wr w.heap.size 31 [.slice A n c, .int .i64 x]) ∧ Hid (CB wr (w.heap.size + 1) 50 Fd.zero.cells) ∧ Hid (Below w.heap.size w wr) ∧ Hid (field (l.drop k) i = field l i)) (fun j _ => n - (intOf j).toNat)
  case atStart => exact ⟨0, by omega, rfl, (CB.new w _ _).alloc _, CB.new1 w _ 50 Fd.zero.cells, al2 _ _ _, rfl⟩
  case round =>
    obtain ⟨k, hk, rfl, hq, hcb, hbel, hgo⟩ := hrel
    have hsz : w.heap.size + 1 < wr.heap.size := hcb.out.lt
    have q0 := hq.out.cell 0 rfl
    by_cases hlt : k < n
    · have i1 : (k : Int) < (n : Int) := by omega
      obtain ⟨f, hf⟩ := getD_of (l := l) (k := k) (by rw [← HN.out]; exact hlt)
      obtain ⟨b, off, rfl, hb, c0, c1, c2, c3⟩ := (HS.out.below hbel.out).one hf
      have hd := Lib.hid (drop_cons hf)
      by_cases he : f.id = i
      · have e1 : (f.id == i) = true := by simpa using he
        have HE := Lib.hid he
        clear he hf
        go_wp2_with ((with_reducible show wpList _ _ _ _ _ _); refine wpList_store_cb rfl 50 (.tmp 4) (.tmp 26) rfl (w.heap.size + 1) f.cells rfl rfl 50 Fd.zero.cells 4 hcb.out sizeF rfl rfl (one_f f) ?_; intro w1 hc1 hg1 hz1)
        refine bodyPost_ret (res_cell Try.results23 rfl rfl hc1 Try.underlying50 sizeF rfl) rfl ⟨fld_some (fld_fin hd.out hgo.out HE.out), ?_⟩
        exact below_grown hbel.out hg1 (by omega) (by omega)
      · have e1 : (f.id == i) = false := by simpa using he
        have HE := Lib.hid he
        clear he hf
        go_wp2
        go_roundw
        case rel => exact ⟨k + 1, by omega, by go_num, hq.out, hcb.out, hbel.out, fld_go hd.out hgo.out HE.out⟩
        case measure => simp [intOf]; omega
    · have i1 : ¬ (k : Int) < (n : Int) := by omega
      go_wp2_with ((with_reducible show wpList _ _ _ _ _ _); refine wpList_store_cb rfl 50 (.tmp 4) (.tmp 27) rfl (w.heap.size + 1) Fd.zero.cells rfl rfl 50 Fd.zero.cells 4 hcb.out sizeF rfl rfl (one_f Fd.zero) ?_; intro w1 hc1 hg1 hz1)
      refine bodyPost_ret (res_cell Try.results23 rfl rfl hc1 Try.underlying50 sizeF rfl) rfl ⟨fld_none (fld_end (by rw [← HN.out]; omega) hgo.out), ?_⟩
      exact below_grown hbel.out hg1 (by omega) (by omega)

set_option maxHeartbeats 4000000 in
theorem RName_any (s : ByteArray) (w : World) (hs : s.size ≤ 9223372036854775807) : Calls Try.prog 64 #[.string s] w fun e w' => e = .returned (.bool (namB s)) ∧ w' = w := by
  have hz : Hid (s.data.toList.all okC = false → namB s = false) := by intro h; unfold namB; rw [h, Bool.and_false]
  go_enter Try.func64, Try.ntmps64
  go_wp2
  go_loop [3] (fun i => ∃ k : Nat, k ≤ s.size ∧ i = .int .i64 k ∧ Hid ((s.data.toList.drop k).all okC = s.data.toList.all okC)) (fun i => s.size - (intOf i).toNat)
  case atStart => exact ⟨0, Nat.zero_le _, rfl, rfl⟩
  case round =>
    obtain ⟨k, hk, rfl, hgo⟩ := hrel
    by_cases hlt : k < s.size
    · have j1 : (k : Int) < (s.size : Int) := by omega
      have hd := Lib.hid (nam_drop hlt)
      have hx := s[k].toNat_lt
      rcases c_cases s[k] with ⟨hc, hcs⟩ | ⟨hc, hcs⟩
      · have HC := Lib.hid hc
        clear hc
        rcases hcs with ⟨a, b⟩ | ⟨a, b⟩ | a
        all_goals
          go_wp2
          all_goals (first | (exfalso; omega) | skip)
          all_goals
            go_round
            case rel => exact ⟨k + 1, by omega, by go_num, all_step hd.out hgo.out HC.out⟩
            case measure => simp [intOf]; omega
      · have HC := Lib.hid hc
        clear hc
        rcases hcs with a | ⟨a, b⟩ | a | a
        all_goals
          have e95 : ((s[k].toNat : Int) == 95) = false := by rw [beq_eq_false_iff_ne]; omega
          go_wp2
          all_goals (first | (exfalso; omega) | skip)
          all_goals
            go_ret
            refine ⟨?_, rfl⟩
            rw [hz.out (all_stop hd.out hgo.out HC.out)]
            rfl
    · have j1 : ¬ (k : Int) < (s.size : Int) := by omega
      have HA := Lib.hid (show s.data.toList.all okC = true by rw [← hgo.out, List.drop_of_length_le (by simpa using by omega)]; rfl)
      by_cases h1 : 1 ≤ s.size
      · by_cases h2 : s.size ≤ 32
        · have i1 : (1 : Int) ≤ (s.size : Int) := by omega
          have i2 : (s.size : Int) ≤ 32 := by omega
          go_wp2
          go_ret
          refine ⟨?_, rfl⟩
          unfold namB
          rw [HA.out, decide_eq_true ⟨h1, h2⟩]; rfl
        · have i1 : (1 : Int) ≤ (s.size : Int) := by omega
          have i2 : ¬ (s.size : Int) ≤ 32 := by omega
          go_wp2
          go_ret
          refine ⟨?_, rfl⟩
          unfold namB
          rw [decide_eq_false (fun h => h2 h.2)]; rfl
      · have i1 : ¬ (1 : Int) ≤ (s.size : Int) := by omega
        go_wp2
        go_ret
        refine ⟨?_, rfl⟩
        unfold namB
        rw [decide_eq_false (fun h => h1 h.1)]; rfl
end Go.Proofs.Ytiafcdaephcfeaa
namespace Go.Proofs.Ytiafcdaephcfeaa
open Go.RowKit

/-- the number 0, or a group's -/
def grpB (l : List Fd) (i : Int) : Bool := decide (i = 0) || (hasF l i && decide ((fieldD l i).ty = 6))
/-- how deep a field lies; 9 where it has no depth -/
def depG (l : List Fd) : Nat → Int → Int → Int
  | 0, _, n => n
  | m + 1, i, n => if i = 0 then n else if hasF l i then depG l m (fieldD l i).pa (n + 1) else 9
def depL (l : List Fd) (i : Int) : Int := depG l 9 i 0
def insG (l : List Fd) (g : Int) : Nat → Int → Bool
  | 0, _ => false
  | m + 1, i => if i = 0 then false else if i = g then true else insG l g m (fieldD l i).pa
def insB (l : List Fd) (i g : Int) : Bool := insG l g 9 i

set_option maxHeartbeats 1000000 in
set_option maxRecDepth 20000 in
theorem Rgroup_any (A : Option Addr) (n c : Nat) (x : Int) (l : List Fd) (i : Int) (w : World) (hn : n = l.length) (hs : Fds w w.heap.size A l) (hl : n ≤ 9223372036854775807) :
    Calls Try.prog 41 #[.agg #[.slice A n c, .int .i64 x], .int .i64 i] w fun e w' => e = .returned (.bool (grpB l i)) ∧ Below w.heap.size w w' := by
  have HN := Lib.hid hn
  have HS := Lib.hid hs
  clear hn hs
  obtain ⟨z, hz⟩ : ∃ z, grpB l i = z := ⟨_, rfl⟩
  rw [hz]
  unfold grpB at hz
  obtain ⟨f, hf⟩ : ∃ f, fieldD l i = f := ⟨_, rfl⟩
  obtain ⟨b, hb⟩ : ∃ b, hasF l i = b := ⟨_, rfl⟩
  rw [hf, hb] at hz
  have HF := Lib.hid hf
  have HB := Lib.hid hb
  clear hf hb
  by_cases h0 : i = 0
  · obtain rfl : z = true := by rw [← hz]; simp [h0]
    have e0 : (i == 0) = true := by simpa using h0
    have H0 := Lib.hid h0
    clear hz h0
    go_enter Try.func41, Try.ntmps41
    go_wp2_with (go_at_call 23; refine (RField_any _ n c x l i _ HN.out (HS.out.up (al1 _ _)) hl).mono ?_; rintro e w5 ⟨rfl, hb5⟩; rw [HF.out, HB.out]; have HB5 := Lib.hid ((al1 w _).trans (hb5.mono (al1 w _).size)); clear hb5)
    go_ret
    exact ⟨rfl, HB5.out.alloc HB5.out.size _⟩
  · have e0 : (i == 0) = false := by simpa using h0
    cases b with
    | false =>
      obtain rfl : z = false := by rw [← hz]; simp [h0]
      have H0 := Lib.hid h0
      clear hz h0
      go_enter Try.func41, Try.ntmps41
      go_wp2_with (go_at_call 23; refine (RField_any _ n c x l i _ HN.out (HS.out.up (al1 _ _)) hl).mono ?_; rintro e w5 ⟨rfl, hb5⟩; rw [HF.out, HB.out]; have HB5 := Lib.hid ((al1 w _).trans (hb5.mono (al1 w _).size)); clear hb5)
      go_ret
      exact ⟨rfl, HB5.out.alloc HB5.out.size _⟩
    | true =>
      by_cases h6 : f.ty = 6
      · obtain rfl : z = true := by rw [← hz]; simp [h0, h6]
        have e6 : (f.ty == 6) = true := by simpa using h6
        have H0 := Lib.hid h0
        clear hz h0 h6
        go_enter Try.func41, Try.ntmps41
        go_wp2_with (go_at_call 23; refine (RField_any _ n c x l i _ HN.out (HS.out.up (al1 _ _)) hl).mono ?_; rintro e w5 ⟨rfl, hb5⟩; rw [HF.out, HB.out]; have HB5 := Lib.hid ((al1 w _).trans (hb5.mono (al1 w _).size)); clear hb5)
        go_ret
        exact ⟨rfl, HB5.out.alloc HB5.out.size _⟩
      · obtain rfl : z = false := by rw [← hz]; simp [h0, h6]
        have e6 : (f.ty == 6) = false := by simpa using h6
        have H0 := Lib.hid h0
        clear hz h0 h6
        go_enter Try.func41, Try.ntmps41
        go_wp2_with (go_at_call 23; refine (RField_any _ n c x l i _ HN.out (HS.out.up (al1 _ _)) hl).mono ?_; rintro e w5 ⟨rfl, hb5⟩; rw [HF.out, HB.out]; have HB5 := Lib.hid ((al1 w _).trans (hb5.mono (al1 w _).size)); clear hb5)
        go_ret
        exact ⟨rfl, HB5.out.alloc HB5.out.size _⟩

theorem dep_stop {l : List Fd} {m : Nat} {i n d : Int} (h : depG l m i n = d) (h0 : i = 0) : d = n := by
  subst h0
  cases m <;> simpa [depG] using h.symm
theorem dep_no {l : List Fd} {m : Nat} {i n d : Int} (h : depG l (m + 1) i n = d) (h0 : ¬ i = 0) (hb : hasF l i = false) : d = 9 := by
  rw [← h, depG, if_neg h0, hb]
  rfl
theorem dep_yes {l : List Fd} {m : Nat} {i n d : Int} (h : depG l (m + 1) i n = d) (h0 : ¬ i = 0) (hb : hasF l i = true) : depG l m (fieldD l i).pa (n + 1) = d := by
  rw [← h, depG, if_neg h0, if_pos hb]

set_option maxHeartbeats 1000000 in
set_option maxRecDepth 20000 in
theorem Rdepth_any (A : Option Addr) (n c : Nat) (x : Int) (l : List Fd) (i : Int) (w : World) (hn : n = l.length) (hs : Fds w w.heap.size A l) (hl : n ≤ 9223372036854775807) :
    Calls Try.prog 58 #[.agg #[.slice A n c, .int .i64 x], .int .i64 i] w fun e w' => e = .returned (.int .i64 (depL l i)) ∧ Below w.heap.size w w' := by
  have HN := Lib.hid hn
  have HS := Lib.hid hs
  clear hn hs
  go_enter Try.func58, Try.ntmps58
  go_wp2
  go_loopw [1, 5] (fun v j wr => ∃ (k : Nat) (m : Int), k ≤ 9 ∧ v = .int .i64 m ∧ j = .int .i64 k ∧ Hid (CB wr w.heap.size 31 [.slice A n c, .int .i64 x]) ∧ Hid (Below w.heap.size w wr) ∧ Hid (depG l (9 - k) m k = depL l i)) (fun _ j _ => 9 - (intOf j).toNat)
  case atStart => exact ⟨0, i, by omega, rfl, rfl, CB.new _ _ _, al1 _ _, rfl⟩
  case round =>
    obtain ⟨k, m, hk, rfl, rfl, hq, hbel, hgo⟩ := hrel
    have hz := hq.out.lt
    by_cases h0 : m = 0
    · have HE := Lib.hid (dep_stop hgo.out h0)
      have e0 : (m != 0) = false := by simpa using h0
      have H0 := Lib.hid h0
      clear h0
      go_wp2
      go_ret
      exact ⟨by rw [HE.out]; rfl, hbel.out⟩
    · have e0 : (m != 0) = true := by simpa using h0
      by_cases hlt : k < 9
      · have i1 : (k : Int) ≤ 8 := by omega
        obtain ⟨r, hr⟩ : ∃ r, 9 - k = r + 1 := ⟨8 - k, by omega⟩
        have q0 := hq.out.cell 0 rfl
        have q1 := hq.out.cell 1 rfl
        have hgo' := hgo.out
        rw [hr] at hgo'
        obtain ⟨f, hf⟩ : ∃ f, fieldD l m = f := ⟨_, rfl⟩
        have HF := Lib.hid hf
        have HS2 := Lib.hid ((HS.out.below hbel.out).more (show w.heap.size ≤ wr.heap.size by omega))
        cases hb : hasF l m with
        | false =>
          have HB := Lib.hid hb
          have HE := Lib.hid (dep_no hgo' h0 hb)
          have H0 := Lib.hid h0
          clear h0 hb hf hgo' hr
          go_wp2_with (go_at_call 23; refine (RField_any _ n c x l m _ HN.out HS2.out hl).mono ?_; rintro e w5 ⟨rfl, hb5⟩; rw [HF.out, HB.out]; have HB5 := Lib.hid (below_step hbel.out (by omega) hb5); have hz5 := hb5.size; clear hb5)
          go_ret
          exact ⟨by rw [HE.out]; rfl, HB5.out.alloc (by omega) _⟩
        | true =>
          have HB := Lib.hid hb
          have HE := Lib.hid (dep_yes hgo' h0 hb)
          have hr2 : Hid (r = 9 - (k + 1)) := by show _ = _; omega
          have H0 := Lib.hid h0
          clear h0 hb hf hgo' hr
          go_wp2_with (go_at_call 23; refine (RField_any _ n c x l m _ HN.out HS2.out hl).mono ?_; rintro e w5 ⟨rfl, hb5⟩; rw [HF.out, HB.out]; have HB5 := Lib.hid (below_step hbel.out (by omega) hb5); have HQ5 := Lib.hid (hq.out.up hb5); have hz5 := hb5.size; clear hb5)
          go_roundw
          case rel => exact ⟨k + 1, f.pa, by omega, rfl, by go_num, HQ5.out.alloc _, HB5.out.alloc (by omega) _, by show _ = _; rw [← hr2.out, ← HF.out]; have h := HE.out; push_cast; exact h⟩
          case measure => simp [intOf]; omega
      · have i1 : ¬ (k : Int) ≤ 8 := by omega
        have HE : Hid (depL l i = k) := by
          show _ = _
          rw [← hgo.out, show 9 - k = 0 by omega, depG]
        have H0 := Lib.hid h0
        clear h0
        go_wp2
        go_ret
        exact ⟨by rw [HE.out]; rfl, hbel.out⟩

theorem ins_stop {l : List Fd} {m : Nat} {i g : Int} {d : Bool} (h : insG l g m i = d) (h0 : i = 0) : d = false := by
  subst h0
  cases m <;> simpa [insG] using h.symm
theorem ins_yes {l : List Fd} {m : Nat} {i g : Int} {d : Bool} (h : insG l g (m + 1) i = d) (h0 : ¬ i = 0) (hb : i = g) : d = true := by
  rw [← h, insG, if_neg h0, if_pos hb]
theorem ins_go {l : List Fd} {m : Nat} {i g : Int} {d : Bool} (h : insG l g (m + 1) i = d) (h0 : ¬ i = 0) (hb : ¬ i = g) : insG l g m (fieldD l i).pa = d := by
  rw [← h, insG, if_neg h0, if_neg hb]

set_option maxHeartbeats 1000000 in
set_option maxRecDepth 20000 in
theorem Rinside_any (A : Option Addr) (n c : Nat) (x : Int) (l : List Fd) (i g : Int) (w : World) (hn : n = l.length) (hs : Fds w w.heap.size A l) (hl : n ≤ 9223372036854775807) :
    Calls Try.prog 71 #[.agg #[.slice A n c, .int .i64 x], .int .i64 i, .int .i64 g] w fun e w' => e = .returned (.bool (insB l i g)) ∧ Below w.heap.size w w' := by
  have HN := Lib.hid hn
  have HS := Lib.hid hs
  clear hn hs
  go_enter Try.func71, Try.ntmps71
  go_wp2
  go_loopw [1, 7] (fun v j wr => ∃ (k : Nat) (m : Int), k ≤ 9 ∧ v = .int .i64 m ∧ j = .int .i64 k ∧ Hid (CB wr w.heap.size 31 [.slice A n c, .int .i64 x]) ∧ Hid (Below w.heap.size w wr) ∧ Hid (insG l g (9 - k) m = insB l i g)) (fun _ j _ => 9 - (intOf j).toNat)
  case atStart => exact ⟨0, i, by omega, rfl, rfl, CB.new _ _ _, al1 _ _, rfl⟩
  case round =>
    obtain ⟨k, m, hk, rfl, rfl, hq, hbel, hgo⟩ := hrel
    have hz := hq.out.lt
    by_cases h0 : m = 0
    · have HE := Lib.hid (ins_stop hgo.out h0)
      have e0 : (m != 0) = false := by simpa using h0
      have H0 := Lib.hid h0
      clear h0
      go_wp2
      go_ret
      exact ⟨by rw [HE.out]; rfl, hbel.out⟩
    · have e0 : (m != 0) = true := by simpa using h0
      by_cases hlt : k < 9
      · have i1 : (k : Int) ≤ 8 := by omega
        obtain ⟨r, hr⟩ : ∃ r, 9 - k = r + 1 := ⟨8 - k, by omega⟩
        have q0 := hq.out.cell 0 rfl
        have q1 := hq.out.cell 1 rfl
        have hgo' := hgo.out
        rw [hr] at hgo'
        obtain ⟨f, hf⟩ : ∃ f, fieldD l m = f := ⟨_, rfl⟩
        have HF := Lib.hid hf
        have HS2 := Lib.hid ((HS.out.below hbel.out).more (show w.heap.size ≤ wr.heap.size by omega))
        by_cases hb : m = g
        · have eg : (m == g) = true := by simpa using hb
          have HB := Lib.hid hb
          have HE := Lib.hid (ins_yes hgo' h0 hb)
          have H0 := Lib.hid h0
          clear h0 hb hf hgo' hr
          go_wp2
          go_ret
          exact ⟨by rw [HE.out]; rfl, hbel.out⟩
        · have eg : (m == g) = false := by simpa using hb
          have HB := Lib.hid hb
          have HE := Lib.hid (ins_go hgo' h0 hb)
          have hr2 : Hid (r = 9 - (k + 1)) := by show _ = _; omega
          have H0 := Lib.hid h0
          clear h0 hb hf hgo' hr
          go_wp2_with (go_at_call 23; refine (RField_any _ n c x l m _ HN.out HS2.out hl).mono ?_; rintro e w5 ⟨rfl, hb5⟩; rw [HF.out]; have HB5 := Lib.hid (below_step hbel.out (by omega) hb5); have HQ5 := Lib.hid (hq.out.up hb5); have hz5 := hb5.size; clear hb5)
          go_roundw
          case rel => exact ⟨k + 1, f.pa, by omega, rfl, by go_num, HQ5.out.alloc _, HB5.out.alloc (by omega) _, by show _ = _; rw [← hr2.out, ← HF.out]; exact HE.out⟩
          case measure => simp [intOf]; omega
      · have i1 : ¬ (k : Int) ≤ 8 := by omega
        have HE : Hid (insB l i g = false) := by
          show _ = _
          rw [← hgo.out, show 9 - k = 0 by omega, insG]
        have H0 := Lib.hid h0
        clear h0
        go_wp2
        go_ret
        exact ⟨by rw [HE.out]; rfl, hbel.out⟩
end Go.Proofs.Ytiafcdaephcfeaa
namespace Go.Proofs.Ytiafcdaephcfeaa

section
variable {P : Program} {md : Region.Mode} {l : List Oper} {Q : Exit → Act → World → Prop} {S : World → Prop} {fuel : Nat} {listed : Array Bool} {a : Act} {w : World}
theorem hand_take {i : Nat} {oi : Oper} {v : Value} (hi : l[i]? = some oi)
    (hs : Region.noSelect l.toArray = true) (hf : Region.free md l.toArray listed i = true) (hr : (Region.ready md l.toArray listed).contains i = true)
    (hQ : ∀ c a w, Q (.panic c) (a.put oi.dst v) w → Q (.panic c) a w) (hy : YieldsIf P l.toArray S oi v a) (hS : S w)
    (h : wpAnyH P md l.toArray Q S fuel (listed.setIfInBounds i true) (a.put oi.dst v) w) : wpAnyH P md l.toArray Q S (fuel + 1) listed a w :=
  wpAnyH_take (by simpa using hi) hs hf hr hQ hy hS h
theorem hand_cons {i : Nat} {o : Oper} {rs : List Nat} (ho : l[i]? = some o)
    (h : ∀ K' : Act → World → Prop, Shut (∀ a w, S w → (S w → wpAnyH P md l.toArray Q S fuel (listed.setIfInBounds i true) a w) → K' a w) → if Region.wanted o (yielded l.toArray a.tmps) = true then Oper.wp P o a w K' Q else K' (a.put o.dst undef) w)
    (hs : AllReadyH P md l.toArray Q S fuel listed a w rs) : AllReadyH P md l.toArray Q S fuel listed a w (i :: rs) :=
  AllReadyH.cons (by simpa using ho) h hs
end
end Go.Proofs.Ytiafcdaephcfeaa
namespace Go.Proofs.Ytiafcdaephcfeaa
open Go.RowKit

def takH (g : Fd) (a b : Int) (f : Fd) : Bool := ((f.pa == g.pa) && (f.nm.toList == g.nm.toList) && (f.id != a) && (f.id != b))
def takB (l : List Fd) (g : Fd) (a b : Int) : Bool := l.any (takH g a b) || !namB g.nm
theorem tak_cases (p q r s : Bool) : (p = false ∧ Hid ((p && q && r && s) = false)) ∨ (p = true ∧ q = false ∧ Hid ((p && q && r && s) = false)) ∨ (p = true ∧ q = true ∧ r = false ∧ Hid ((p && q && r && s) = false)) ∨ (p = true ∧ q = true ∧ r = true ∧ s = false ∧ Hid ((p && q && r && s) = false)) ∨ (p = true ∧ q = true ∧ r = true ∧ s = true ∧ Hid ((p && q && r && s) = true)) := by
  unfold Hid
  cases p <;> cases q <;> cases r <;> cases s <;> simp
theorem anyt_step {p : Fd → Bool} {r : List Fd} {k : Nat} {f : Fd} (hd : r.drop k = f :: r.drop (k + 1)) (h : (r.drop k).any p = r.any p) (hc : p f = false) : (r.drop (k + 1)).any p = r.any p := by
  rw [← h, hd, List.any_cons, hc, Bool.false_or]
theorem anyt_stop {p : Fd → Bool} {r : List Fd} {k : Nat} {f : Fd} (hd : r.drop k = f :: r.drop (k + 1)) (h : (r.drop k).any p = r.any p) (hc : p f = true) : r.any p = true := by
  rw [← h, hd, List.any_cons, hc, Bool.true_or]

set_option maxHeartbeats 2000000 in
set_option maxRecDepth 20000 in
theorem Rtaken_any (A : Option Addr) (n c : Nat) (x : Int) (l : List Fd) (g : Fd) (a b : Int) (w : World) (hn : n = l.length) (hs : Fds w w.heap.size A l) (hl : n ≤ 9223372036854775807) (hg : g.nm.size ≤ 9223372036854775807) :
    Calls Try.prog 59 #[.agg #[.slice A n c, .int .i64 x], .agg #[.int .i64 g.id, .string g.nm, .int .i64 g.ty, .int .i64 g.pa], .agg #[.int .i64 a, .int .i64 b]] w fun e w' => e = .returned (.bool (takB l g a b)) ∧ Below w.heap.size w w' := by
  have HN := Lib.hid hn
  have HS := Lib.hid hs
  clear hn hs
  go_enter Try.func59, Try.ntmps59
  go_wp2
  go_loopw [7] (fun j wr => ∃ k : Nat, k ≤ n ∧ j = .int .i64 k ∧ Hid (CB wr w.heap.size 31 [.slice A n c, .int .i64 x]) ∧ Hid (CB wr (w.heap.size + 1) 50 [.int .i64 g.id, .string g.nm, .int .i64 g.ty, .int .i64 g.pa]) ∧ Hid (CB wr (w.heap.size + 1 + 1) 92 [.int .i64 a, .int .i64 b]) ∧ Hid (Below w.heap.size w wr) ∧ Hid ((l.drop k).any (takH g a b) = l.any (takH g a b))) (fun j _ => n - (intOf j).toNat)
  case atStart => exact ⟨0, by omega, rfl, ((CB.new w _ _).alloc _).alloc _, (CB.new1 w _ _ _).alloc _, CB.new2 w _ _ _ _, al3 _ _ _ _, rfl⟩
  case round =>
    obtain ⟨k, hk, rfl, hq, hf, ha, hbel, hgo⟩ := hrel
    have hz := ha.out.lt
    have hz1 := hf.out.lt
    have hz0 := hq.out.lt
    have q0 := hq.out.cell 0 rfl
    have f1 := hf.out.cell 1 rfl
    have f3 := hf.out.cell 3 rfl
    have a0 := ha.out.cell 0 rfl
    have a1 := ha.out.cell 1 rfl
    by_cases hlt : k < n
    · have i1 : (k : Int) < (n : Int) := by omega
      obtain ⟨f, hff⟩ := getD_of (l := l) (k := k) (by rw [← HN.out]; exact hlt)
      obtain ⟨bl, off, rfl, hb, c0, c1, c2, c3⟩ := (HS.out.below hbel.out).one hff
      have hd := Lib.hid (drop_cons hff)
      clear hff
      rcases tak_cases (f.pa == g.pa) (f.nm.toList == g.nm.toList) (f.id != a) (f.id != b) with ⟨p1, HE⟩ | ⟨p1, p2, HE⟩ | ⟨p1, p2, p3, HE⟩ | ⟨p1, p2, p3, p4, HE⟩ | ⟨p1, p2, p3, p4, HE⟩
      · go_wp2
        go_roundw
        case rel => exact ⟨k + 1, by omega, by go_num, hq.out.alloc _, hf.out.alloc _, ha.out.alloc _, hbel.out.alloc (by omega) _, anyt_step hd.out hgo.out HE.out⟩
        case measure => simp [intOf]; omega
      · go_wp2
        go_roundw
        case rel => exact ⟨k + 1, by omega, by go_num, hq.out.alloc _, hf.out.alloc _, ha.out.alloc _, hbel.out.alloc (by omega) _, anyt_step hd.out hgo.out HE.out⟩
        case measure => simp [intOf]; omega
      · go_wp2
        go_roundw
        case rel => exact ⟨k + 1, by omega, by go_num, hq.out.alloc _, hf.out.alloc _, ha.out.alloc _, hbel.out.alloc (by omega) _, anyt_step hd.out hgo.out HE.out⟩
        case measure => simp [intOf]; omega
      · go_wp2
        go_roundw
        case rel => exact ⟨k + 1, by omega, by go_num, hq.out.alloc _, hf.out.alloc _, ha.out.alloc _, hbel.out.alloc (by omega) _, anyt_step hd.out hgo.out HE.out⟩
        case measure => simp [intOf]; omega
      · go_wp2
        go_ret
        refine ⟨?_, hbel.out.alloc (by omega) _⟩
        unfold takB
        rw [anyt_stop hd.out hgo.out HE.out]
        rfl
    · have i1 : ¬ (k : Int) < (n : Int) := by omega
      have HE := Lib.hid (show l.any (takH g a b) = false by rw [← hgo.out, List.drop_of_length_le (by rw [← HN.out]; omega)]; rfl)
      go_wp2_with (go_at_call 64; refine (RName_any _ _ hg).mono ?_; rintro e w' ⟨rfl, rfl⟩)
      go_ret
      refine ⟨?_, hbel.out⟩
      unfold takB
      rw [HE.out]
      rfl
end Go.Proofs.Ytiafcdaephcfeaa
