/-
  Memory: rows of cells that can be read, blocks of the call's own, whole rows loaded and stored. Plain theorems; no function of the dump.
-/
import Derived.WalkKit
import Derived.Laws.CopyOwn
import Derived.Lib.AppendStr
import Derived.Lib.Hide
import Derived.Deep.MidRow
import Derived.Deep.Draws
namespace Go.Proofs.Ytlndpclgljfloaa
open Go.RowKit

theorem grown_set (w : World) (g i : Nat) (u : Value) : w.grownBy (w.setCell ⟨g, i, none⟩ u) (some g) :=
  ⟨rfl, rfl, rfl, by simp [World.setCell], fun k _ hk => Below.heap_setCell w _ u k (fun e => hk (by rw [e]))⟩
theorem grown_step {a b c : World} {g : Option Nat} (h : a.grownBy b g) (k : b.grownBy c g) : a.grownBy c g :=
  ⟨k.os.trans h.os, k.tape.trans h.tape, k.output.trans h.output, Nat.le_trans h.size k.size, fun i hi hn => (k.block i (Nat.lt_of_lt_of_le hi h.size) hn).trans (h.block i hi hn)⟩
theorem al1 (w : World) (o : Obj) : Below w.heap.size w (w.alloc o) := (Below.refl _ _).alloc (Nat.le_refl _) o
theorem al2 (w : World) (a b : Obj) : Below w.heap.size w ((w.alloc a).alloc b) := (al1 w a).alloc (by simp) b
theorem al3 (w : World) (a b c : Obj) : Below w.heap.size w (((w.alloc a).alloc b).alloc c) := (al2 w a b).alloc (by simp; omega) c
theorem al4 (w : World) (a b c d : Obj) : Below w.heap.size w ((((w.alloc a).alloc b).alloc c).alloc d) := (al3 w a b c).alloc (by simp; omega) d
theorem asz (w : World) (o : Obj) : (w.alloc o).heap.size = w.heap.size + 1 := by simp
theorem below_drewN {B : Nat} {w w' : World} (h : Below B w w') (n : Nat) : Below B w (w'.drewN n) := ⟨h.os, h.tape, h.output, h.size, h.block⟩
theorem lt_al {w w1 : World} {o : Obj} {B : Nat} (h : Below B (w.alloc o) w1) : w.heap.size < w1.heap.size := by
  have := h.size
  rw [asz] at this
  omega
theorem lt_ald {w w1 : World} {o : Obj} {B : Nat} (h : Below B (w.alloc o).drew w1) : w.heap.size < w1.heap.size := by
  have : (w.alloc o).heap.size ≤ w1.heap.size := h.size
  rw [asz] at this
  omega
/-- One more call in a chain: what was there at the chain's beginning is as it was. -/
theorem below_step {B : Nat} {w W w1 : World} (h : Below B w W) (hB : B ≤ W.heap.size) (h1 : Below W.heap.size W w1) : Below B w w1 := h.trans (h1.mono hB)
theorem below_grown {w0 w w' : World} {base g : Nat} (h : Below base w0 w) (hg : w.grownBy w' (some g)) (hB : base ≤ w.heap.size) (hr : base ≤ g) : Below base w0 w' :=
  h.grown hg hB (fun k hk => by injection hk with hk; omega)
theorem bd (w : World) : Below w.heap.size w w.drew := (Below.refl _ _).drew
theorem bda (w : World) (o : Obj) : Below w.heap.size w (w.drew.alloc o) := (bd w).alloc (Nat.le_refl _) o
theorem bdad (w : World) (o : Obj) : Below w.heap.size w (w.drew.alloc o).drew := (bda w o).drew
theorem bad (w : World) (o : Obj) : Below w.heap.size w (w.alloc o).drew := (al1 w o).drew
theorem bcell {W w1 : World} (hb : Below W.heap.size W w1) : (∀ b o, b < W.heap.size → w1.cell? ⟨b, o, none⟩ = W.cell? ⟨b, o, none⟩) ∧ (∀ b o, b < W.heap.size → w1.frozen? ⟨b, o, none⟩ = W.frozen? ⟨b, o, none⟩) :=
  ⟨fun b o h => hb.cell (p := ⟨b, o, none⟩) h, fun b o h => hb.frozen (p := ⟨b, o, none⟩) h⟩

theorem setCell_cells {w : World} {b o : Nat} {t : TypeId} {cs : Array Value} (v : Value) (h : w.heap[b]? = some (.cells cs t (0, 0))) : (w.setCell ⟨b, o, none⟩ v).heap[b]? = some (.cells (cs.setIfInBounds o v) t (0, 0)) := by
  simp [World.setCell, Array.getElem?_modify, h]
theorem setCells_some {b : Nat} {t : TypeId} : ∀ (vs : List Value) (o : Nat) (w : World) (cs : Array Value), w.heap[b]? = some (.cells cs t (0, 0)) → ∃ C, (w.setCells b o vs).heap[b]? = some (.cells C t (0, 0)) ∧ C.size = cs.size
  | [], _, _, cs, h => ⟨cs, h, rfl⟩
  | v :: r, o, w, cs, h => by
    obtain ⟨C, h1, h2⟩ := setCells_some r (o + 1) _ _ (setCell_cells (o := o) v h)
    exact ⟨C, h1, by rw [h2]; simp⟩
theorem setCells_block {w : World} {b : Nat} {t : TypeId} {cs : Array Value} {vs : List Value} (h : w.heap[b]? = some (.cells cs t (0, 0))) (hl : cs.size = vs.length) :
    (w.setCells b 0 vs).heap[b]? = some (.cells vs.toArray t (0, 0)) := by
  obtain ⟨C, h1, h2⟩ := setCells_some vs 0 w cs h
  rw [h1]
  have hs : ∀ j, j < vs.length → (w.cell? ⟨b, 0 + j, none⟩).isSome = true := fun j hj => by
    rw [Nat.zero_add, cell_of_row w b j cs t (0, 0) h]
    simp; omega
  have e : C = vs.toArray := by
    apply Array.ext
    · simp; omega
    · intro i hi hi2
      have hi3 : i < vs.length := by simpa using hi2
      have h3 := World.cell?_setCells_in b vs 0 w hs i hi3
      rw [Nat.zero_add, cell_of_row _ b i C t (0, 0) h1, Array.getElem?_eq_getElem hi] at h3
      simpa using h3
  rw [e]
theorem setCells_grown (b : Nat) : ∀ (vs : List Value) (o : Nat) (w : World), w.grownBy (w.setCells b o vs) (some b)
  | [], _, _ => World.grownBy.refl _ _
  | v :: r, o, w => grown_step (grown_set w b o v) (setCells_grown b r (o + 1) _)
theorem setCells_size (b : Nat) : ∀ (vs : List Value) (o : Nat) (w : World), (w.setCells b o vs).heap.size = w.heap.size
  | [], _, _ => rfl
  | v :: r, o, w => by rw [World.setCells, setCells_size b r]; simp [World.setCell]

/-- The call's own block of cells, all of them known; not frozen. -/
def CB (w : World) (g : Nat) (t : TypeId) (l : List Value) : Prop := w.heap[g]? = some (.cells l.toArray t (0, 0))
section
variable {w w' : World} {g : Nat} {t : TypeId} {l : List Value}
theorem CB.lt (h : CB w g t l) : g < w.heap.size := (Array.getElem?_eq_some_iff.1 h).1
theorem CB.cell (h : CB w g t l) (i : Nat) {v : Value} (hi : l[i]? = some v) : w.cell? ⟨g, i, none⟩ = some v := by
  rw [cell_of_row w g i _ _ (0, 0) h]
  simpa using hi
theorem CB.frozen (h : CB w g t l) (i : Nat) : w.frozen? ⟨g, i, none⟩ = false := by
  unfold CB at h
  simp [World.frozen?, h]
theorem CB.new (w : World) (t : TypeId) (l : List Value) : CB (w.alloc (.cells l.toArray t)) w.heap.size t l := heap_alloc_new w _
theorem CB.new1 (w : World) (o : Obj) (t : TypeId) (l : List Value) : CB ((w.alloc o).alloc (.cells l.toArray t)) (w.heap.size + 1) t l := by
  have := CB.new (w.alloc o) t l
  rwa [asz] at this
theorem CB.new2 (w : World) (o o' : Obj) (t : TypeId) (l : List Value) : CB (((w.alloc o).alloc o').alloc (.cells l.toArray t)) (w.heap.size + 1 + 1) t l := by
  have := CB.new ((w.alloc o).alloc o') t l
  rwa [asz, asz] at this
theorem CB.alloc (h : CB w g t l) (o : Obj) : CB (w.alloc o) g t l := (Below.heap_alloc w o g h.lt).trans h
theorem CB.drewN (h : CB w g t l) (n : Nat) : CB (w.drewN n) g t l := h
theorem CB.dr (h : CB w g t l) : CB w.drew g t l := h
theorem CB.set_ (h : CB w g t l) (i : Nat) (v : Value) : CB (w.setCell ⟨g, i, none⟩ v) g t (l.set i v) := by
  unfold CB at h ⊢
  simp [World.setCell, Array.getElem?_modify, h]
theorem CB.below {B : Nat} (h : CB w g t l) (hb : Below B w w') (hg : g < B) : CB w' g t l := (hb.block g hg).trans h
theorem CB.up (h : CB w g t l) (hb : Below w.heap.size w w') : CB w' g t l := h.below hb h.lt
theorem CB.grown {row : Option Nat} (h : CB w g t l) (hb : w.grownBy w' row) (hg : some g ≠ row) : CB w' g t l := (hb.block g h.lt hg).trans h
end

section
variable {P : Program} {w : World} {ops : Array Oper} {rest : List Oper} {o : Oper} {a : Act} {Q : Exit → Act → World → Prop}
/-- A whole row out of a block. -/
theorem wpList_load_cb (hgd : o.guard = none) (ty : TypeId) (x : Operand) (ho : o.op = .load ty x)
    (g : Nat) (hx : a.eval x = .pointer (some ⟨g, 0, none⟩)) (t : TypeId) (l : List Value) (d : TypeDesc) (hg : CB w g t l)
    (hu : P.underlying ty = some d) (hd : (match d with | .struct _ | .array _ _ => true | _ => false) = true) (n : Nat) (hi : (P.info? ty).map (·.size) = some n) (hl : l.length = n)
    (h : wpList P ops Q rest (a.put o.dst (.agg l.toArray)) w) : wpList P ops Q (o :: rest) a w :=
  wpList_load_row hgd ty x ho g hx t l.toArray (0, 0) _ hg hu hd (by rw [hi]; simp [hl]) h
/-- A whole row into a block. -/
theorem wpList_store_cb (hgd : o.guard = none) (ty : TypeId) (x y : Operand) (ho : o.op = .store ty x y)
    (g : Nat) (l : List Value) (hx : a.eval x = .pointer (some ⟨g, 0, none⟩)) (hy : a.eval y = .agg l.toArray) (t : TypeId) (old : List Value) (n : Nat) (hg : CB w g t old)
    (hi : (P.info? ty).map (·.size) = some n) (hn : old.length = n) (hl : l.length = n) (h1 : ∀ u ∈ l, u.oneCell' = true)
    (h : ∀ w', CB w' g t l → w.grownBy w' (some g) → w'.heap.size = w.heap.size → wpList P ops Q rest (a.put o.dst undef) w') : wpList P ops Q (o :: rest) a w := by
  refine wpList_store_mid hgd ty x y ho g 0 l.toArray hx hy ?_ (by rw [hi]; simp [hl]) (all_oneCell_toArray h1) ?_
  · intro j hj
    rw [Nat.zero_add, cell_of_row w g j _ t (0, 0) hg, frozen_of_row w g j _ t hg]
    simp at hj ⊢; omega
  · exact h _ (setCells_block hg (by simp [hl, hn])) (setCells_grown g _ _ _) (setCells_size g _ _ _)
end

/-- The cells of one element: vs at offset o of block b. -/
def At (w : World) (b o : Nat) (vs : List Value) : Prop := ∀ j v, vs[j]? = some v → w.cell? ⟨b, o + j, none⟩ = some v
/-- The elements L, of k cells each, can be read from address A on, in a block below B. -/
def RowAt (k : Nat) (w : World) (B : Nat) (A : Option Addr) (L : List (List Value)) : Prop :=
  0 < L.length → ∃ b off, A = some ⟨b, off, none⟩ ∧ b < B ∧ ∀ i vs, L[i]? = some vs → At w b (off + i * k) vs
section
variable {k : Nat} {w w' : World} {B B' : Nat} {A : Option Addr} {L : List (List Value)} {b o : Nat} {vs : List Value}
theorem At.keep (h : At w b o vs) (hk : ∀ j, w'.cell? ⟨b, o + j, none⟩ = w.cell? ⟨b, o + j, none⟩) : At w' b o vs := fun j v hj => (hk j).trans (h j v hj)
theorem At.below (h : At w b o vs) (hb : Below B w w') (hlt : b < B) : At w' b o vs := h.keep fun j => hb.cell (p := ⟨b, o + j, none⟩) hlt
theorem RowAt.nil : RowAt k w B A [] := fun h => absurd h (by simp)
theorem RowAt.below (h : RowAt k w B A L) (hb : Below B w w') : RowAt k w' B A L := fun hl => by
  obtain ⟨b, off, e, hlt, hc⟩ := h hl
  exact ⟨b, off, e, hlt, fun i vs hi => (hc i vs hi).below hb hlt⟩
theorem RowAt.more (h : RowAt k w B A L) (hB : B ≤ B') : RowAt k w B' A L := fun hl => by
  obtain ⟨b, off, e, hlt, hc⟩ := h hl
  exact ⟨b, off, e, by omega, hc⟩
theorem RowAt.up (h : RowAt k w w.heap.size A L) (hb : Below w.heap.size w w') : RowAt k w' w'.heap.size A L := (h.below hb).more hb.size
theorem RowAt.grown {row : Option Nat} (h : RowAt k w B A L) (hb : w.grownBy w' row) (hB : B ≤ w.heap.size) (hr : ∀ g, row = some g → B ≤ g) : RowAt k w' B A L :=
  h.below ((Below.refl B w).grown hb hB hr)
theorem RowAt.take (h : RowAt k w B A L) (n : Nat) : RowAt k w B A (L.take n) := fun hl => by
  obtain ⟨b, off, e, hlt, hc⟩ := h (by simp only [List.length_take] at hl; omega)
  refine ⟨b, off, e, hlt, fun i s hi => hc i s ?_⟩
  rw [List.getElem?_take] at hi
  split at hi
  · exact hi
  · cases hi
theorem RowAt.one (h : RowAt k w B A L) {i : Nat} (hi : L[i]? = some vs) : ∃ b off, A = some ⟨b, off, none⟩ ∧ b < B ∧ At w b (off + i * k) vs := by
  obtain ⟨b, off, e, hlt, hc⟩ := h (by have := (List.getElem?_eq_some_iff.1 hi).1; omega)
  exact ⟨b, off, e, hlt, hc i vs hi⟩
end

/-- The value v is a slice over the call's own row of elements of type E, k cells each, that holds just L. -/
def Own (E : TypeId) (k : Nat) (w : World) (base : Nat) (v : Value) (L : List (List Value)) : Prop := w.ownsRow base E k v L.length L.flatten ∧ ∀ vs ∈ L, vs.length = k
theorem flat_get {k : Nat} : ∀ {L : List (List Value)}, (∀ vs ∈ L, vs.length = k) → ∀ {i : Nat} {vs : List Value}, L[i]? = some vs → ∀ {j : Nat} {v : Value}, vs[j]? = some v → L.flatten[i * k + j]? = some v
  | [], _, i, vs, hi, _, _, _ => by simp at hi
  | x :: r, h, 0, vs, hi, j, v, hj => by
    have e : x = vs := by simpa using hi
    subst e
    have := (List.getElem?_eq_some_iff.1 hj).1
    rw [Nat.zero_mul, Nat.zero_add, List.flatten_cons, List.getElem?_append_left this]
    exact hj
  | x :: r, h, i + 1, vs, hi, j, v, hj => by
    have hx : x.length = k := h x (by simp)
    rw [List.flatten_cons, List.getElem?_append_right (by rw [hx, Nat.add_mul]; omega), hx, show (i + 1) * k + j - k = i * k + j by rw [Nat.add_mul]; omega]
    exact flat_get (fun vs hv => h vs (by simp [hv])) (by simpa using hi) hj
theorem flat_len {k : Nat} : ∀ {L : List (List Value)}, (∀ vs ∈ L, vs.length = k) → L.flatten.length = L.length * k
  | [], _ => by simp
  | x :: r, h => by rw [List.flatten_cons, List.length_append, h x (by simp), flat_len (fun vs hv => h vs (by simp [hv])), List.length_cons, Nat.add_mul]; omega
section
variable {E : TypeId} {k : Nat} {w w' : World} {base : Nat} {v : Value} {L : List (List Value)}
theorem Own.nil (E : TypeId) (k : Nat) (w : World) (base : Nat) : Own E k w base (.slice none 0 0) [] := ⟨World.ownsRow_nil w base E k, fun _ h => by simp at h⟩
theorem Own.shape (h : Own E k w base v L) : (v = .slice none 0 0 ∧ L = []) ∨ ∃ g cap, v = .slice (some ⟨g, 0, none⟩) L.length cap ∧ base ≤ g ∧ g < w.heap.size ∧ L.length ≤ cap ∧ cap ≤ 9223372036854775807 := by
  have h2 := h.1.2
  rcases h2 with ⟨rfl, hl⟩ | ⟨g, cap, cur, rfl, hb, hg, hn, hm, _⟩
  · exact .inl ⟨rfl, List.eq_nil_of_length_eq_zero hl⟩
  · exact .inr ⟨g, cap, rfl, hb, (Array.getElem?_eq_some_iff.1 hg).1, hn, by simpa [maxLen] using hm⟩
theorem Own.slice (h : Own E k w base v L) : ∃ A c, v = .slice A L.length c ∧ L.length ≤ c ∧ c ≤ 9223372036854775807 := by
  rcases h.shape with ⟨rfl, rfl⟩ | ⟨g, cap, rfl, _, _, h3, h4⟩
  · exact ⟨_, _, rfl, Nat.le_refl _, by omega⟩
  · exact ⟨_, _, rfl, h3, h4⟩
theorem Own.row {A : Option Addr} {n c : Nat} (h : Own E k w base (.slice A n c) L) : n = L.length ∧ L.length ≤ c ∧ c ≤ 9223372036854775807 ∧ RowAt k w w.heap.size A L := by
  rcases h.shape with ⟨hv, rfl⟩ | ⟨g, cap, hv, _, hlt, hcap, hm⟩
  · injection hv with h1 h2 h3
    subst h1 h2 h3
    exact ⟨rfl, by simp, by omega, RowAt.nil⟩
  · injection hv with h1 h2 h3
    subst h1 h2 h3
    refine ⟨rfl, hcap, hm, fun _ => ⟨g, 0, rfl, hlt, fun i vs hi j u hj => ?_⟩⟩
    have := World.ownsRow.cells h.1 (g := g) rfl (i * k + j) u (flat_get h.2 hi hj)
    rw [Addr.add_lit] at this
    rw [← this]
    congr 2
    omega
theorem Own.low (h : Own E k w base v L) {b : Nat} (hb : b ≤ base) : Own E k w b v L :=
  ⟨⟨h.1.1, h.1.2.imp id fun ⟨g, cap, cur, h1, h2, h3⟩ => ⟨g, cap, cur, h1, by omega, h3⟩⟩, h.2⟩
theorem Own.dr (h : Own E k w base v L) : Own E k w.drew base v L := h
theorem Own.lt (h : Own E k w base v L) : ∀ g, v.ownBlock = some g → base ≤ g ∧ g < w.heap.size := World.ownsRow.lt h.1
theorem Own.kept {row : Option Nat} (h : Own E k w base v L) (hg : w.grownBy w' row) (hne : v.ownBlock = none ∨ v.ownBlock ≠ row) : Own E k w' base v L := ⟨h.1.kept hg hne, h.2⟩
theorem Own.alloc (h : Own E k w base v L) (o : Obj) : Own E k (w.alloc o) base v L := ⟨World.ownsRow.alloc h.1 o, h.2⟩
theorem Own.drewN (h : Own E k w base v L) (n : Nat) : Own E k (w.drewN n) base v L := h
/-- what has turned new blocks alone -/
theorem Own.up (h : Own E k w base v L) (hb : Below w.heap.size w w') : Own E k w' base v L :=
  h.kept (row := none) ⟨hb.os, hb.tape, hb.output, hb.size, fun i hi _ => hb.block i hi⟩ (by cases v.ownBlock <;> simp)
/-- Such a row is no block of another type. -/
theorem Own.ne {U : Nat} {t : TypeId} {l : List Value} (h : Own E k w base v L) (hU : CB w U t l) (ht : t ≠ E) : some U ≠ v.ownBlock := by
  rcases h.1.2 with ⟨e, _⟩ | ⟨g, cap, cur, e, _, hg, _⟩
  · rw [e]
    simp [Value.ownBlock]
  · rw [e]
    intro hx
    have hx' : some U = some g := hx
    injection hx' with hx'
    subst hx'
    unfold CB at hU
    rw [hU] at hg
    have := Option.some.inj hg
    injection this with _ h2
    exact ht h2
theorem Own.set_ (h : Own E k w base v L) {g : Nat} (i : Nat) (u : Value) (hne : some g ≠ v.ownBlock) : Own E k (w.setCell ⟨g, i, none⟩ u) base v L := h.kept (grown_set w g i u) (.inr hne.symm)
theorem Own.new_ne (h : Own E k w base v L) : some w.heap.size ≠ v.ownBlock := fun e => by have := (h.lt _ e.symm).2; omega
/-- A block below the row's base is not the row. -/
theorem Own.below_ne {U : Nat} (h : Own E k w base v L) (hU : U < base) : some U ≠ v.ownBlock := fun e => by have := (h.lt U e.symm).1; omega
end
section
variable {P : Program} {w wr : World} {ops : Array Oper} {rest : List Oper} {o : Oper} {a : Act} {Q : Exit → Act → World → Prop}
/-- append(v, x): v the call's own row, x one element in a block of its own; the row may grow. -/
theorem wpList_push {E T : TypeId} {k : Nat} {z : Value} {by_ : Nat} (hgd : o.guard = none) (d x : Operand) (ho : o.op = .call { callee := .builtin .append, args := #[d, x], argTypes := #[T, T] })
    (hT : P.underlying T = some (.slice E)) (hE : (P.info? E).map (fun i => (i.zero, i.size, i.bytes)) = some (some z, k, by_)) (hz : z.cells.size = k) (hk : 0 < k)
    (base : Nat) (v : Value) (L : List (List Value)) (vs : List Value) (N : Nat) (hs : a.eval d = v) (hx : a.eval x = .slice (some ⟨N, 0, none⟩) 1 1) (hN : N = wr.heap.size) (hw : w = wr.alloc (.cells vs.toArray E))
    (hr : Own E k wr base v L) (hvs : vs.length = k) (h1 : ∀ u ∈ vs, u.oneCell' = true) (hroom : L.length + 1 ≤ 1000000000) (hby : by_ ≤ 1000) (hbase : base ≤ wr.heap.size)
    (hK : ∀ A' c' w', Own E k w' base (.slice A' (L ++ [vs]).length c') (L ++ [vs]) → wr.grownBy w' v.ownBlock → Below base wr w' → wpList P ops Q rest (a.put o.dst (.slice A' (L ++ [vs]).length c')) w') : wpList P ops Q (o :: rest) a w := by
  subst hw hN
  obtain ⟨i, hi, hz0, hsz, hb⟩ := info_parts hE
  have hnew := heap_alloc_new wr (.cells vs.toArray E)
  refine wpList_append_own _ hgd d x T ho base E i z k by_ hT hi hz0 hsz hb hz hk v L.length L.flatten hs (World.ownsRow.alloc hr.1 _) ⟨wr.heap.size, 0, none⟩ 1 1 vs hx (by omega) ?_ h1 (by simp only [maxLen]; omega) ?_ (by simp; omega) ?_
  · intro j u hj
    rw [Addr.add_lit, Nat.zero_add, cell_of_row _ wr.heap.size j _ _ (0, 0) hnew]
    simpa using hj
  · exact Nat.le_trans (Nat.mul_le_mul hroom hby) (by decide)
  · intro v' w' g1 g2 _
    have hb : Below base wr w' := ((Below.refl base wr).alloc hbase _).grown g2 (by simp; omega) (fun g hg => (World.ownsRow.lt hr.1 g hg).1)
    have ho' : Own E k w' base v' (L ++ [vs]) := by
      refine ⟨by simpa using g1, fun u hu => ?_⟩
      rcases List.mem_append.1 hu with hu | hu
      · exact hr.2 u hu
      · rw [List.mem_singleton] at hu; rw [hu, hvs]
    obtain ⟨A', c', rfl, _⟩ := ho'.slice
    refine hK A' c' w' ho' ⟨g2.os, g2.tape, g2.output, Nat.le_trans (by simp) g2.size, fun j hj hne => ?_⟩ hb
    exact (g2.block j (by simp; omega) hne).trans (Below.heap_alloc _ _ _ hj)
theorem run_append_none {P : Program} (w : World) (t ty E : TypeId) (i : TypeInfo) (ht : P.underlying t = some (.slice E)) (hi : P.info? E = some i) (g n cap c : Nat) (hn : n ≤ cap) :
    (Builtin.append_ #[t, t] ty #[.slice (some ⟨g, 0, none⟩) n cap, .slice none 0 c]).run P w = .ok (.slice (some ⟨g, 0, none⟩) n cap) w := by
  simp [Builtin.append_, run_underlying ht, sizeOf, typeInfo, hi, Builtin.lenOf, Builtin.firstCells, hn, storeCells]
/-- append(v, x...): v the call's own row, x a row that can be read; it may grow. -/
theorem wpList_cat {w : World} {E T : TypeId} {k : Nat} {z : Value} {by_ : Nat} (hgd : o.guard = none) (d x : Operand) (ho : o.op = .call { callee := .builtin .append, args := #[d, x], argTypes := #[T, T] })
    (hT : P.underlying T = some (.slice E)) (hE : (P.info? E).map (fun i => (i.zero, i.size, i.bytes)) = some (some z, k, by_)) (hz : z.cells.size = k) (hk : 0 < k)
    (base : Nat) (v : Value) (L : List (List Value)) (A : Option Addr) (n c B : Nat) (L2 : List (List Value)) (hs : a.eval d = v) (hx : a.eval x = .slice A n c) (hn : n = L2.length)
    (hr : Own E k w base v L) (h2 : RowAt k w B A L2) (hvs : ∀ vs ∈ L2, vs.length = k) (h1 : ∀ vs ∈ L2, ∀ u ∈ vs, u.oneCell' = true) (hroom : L.length + n ≤ 1000000000) (hby : by_ ≤ 1000) (hbase : base ≤ w.heap.size)
    (hK : ∀ A' c' w', Own E k w' base (.slice A' (L.length + n) c') (L ++ L2) → w.grownBy w' v.ownBlock → Below base w w' → wpList P ops Q rest (a.put o.dst (.slice A' (L.length + n) c')) w') : wpList P ops Q (o :: rest) a w := by
  subst hn
  obtain ⟨i, hi, hz0, hsz, hb⟩ := info_parts hE
  cases A with
  | none =>
    have h0 : L2 = [] := by
      rcases Nat.eq_zero_or_pos L2.length with h0 | h0
      · exact List.eq_nil_of_length_eq_zero h0
      · obtain ⟨b, off, h, _⟩ := h2 h0
        cases h
    subst h0
    obtain ⟨A', c', rfl, _⟩ := hr.slice
    have hrun : (Builtin.append_ #[T, T] o.type #[.slice A' L.length c', .slice none 0 c]).run P w = .ok (.slice A' L.length c') w := by
      rcases hr.shape with ⟨e, rfl⟩ | ⟨g, cap, e, _, _, hcap, _⟩
      · injection e with e1 e2 e3
        subst e1 e3
        simp [Builtin.append_, run_underlying hT, sizeOf, typeInfo, hi, Builtin.lenOf, Builtin.firstCells]
      · injection e with e1 e2 e3
        subst e1 e3
        exact run_append_none w T o.type E i hT hi g L.length c' c hcap
    refine wpList_plain hgd fun K hK' => ?_
    unfold Oper.wp execOp
    simp only [ho, resolve, invoke, builtin, Sem.run_bind, Sem.run_pure, Result.andThen_ok, List.map_toArray, List.map_cons, List.map_nil, hs, hx, List.length_nil, hrun]
    have h := hK A' c' w (by simpa using hr) (World.grownBy.refl _ _) (Below.refl _ _)
    simp only [List.length_nil, Nat.add_zero] at h
    exact hK' _ _ h
  | some ad =>
    refine wpList_append_own _ hgd d x T ho base E i z k by_ hT hi hz0 hsz hb hz hk v L.length L.flatten hs hr.1 ad L2.length c L2.flatten hx (flat_len hvs) ?_ ?_ (by simp only [maxLen]; omega) ?_ hbase ?_
    · intro j u hj
      rcases Nat.eq_zero_or_pos L2.length with h0 | h0
      · rw [List.eq_nil_of_length_eq_zero h0] at hj
        simp at hj
      · obtain ⟨b, off, e, hlt, hc⟩ := h2 h0
        injection e with e
        subst e
        rw [Addr.add_lit]
        have hjl : j < L2.length * k := by rw [← flat_len hvs]; exact (List.getElem?_eq_some_iff.1 hj).1
        have hq : j / k < L2.length := (Nat.div_lt_iff_lt_mul hk).2 hjl
        have hm : j % k < k := Nat.mod_lt _ hk
        have hvl : L2[j / k].length = k := hvs _ (List.getElem_mem hq)
        have hg := flat_get hvs (List.getElem?_eq_getElem hq) (List.getElem?_eq_getElem (l := L2[j / k]) (i := j % k) (by omega))
        have e : j / k * k + j % k = j := by rw [Nat.mul_comm]; exact Nat.div_add_mod j k
        rw [e, hj] at hg
        have hcc := hc (j / k) _ (List.getElem?_eq_getElem hq) (j % k) _ (List.getElem?_eq_getElem (by omega))
        rw [Nat.add_assoc, e] at hcc
        rw [hcc, ← Option.some.inj hg]
    · intro u hu
      obtain ⟨vs, hv, hu'⟩ := List.mem_flatten.1 hu
      exact h1 vs hv u hu'
    · exact Nat.le_trans (Nat.mul_le_mul hroom hby) (by decide)
    · intro v' w' g1 g2 _
      have ho' : Own E k w' base v' (L ++ L2) := by
        refine ⟨by simpa using g1, fun u hu => ?_⟩
        rcases List.mem_append.1 hu with hu | hu
        · exact hr.2 u hu
        · exact hvs u hu
      obtain ⟨A', c', rfl, _⟩ := ho'.slice
      rw [List.length_append] at ho' ⊢
      exact hK A' c' w' ho' g2 ((Below.refl base w).grown g2 hbase (fun g hg => (World.ownsRow.lt hr.1 g hg).1))
end
section
variable {P : Program} {w : World} {ops : Array Oper} {o : Oper} {a : Act} {K : Act → World → Prop} {Q : Exit → Act → World → Prop} {F : Prop}
/-- append(v, x) within a region that draws its order: x one element in a block that is known. -/
theorem step_push {E T : TypeId} {k : Nat} {z : Value} {by_ : Nat} (hgd : o.guard = none) (d x : Operand) (ho : o.op = .call { callee := .builtin .append, args := #[d, x], argTypes := #[T, T] })
    (hT : P.underlying T = some (.slice E)) (hE : (P.info? E).map (fun i => (i.zero, i.size, i.bytes)) = some (some z, k, by_)) (hz : z.cells.size = k) (hk : 0 < k)
    (base : Nat) (v : Value) (L : List (List Value)) (vs : List Value) (g : Nat) (hs : a.eval d = v) (hx : a.eval x = .slice (some ⟨g, 0, none⟩) 1 1)
    (hr : Own E k w base v L) (hg : CB w g E vs) (hvs : vs.length = k) (h1 : ∀ u ∈ vs, u.oneCell' = true) (hroom : L.length + 1 ≤ 1000000000) (hby : by_ ≤ 1000) (hbase : base ≤ w.heap.size)
    (hK : ∀ A' c' w', Own E k w' base (.slice A' (L.length + 1) c') (L ++ [vs]) → w.grownBy w' v.ownBlock → Below base w w' → K (a.put o.dst (.slice A' (L.length + 1) c')) w') : if Region.wanted o (yielded ops a.tmps) = true then Oper.wp P o a w K Q else F := by
  rw [if_pos (by simp [Region.wanted, hgd])]
  obtain ⟨i, hi, hz0, hsz, hb⟩ := info_parts hE
  refine wp_append_own _ d x T ho base E i z k by_ hT hi hz0 hsz hb hz hk v L.length L.flatten hs hr.1 ⟨g, 0, none⟩ 1 1 vs hx (by omega) ?_ h1 (by simp only [maxLen]; omega) ?_ hbase ?_
  · intro j u hj
    rw [Addr.add_lit, Nat.zero_add]
    exact hg.cell j hj
  · exact Nat.le_trans (Nat.mul_le_mul hroom hby) (by decide)
  · intro v' w' g1 g2 _
    have ho' : Own E k w' base v' (L ++ [vs]) := by
      refine ⟨by simpa using g1, fun u hu => ?_⟩
      rcases List.mem_append.1 hu with hu | hu
      · exact hr.2 u hu
      · rw [List.mem_singleton] at hu; rw [hu, hvs]
    obtain ⟨A', c', rfl, _⟩ := ho'.slice
    have e : (L ++ [vs]).length = L.length + 1 := by simp
    rw [e] at ho' ⊢
    exact hK A' c' w' ho' g2 ((Below.refl base w).grown g2 hbase (fun g hg => (World.ownsRow.lt hr.1 g hg).1))
/-- A whole row into a block, within a region that draws its order. -/
theorem step_store_cb (hgd : o.guard = none) (ty : TypeId) (x y : Operand) (ho : o.op = .store ty x y)
    (g : Nat) (l : List Value) (hx : a.eval x = .pointer (some ⟨g, 0, none⟩)) (hy : a.eval y = .agg l.toArray) (t : TypeId) (old : List Value) (n : Nat) (hg : CB w g t old)
    (hi : (P.info? ty).map (·.size) = some n) (hn : old.length = n) (hl : l.length = n) (h1 : ∀ u ∈ l, u.oneCell' = true)
    (h : ∀ w', CB w' g t l → w.grownBy w' (some g) → w'.heap.size = w.heap.size → K (a.put o.dst undef) w') : if Region.wanted o (yielded ops a.tmps) = true then Oper.wp P o a w K Q else F := by
  rw [if_pos (by simp [Region.wanted, hgd])]
  refine wp_store_mid ty x y ho g 0 l.toArray hx hy ?_ (by rw [hi]; simp [hl]) (all_oneCell_toArray h1) ?_
  · intro j hj
    rw [Nat.zero_add, cell_of_row w g j _ t (0, 0) hg, frozen_of_row w g j _ t hg]
    simp at hj ⊢; omega
  · exact h _ (setCells_block hg (by simp [hl, hn])) (setCells_grown g _ _ _) (setCells_size g _ _ _)
end
theorem own_cell {E : TypeId} {k : Nat} {w : World} {base g n c : Nat} {L : List (List Value)} (h : Own E k w base (.slice (some ⟨g, 0, none⟩) n c) L) {j : Nat} (hj : j < L.flatten.length) : w.cell? ⟨g, j, none⟩ = L.flatten[j]? ∧ w.frozen? ⟨g, j, none⟩ = false := by
  rcases h.1.2 with ⟨e, _⟩ | ⟨g', cap, cur, e, _, hg, hn, hm, hs, ht⟩
  · cases e
  · injection e with e1
    injection e1 with e1
    injection e1 with e1
    subst e1
    refine ⟨?_, frozen_of_row w g j cur E hg⟩
    rw [cell_of_row w g j cur E (0, 0) hg, ← ht, List.getElem?_take]
    rw [← ht, List.length_take] at hj
    rw [if_pos (by omega)]
    simp
/-- an element of the call's own row is written -/
theorem own_store {E : TypeId} {k : Nat} {w : World} {base g n c : Nat} {L : List (List Value)} (hk : 0 < k) (h : Own E k w base (.slice (some ⟨g, 0, none⟩) n c) L) {i : Nat} (hi : i < L.length) {vs : List Value} (hv : vs.length = k) :
    Own E k (w.setCells g (i * k) vs) base (.slice (some ⟨g, 0, none⟩) n c) (L.set i vs) := by
  have hlen : ∀ us ∈ L.set i vs, us.length = k := by
    intro us hu
    rcases List.mem_or_eq_of_mem_set hu with h1 | rfl
    · exact h.2 us h1
    · exact hv
  have hfl : (L.set i vs).flatten.length = L.flatten.length := by rw [flat_len hlen, flat_len h.2, List.length_set]
  have hb : ∀ j, j < vs.length → (w.cell? ⟨g, i * k + j, none⟩).isSome = true := fun j hj => by
    have hlt : i * k + j < L.flatten.length := by
      rw [flat_len h.2]
      have := Nat.mul_le_mul_right k (show i + 1 ≤ L.length by omega)
      rw [Nat.add_mul] at this
      omega
    rw [(own_cell h hlt).1, List.getElem?_eq_getElem hlt]
    rfl
  have hc := fun j hj => (own_cell h (j := j) hj).1
  refine ⟨?_, hlen⟩
  rcases h.1.2 with ⟨e, _⟩ | ⟨g', cap, cur, e, hbg, hg, hn, hm, hs, ht⟩
  · cases e
  · injection e with e1 e2 e3
    injection e1 with e1
    injection e1 with e1
    subst e1 e2 e3
    obtain ⟨C, h1, h2⟩ := setCells_some vs (i * k) w cur hg
    refine ⟨by rw [hfl, h.1.1, List.length_set], .inr ⟨g, c, C, by rw [List.length_set], hbg, h1, by rw [List.length_set]; exact hn, hm, by rw [h2]; exact hs, ?_⟩⟩
    rw [List.length_set]
    apply List.ext_getElem?
    intro j
    by_cases hj : j < L.length * k
    · rw [List.getElem?_take, if_pos hj, Array.getElem?_toList, ← cell_of_row _ g j C E (0, 0) h1]
      have hq : j / k < L.length := (Nat.div_lt_iff_lt_mul hk).2 hj
      have hm' : j % k < k := Nat.mod_lt _ hk
      have ej : j / k * k + j % k = j := by rw [Nat.mul_comm]; exact Nat.div_add_mod j k
      by_cases hqi : j / k = i
      · have e1 : (L.set i vs)[j / k]? = some vs := by rw [hqi, List.getElem?_set_self hi]
        have e2 := flat_get hlen e1 (List.getElem?_eq_getElem (l := vs) (i := j % k) (by omega))
        rw [ej] at e2
        rw [e2]
        have e3 := World.cell?_setCells_in g vs (i * k) w hb (j % k) (by omega)
        rw [← hqi, ej] at e3
        rw [← hqi]
        exact e3
      · have e1 : (L.set i vs)[j / k]? = L[j / k]? := List.getElem?_set_ne (fun e => hqi e.symm)
        have hvl : L[j / k].length = k := h.2 _ (List.getElem_mem hq)
        have e2 := flat_get hlen (e1.trans (List.getElem?_eq_getElem hq)) (List.getElem?_eq_getElem (l := L[j / k]) (i := j % k) (by omega))
        have e4 := flat_get h.2 (List.getElem?_eq_getElem hq) (List.getElem?_eq_getElem (l := L[j / k]) (i := j % k) (by omega))
        rw [ej] at e2 e4
        rw [e2, ← e4, ← hc j (by rw [flat_len h.2]; exact hj)]
        refine World.cell?_setCells_out g vs (i * k) w ⟨g, j, none⟩ (fun _ _ => ?_)
        show j < i * k ∨ i * k + vs.length ≤ j
        rw [hv]
        rcases Nat.lt_or_gt_of_ne hqi with hlt | hgt
        · left
          have := Nat.mul_le_mul_right k (show j / k + 1 ≤ i by omega)
          rw [Nat.add_mul] at this
          omega
        · right
          have := Nat.mul_le_mul_right k (show i + 1 ≤ j / k by omega)
          rw [Nat.add_mul] at this
          omega
    · rw [List.getElem?_eq_none (by rw [List.length_take]; omega), List.getElem?_eq_none (by rw [hfl, flat_len h.2]; omega)]
theorem wpList_store_own {P : Program} {w : World} {ops : Array Oper} {rest : List Oper} {o : Oper} {a : Act} {Q : Exit → Act → World → Prop} {E : TypeId} {k : Nat} (hgd : o.guard = none) (ty : TypeId) (x y : Operand) (ho : o.op = .store ty x y)
    (base g n c i q : Nat) (L : List (List Value)) (vs : List Value) (hx : a.eval x = .pointer (some ⟨g, q, none⟩)) (hq : q = i * k) (hy : a.eval y = .agg vs.toArray) (hr : Own E k w base (.slice (some ⟨g, 0, none⟩) n c) L) (hk : 0 < k) (hi : i < L.length) (hv : vs.length = k)
    (hs : (P.info? ty).map (·.size) = some k) (h1 : ∀ u ∈ vs, u.oneCell' = true)
    (h : ∀ w', Own E k w' base (.slice (some ⟨g, 0, none⟩) n c) (L.set i vs) → w.grownBy w' (some g) → w'.heap.size = w.heap.size → wpList P ops Q rest (a.put o.dst undef) w') : wpList P ops Q (o :: rest) a w := by
  subst hq
  refine wpList_store_mid hgd ty x y ho g (i * k) vs.toArray hx hy ?_ (by rw [hs]; simp [hv]) (all_oneCell_toArray h1) ?_
  · intro j hj
    have hlt : i * k + j < L.flatten.length := by
      rw [flat_len hr.2]
      have := Nat.mul_le_mul_right k (show i + 1 ≤ L.length by omega)
      rw [Nat.add_mul] at this
      simp at hj
      omega
    have := own_cell hr hlt
    refine ⟨by rw [this.1, List.getElem?_eq_getElem hlt]; rfl, this.2⟩
  · exact h _ (own_store hk hr hi hv) (setCells_grown g _ _ _) (setCells_size g _ _ _)
theorem own_empty {E : TypeId} {k : Nat} (w : World) (c : Array Value) (hc : c = #[]) : Own E k (w.alloc (.cells c E)) w.heap.size (.slice (some ⟨w.heap.size, 0, none⟩) 0 0) [] := by
  subst hc
  exact ⟨⟨by simp, .inr ⟨w.heap.size, 0, #[], rfl, Nat.le_refl _, heap_alloc_new w _, Nat.le_refl _, by simp [maxLen], by simp, by simp⟩⟩, fun _ h => by simp at h⟩
end Go.Proofs.Ytlndpclgljfloaa
