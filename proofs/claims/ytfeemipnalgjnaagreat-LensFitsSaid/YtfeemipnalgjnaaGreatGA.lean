/-
 Layer 6's contracts and plain theorems, texts of layer 6's own claims put together: Mm Sch FldP AncP NamP ChkP NmdP.
-/
import Derived.WalkKit
import Derived.Laws.CopyOwn
import Derived.Lib.AppendStr
import Derived.Lib.Hide
import Derived.Deep.MidRow
import Derived.Deep.Draws
import Derived.Test.YtfeemipnalgjnaaGreatProg
import Derived.Laws.ResultCell
import Derived.Outline
import Derived.Deep.LoopGhost
import Derived.BigGuardPart
import Derived.Lib.Strings
namespace Go.Proofs.YtfeemipnalgjnaaGreat
open Go.RowKit

theorem grown_set (w : World) (g i : Nat) (u : Value) : w.grownBy (w.setCell ⟨g, i, none⟩ u) (some g) :=
 ⟨rfl, rfl, rfl, by simp [World.setCell], fun k _ hk => Below.heap_setCell w _ u k (fun e => hk (by rw [e]))⟩
theorem grown_step {a b c : World} {g : Option Nat} (h : a.grownBy b g) (k : b.grownBy c g) : a.grownBy c g :=
 ⟨k.os.trans h.os, k.tape.trans h.tape, k.output.trans h.output, Nat.le_trans h.size k.size, fun i hi hn => (k.block i (Nat.lt_of_lt_of_le hi h.size) hn).trans (h.block i hi hn)⟩
theorem al1 (w : World) (o : Obj) : Below w.heap.size w (w.alloc o) := (Below.refl _ _).alloc (Nat.le_refl _) o
theorem al2 (w : World) (a b : Obj) : Below w.heap.size w ((w.alloc a).alloc b) := (al1 w a).alloc (by simp) b
theorem al3 (w : World) (a b c : Obj) : Below w.heap.size w (((w.alloc a).alloc b).alloc c) := (al2 w a b).alloc (by simp; omega) c
theorem al4 (w : World) (a b c d : Obj) : Below w.heap.size w ((((w.alloc a).alloc b).alloc c).alloc d) := (al3 w a b c).alloc (by simp; omega) d
theorem asz (w : World) (o : Obj) : (w.alloc o).heap.size = w.heap.size + 1 := by simp
theorem below_drewN {B : Nat} {w w' : World} (h : Below B w w') (n : Nat) : Below B w (w'.drewN n) := ⟨h.os, h.tape, h.output, h.size, h.block⟩
theorem lt_al {w w1 : World} {o : Obj} {B : Nat} (h : Below B (w.alloc o) w1) : w.heap.size < w1.heap.size := by
 have := h.size
 rw [asz] at this
 omega
theorem lt_ald {w w1 : World} {o : Obj} {B : Nat} (h : Below B (w.alloc o).drew w1) : w.heap.size < w1.heap.size := by
 have : (w.alloc o).heap.size ≤ w1.heap.size := h.size
 rw [asz] at this
 omega
/-- One more call in a chain: what was there at the chain's beginning is as it was. -/
theorem below_step {B : Nat} {w W w1 : World} (h : Below B w W) (hB : B ≤ W.heap.size) (h1 : Below W.heap.size W w1) : Below B w w1 := h.trans (h1.mono hB)
theorem below_grown {w0 w w' : World} {base g : Nat} (h : Below base w0 w) (hg : w.grownBy w' (some g)) (hB : base ≤ w.heap.size) (hr : base ≤ g) : Below base w0 w' :=
 h.grown hg hB (fun k hk => by injection hk with hk; omega)
theorem bd (w : World) : Below w.heap.size w w.drew := (Below.refl _ _).drew
theorem bda (w : World) (o : Obj) : Below w.heap.size w (w.drew.alloc o) := (bd w).alloc (Nat.le_refl _) o
theorem bad (w : World) (o : Obj) : Below w.heap.size w (w.alloc o).drew := (al1 w o).drew
theorem bcell {W w1 : World} (hb : Below W.heap.size W w1) : (∀ b o, b < W.heap.size → w1.cell? ⟨b, o, none⟩ = W.cell? ⟨b, o, none⟩) ∧ (∀ b o, b < W.heap.size → w1.frozen? ⟨b, o, none⟩ = W.frozen? ⟨b, o, none⟩) :=
 ⟨fun b o h => hb.cell (p := ⟨b, o, none⟩) h, fun b o h => hb.frozen (p := ⟨b, o, none⟩) h⟩

theorem setCell_cells {w : World} {b o : Nat} {t : TypeId} {cs : Array Value} (v : Value) (h : w.heap[b]? = some (.cells cs t (0, 0))) : (w.setCell ⟨b, o, none⟩ v).heap[b]? = some (.cells (cs.setIfInBounds o v) t (0, 0)) := by
 simp [World.setCell, Array.getElem?_modify, h]
theorem setCells_some {b : Nat} {t : TypeId} : ∀ (vs : List Value) (o : Nat) (w : World) (cs : Array Value), w.heap[b]? = some (.cells cs t (0, 0)) → ∃ C, (w.setCells b o vs).heap[b]? = some (.cells C t (0, 0)) ∧ C.size = cs.size
 | [], _, _, cs, h => ⟨cs, h, rfl⟩
 | v :: r, o, w, cs, h => by
  obtain ⟨C, h1, h2⟩ := setCells_some r (o + 1) _ _ (setCell_cells (o := o) v h)
  exact ⟨C, h1, by rw [h2]; simp⟩
theorem setCells_block {w : World} {b : Nat} {t : TypeId} {cs : Array Value} {vs : List Value} (h : w.heap[b]? = some (.cells cs t (0, 0))) (hl : cs.size = vs.length) :
  (w.setCells b 0 vs).heap[b]? = some (.cells vs.toArray t (0, 0)) := by
 obtain ⟨C, h1, h2⟩ := setCells_some vs 0 w cs h
 rw [h1]
 have hs : ∀ j, j < vs.length → (w.cell? ⟨b, 0 + j, none⟩).isSome = true := fun j hj => by
  rw [Nat.zero_add, cell_of_row w b j cs t (0, 0) h]
  simp; omega
 have e : C = vs.toArray := by
  apply Array.ext
  ·
   simp; omega
  ·
   intro i hi hi2
   have hi3 : i < vs.length := by simpa using hi2
   have h3 := World.cell?_setCells_in b vs 0 w hs i hi3
   rw [Nat.zero_add, cell_of_row _ b i C t (0, 0) h1, Array.getElem?_eq_getElem hi] at h3
   simpa using h3
 rw [e]
theorem setCells_grown (b : Nat) : ∀ (vs : List Value) (o : Nat) (w : World), w.grownBy (w.setCells b o vs) (some b)
 | [], _, _ => World.grownBy.refl _ _
 | v :: r, o, w => grown_step (grown_set w b o v) (setCells_grown b r (o + 1) _)
theorem setCells_size (b : Nat) : ∀ (vs : List Value) (o : Nat) (w : World), (w.setCells b o vs).heap.size = w.heap.size
 | [], _, _ => rfl
 | v :: r, o, w => by rw [World.setCells, setCells_size b r]; simp [World.setCell]

/-- The call's own block of cells, all of them known; not frozen. -/
def CB (w : World) (g : Nat) (t : TypeId) (l : List Value) : Prop := w.heap[g]? = some (.cells l.toArray t (0, 0))
section
variable {w w' : World} {g : Nat} {t : TypeId} {l : List Value}
theorem CB.lt (h : CB w g t l) : g < w.heap.size := (Array.getElem?_eq_some_iff.1 h).1
theorem CB.cell (h : CB w g t l) (i : Nat) {v : Value} (hi : l[i]? = some v) : w.cell? ⟨g, i, none⟩ = some v := by
 rw [cell_of_row w g i _ _ (0, 0) h]
 simpa using hi
theorem CB.frozen (h : CB w g t l) (i : Nat) : w.frozen? ⟨g, i, none⟩ = false := by
 unfold CB at h
 simp [World.frozen?, h]
theorem CB.new (w : World) (t : TypeId) (l : List Value) : CB (w.alloc (.cells l.toArray t)) w.heap.size t l := heap_alloc_new w _
theorem CB.new1 (w : World) (o : Obj) (t : TypeId) (l : List Value) : CB ((w.alloc o).alloc (.cells l.toArray t)) (w.heap.size + 1) t l := by
 have := CB.new (w.alloc o) t l
 rwa [asz] at this
theorem CB.new2 (w : World) (o o' : Obj) (t : TypeId) (l : List Value) : CB (((w.alloc o).alloc o').alloc (.cells l.toArray t)) (w.heap.size + 1 + 1) t l := by
 have := CB.new ((w.alloc o).alloc o') t l
 rwa [asz, asz] at this
theorem CB.alloc (h : CB w g t l) (o : Obj) : CB (w.alloc o) g t l := (Below.heap_alloc w o g h.lt).trans h
theorem CB.drewN (h : CB w g t l) (n : Nat) : CB (w.drewN n) g t l := h
theorem CB.dr (h : CB w g t l) : CB w.drew g t l := h
theorem CB.set_ (h : CB w g t l) (i : Nat) (v : Value) : CB (w.setCell ⟨g, i, none⟩ v) g t (l.set i v) := by
 unfold CB at h ⊢
 simp [World.setCell, Array.getElem?_modify, h]
theorem CB.below {B : Nat} (h : CB w g t l) (hb : Below B w w') (hg : g < B) : CB w' g t l := (hb.block g hg).trans h
theorem CB.up (h : CB w g t l) (hb : Below w.heap.size w w') : CB w' g t l := h.below hb h.lt
theorem CB.grown {row : Option Nat} (h : CB w g t l) (hb : w.grownBy w' row) (hg : some g ≠ row) : CB w' g t l := (hb.block g h.lt hg).trans h
end

section
variable {P : Program} {w : World} {ops : Array Oper} {rest : List Oper} {o : Oper} {a : Act} {Q : Exit → Act → World → Prop}
/-- A whole row into a block. -/
theorem wpList_store_cb (hgd : o.guard = none) (ty : TypeId) (x y : Operand) (ho : o.op = .store ty x y)
  (g : Nat) (l : List Value) (hx : a.eval x = .pointer (some ⟨g, 0, none⟩)) (hy : a.eval y = .agg l.toArray) (t : TypeId) (old : List Value) (n : Nat) (hg : CB w g t old)
  (hi : (P.info? ty).map (·.size) = some n) (hn : old.length = n) (hl : l.length = n) (h1 : ∀ u ∈ l, u.oneCell' = true)
  (h : ∀ w', CB w' g t l → w.grownBy w' (some g) → w'.heap.size = w.heap.size → wpList P ops Q rest (a.put o.dst undef) w') : wpList P ops Q (o :: rest) a w := by
 refine wpList_store_mid hgd ty x y ho g 0 l.toArray hx hy ?_ (by rw [hi]; simp [hl]) (all_oneCell_toArray h1) ?_
 ·
  intro j hj
  rw [Nat.zero_add, cell_of_row w g j _ t (0, 0) hg, frozen_of_row w g j _ t hg]
  simp at hj ⊢; omega
 ·
  exact h _ (setCells_block hg (by simp [hl, hn])) (setCells_grown g _ _ _) (setCells_size g _ _ _)
end

/-- The cells of one element: vs at offset o of block b. -/
def At (w : World) (b o : Nat) (vs : List Value) : Prop := ∀ j v, vs[j]? = some v → w.cell? ⟨b, o + j, none⟩ = some v
/-- The elements L, of k cells each, can be read from address A on, in a block below B. -/
def RowAt (k : Nat) (w : World) (B : Nat) (A : Option Addr) (L : List (List Value)) : Prop :=
 0 < L.length → ∃ b off, A = some ⟨b, off, none⟩ ∧ b < B ∧ ∀ i vs, L[i]? = some vs → At w b (off + i * k) vs
section
variable {k : Nat} {w w' : World} {B B' : Nat} {A : Option Addr} {L : List (List Value)} {b o : Nat} {vs : List Value}
theorem At.keep (h : At w b o vs) (hk : ∀ j, w'.cell? ⟨b, o + j, none⟩ = w.cell? ⟨b, o + j, none⟩) : At w' b o vs := fun j v hj => (hk j).trans (h j v hj)
theorem At.below (h : At w b o vs) (hb : Below B w w') (hlt : b < B) : At w' b o vs := h.keep fun j => hb.cell (p := ⟨b, o + j, none⟩) hlt
theorem RowAt.nil : RowAt k w B A [] := fun h => absurd h (by simp)
theorem RowAt.below (h : RowAt k w B A L) (hb : Below B w w') : RowAt k w' B A L := fun hl => by
 obtain ⟨b, off, e, hlt, hc⟩ := h hl
 exact ⟨b, off, e, hlt, fun i vs hi => (hc i vs hi).below hb hlt⟩
theorem RowAt.more (h : RowAt k w B A L) (hB : B ≤ B') : RowAt k w B' A L := fun hl => by
 obtain ⟨b, off, e, hlt, hc⟩ := h hl
 exact ⟨b, off, e, by omega, hc⟩
theorem RowAt.up (h : RowAt k w w.heap.size A L) (hb : Below w.heap.size w w') : RowAt k w' w'.heap.size A L := (h.below hb).more hb.size
theorem RowAt.grown {row : Option Nat} (h : RowAt k w B A L) (hb : w.grownBy w' row) (hB : B ≤ w.heap.size) (hr : ∀ g, row = some g → B ≤ g) : RowAt k w' B A L :=
 h.below ((Below.refl B w).grown hb hB hr)
theorem RowAt.take (h : RowAt k w B A L) (n : Nat) : RowAt k w B A (L.take n) := fun hl => by
 obtain ⟨b, off, e, hlt, hc⟩ := h (by simp only [List.length_take] at hl; omega)
 refine ⟨b, off, e, hlt, fun i s hi => hc i s ?_⟩
 rw [List.getElem?_take] at hi
 split at hi
 ·
  exact hi
 ·
  cases hi
theorem RowAt.one (h : RowAt k w B A L) {i : Nat} (hi : L[i]? = some vs) : ∃ b off, A = some ⟨b, off, none⟩ ∧ b < B ∧ At w b (off + i * k) vs := by
 obtain ⟨b, off, e, hlt, hc⟩ := h (by have := (List.getElem?_eq_some_iff.1 hi).1; omega)
 exact ⟨b, off, e, hlt, hc i vs hi⟩
end

/-- The value v is a slice over the call's own row of elements of type E, k cells each, that holds just L. -/
def Own (E : TypeId) (k : Nat) (w : World) (base : Nat) (v : Value) (L : List (List Value)) : Prop := w.ownsRow base E k v L.length L.flatten ∧ ∀ vs ∈ L, vs.length = k
theorem flat_get {k : Nat} : ∀ {L : List (List Value)}, (∀ vs ∈ L, vs.length = k) → ∀ {i : Nat} {vs : List Value}, L[i]? = some vs → ∀ {j : Nat} {v : Value}, vs[j]? = some v → L.flatten[i * k + j]? = some v
 | [], _, i, vs, hi, _, _, _ => by simp at hi
 | x :: r, h, 0, vs, hi, j, v, hj => by
  have e : x = vs := by simpa using hi
  subst e
  have := (List.getElem?_eq_some_iff.1 hj).1
  rw [Nat.zero_mul, Nat.zero_add, List.flatten_cons, List.getElem?_append_left this]
  exact hj
 | x :: r, h, i + 1, vs, hi, j, v, hj => by
  have hx : x.length = k := h x (by simp)
  rw [List.flatten_cons, List.getElem?_append_right (by rw [hx, Nat.add_mul]; omega), hx, show (i + 1) * k + j - k = i * k + j by rw [Nat.add_mul]; omega]
  exact flat_get (fun vs hv => h vs (by simp [hv])) (by simpa using hi) hj
theorem flat_len {k : Nat} : ∀ {L : List (List Value)}, (∀ vs ∈ L, vs.length = k) → L.flatten.length = L.length * k
 | [], _ => by simp
 | x :: r, h => by rw [List.flatten_cons, List.length_append, h x (by simp), flat_len (fun vs hv => h vs (by simp [hv])), List.length_cons, Nat.add_mul]; omega
section
variable {E : TypeId} {k : Nat} {w w' : World} {base : Nat} {v : Value} {L : List (List Value)}
theorem Own.nil (E : TypeId) (k : Nat) (w : World) (base : Nat) : Own E k w base (.slice none 0 0) [] := ⟨World.ownsRow_nil w base E k, fun _ h => by simp at h⟩
theorem Own.shape (h : Own E k w base v L) : (v = .slice none 0 0 ∧ L = []) ∨ ∃ g cap, v = .slice (some ⟨g, 0, none⟩) L.length cap ∧ base ≤ g ∧ g < w.heap.size ∧ L.length ≤ cap ∧ cap ≤ 9223372036854775807 := by
 have h2 := h.1.2
 rcases h2 with ⟨rfl, hl⟩ | ⟨g, cap, cur, rfl, hb, hg, hn, hm, _⟩
 ·
  exact .inl ⟨rfl, List.eq_nil_of_length_eq_zero hl⟩
 ·
  exact .inr ⟨g, cap, rfl, hb, (Array.getElem?_eq_some_iff.1 hg).1, hn, by simpa [maxLen] using hm⟩
theorem Own.slice (h : Own E k w base v L) : ∃ A c, v = .slice A L.length c ∧ L.length ≤ c ∧ c ≤ 9223372036854775807 := by
 rcases h.shape with ⟨rfl, rfl⟩ | ⟨g, cap, rfl, _, _, h3, h4⟩
 ·
  exact ⟨_, _, rfl, Nat.le_refl _, by omega⟩
 ·
  exact ⟨_, _, rfl, h3, h4⟩
theorem Own.row {A : Option Addr} {n c : Nat} (h : Own E k w base (.slice A n c) L) : n = L.length ∧ L.length ≤ c ∧ c ≤ 9223372036854775807 ∧ RowAt k w w.heap.size A L := by
 rcases h.shape with ⟨hv, rfl⟩ | ⟨g, cap, hv, _, hlt, hcap, hm⟩
 ·
  injection hv with h1 h2 h3
  subst h1 h2 h3
  exact ⟨rfl, by simp, by omega, RowAt.nil⟩
 ·
  injection hv with h1 h2 h3
  subst h1 h2 h3
  refine ⟨rfl, hcap, hm, fun _ => ⟨g, 0, rfl, hlt, fun i vs hi j u hj => ?_⟩⟩
  have := World.ownsRow.cells h.1 (g := g) rfl (i * k + j) u (flat_get h.2 hi hj)
  rw [Addr.add_lit] at this
  rw [← this]
  congr 2
  omega
theorem Own.low (h : Own E k w base v L) {b : Nat} (hb : b ≤ base) : Own E k w b v L :=
 ⟨⟨h.1.1, h.1.2.imp id fun ⟨g, cap, cur, h1, h2, h3⟩ => ⟨g, cap, cur, h1, by omega, h3⟩⟩, h.2⟩
theorem Own.dr (h : Own E k w base v L) : Own E k w.drew base v L := h
theorem Own.lt (h : Own E k w base v L) : ∀ g, v.ownBlock = some g → base ≤ g ∧ g < w.heap.size := World.ownsRow.lt h.1
theorem Own.kept {row : Option Nat} (h : Own E k w base v L) (hg : w.grownBy w' row) (hne : v.ownBlock = none ∨ v.ownBlock ≠ row) : Own E k w' base v L := ⟨h.1.kept hg hne, h.2⟩
theorem Own.alloc (h : Own E k w base v L) (o : Obj) : Own E k (w.alloc o) base v L := ⟨World.ownsRow.alloc h.1 o, h.2⟩
theorem Own.drewN (h : Own E k w base v L) (n : Nat) : Own E k (w.drewN n) base v L := h
/-- what has turned new blocks alone -/
theorem Own.up (h : Own E k w base v L) (hb : Below w.heap.size w w') : Own E k w' base v L :=
 h.kept (row := none) ⟨hb.os, hb.tape, hb.output, hb.size, fun i hi _ => hb.block i hi⟩ (by cases v.ownBlock <;> simp)
/-- Such a row is no block of another type. -/
theorem Own.ne {U : Nat} {t : TypeId} {l : List Value} (h : Own E k w base v L) (hU : CB w U t l) (ht : t ≠ E) : some U ≠ v.ownBlock := by
 rcases h.1.2 with ⟨e, _⟩ | ⟨g, cap, cur, e, _, hg, _⟩
 ·
  rw [e]
  simp [Value.ownBlock]
 ·
  rw [e]
  intro hx
  have hx' : some U = some g := hx
  injection hx' with hx'
  subst hx'
  unfold CB at hU
  rw [hU] at hg
  have := Option.some.inj hg
  injection this with _ h2
  exact ht h2
theorem Own.set_ (h : Own E k w base v L) {g : Nat} (i : Nat) (u : Value) (hne : some g ≠ v.ownBlock) : Own E k (w.setCell ⟨g, i, none⟩ u) base v L := h.kept (grown_set w g i u) (.inr hne.symm)
theorem Own.new_ne (h : Own E k w base v L) : some w.heap.size ≠ v.ownBlock := fun e => by have := (h.lt _ e.symm).2; omega
/-- A block below the row's base is not the row. -/
theorem Own.below_ne {U : Nat} (h : Own E k w base v L) (hU : U < base) : some U ≠ v.ownBlock := fun e => by have := (h.lt U e.symm).1; omega
end
section
variable {P : Program} {w wr : World} {ops : Array Oper} {rest : List Oper} {o : Oper} {a : Act} {Q : Exit → Act → World → Prop}
/-- append(v, x): v the call's own row, x one element in a block of its own; the row may grow. -/
theorem wpList_push {E T : TypeId} {k : Nat} {z : Value} {by_ : Nat} (hgd : o.guard = none) (d x : Operand) (ho : o.op = .call { callee := .builtin .append, args := #[d, x], argTypes := #[T, T] })
  (hT : P.underlying T = some (.slice E)) (hE : (P.info? E).map (fun i => (i.zero, i.size, i.bytes)) = some (some z, k, by_)) (hz : z.cells.size = k) (hk : 0 < k)
  (base : Nat) (v : Value) (L : List (List Value)) (vs : List Value) (N : Nat) (hs : a.eval d = v) (hx : a.eval x = .slice (some ⟨N, 0, none⟩) 1 1) (hN : N = wr.heap.size) (hw : w = wr.alloc (.cells vs.toArray E))
  (hr : Own E k wr base v L) (hvs : vs.length = k) (h1 : ∀ u ∈ vs, u.oneCell' = true) (hroom : L.length + 1 ≤ 1000000000) (hby : by_ ≤ 1000) (hbase : base ≤ wr.heap.size)
  (hK : ∀ A' c' w', Own E k w' base (.slice A' (L ++ [vs]).length c') (L ++ [vs]) → wr.grownBy w' v.ownBlock → Below base wr w' → wpList P ops Q rest (a.put o.dst (.slice A' (L ++ [vs]).length c')) w') : wpList P ops Q (o :: rest) a w := by
 subst hw hN
 obtain ⟨i, hi, hz0, hsz, hb⟩ := info_parts hE
 have hnew := heap_alloc_new wr (.cells vs.toArray E)
 refine wpList_append_own _ hgd d x T ho base E i z k by_ hT hi hz0 hsz hb hz hk v L.length L.flatten hs (World.ownsRow.alloc hr.1 _) ⟨wr.heap.size, 0, none⟩ 1 1 vs hx (by omega) ?_ h1 (by simp only [maxLen]; omega) ?_ (by simp; omega) ?_
 ·
  intro j u hj
  rw [Addr.add_lit, Nat.zero_add, cell_of_row _ wr.heap.size j _ _ (0, 0) hnew]
  simpa using hj
 ·
  exact Nat.le_trans (Nat.mul_le_mul hroom hby) (by decide)
 ·
  intro v' w' g1 g2 _
  have hb : Below base wr w' := ((Below.refl base wr).alloc hbase _).grown g2 (by simp; omega) (fun g hg => (World.ownsRow.lt hr.1 g hg).1)
  have ho' : Own E k w' base v' (L ++ [vs]) := by
   refine ⟨by simpa using g1, fun u hu => ?_⟩
   rcases List.mem_append.1 hu with hu | hu
   ·
    exact hr.2 u hu
   ·
    rw [List.mem_singleton] at hu; rw [hu, hvs]
  obtain ⟨A', c', rfl, _⟩ := ho'.slice
  refine hK A' c' w' ho' ⟨g2.os, g2.tape, g2.output, Nat.le_trans (by simp) g2.size, fun j hj hne => ?_⟩ hb
  exact (g2.block j (by simp; omega) hne).trans (Below.heap_alloc _ _ _ hj)
theorem run_append_none {P : Program} (w : World) (t ty E : TypeId) (i : TypeInfo) (ht : P.underlying t = some (.slice E)) (hi : P.info? E = some i) (g n cap c : Nat) (hn : n ≤ cap) :
  (Builtin.append_ #[t, t] ty #[.slice (some ⟨g, 0, none⟩) n cap, .slice none 0 c]).run P w = .ok (.slice (some ⟨g, 0, none⟩) n cap) w := by
 simp [Builtin.append_, run_underlying ht, sizeOf, typeInfo, hi, Builtin.lenOf, Builtin.firstCells, hn, storeCells]
/-- append(v, x...): v the call's own row, x a row that can be read; it may grow. -/
theorem wpList_cat {w : World} {E T : TypeId} {k : Nat} {z : Value} {by_ : Nat} (hgd : o.guard = none) (d x : Operand) (ho : o.op = .call { callee := .builtin .append, args := #[d, x], argTypes := #[T, T] })
  (hT : P.underlying T = some (.slice E)) (hE : (P.info? E).map (fun i => (i.zero, i.size, i.bytes)) = some (some z, k, by_)) (hz : z.cells.size = k) (hk : 0 < k)
  (base : Nat) (v : Value) (L : List (List Value)) (A : Option Addr) (n c B : Nat) (L2 : List (List Value)) (hs : a.eval d = v) (hx : a.eval x = .slice A n c) (hn : n = L2.length)
  (hr : Own E k w base v L) (h2 : RowAt k w B A L2) (hvs : ∀ vs ∈ L2, vs.length = k) (h1 : ∀ vs ∈ L2, ∀ u ∈ vs, u.oneCell' = true) (hroom : L.length + n ≤ 1000000000) (hby : by_ ≤ 1000) (hbase : base ≤ w.heap.size)
  (hK : ∀ A' c' w', Own E k w' base (.slice A' (L.length + n) c') (L ++ L2) → w.grownBy w' v.ownBlock → Below base w w' → wpList P ops Q rest (a.put o.dst (.slice A' (L.length + n) c')) w') : wpList P ops Q (o :: rest) a w := by
 subst hn
 obtain ⟨i, hi, hz0, hsz, hb⟩ := info_parts hE
 cases A with
 | none =>
  have h0 : L2 = [] := by
   rcases Nat.eq_zero_or_pos L2.length with h0 | h0
   ·
    exact List.eq_nil_of_length_eq_zero h0
   ·
    obtain ⟨b, off, h, _⟩ := h2 h0
    cases h
  subst h0
  obtain ⟨A', c', rfl, _⟩ := hr.slice
  have hrun : (Builtin.append_ #[T, T] o.type #[.slice A' L.length c', .slice none 0 c]).run P w = .ok (.slice A' L.length c') w := by
   rcases hr.shape with ⟨e, rfl⟩ | ⟨g, cap, e, _, _, hcap, _⟩
   ·
    injection e with e1 e2 e3
    subst e1 e3
    simp [Builtin.append_, run_underlying hT, sizeOf, typeInfo, hi, Builtin.lenOf, Builtin.firstCells]
   ·
    injection e with e1 e2 e3
    subst e1 e3
    exact run_append_none w T o.type E i hT hi g L.length c' c hcap
  refine wpList_plain hgd fun K hK' => ?_
  unfold Oper.wp execOp
  simp only [ho, resolve, invoke, builtin, Sem.run_bind, Sem.run_pure, Result.andThen_ok, List.map_toArray, List.map_cons, List.map_nil, hs, hx, List.length_nil, hrun]
  have h := hK A' c' w (by simpa using hr) (World.grownBy.refl _ _) (Below.refl _ _)
  simp only [List.length_nil, Nat.add_zero] at h
  exact hK' _ _ h
 | some ad =>
  refine wpList_append_own _ hgd d x T ho base E i z k by_ hT hi hz0 hsz hb hz hk v L.length L.flatten hs hr.1 ad L2.length c L2.flatten hx (flat_len hvs) ?_ ?_ (by simp only [maxLen]; omega) ?_ hbase ?_
  ·
   intro j u hj
   rcases Nat.eq_zero_or_pos L2.length with h0 | h0
   ·
    rw [List.eq_nil_of_length_eq_zero h0] at hj
    simp at hj
   ·
    obtain ⟨b, off, e, hlt, hc⟩ := h2 h0
    injection e with e
    subst e
    rw [Addr.add_lit]
    have hjl : j < L2.length * k := by rw [← flat_len hvs]; exact (List.getElem?_eq_some_iff.1 hj).1
    have hq : j / k < L2.length := (Nat.div_lt_iff_lt_mul hk).2 hjl
    have hm : j % k < k := Nat.mod_lt _ hk
    have hvl : L2[j / k].length = k := hvs _ (List.getElem_mem hq)
    have hg := flat_get hvs (List.getElem?_eq_getElem hq) (List.getElem?_eq_getElem (l := L2[j / k]) (i := j % k) (by omega))
    have e : j / k * k + j % k = j := by rw [Nat.mul_comm]; exact Nat.div_add_mod j k
    rw [e, hj] at hg
    have hcc := hc (j / k) _ (List.getElem?_eq_getElem hq) (j % k) _ (List.getElem?_eq_getElem (by omega))
    rw [Nat.add_assoc, e] at hcc
    rw [hcc, ← Option.some.inj hg]
  ·
   intro u hu
   obtain ⟨vs, hv, hu'⟩ := List.mem_flatten.1 hu
   exact h1 vs hv u hu'
  ·
   exact Nat.le_trans (Nat.mul_le_mul hroom hby) (by decide)
  ·
   intro v' w' g1 g2 _
   have ho' : Own E k w' base v' (L ++ L2) := by
    refine ⟨by simpa using g1, fun u hu => ?_⟩
    rcases List.mem_append.1 hu with hu | hu
    ·
     exact hr.2 u hu
    ·
     exact hvs u hu
   obtain ⟨A', c', rfl, _⟩ := ho'.slice
   rw [List.length_append] at ho' ⊢
   exact hK A' c' w' ho' g2 ((Below.refl base w).grown g2 hbase (fun g hg => (World.ownsRow.lt hr.1 g hg).1))
end
section
variable {P : Program} {w : World} {ops : Array Oper} {o : Oper} {a : Act} {K : Act → World → Prop} {Q : Exit → Act → World → Prop} {F : Prop}
/-- append(v, x) within a region that draws its order: x one element in a block that is known. -/
theorem step_push {E T : TypeId} {k : Nat} {z : Value} {by_ : Nat} (hgd : o.guard = none) (d x : Operand) (ho : o.op = .call { callee := .builtin .append, args := #[d, x], argTypes := #[T, T] })
  (hT : P.underlying T = some (.slice E)) (hE : (P.info? E).map (fun i => (i.zero, i.size, i.bytes)) = some (some z, k, by_)) (hz : z.cells.size = k) (hk : 0 < k)
  (base : Nat) (v : Value) (L : List (List Value)) (vs : List Value) (g : Nat) (hs : a.eval d = v) (hx : a.eval x = .slice (some ⟨g, 0, none⟩) 1 1)
  (hr : Own E k w base v L) (hg : CB w g E vs) (hvs : vs.length = k) (h1 : ∀ u ∈ vs, u.oneCell' = true) (hroom : L.length + 1 ≤ 1000000000) (hby : by_ ≤ 1000) (hbase : base ≤ w.heap.size)
  (hK : ∀ A' c' w', Own E k w' base (.slice A' (L.length + 1) c') (L ++ [vs]) → w.grownBy w' v.ownBlock → Below base w w' → K (a.put o.dst (.slice A' (L.length + 1) c')) w') : if Region.wanted o (yielded ops a.tmps) = true then Oper.wp P o a w K Q else F := by
 rw [if_pos (by simp [Region.wanted, hgd])]
 obtain ⟨i, hi, hz0, hsz, hb⟩ := info_parts hE
 refine wp_append_own _ d x T ho base E i z k by_ hT hi hz0 hsz hb hz hk v L.length L.flatten hs hr.1 ⟨g, 0, none⟩ 1 1 vs hx (by omega) ?_ h1 (by simp only [maxLen]; omega) ?_ hbase ?_
 ·
  intro j u hj
  rw [Addr.add_lit, Nat.zero_add]
  exact hg.cell j hj
 ·
  exact Nat.le_trans (Nat.mul_le_mul hroom hby) (by decide)
 ·
  intro v' w' g1 g2 _
  have ho' : Own E k w' base v' (L ++ [vs]) := by
   refine ⟨by simpa using g1, fun u hu => ?_⟩
   rcases List.mem_append.1 hu with hu | hu
   ·
    exact hr.2 u hu
   ·
    rw [List.mem_singleton] at hu; rw [hu, hvs]
  obtain ⟨A', c', rfl, _⟩ := ho'.slice
  have e : (L ++ [vs]).length = L.length + 1 := by simp
  rw [e] at ho' ⊢
  exact hK A' c' w' ho' g2 ((Below.refl base w).grown g2 hbase (fun g hg => (World.ownsRow.lt hr.1 g hg).1))
/-- A whole row into a block, within a region that draws its order. -/
theorem step_store_cb (hgd : o.guard = none) (ty : TypeId) (x y : Operand) (ho : o.op = .store ty x y)
  (g : Nat) (l : List Value) (hx : a.eval x = .pointer (some ⟨g, 0, none⟩)) (hy : a.eval y = .agg l.toArray) (t : TypeId) (old : List Value) (n : Nat) (hg : CB w g t old)
  (hi : (P.info? ty).map (·.size) = some n) (hn : old.length = n) (hl : l.length = n) (h1 : ∀ u ∈ l, u.oneCell' = true)
  (h : ∀ w', CB w' g t l → w.grownBy w' (some g) → w'.heap.size = w.heap.size → K (a.put o.dst undef) w') : if Region.wanted o (yielded ops a.tmps) = true then Oper.wp P o a w K Q else F := by
 rw [if_pos (by simp [Region.wanted, hgd])]
 refine wp_store_mid ty x y ho g 0 l.toArray hx hy ?_ (by rw [hi]; simp [hl]) (all_oneCell_toArray h1) ?_
 ·
  intro j hj
  rw [Nat.zero_add, cell_of_row w g j _ t (0, 0) hg, frozen_of_row w g j _ t hg]
  simp at hj ⊢; omega
 ·
  exact h _ (setCells_block hg (by simp [hl, hn])) (setCells_grown g _ _ _) (setCells_size g _ _ _)
end
theorem own_cell {E : TypeId} {k : Nat} {w : World} {base g n c : Nat} {L : List (List Value)} (h : Own E k w base (.slice (some ⟨g, 0, none⟩) n c) L) {j : Nat} (hj : j < L.flatten.length) : w.cell? ⟨g, j, none⟩ = L.flatten[j]? ∧ w.frozen? ⟨g, j, none⟩ = false := by
 rcases h.1.2 with ⟨e, _⟩ | ⟨g', cap, cur, e, _, hg, hn, hm, hs, ht⟩
 ·
  cases e
 ·
  injection e with e1
  injection e1 with e1
  injection e1 with e1
  subst e1
  refine ⟨?_, frozen_of_row w g j cur E hg⟩
  rw [cell_of_row w g j cur E (0, 0) hg, ← ht, List.getElem?_take]
  rw [← ht, List.length_take] at hj
  rw [if_pos (by omega)]
  simp
/-- an element of the call's own row is written -/
theorem own_store {E : TypeId} {k : Nat} {w : World} {base g n c : Nat} {L : List (List Value)} (hk : 0 < k) (h : Own E k w base (.slice (some ⟨g, 0, none⟩) n c) L) {i : Nat} (hi : i < L.length) {vs : List Value} (hv : vs.length = k) :
  Own E k (w.setCells g (i * k) vs) base (.slice (some ⟨g, 0, none⟩) n c) (L.set i vs) := by
 have hlen : ∀ us ∈ L.set i vs, us.length = k := by
  intro us hu
  rcases List.mem_or_eq_of_mem_set hu with h1 | rfl
  ·
   exact h.2 us h1
  ·
   exact hv
 have hfl : (L.set i vs).flatten.length = L.flatten.length := by rw [flat_len hlen, flat_len h.2, List.length_set]
 have hb : ∀ j, j < vs.length → (w.cell? ⟨g, i * k + j, none⟩).isSome = true := fun j hj => by
  have hlt : i * k + j < L.flatten.length := by
   rw [flat_len h.2]
   have := Nat.mul_le_mul_right k (show i + 1 ≤ L.length by omega)
   rw [Nat.add_mul] at this
   omega
  rw [(own_cell h hlt).1, List.getElem?_eq_getElem hlt]
  rfl
 have hc := fun j hj => (own_cell h (j := j) hj).1
 refine ⟨?_, hlen⟩
 rcases h.1.2 with ⟨e, _⟩ | ⟨g', cap, cur, e, hbg, hg, hn, hm, hs, ht⟩
 ·
  cases e
 ·
  injection e with e1 e2 e3
  injection e1 with e1
  injection e1 with e1
  subst e1 e2 e3
  obtain ⟨C, h1, h2⟩ := setCells_some vs (i * k) w cur hg
  refine ⟨by rw [hfl, h.1.1, List.length_set], .inr ⟨g, c, C, by rw [List.length_set], hbg, h1, by rw [List.length_set]; exact hn, hm, by rw [h2]; exact hs, ?_⟩⟩
  rw [List.length_set]
  apply List.ext_getElem?
  intro j
  by_cases hj : j < L.length * k
  ·
   rw [List.getElem?_take, if_pos hj, Array.getElem?_toList, ← cell_of_row _ g j C E (0, 0) h1]
   have hq : j / k < L.length := (Nat.div_lt_iff_lt_mul hk).2 hj
   have hm' : j % k < k := Nat.mod_lt _ hk
   have ej : j / k * k + j % k = j := by rw [Nat.mul_comm]; exact Nat.div_add_mod j k
   by_cases hqi : j / k = i
   ·
    have e1 : (L.set i vs)[j / k]? = some vs := by rw [hqi, List.getElem?_set_self hi]
    have e2 := flat_get hlen e1 (List.getElem?_eq_getElem (l := vs) (i := j % k) (by omega))
    rw [ej] at e2
    rw [e2]
    have e3 := World.cell?_setCells_in g vs (i * k) w hb (j % k) (by omega)
    rw [← hqi, ej] at e3
    rw [← hqi]
    exact e3
   ·
    have e1 : (L.set i vs)[j / k]? = L[j / k]? := List.getElem?_set_ne (fun e => hqi e.symm)
    have hvl : L[j / k].length = k := h.2 _ (List.getElem_mem hq)
    have e2 := flat_get hlen (e1.trans (List.getElem?_eq_getElem hq)) (List.getElem?_eq_getElem (l := L[j / k]) (i := j % k) (by omega))
    have e4 := flat_get h.2 (List.getElem?_eq_getElem hq) (List.getElem?_eq_getElem (l := L[j / k]) (i := j % k) (by omega))
    rw [ej] at e2 e4
    rw [e2, ← e4, ← hc j (by rw [flat_len h.2]; exact hj)]
    refine World.cell?_setCells_out g vs (i * k) w ⟨g, j, none⟩ (fun _ _ => ?_)
    show j < i * k ∨ i * k + vs.length ≤ j
    rw [hv]
    rcases Nat.lt_or_gt_of_ne hqi with hlt | hgt
    ·
     left
     have := Nat.mul_le_mul_right k (show j / k + 1 ≤ i by omega)
     rw [Nat.add_mul] at this
     omega
    ·
     right
     have := Nat.mul_le_mul_right k (show i + 1 ≤ j / k by omega)
     rw [Nat.add_mul] at this
     omega
  ·
   rw [List.getElem?_eq_none (by rw [List.length_take]; omega), List.getElem?_eq_none (by rw [hfl, flat_len h.2]; omega)]
theorem wpList_store_own {P : Program} {w : World} {ops : Array Oper} {rest : List Oper} {o : Oper} {a : Act} {Q : Exit → Act → World → Prop} {E : TypeId} {k : Nat} (hgd : o.guard = none) (ty : TypeId) (x y : Operand) (ho : o.op = .store ty x y)
  (base g n c i q : Nat) (L : List (List Value)) (vs : List Value) (hx : a.eval x = .pointer (some ⟨g, q, none⟩)) (hq : q = i * k) (hy : a.eval y = .agg vs.toArray) (hr : Own E k w base (.slice (some ⟨g, 0, none⟩) n c) L) (hk : 0 < k) (hi : i < L.length) (hv : vs.length = k)
  (hs : (P.info? ty).map (·.size) = some k) (h1 : ∀ u ∈ vs, u.oneCell' = true)
  (h : ∀ w', Own E k w' base (.slice (some ⟨g, 0, none⟩) n c) (L.set i vs) → w.grownBy w' (some g) → w'.heap.size = w.heap.size → wpList P ops Q rest (a.put o.dst undef) w') : wpList P ops Q (o :: rest) a w := by
 subst hq
 refine wpList_store_mid hgd ty x y ho g (i * k) vs.toArray hx hy ?_ (by rw [hs]; simp [hv]) (all_oneCell_toArray h1) ?_
 ·
  intro j hj
  have hlt : i * k + j < L.flatten.length := by
   rw [flat_len hr.2]
   have := Nat.mul_le_mul_right k (show i + 1 ≤ L.length by omega)
   rw [Nat.add_mul] at this
   simp at hj
   omega
  have := own_cell hr hlt
  refine ⟨by rw [this.1, List.getElem?_eq_getElem hlt]; rfl, this.2⟩
 ·
  exact h _ (own_store hk hr hi hv) (setCells_grown g _ _ _) (setCells_size g _ _ _)
theorem own_empty {E : TypeId} {k : Nat} (w : World) (c : Array Value) (hc : c = #[]) : Own E k (w.alloc (.cells c E)) w.heap.size (.slice (some ⟨w.heap.size, 0, none⟩) 0 0) [] := by
 subst hc
 exact ⟨⟨by simp, .inr ⟨w.heap.size, 0, #[], rfl, Nat.le_refl _, heap_alloc_new w _, Nat.le_refl _, by simp [maxLen], by simp, by simp⟩⟩, fun _ h => by simp at h⟩
end Go.Proofs.YtfeemipnalgjnaaGreat
namespace Go.Proofs.YtfeemipnalgjnaaGreat
open Go.RowKit

/-- a field: number, name, type, group -/
structure Fd where
 id : Int
 nm : ByteArray
 ty : Int
 pa : Int
def Fd.cells (f : Fd) : List Value := [.int .i64 f.id, .string f.nm, .int .i64 f.ty, .int .i64 f.pa]
abbrev Fd.val (f : Fd) : Value := .agg #[.int .i64 f.id, .string f.nm, .int .i64 f.ty, .int .i64 f.pa]
def Fd.zero : Fd := ⟨0, ⟨#[]⟩, 0, 0⟩
/-- a schema: its fields and the next number -/
structure Sc where
 fs : List Fd
 next : Int
def Sc.zero : Sc := ⟨[], 0⟩
/-- a change -/
structure Ch where
 kind : Int
 id : Int
 wi : Int
 nm : ByteArray
 ot : ByteArray
 ty : Int
 pa : Int
 sep : ByteArray
def Ch.cells (c : Ch) : List Value := [.int .i64 c.kind, .int .i64 c.id, .int .i64 c.wi, .string c.nm, .string c.ot, .int .i64 c.ty, .int .i64 c.pa, .string c.sep]
abbrev Ch.val (c : Ch) : Value := .agg #[.int .i64 c.kind, .int .i64 c.id, .int .i64 c.wi, .string c.nm, .string c.ot, .int .i64 c.ty, .int .i64 c.pa, .string c.sep]

/-- The fields l can be read at address A. -/
def Fds (w : World) (B : Nat) (A : Option Addr) (l : List Fd) : Prop := RowAt 4 w B A (l.map Fd.cells)
def Chs (w : World) (B : Nat) (A : Option Addr) (l : List Ch) : Prop := RowAt 8 w B A (l.map Ch.cells)
section
variable {w w' : World} {B B' : Nat} {A : Option Addr} {l : List Fd} {f : Fd} {m : List Ch} {c : Ch}
theorem Fds.nil : Fds w B A [] := RowAt.nil
theorem Fds.below (h : Fds w B A l) (hb : Below B w w') : Fds w' B A l := RowAt.below h hb
theorem Fds.more (h : Fds w B A l) (hB : B ≤ B') : Fds w B' A l := RowAt.more h hB
theorem Fds.up (h : Fds w w.heap.size A l) (hb : Below w.heap.size w w') : Fds w' w'.heap.size A l := RowAt.up h hb
theorem Fds.take (h : Fds w B A l) (n : Nat) : Fds w B A (l.take n) := by
 unfold Fds
 rw [List.map_take]
 exact RowAt.take h n
theorem Fds.one (h : Fds w B A l) {i : Nat} (hi : l[i]? = some f) : ∃ b off, A = some ⟨b, off, none⟩ ∧ b < B ∧ w.cell? ⟨b, off + i * 4, none⟩ = some (.int .i64 f.id) ∧ w.cell? ⟨b, off + i * 4 + 1, none⟩ = some (.string f.nm) ∧
  w.cell? ⟨b, off + i * 4 + 2, none⟩ = some (.int .i64 f.ty) ∧ w.cell? ⟨b, off + i * 4 + 3, none⟩ = some (.int .i64 f.pa) := by
 obtain ⟨b, off, e, hlt, hc⟩ := RowAt.one h (vs := f.cells) (i := i) (by rw [List.getElem?_map, hi]; rfl)
 exact ⟨b, off, e, hlt, hc 0 _ rfl, hc 1 _ rfl, hc 2 _ rfl, hc 3 _ rfl⟩
theorem Chs.below (h : Chs w B A m) (hb : Below B w w') : Chs w' B A m := RowAt.below h hb
theorem Chs.up (h : Chs w w.heap.size A m) (hb : Below w.heap.size w w') : Chs w' w'.heap.size A m := RowAt.up h hb
theorem Chs.take (h : Chs w B A m) (n : Nat) : Chs w B A (m.take n) := by
 unfold Chs
 rw [List.map_take]
 exact RowAt.take h n
theorem Chs.one (h : Chs w B A m) {i : Nat} (hi : m[i]? = some c) : ∃ b off, A = some ⟨b, off, none⟩ ∧ b < B ∧ w.cell? ⟨b, off + i * 8, none⟩ = some (.int .i64 c.kind) ∧ w.cell? ⟨b, off + i * 8 + 1, none⟩ = some (.int .i64 c.id) ∧
  w.cell? ⟨b, off + i * 8 + 2, none⟩ = some (.int .i64 c.wi) ∧ w.cell? ⟨b, off + i * 8 + 3, none⟩ = some (.string c.nm) ∧ w.cell? ⟨b, off + i * 8 + 4, none⟩ = some (.string c.ot) ∧ w.cell? ⟨b, off + i * 8 + 5, none⟩ = some (.int .i64 c.ty) ∧
  w.cell? ⟨b, off + i * 8 + 6, none⟩ = some (.int .i64 c.pa) ∧ w.cell? ⟨b, off + i * 8 + 7, none⟩ = some (.string c.sep) := by
 obtain ⟨b, off, e, hlt, hc⟩ := RowAt.one h (vs := c.cells) (i := i) (by rw [List.getElem?_map, hi]; rfl)
 exact ⟨b, off, e, hlt, hc 0 _ rfl, hc 1 _ rfl, hc 2 _ rfl, hc 3 _ rfl, hc 4 _ rfl, hc 5 _ rfl, hc 6 _ rfl, hc 7 _ rfl⟩
end

/-- the field with a number -/
def field : List Fd → Int → Option Fd
 | [], _ => none
 | f :: r, i => if f.id = i then some f else field r i
def fieldD (l : List Fd) (i : Int) : Fd := (field l i).getD Fd.zero
def hasF (l : List Fd) (i : Int) : Bool := (field l i).isSome
theorem field_mem : ∀ {l : List Fd} {i : Int} {f : Fd}, field l i = some f → f ∈ l ∧ f.id = i
 | [], _, _, h => by simp [field] at h
 | g :: r, i, f, h => by
  unfold field at h
  split at h
  ·
   next hg => cases h; exact ⟨by simp, hg⟩
  ·
   have := field_mem h; exact ⟨by simp [this.1], this.2⟩
theorem field_none : ∀ {l : List Fd} {i : Int}, field l i = none ↔ ∀ f ∈ l, f.id ≠ i
 | [], _ => by simp [field]
 | g :: r, i => by
  unfold field
  split
  ·
   next hg => simp [hg]
  ·
   next hg => rw [field_none]; simp [hg]
theorem drop_cons {α : Type} {l : List α} {k : Nat} {x : α} (h : l[k]? = some x) : l.drop k = x :: l.drop (k + 1) := by
 obtain ⟨hl, e⟩ := List.getElem?_eq_some_iff.1 h
 rw [List.drop_eq_getElem_cons hl, e]
theorem getD_of {l : List Fd} {k : Nat} (h : k < l.length) : ∃ f, l[k]? = some f := ⟨l[k], List.getElem?_eq_getElem h⟩

theorem infoF : (Tryz.prog.info? 58).map (fun i => (i.zero, i.size, i.bytes)) = some (some (.agg #[.int .i64 0, .string ⟨#[]⟩, .int .i64 0, .int .i64 0]), 4, 40) := by kernel_rfl
theorem sizeF : (Tryz.prog.info? 58).map (·.size) = some 4 := by kernel_rfl
theorem sizeS : (Tryz.prog.info? 35).map (·.size) = some 2 := by kernel_rfl
theorem one_f (f : Fd) : ∀ u ∈ f.cells, u.oneCell' = true := by
 intro u hu
 simp only [Fd.cells, List.mem_cons, List.not_mem_nil, or_false] at hu
 rcases hu with rfl | rfl | rfl | rfl <;> rfl
theorem one_f' (a : Int) (s : ByteArray) (b c : Int) : ∀ u ∈ [Value.int .i64 a, .string s, .int .i64 b, .int .i64 c], u.oneCell' = true := one_f ⟨a, s, b, c⟩
theorem one_s (A : Option Addr) (n c : Nat) (x : Int) : ∀ u ∈ [Value.slice A n c, .int .i64 x], u.oneCell' = true := by
 intro u hu
 simp only [List.mem_cons, List.not_mem_nil, or_false] at hu
 rcases hu with rfl | rfl <;> rfl
/-- append(v, f): v the call's own row of fields. -/
theorem push_fd {w wr : World} {ops : Array Oper} {rest : List Oper} {o : Oper} {a : Act} {Q : Exit → Act → World → Prop} (hgd : o.guard = none) (d x : Operand)
  (ho : o.op = .call { callee := .builtin .append, args := #[d, x], argTypes := #[33, 33] }) (base : Nat) (v : Value) (acc : List Fd) (f : Fd) (N : Nat) (hs : a.eval d = v) (hx : a.eval x = .slice (some ⟨N, 0, none⟩) 1 1)
  (hN : N = wr.heap.size) (hw : w = wr.alloc (.cells #[.int .i64 f.id, .string f.nm, .int .i64 f.ty, .int .i64 f.pa] 58)) (hr : Own 58 4 wr base v (acc.map Fd.cells)) (hroom : acc.length ≤ 1000000) (hbase : base ≤ wr.heap.size)
  (hK : ∀ A' c' w', Own 58 4 w' base (.slice A' (acc.length + 1) c') ((acc ++ [f]).map Fd.cells) → wr.grownBy w' v.ownBlock → Below base wr w' → wpList Tryz.prog ops Q rest (a.put o.dst (.slice A' (acc.length + 1) c')) w') : wpList Tryz.prog ops Q (o :: rest) a w := by
 refine wpList_push hgd d x ho Tryz.underlying33 infoF rfl (by decide) base v (acc.map Fd.cells) f.cells N hs hx hN hw hr rfl (one_f f) (by simp; omega) (by decide) hbase ?_
 intro A' c' w' h1 h2 h3
 have e : (acc.map Fd.cells ++ [f.cells]).length = acc.length + 1 := by simp
 rw [e] at h1 ⊢
 exact hK A' c' w' (by simpa using h1) h2 h3
end Go.Proofs.YtfeemipnalgjnaaGreat
namespace Go.Proofs.YtfeemipnalgjnaaGreat
open Go.RowKit

/-- a result that lies in a block, and a bool -/
theorem res_cell {fn : Func} {p u : Tmp} {ty T : TypeId} {tmps : Array Value} {P : Program} {w : World} {g : Nat} {l : List Value} {fs : Array Go.Field} {n : Nat} {x : Value} (h : fn.results = #[.cell p ty, .tmp u]) (hp : tmps.getD p undef = .pointer (some ⟨g, 0, none⟩)) (hx : tmps.getD u undef = x)
  (hg : CB w g T l) (hu : P.underlying ty = some (.struct fs)) (hi : (P.info? ty).map (·.size) = some n) (hl : l.length = n) :
  (results fn tmps).run P w = .ok (.tuple #[.agg l.toArray, x]) w := by
 rw [results_cell_tmp h, hp, hx]
 simp [asAddr, run_loadVar_row _ _ _ _ _ (0, 0) _ hg hu rfl (by rw [hi]; simp [hl])]
theorem res_cell1 {fn : Func} {p : Tmp} {ty T : TypeId} {tmps : Array Value} {P : Program} {w : World} {g : Nat} {l : List Value} {fs : Array Go.Field} {n : Nat} (h : fn.results = #[.cell p ty]) (hp : tmps.getD p undef = .pointer (some ⟨g, 0, none⟩))
  (hg : CB w g T l) (hu : P.underlying ty = some (.struct fs)) (hi : (P.info? ty).map (·.size) = some n) (hl : l.length = n) :
  (results fn tmps).run P w = .ok (.agg l.toArray) w := by
 rw [Array.getD_eq_getD_getElem?] at hp
 simp only [results, h]
 simp [hp, asAddr, run_loadVar_row _ _ _ _ _ (0, 0) _ hg hu rfl (by rw [hi]; simp [hl])]

theorem fld_fin {l : List Fd} {k : Nat} {i : Int} {f : Fd} (hd : l.drop k = f :: l.drop (k + 1)) (hgo : field (l.drop k) i = field l i) (hf : f.id = i) : field l i = some f := by
 rw [← hgo, hd, field, if_pos hf]
theorem fld_go {l : List Fd} {k : Nat} {i : Int} {f : Fd} (hd : l.drop k = f :: l.drop (k + 1)) (hgo : field (l.drop k) i = field l i) (hf : ¬ f.id = i) : field (l.drop (k + 1)) i = field l i := by
 rw [← hgo, hd, field, if_neg hf]
theorem fld_end {l : List Fd} {k : Nat} {i : Int} (hk : l.length ≤ k) (hgo : field (l.drop k) i = field l i) : field l i = none := by
 rw [← hgo, List.drop_of_length_le hk, field]
theorem fld_some {l : List Fd} {i : Int} {f : Fd} (h : field l i = some f) : (Ending.returned (.tuple #[.agg f.cells.toArray, .bool true])) = .returned (.tuple #[(fieldD l i).val, .bool (hasF l i)]) := by
 unfold fieldD hasF
 rw [h]
 rfl
theorem fld_none {l : List Fd} {i : Int} (h : field l i = none) : (Ending.returned (.tuple #[.agg Fd.zero.cells.toArray, .bool false])) = .returned (.tuple #[(fieldD l i).val, .bool (hasF l i)]) := by
 unfold fieldD hasF
 rw [h]
 rfl

set_option maxHeartbeats 1000000 in
set_option maxRecDepth 20000 in
theorem Field_any (A : Option Addr) (n c : Nat) (x : Int) (l : List Fd) (i : Int) (w : World) (hn : n = l.length) (hs : Fds w w.heap.size A l) (hl : n ≤ 9223372036854775807) :
  Calls Tryz.prog 72 #[.agg #[.slice A n c, .int .i64 x], .int .i64 i] w fun e w' => e = .returned (.tuple #[(fieldD l i).val, .bool (hasF l i)]) ∧ Below w.heap.size w w' := by
 have HN := Lib.hid hn
 have HS := Lib.hid hs
 clear hn hs
 go_enter Tryz.func72, Tryz.ntmps72
 go_wp2
 go_loopw [11] (fun j wr => ∃ k : Nat, k ≤ n ∧ j = .int .i64 k ∧ Hid (CB wr (w.heap.size + 1) 58 Fd.zero.cells) ∧ Hid (Below w.heap.size w wr) ∧ Hid (field (l.drop k) i = field l i)) (fun j _ => n - (intOf j).toNat)
 case atStart => exact ⟨0, by omega, rfl, CB.new1 w _ 58 Fd.zero.cells, al2 _ _ _, rfl⟩
 case round =>
  obtain ⟨k, hk, rfl, hcb, hbel, hgo⟩ := hrel
  by_cases hlt : k < n
  ·
   have i1 : (k : Int) < (n : Int) := by omega
   obtain ⟨f, hf⟩ := getD_of (l := l) (k := k) (by rw [← HN.out]; exact hlt)
   obtain ⟨b, off, rfl, hb, c0, c1, c2, c3⟩ := (HS.out.below hbel.out).one hf
   have hd := Lib.hid (drop_cons hf)
   have hsz : w.heap.size + 1 < wr.heap.size := hcb.out.lt
   by_cases he : f.id = i
   ·
    have e1 : (f.id == i) = true := by simpa using he
    have HE := Lib.hid he
    clear he hf
    go_wp2_with ((with_reducible show wpList _ _ _ _ _ _); refine wpList_store_cb rfl 58 (.tmp 4) (.tmp 19) rfl (w.heap.size + 1) f.cells rfl rfl 58 Fd.zero.cells 4 (hcb.out.alloc _) sizeF rfl rfl (one_f f) ?_; intro w1 hc1 hg1 hz1)
    refine bodyPost_ret (res_cell Tryz.results72 rfl rfl hc1 Tryz.underlying58 sizeF rfl) rfl ⟨fld_some (fld_fin hd.out hgo.out HE.out), ?_⟩
    exact below_grown (hbel.out.alloc (by omega) _) hg1 (by simp; omega) (by omega)
   ·
    have e1 : (f.id == i) = false := by simpa using he
    have HE := Lib.hid he
    clear he hf
    go_wp2
    go_roundw
    case rel => exact ⟨k + 1, by omega, by go_num, hcb.out.alloc _, hbel.out.alloc (by omega) _, fld_go hd.out hgo.out HE.out⟩
    case measure => simp [intOf]; omega
  ·
   have i1 : ¬ (k : Int) < (n : Int) := by omega
   have hsz : w.heap.size + 1 < wr.heap.size := hcb.out.lt
   go_wp2_with ((with_reducible show wpList _ _ _ _ _ _); refine wpList_store_cb rfl 58 (.tmp 4) (.tmp 21) rfl (w.heap.size + 1) Fd.zero.cells rfl rfl 58 Fd.zero.cells 4 hcb.out sizeF rfl rfl (one_f Fd.zero) ?_; intro w1 hc1 hg1 hz1)
   refine bodyPost_ret (res_cell Tryz.results72 rfl rfl hc1 Tryz.underlying58 sizeF rfl) rfl ⟨fld_none (fld_end (by rw [← HN.out]; omega) hgo.out), ?_⟩
   exact below_grown hbel.out hg1 (by omega) (by omega)
end Go.Proofs.YtfeemipnalgjnaaGreat
namespace Go.Proofs.YtfeemipnalgjnaaGreat
open Go.RowKit

/-- the first field with a number, a group unless it is the first one on the way -/
def fieldG (fi : Bool) : List Fd → Int → Option Fd
 | [], _ => none
 | f :: r, i => if f.id = i ∧ (fi = true ∨ f.ty = 6) then some f else fieldG fi r i
/-- a field and the groups around it, from the inside out, and what is left to find -/
def anc (l : List Fd) : Nat → Bool → Int → List Fd × Int
 | 0, _, i => ([], i)
 | m + 1, fi, i => if i = 0 then ([], i) else match fieldG fi l i with
  | none => ([], i)
  | some f => (f :: (anc l m false f.pa).1, (anc l m false f.pa).2)

theorem anc_zero (l : List Fd) (m : Nat) (fi : Bool) : anc l m fi 0 = ([], 0) := by cases m <;> simp [anc]
theorem anc_none {l : List Fd} {m : Nat} {fi : Bool} {i : Int} (h : fieldG fi l i = none) : anc l m fi i = ([], i) := by
 cases m with
 | zero => rfl
 | succ m =>
  unfold anc
  rw [h]
  split <;> rfl
theorem anc_some {l : List Fd} {m : Nat} {fi : Bool} {i : Int} {f : Fd} (hi : ¬ i = 0) (h : fieldG fi l i = some f) : anc l (m + 1) fi i = (f :: (anc l m false f.pa).1, (anc l m false f.pa).2) := by
 rw [anc, if_neg hi, h]
theorem fldG_yes {l : List Fd} {k : Nat} {i : Int} {f : Fd} {fi : Bool} (hd : l.drop k = f :: l.drop (k + 1)) (hgo : fieldG fi (l.drop k) i = fieldG fi l i) (hf : f.id = i ∧ (fi = true ∨ f.ty = 6)) : fieldG fi l i = some f := by
 rw [← hgo, hd, fieldG, if_pos hf]
theorem fldG_go {l : List Fd} {k : Nat} {i : Int} {f : Fd} {fi : Bool} (hd : l.drop k = f :: l.drop (k + 1)) (hgo : fieldG fi (l.drop k) i = fieldG fi l i) (hf : ¬ (f.id = i ∧ (fi = true ∨ f.ty = 6))) : fieldG fi (l.drop (k + 1)) i = fieldG fi l i := by
 rw [← hgo, hd, fieldG, if_neg hf]
theorem fldG_end {l : List Fd} {k : Nat} {i : Int} {fi : Bool} (hk : l.length ≤ k) (hgo : fieldG fi (l.drop k) i = fieldG fi l i) : fieldG fi l i = none := by
 rw [← hgo, List.drop_of_length_le hk, fieldG]
/-- what holds at the head of the climb -/
structure Climb (w wr : World) (l : List Fd) (i : Int) (g : Nat) (v : Value) (id : Int) (acc : List Fd) : Prop where
 own : Own 58 4 wr w.heap.size v (acc.map Fd.cells)
 len : acc.length + g = 8
 bel : Below w.heap.size w wr
 sz : w.heap.size ≤ wr.heap.size
 eq : anc l 8 true i = (acc ++ (anc l g (acc.length == 0) id).1, (anc l g (acc.length == 0) id).2)
theorem climb_done {w wr : World} {l : List Fd} {i : Int} {g : Nat} {A : Option Addr} {n c : Nat} {id : Int} {acc : List Fd} {z : Bool} (h : Climb w wr l i g (.slice A n c) id acc) (he : anc l g (acc.length == 0) id = ([], id)) (hz : decide (id = 0) = z) :
  (∃ A' c', Ending.returned (.tuple #[.slice A n c, .bool z]) = .returned (.tuple #[.slice A' (anc l 8 true i).1.length c', .bool (decide ((anc l 8 true i).2 = 0))]) ∧ Own 58 4 wr w.heap.size (.slice A' (anc l 8 true i).1.length c') ((anc l 8 true i).1.map Fd.cells)) ∧ Below w.heap.size w wr := by
 have e := h.eq
 rw [he, List.append_nil] at e
 obtain ⟨h1, h2, h3, h4⟩ := h.own.row
 refine ⟨⟨A, c, ?_, ?_⟩, h.bel⟩
 ·
  rw [e, ← hz, h1, List.length_map]
 ·
  have ho := h.own
  rw [h1, List.length_map] at ho
  rw [e]
  exact ho
theorem climb_step {w wr w1 : World} {l : List Fd} {i : Int} {g : Nat} {v : Value} {id : Int} {acc : List Fd} {f : Fd} {A : Option Addr} {c : Nat} (h : Climb w wr l i (g + 1) v id acc) (hi : ¬ id = 0) (hf : fieldG (acc.length == 0) l id = some f)
  (ho : Own 58 4 w1 w.heap.size (.slice A (acc.length + 1) c) ((acc ++ [f]).map Fd.cells)) (hb : Below w.heap.size w w1) (hz : w.heap.size ≤ w1.heap.size) : Climb w w1 l i g (.slice A (acc.length + 1) c) f.pa (acc ++ [f]) := by
 refine ⟨ho, by have := h.len; simp; omega, hb, hz, ?_⟩
 rw [h.eq, anc_some hi hf, show ((acc ++ [f]).length == 0) = false by simp]
 simp

set_option maxHeartbeats 4000000 in
set_option maxRecDepth 20000 in
theorem ancestry_any (A : Option Addr) (n c : Nat) (l : List Fd) (i : Int) (w : World) (hn : n = l.length) (hs : Fds w w.heap.size A l) (hl : n ≤ 9223372036854775807) :
  Calls Tryz.prog 101 #[.slice A n c, .int .i64 i] w fun e w' => (∃ A' c', e = .returned (.tuple #[.slice A' (anc l 8 true i).1.length c', .bool (decide ((anc l 8 true i).2 = 0))]) ∧ Own 58 4 w' w.heap.size (.slice A' (anc l 8 true i).1.length c') ((anc l 8 true i).1.map Fd.cells)) ∧ Below w.heap.size w w' := by
 have HN := Lib.hid hn
 have HS := Lib.hid hs
 clear hn hs
 go_enter Tryz.func101, Tryz.ntmps101
 go_wp2
 go_step3
 go_wp2
 go_step3
 go_wp2
 go_loopg [1, 6] 8 (fun g s1 s6 wx => ∃ (id : Int) (acc : List Fd), s1 = .int .i64 id ∧ Hid (Climb w wx l i g s6 id acc))
 case atStart => exact ⟨i, [], rfl, ⟨Own.nil _ _ _ _, rfl, Below.refl _ _, Nat.le_refl _, by simp⟩⟩
 case round =>
  obtain ⟨id, acc, rfl, HI⟩ := hrel
  obtain ⟨A6, c6, hv6, hlc, hc6⟩ := HI.out.own.slice
  subst hv6
  rw [List.length_map] at hlc HI ⊢
  have hlen := HI.out.len
  by_cases h0 : id = 0
  ·
   subst h0
   go_wp2
   try rw [Exit.noGoto_ret]
   go_ret2
   exact climb_done HI.out (anc_zero _ _ _) rfl
  ·
   have e0 : (id == 0) = false := by simpa using h0
   have H0 := Lib.hid h0
   clear h0
   cases gk with
   | zero =>
    have e1 : ¬ ((acc.length : Int) < 8) := by omega
    go_wp2
    try rw [Exit.noGoto_ret]
    go_ret2
    exact climb_done HI.out rfl (by simpa using H0.out)
   | succ g =>
    have e1 : ((acc.length : Int) < 8) := by omega
    have hsz0 := HI.out.sz
    go_wp2
    go_loopg [1, 6, 18] n (fun g2 s1 s6 s18 wy => ∃ j : Nat, j + g2 = n ∧ s1 = .int .i64 id ∧ s6 = .slice A6 acc.length c6 ∧ s18 = .int .i64 j ∧ Hid (Climb w wy l i (g + 1) (.slice A6 acc.length c6) id acc) ∧ Hid (fieldG (acc.length == 0) (l.drop j) id = fieldG (acc.length == 0) l id))
    case atStart => exact ⟨0, by omega, rfl, rfl, rfl, HI.out, rfl⟩
    case round =>
     obtain ⟨j, hjg, rfl, rfl, rfl, HJ, HG⟩ := hrel
     cases gk with
     | zero =>
      have hjz : ¬ ((j : Int) < (n : Int)) := by omega
      go_wp2
      try rw [Exit.noGoto_ret]
      go_ret2
      exact climb_done HJ.out (anc_none (fldG_end (by rw [← HN.out]; omega) HG.out)) (by simpa using H0.out)
     | succ g2 =>
      have hjz : ((j : Int) < (n : Int)) := by omega
      obtain ⟨f, hf⟩ := getD_of (l := l) (k := j) (by rw [← HN.out]; omega)
      obtain ⟨b, off, rfl, hb, c0, c1, c2, c3⟩ := (HS.out.below HJ.out.bel).one hf
      have HD := Lib.hid (drop_cons hf)
      have hsz := HJ.out.sz
      by_cases he : f.id = id
      ·
       have e2 : (f.id == id) = true := by simpa using he
       by_cases h1 : acc.length = 0
       ·
        have e3 : ((acc.length : Int) == 0) = true := by simp [h1]
        have HE : Hid (f.id = id ∧ ((acc.length == 0) = true ∨ f.ty = 6)) := ⟨he, .inl (by simpa using h1)⟩
        clear he h1 hf
        go_wp2_with (at_builtin; refine push_fd (wr := wr.alloc (.cells #[.int .i64 f.id, .string f.nm, .int .i64 f.ty, .int .i64 f.pa] 58)) rfl (.tmp 36) (.tmp 38) rfl w.heap.size (.slice A6 acc.length c6) acc f (wr.heap.size + 1) rfl rfl (asz _ _).symm rfl (HJ.out.own.alloc _) (by omega) (by rw [asz]; omega) ?_; intro A7 c7 w7 ho7 hg7 hb7; have HO7 := Lib.hid ho7; have HB7 := Lib.hid hb7; have HZ7 := Lib.hid hg7.size; have hp7 := ((CB.new wr 58 f.cells).grown hg7 HJ.out.own.new_ne).cell 3 rfl; clear ho7 hb7 hg7)
        go_roundg g
        case measure => omega
        case rel => exact ⟨f.pa, acc ++ [f], rfl, climb_step HJ.out H0.out (fldG_yes HD.out HG.out HE.out) HO7.out ((HJ.out.bel.alloc HJ.out.sz _).trans HB7.out) (by have := HZ7.out; rw [asz] at this; omega)⟩
       ·
        have e3 : ((acc.length : Int) == 0) = false := by simpa using h1
        by_cases ht : f.ty = 6
        ·
         have e4 : (f.ty == 6) = true := by simpa using ht
         have HE : Hid (f.id = id ∧ ((acc.length == 0) = true ∨ f.ty = 6)) := ⟨he, .inr ht⟩
         clear he h1 ht hf
         go_wp2_with (at_builtin; refine push_fd (wr := wr.alloc (.cells #[.int .i64 f.id, .string f.nm, .int .i64 f.ty, .int .i64 f.pa] 58)) rfl (.tmp 36) (.tmp 38) rfl w.heap.size (.slice A6 acc.length c6) acc f (wr.heap.size + 1) rfl rfl (asz _ _).symm rfl (HJ.out.own.alloc _) (by omega) (by rw [asz]; omega) ?_; intro A7 c7 w7 ho7 hg7 hb7; have HO7 := Lib.hid ho7; have HB7 := Lib.hid hb7; have HZ7 := Lib.hid hg7.size; have hp7 := ((CB.new wr 58 f.cells).grown hg7 HJ.out.own.new_ne).cell 3 rfl; clear ho7 hb7 hg7)
         go_roundg g
         case measure => omega
         case rel => exact ⟨f.pa, acc ++ [f], rfl, climb_step HJ.out H0.out (fldG_yes HD.out HG.out HE.out) HO7.out ((HJ.out.bel.alloc HJ.out.sz _).trans HB7.out) (by have := HZ7.out; rw [asz] at this; omega)⟩
        ·
         have e4 : (f.ty == 6) = false := by simpa using ht
         have HE : Hid (¬ (f.id = id ∧ ((acc.length == 0) = true ∨ f.ty = 6))) := fun h => by rcases h.2 with h | h; exact h1 (by simpa using h); exact ht h
         clear he h1 ht hf
         go_wp2
         go_roundg g2
         case measure => omega
         case rel => exact ⟨j + 1, by omega, rfl, rfl, by go_num, ⟨HJ.out.own.alloc _, HJ.out.len, HJ.out.bel.alloc HJ.out.sz _, by simp; omega, HJ.out.eq⟩, fldG_go HD.out HG.out HE.out⟩
      ·
       have e2 : (f.id == id) = false := by simpa using he
       have HE : Hid (¬ (f.id = id ∧ ((acc.length == 0) = true ∨ f.ty = 6))) := fun h => he h.1
       clear he hf
       go_wp2
       go_roundg g2
       case measure => omega
       case rel => exact ⟨j + 1, by omega, rfl, rfl, by go_num, ⟨HJ.out.own.alloc _, HJ.out.len, HJ.out.bel.alloc HJ.out.sz _, by simp; omega, HJ.out.eq⟩, fldG_go HD.out HG.out HE.out⟩
end Go.Proofs.YtfeemipnalgjnaaGreat
namespace Go.Proofs.YtfeemipnalgjnaaGreat
open Go.RowKit

def typB (t : Int) : Bool := decide (1 ≤ t ∧ t ≤ 6)
def sepB (s : ByteArray) : Bool := decide (1 ≤ s.size ∧ s.size ≤ 16)
def okC (c : UInt8) : Bool := decide ((97 ≤ c.toNat ∧ c.toNat ≤ 122) ∨ (48 ≤ c.toNat ∧ c.toNat ≤ 57) ∨ c.toNat = 95)
def namB (s : ByteArray) : Bool := decide (1 ≤ s.size ∧ s.size ≤ 32) && s.data.toList.all okC
def limB (s : Sc) : Bool := decide (s.fs.length ≤ 64 ∧ s.next ≤ 1073741824)

theorem schType_any (t : Int) (z : Bool) (w : World) (hz : typB t = z) : Calls Tryz.prog 106 #[.int .i64 t] w fun e w' => e = .returned (.bool z) ∧ w' = w := by
 unfold typB at hz
 by_cases h1 : 1 ≤ t
 ·
  by_cases h2 : t ≤ 6
  ·
   obtain rfl : z = true := by rw [← hz]; simp; omega
   clear hz
   go_enter Tryz.func106, Tryz.ntmps106
   go_wp2
   go_ret
   exact ⟨rfl, rfl⟩
  ·
   obtain rfl : z = false := by rw [← hz]; simp; omega
   clear hz
   go_enter Tryz.func106, Tryz.ntmps106
   go_wp2
   go_ret
   exact ⟨rfl, rfl⟩
 ·
  obtain rfl : z = false := by rw [← hz]; simp; omega
  clear hz
  go_enter Tryz.func106, Tryz.ntmps106
  go_wp2
  go_ret
  exact ⟨rfl, rfl⟩
theorem isSep_any (s : ByteArray) (z : Bool) (w : World) (hz : sepB s = z) (hs : s.size ≤ 9223372036854775807) : Calls Tryz.prog 110 #[.string s] w fun e w' => e = .returned (.bool z) ∧ w' = w := by
 unfold sepB at hz
 by_cases h1 : 1 ≤ s.size
 ·
  by_cases h2 : s.size ≤ 16
  ·
   obtain rfl : z = true := by rw [← hz]; simp; omega
   clear hz
   have i1 : (1 : Int) ≤ (s.size : Int) := by omega
   have i2 : (s.size : Int) ≤ 16 := by omega
   go_enter Tryz.func110, Tryz.ntmps110
   go_wp2
   go_ret
   exact ⟨rfl, rfl⟩
  ·
   obtain rfl : z = false := by rw [← hz]; simp; omega
   clear hz
   have i1 : (1 : Int) ≤ (s.size : Int) := by omega
   have i2 : ¬ (s.size : Int) ≤ 16 := by omega
   go_enter Tryz.func110, Tryz.ntmps110
   go_wp2
   go_ret
   exact ⟨rfl, rfl⟩
 ·
  obtain rfl : z = false := by rw [← hz]; simp; omega
  clear hz
  have i1 : ¬ (1 : Int) ≤ (s.size : Int) := by omega
  go_enter Tryz.func110, Tryz.ntmps110
  go_wp2
  go_ret
  exact ⟨rfl, rfl⟩
theorem limited_any (A : Option Addr) (n c : Nat) (x : Int) (z : Bool) (w : World) (hz : decide (n ≤ 64 ∧ x ≤ 1073741824) = z) (hn : n ≤ 9223372036854775807) : Calls Tryz.prog 83 #[.agg #[.slice A n c, .int .i64 x]] w fun e w' => e = .returned (.bool z) ∧ Below w.heap.size w w' := by
 by_cases h1 : n ≤ 64
 ·
  by_cases h2 : x ≤ 1073741824
  ·
   obtain rfl : z = true := by rw [← hz]; simp; omega
   clear hz
   have i1 : (n : Int) ≤ 64 := by omega
   go_enter Tryz.func83, Tryz.ntmps83
   go_wp2
   go_ret
   exact ⟨rfl, al1 _ _⟩
  ·
   obtain rfl : z = false := by rw [← hz]; simp; omega
   clear hz
   have i1 : (n : Int) ≤ 64 := by omega
   go_enter Tryz.func83, Tryz.ntmps83
   go_wp2
   go_ret
   exact ⟨rfl, al1 _ _⟩
 ·
  obtain rfl : z = false := by rw [← hz]; simp; omega
  clear hz
  have i1 : ¬ (n : Int) ≤ 64 := by omega
  go_enter Tryz.func83, Tryz.ntmps83
  go_wp2
  go_ret
  exact ⟨rfl, al1 _ _⟩
theorem New_any (w : World) : Calls Tryz.prog 74 #[] w fun e w' => e = .returned (.agg #[.slice none 0 0, .int .i64 1]) ∧ Below w.heap.size w w' := by
 go_enter Tryz.func74, Tryz.ntmps74
 go_wp2
 refine bodyPost_ret (v := .agg #[.slice none 0 0, .int .i64 1]) (by simp [results, Tryz.results74, go_sem]) rfl ⟨rfl, ?_⟩
 exact al1 _ _

theorem nam_drop {s : ByteArray} {k : Nat} (hk : k < s.size) : s.data.toList.drop k = s[k] :: s.data.toList.drop (k + 1) := by
 rw [List.drop_eq_getElem_cons (by simpa using hk)]
 rfl
theorem all_step {l : List UInt8} {k : Nat} {c : UInt8} (hd : l.drop k = c :: l.drop (k + 1)) (h : (l.drop k).all okC = l.all okC) (hc : okC c = true) : (l.drop (k + 1)).all okC = l.all okC := by
 rw [← h, hd, List.all_cons, hc, Bool.true_and]
theorem all_stop {l : List UInt8} {k : Nat} {c : UInt8} (hd : l.drop k = c :: l.drop (k + 1)) (h : (l.drop k).all okC = l.all okC) (hc : okC c = false) : l.all okC = false := by
 rw [← h, hd, List.all_cons, hc, Bool.false_and]
theorem c_cases (c : UInt8) : (okC c = true ∧ ((97 ≤ c.toNat ∧ c.toNat ≤ 122) ∨ (48 ≤ c.toNat ∧ c.toNat ≤ 57) ∨ c.toNat = 95)) ∨ (okC c = false ∧ (c.toNat < 48 ∨ (57 < c.toNat ∧ c.toNat < 95) ∨ c.toNat = 96 ∨ 122 < c.toNat)) := by
 unfold okC
 by_cases h : (97 ≤ c.toNat ∧ c.toNat ≤ 122) ∨ (48 ≤ c.toNat ∧ c.toNat ≤ 57) ∨ c.toNat = 95
 ·
  exact .inl ⟨by simpa using h, h⟩
 ·
  exact .inr ⟨by simpa using h, by omega⟩

set_option maxHeartbeats 4000000 in
theorem isName_any (s : ByteArray) (w : World) (hs : s.size ≤ 9223372036854775807) : Calls Tryz.prog 102 #[.string s] w fun e w' => e = .returned (.bool (namB s)) ∧ w' = w := by
 by_cases h1 : 1 ≤ s.size
 ·
  by_cases h2 : s.size ≤ 32
  ·
   have hz : Hid (namB s = s.data.toList.all okC) := by show _ = _; unfold namB; simp [h1, h2]
   have i1 : ¬ (s.size : Int) < 1 := by omega
   have i2 : ¬ 32 < (s.size : Int) := by omega
   have i3 : decide (32 < (s.size : Int)) = false := decide_eq_false i2
   go_enter Tryz.func102, Tryz.ntmps102
   go_wp2
   go_loop [15] (fun i => ∃ k : Nat, k ≤ s.size ∧ i = .int .i64 k ∧ Hid ((s.data.toList.drop k).all okC = s.data.toList.all okC)) (fun i => s.size - (intOf i).toNat)
   case atStart => exact ⟨0, Nat.zero_le _, rfl, rfl⟩
   case round =>
    obtain ⟨k, hk, rfl, hgo⟩ := hrel
    by_cases hlt : k < s.size
    ·
     have j1 : (k : Int) < (s.size : Int) := by omega
     have hd := Lib.hid (nam_drop hlt)
     have hx := s[k].toNat_lt
     rcases c_cases s[k] with ⟨hc, hcs⟩ | ⟨hc, hcs⟩
     ·
      have HC := Lib.hid hc
      clear hc
      rcases hcs with ⟨a, b⟩ | ⟨a, b⟩ | a
      all_goals
       go_wp2
       all_goals (first | (exfalso; omega) | skip)
       all_goals
        go_round
        case rel => exact ⟨k + 1, by omega, by go_num, all_step hd.out hgo.out HC.out⟩
        case measure => simp [intOf]; omega
     ·
      have HC := Lib.hid hc
      clear hc
      rcases hcs with a | ⟨a, b⟩ | a | a
      all_goals
       go_wp2
       all_goals (first | (exfalso; omega) | skip)
       all_goals
        go_ret
        refine ⟨?_, rfl⟩
        rw [hz.out, all_stop hd.out hgo.out HC.out]; rfl
    ·
     have j1 : ¬ (k : Int) < (s.size : Int) := by omega
     go_wp2
     go_ret
     refine ⟨?_, rfl⟩
     rw [hz.out, ← hgo.out, List.drop_of_length_le (by simpa using by omega)]
     rfl
  ·
   have hz := Lib.hid (show namB s = false by unfold namB; simp [h2])
   have i1 : ¬ (s.size : Int) < 1 := by omega
   have i2 : 32 < (s.size : Int) := by omega
   go_enter Tryz.func102, Tryz.ntmps102
   go_wp2
   go_ret
   exact ⟨by rw [hz.out]; rfl, rfl⟩
 ·
  have hz := Lib.hid (show namB s = false by unfold namB; simp [h1])
  have i1 : (s.size : Int) < 1 := by omega
  go_enter Tryz.func102, Tryz.ntmps102
  go_wp2
  go_ret
  exact ⟨by rw [hz.out]; rfl, rfl⟩
end Go.Proofs.YtfeemipnalgjnaaGreat
namespace Go.Proofs.YtfeemipnalgjnaaGreat
open Go.RowKit

/-- numbers increase from last on, and end below nx -/
def numGo (nx : Int) : Int → List Fd → Bool
 | last, [] => decide (last < nx)
 | last, f :: r => if f.id ≤ last then false else numGo nx f.id r
def typsB (l : List Fd) : Bool := l.all fun f => typB f.ty
def plcB (l : List Fd) (f : Fd) : Bool := decide ((anc l 8 true f.id).2 = 0)
def plcsB (l : List Fd) : Bool := l.all (plcB l)
theorem alls_step {p : Fd → Bool} {r : List Fd} {k : Nat} {f : Fd} (hd : r.drop k = f :: r.drop (k + 1)) (h : (r.drop k).all p = r.all p) (hc : p f = true) : (r.drop (k + 1)).all p = r.all p := by
 rw [← h, hd, List.all_cons, hc, Bool.true_and]
theorem alls_stop {p : Fd → Bool} {r : List Fd} {k : Nat} {f : Fd} (hd : r.drop k = f :: r.drop (k + 1)) (h : (r.drop k).all p = r.all p) (hc : p f = false) : r.all p = false := by
 rw [← h, hd, List.all_cons, hc, Bool.false_and]
theorem alls_end {p : Fd → Bool} {r : List Fd} {k : Nat} (hk : r.length ≤ k) (h : (r.drop k).all p = r.all p) : r.all p = true := by
 rw [← h, List.drop_of_length_le hk]
 rfl

set_option maxHeartbeats 1000000 in
set_option maxRecDepth 20000 in
theorem placed_any (A : Option Addr) (n c : Nat) (l : List Fd) (w : World) (hn : n = l.length) (hs : Fds w w.heap.size A l) (hl : n ≤ 9223372036854775807) :
  Calls Tryz.prog 81 #[.slice A n c] w fun e w' => e = .returned (.bool (plcsB l)) ∧ Below w.heap.size w w' := by
 have HN := Lib.hid hn
 have HS := Lib.hid hs
 clear hn hs
 go_enter Tryz.func81, Tryz.ntmps81
 go_wp2
 go_loopw [9] (fun j wr => ∃ k : Nat, k ≤ n ∧ j = .int .i64 k ∧ Hid (Below w.heap.size w wr) ∧ Hid (w.heap.size ≤ wr.heap.size) ∧ Hid ((l.drop k).all (plcB l) = l.all (plcB l))) (fun j _ => n - (intOf j).toNat)
 case atStart => exact ⟨0, by omega, rfl, Below.refl _ _, Nat.le_refl _, rfl⟩
 case round =>
  obtain ⟨k, hk, rfl, hbel, hsz, hgo⟩ := hrel
  by_cases hlt : k < n
  ·
   have i1 : (k : Int) < (n : Int) := by omega
   obtain ⟨f, hf⟩ := getD_of (l := l) (k := k) (by rw [← HN.out]; exact hlt)
   obtain ⟨b, off, rfl, hb, c0, c1, c2, c3⟩ := (HS.out.below hbel.out).one hf
   have hd := Lib.hid (drop_cons hf)
   have hz := hsz.out
   have HS2 := Lib.hid ((HS.out.below (hbel.out.alloc hz (.cells #[.int .i64 f.id, .string f.nm, .int .i64 f.ty, .int .i64 f.pa] 58))).more (show w.heap.size ≤ (wr.alloc (.cells #[.int .i64 f.id, .string f.nm, .int .i64 f.ty, .int .i64 f.pa] 58)).heap.size by rw [asz]; omega))
   cases ht : plcB l f with
   | true =>
    have HT := Lib.hid ht
    have HZ := Lib.hid (show decide ((anc l 8 true f.id).2 = 0) = true from ht)
    clear ht hf
    go_wp2_with (go_at_call 101; refine (ancestry_any _ n c l f.id _ HN.out HS2.out hl).mono ?_; rintro e w5 ⟨⟨A5, c5, rfl, hf5⟩, hb5⟩; rw [HZ.out]; have HB5 := Lib.hid hb5; clear hf5 hb5)
    go_roundw
    case rel => exact ⟨k + 1, by omega, by go_num, below_step (hbel.out.alloc hz _) (by rw [asz]; omega) HB5.out, by show _ ≤ _; have := HB5.out.size; rw [asz] at this; omega, alls_step hd.out hgo.out HT.out⟩
    case measure => simp [intOf]; omega
   | false =>
    have HT := Lib.hid ht
    have HZ := Lib.hid (show decide ((anc l 8 true f.id).2 = 0) = false from ht)
    clear ht hf
    go_wp2_with (go_at_call 101; refine (ancestry_any _ n c l f.id _ HN.out HS2.out hl).mono ?_; rintro e w5 ⟨⟨A5, c5, rfl, hf5⟩, hb5⟩; rw [HZ.out]; have HB5 := Lib.hid hb5; clear hf5 hb5)
    go_ret
    refine ⟨?_, below_step (hbel.out.alloc hz _) (by rw [asz]; omega) HB5.out⟩
    unfold plcsB
    rw [alls_stop hd.out hgo.out HT.out]
    rfl
  ·
   have i1 : ¬ (k : Int) < (n : Int) := by omega
   go_wp2
   go_ret
   refine ⟨?_, hbel.out⟩
   unfold plcsB
   rw [alls_end (by rw [← HN.out]; omega) hgo.out]
   rfl

end Go.Proofs.YtfeemipnalgjnaaGreat
namespace Go.Proofs.YtfeemipnalgjnaaGreat
open Go.RowKit

def sameB (a b : ByteArray) : Bool := a.toList == b.toList
theorem sameB_iff {a b : ByteArray} : sameB a b = true ↔ a = b := by
 unfold sameB
 rw [Lib.toList_data, Lib.toList_data]
 constructor
 ·
  intro h
  have h : a.data.toList = b.data.toList := by simpa using h
  cases a; cases b
  congr 1
  exact Array.toList_inj.1 h
 ·
  rintro rfl; simp
def clash (f o : Fd) : Bool := decide (o.pa = f.pa) && sameB o.nm f.nm
def namGo : List Fd → List Fd → Bool
 | _, [] => true
 | pre, f :: r => if namB f.nm then (if pre.any (clash f) then false else namGo (pre ++ [f]) r) else false
theorem any_step {p : Fd → Bool} {r : List Fd} {k : Nat} {f : Fd} (hd : r.drop k = f :: r.drop (k + 1)) (h : (r.drop k).any p = r.any p) (hc : p f = false) : (r.drop (k + 1)).any p = r.any p := by
 rw [← h, hd, List.any_cons, hc, Bool.false_or]
theorem any_stop {p : Fd → Bool} {r : List Fd} {k : Nat} {f : Fd} (hd : r.drop k = f :: r.drop (k + 1)) (h : (r.drop k).any p = r.any p) (hc : p f = true) : r.any p = true := by
 rw [← h, hd, List.any_cons, hc, Bool.true_or]
theorem any_end {p : Fd → Bool} {r : List Fd} {k : Nat} (hk : r.length ≤ k) (h : (r.drop k).any p = r.any p) : r.any p = false := by
 rw [← h, List.drop_of_length_le hk]
 rfl
theorem take_snoc {α : Type} {l : List α} {k : Nat} {f : α} (h : l[k]? = some f) : l.take (k + 1) = l.take k ++ [f] := by
 rw [List.take_add_one, h]
 rfl

set_option maxHeartbeats 2000000 in
set_option maxRecDepth 20000 in
theorem named_any (A : Option Addr) (n c : Nat) (l : List Fd) (w : World) (hn : n = l.length) (hc : n ≤ c) (hs : Fds w w.heap.size A l) (hl : c ≤ 9223372036854775807) (hsz : ∀ f ∈ l, f.nm.size ≤ 9223372036854775807) :
  Calls Tryz.prog 82 #[.slice A n c] w fun e w' => e = .returned (.bool (namGo [] l)) ∧ Below w.heap.size w w' := by
 have HN := Lib.hid hn
 have HS := Lib.hid hs
 have HM := Lib.hid hsz
 clear hn hs hsz
 go_enter Tryz.func82, Tryz.ntmps82
 go_wp2
 go_loopw [9] (fun j wr => ∃ k : Nat, k ≤ n ∧ j = .int .i64 k ∧ Hid (Below w.heap.size w wr) ∧ Hid (w.heap.size ≤ wr.heap.size) ∧ Hid (namGo (l.take k) (l.drop k) = namGo [] l)) (fun j _ => n - (intOf j).toNat)
 case atStart => exact ⟨0, by omega, rfl, Below.refl _ _, Nat.le_refl _, rfl⟩
 case round =>
  obtain ⟨k, hk, rfl, hbel, hsz, hgo⟩ := hrel
  obtain ⟨wo, rfl⟩ : ∃ wo : World, wo = wr := ⟨_, rfl⟩
  by_cases hlt : k < n
  ·
   have i1 : (k : Int) < (n : Int) := by omega
   obtain ⟨f, hf⟩ := getD_of (l := l) (k := k) (by rw [← HN.out]; exact hlt)
   obtain ⟨b, off, rfl, hb, c0, c1, c2, c3⟩ := (HS.out.below hbel.out).one hf
   have hd := Lib.hid (drop_cons hf)
   have ht := Lib.hid (take_snoc hf)
   have hz := hsz.out
   have hfz : f.nm.size ≤ 9223372036854775807 := HM.out f (List.mem_of_getElem? hf)
   have hstep : Hid (namGo [] l = if namB f.nm then (if (l.take k).any (clash f) then false else namGo (l.take (k + 1)) (l.drop (k + 1))) else false) := by
    show _ = _
    rw [← hgo.out, hd.out, namGo, ht.out]
   clear hf
   cases hm : namB f.nm with
   | false =>
    have HT := Lib.hid hm
    clear hm
    go_wp2_with (go_at_call 102; refine (isName_any _ _ hfz).mono ?_; rintro e w' ⟨rfl, rfl⟩; rw [HT.out])
    go_ret
    refine ⟨?_, hbel.out.alloc hz _⟩
    rw [hstep.out, HT.out]
    rfl
   | true =>
    have HT := Lib.hid hm
    clear hm
    have e1 : (k : Int).toNat = k := by omega
    go_wp2_with (go_at_call 102; refine (isName_any _ _ hfz).mono ?_; rintro e w' ⟨rfl, rfl⟩; rw [HT.out])
    go_loopw [22] (fun j wr => ∃ m : Nat, m ≤ k ∧ j = .int .i64 m ∧ Hid (Below w.heap.size w wr) ∧ Hid (CB wr wo.heap.size 58 f.cells) ∧ Hid (((l.take k).drop m).any (clash f) = (l.take k).any (clash f))) (fun j _ => k - (intOf j).toNat)
    case atStart => exact ⟨0, by omega, rfl, hbel.out.alloc hz _, CB.new _ _ _, rfl⟩
    case round =>
     obtain ⟨m, hmk, rfl, hbel2, hcb, hgo2⟩ := hrel
     have hz2 := hcb.out.lt
     by_cases hlt2 : m < k
     ·
      have i2 : (m : Int) < (k : Int) := by omega
      obtain ⟨g, hg⟩ := getD_of (l := l.take k) (k := m) (by simp; rw [← HN.out]; omega)
      obtain ⟨b', off', e', hb', g0, g1, g2, g3⟩ := ((HS.out.below hbel2.out).take k).one hg
      injection e' with e'
      injection e' with e1' e2'
      subst e1' e2'
      have hd2 := Lib.hid (drop_cons hg)
      have f1 := hcb.out.cell 1 rfl
      have f3 := hcb.out.cell 3 rfl
      have hm2 : m < n := by omega
      clear hg hb'
      by_cases hp : g.pa = f.pa
      ·
       have p1 : (g.pa == f.pa) = true := by simpa using hp
       cases hq : sameB g.nm f.nm with
       | true =>
        have q1 : (g.nm.toList == f.nm.toList) = true := hq
        have HC : Hid (clash f g = true) := by show _ = _; unfold clash; rw [hq]; simpa using hp
        clear hq hp
        go_wp2
        go_ret
        refine ⟨?_, hbel2.out.alloc (by omega) _⟩
        rw [hstep.out, HT.out, any_stop hd2.out hgo2.out HC.out]
        rfl
       | false =>
        have q1 : (g.nm.toList == f.nm.toList) = false := hq
        have HC : Hid (clash f g = false) := by show _ = _; unfold clash; rw [hq]; simp
        clear hq hp
        go_wp2
        go_roundw
        case rel => exact ⟨m + 1, by omega, by go_num, hbel2.out.alloc (by omega) _, hcb.out.alloc _, any_step hd2.out hgo2.out HC.out⟩
        case measure => simp [intOf]; omega
      ·
       have p1 : (g.pa == f.pa) = false := by simpa using hp
       have HC : Hid (clash f g = false) := by show _ = _; unfold clash; simp [hp]
       clear hp
       go_wp2
       go_roundw
       case rel => exact ⟨m + 1, by omega, by go_num, hbel2.out.alloc (by omega) _, hcb.out.alloc _, any_step hd2.out hgo2.out HC.out⟩
       case measure => simp [intOf]; omega
     ·
      have i2 : ¬ (m : Int) < (k : Int) := by omega
      have HF := Lib.hid (any_end (by simp; omega) hgo2.out)
      go_wp2
      go_roundw
      case rel => exact ⟨k + 1, by omega, by go_num, hbel2.out, by show _ ≤ _; omega, by show _ = _; rw [hstep.out, HT.out, HF.out]; rfl⟩
      case measure => simp [intOf]; omega
  ·
   have i1 : ¬ (k : Int) < (n : Int) := by omega
   go_wp2
   go_ret
   refine ⟨?_, hbel.out⟩
   rw [← hgo.out, List.drop_of_length_le (by rw [← HN.out]; omega)]
   rfl
end Go.Proofs.YtfeemipnalgjnaaGreat
