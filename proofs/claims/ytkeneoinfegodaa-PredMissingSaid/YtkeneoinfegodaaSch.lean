/-
  Schemas, fields, changes as plain data, and how they lie in memory. Nothing of the program's functions.
-/
import Derived.Test.YtkeneoinfegodaaMm
import Derived.Test.YtkeneoinfegodaaProg
namespace Go.Proofs.Ytkeneoinfegodaa
open Go.RowKit

/-- a field: number, name, type, group -/
structure Fd where
  id : Int
  nm : ByteArray
  ty : Int
  pa : Int
def Fd.cells (f : Fd) : List Value := [.int .i64 f.id, .string f.nm, .int .i64 f.ty, .int .i64 f.pa]
abbrev Fd.val (f : Fd) : Value := .agg #[.int .i64 f.id, .string f.nm, .int .i64 f.ty, .int .i64 f.pa]
def Fd.zero : Fd := ⟨0, ⟨#[]⟩, 0, 0⟩
/-- a schema: its fields and the next number -/
structure Sc where
  fs : List Fd
  next : Int
def Sc.zero : Sc := ⟨[], 0⟩
/-- a change -/
structure Ch where
  kind : Int
  id : Int
  wi : Int
  nm : ByteArray
  ot : ByteArray
  ty : Int
  pa : Int
  sep : ByteArray
def Ch.cells (c : Ch) : List Value := [.int .i64 c.kind, .int .i64 c.id, .int .i64 c.wi, .string c.nm, .string c.ot, .int .i64 c.ty, .int .i64 c.pa, .string c.sep]
abbrev Ch.val (c : Ch) : Value := .agg #[.int .i64 c.kind, .int .i64 c.id, .int .i64 c.wi, .string c.nm, .string c.ot, .int .i64 c.ty, .int .i64 c.pa, .string c.sep]

/-- The fields l can be read at address A. -/
def Fds (w : World) (B : Nat) (A : Option Addr) (l : List Fd) : Prop := RowAt 4 w B A (l.map Fd.cells)
def Chs (w : World) (B : Nat) (A : Option Addr) (l : List Ch) : Prop := RowAt 8 w B A (l.map Ch.cells)
section
variable {w w' : World} {B B' : Nat} {A : Option Addr} {l : List Fd} {f : Fd} {m : List Ch} {c : Ch}
theorem Fds.nil : Fds w B A [] := RowAt.nil
theorem Fds.below (h : Fds w B A l) (hb : Below B w w') : Fds w' B A l := RowAt.below h hb
theorem Fds.more (h : Fds w B A l) (hB : B ≤ B') : Fds w B' A l := RowAt.more h hB
theorem Fds.up (h : Fds w w.heap.size A l) (hb : Below w.heap.size w w') : Fds w' w'.heap.size A l := RowAt.up h hb
theorem Fds.take (h : Fds w B A l) (n : Nat) : Fds w B A (l.take n) := by
  unfold Fds
  rw [List.map_take]
  exact RowAt.take h n
theorem Fds.one (h : Fds w B A l) {i : Nat} (hi : l[i]? = some f) : ∃ b off, A = some ⟨b, off, none⟩ ∧ b < B ∧ w.cell? ⟨b, off + i * 4, none⟩ = some (.int .i64 f.id) ∧ w.cell? ⟨b, off + i * 4 + 1, none⟩ = some (.string f.nm) ∧
    w.cell? ⟨b, off + i * 4 + 2, none⟩ = some (.int .i64 f.ty) ∧ w.cell? ⟨b, off + i * 4 + 3, none⟩ = some (.int .i64 f.pa) := by
  obtain ⟨b, off, e, hlt, hc⟩ := RowAt.one h (vs := f.cells) (i := i) (by rw [List.getElem?_map, hi]; rfl)
  exact ⟨b, off, e, hlt, hc 0 _ rfl, hc 1 _ rfl, hc 2 _ rfl, hc 3 _ rfl⟩
theorem Chs.below (h : Chs w B A m) (hb : Below B w w') : Chs w' B A m := RowAt.below h hb
theorem Chs.more (h : Chs w B A m) (hB : B ≤ B') : Chs w B' A m := RowAt.more h hB
theorem Chs.up (h : Chs w w.heap.size A m) (hb : Below w.heap.size w w') : Chs w' w'.heap.size A m := RowAt.up h hb
theorem Chs.take (h : Chs w B A m) (n : Nat) : Chs w B A (m.take n) := by
  unfold Chs
  rw [List.map_take]
  exact RowAt.take h n
theorem Chs.one (h : Chs w B A m) {i : Nat} (hi : m[i]? = some c) : ∃ b off, A = some ⟨b, off, none⟩ ∧ b < B ∧ w.cell? ⟨b, off + i * 8, none⟩ = some (.int .i64 c.kind) ∧ w.cell? ⟨b, off + i * 8 + 1, none⟩ = some (.int .i64 c.id) ∧
    w.cell? ⟨b, off + i * 8 + 2, none⟩ = some (.int .i64 c.wi) ∧ w.cell? ⟨b, off + i * 8 + 3, none⟩ = some (.string c.nm) ∧ w.cell? ⟨b, off + i * 8 + 4, none⟩ = some (.string c.ot) ∧ w.cell? ⟨b, off + i * 8 + 5, none⟩ = some (.int .i64 c.ty) ∧
    w.cell? ⟨b, off + i * 8 + 6, none⟩ = some (.int .i64 c.pa) ∧ w.cell? ⟨b, off + i * 8 + 7, none⟩ = some (.string c.sep) := by
  obtain ⟨b, off, e, hlt, hc⟩ := RowAt.one h (vs := c.cells) (i := i) (by rw [List.getElem?_map, hi]; rfl)
  exact ⟨b, off, e, hlt, hc 0 _ rfl, hc 1 _ rfl, hc 2 _ rfl, hc 3 _ rfl, hc 4 _ rfl, hc 5 _ rfl, hc 6 _ rfl, hc 7 _ rfl⟩
end

/-- the field with a number -/
def field : List Fd → Int → Option Fd
  | [], _ => none
  | f :: r, i => if f.id = i then some f else field r i
def fieldD (l : List Fd) (i : Int) : Fd := (field l i).getD Fd.zero
def hasF (l : List Fd) (i : Int) : Bool := (field l i).isSome
theorem field_mem : ∀ {l : List Fd} {i : Int} {f : Fd}, field l i = some f → f ∈ l ∧ f.id = i
  | [], _, _, h => by simp [field] at h
  | g :: r, i, f, h => by
    unfold field at h
    split at h
    · next hg => cases h; exact ⟨by simp, hg⟩
    · have := field_mem h; exact ⟨by simp [this.1], this.2⟩
theorem field_none : ∀ {l : List Fd} {i : Int}, field l i = none ↔ ∀ f ∈ l, f.id ≠ i
  | [], _ => by simp [field]
  | g :: r, i => by
    unfold field
    split
    · next hg => simp [hg]
    · next hg => rw [field_none]; simp [hg]
theorem drop_cons {α : Type} {l : List α} {k : Nat} {x : α} (h : l[k]? = some x) : l.drop k = x :: l.drop (k + 1) := by
  obtain ⟨hl, e⟩ := List.getElem?_eq_some_iff.1 h
  rw [List.drop_eq_getElem_cons hl, e]
theorem getD_of {l : List Fd} {k : Nat} (h : k < l.length) : ∃ f, l[k]? = some f := ⟨l[k], List.getElem?_eq_getElem h⟩

theorem infoF : (Try.prog.info? 60).map (fun i => (i.zero, i.size, i.bytes)) = some (some (.agg #[.int .i64 0, .string ⟨#[]⟩, .int .i64 0, .int .i64 0]), 4, 40) := by kernel_rfl
theorem sizeF : (Try.prog.info? 60).map (·.size) = some 4 := by kernel_rfl
theorem sizeS : (Try.prog.info? 63).map (·.size) = some 2 := by kernel_rfl
theorem one_f (f : Fd) : ∀ u ∈ f.cells, u.oneCell' = true := by
  intro u hu
  simp only [Fd.cells, List.mem_cons, List.not_mem_nil, or_false] at hu
  rcases hu with rfl | rfl | rfl | rfl <;> rfl
theorem one_f' (a : Int) (s : ByteArray) (b c : Int) : ∀ u ∈ [Value.int .i64 a, .string s, .int .i64 b, .int .i64 c], u.oneCell' = true := one_f ⟨a, s, b, c⟩
theorem one_s (A : Option Addr) (n c : Nat) (x : Int) : ∀ u ∈ [Value.slice A n c, .int .i64 x], u.oneCell' = true := by
  intro u hu
  simp only [List.mem_cons, List.not_mem_nil, or_false] at hu
  rcases hu with rfl | rfl <;> rfl
/-- append(v, f): v the call's own row of fields. -/
theorem push_fd {w wr : World} {ops : Array Oper} {rest : List Oper} {o : Oper} {a : Act} {Q : Exit → Act → World → Prop} (hgd : o.guard = none) (d x : Operand)
    (ho : o.op = .call { callee := .builtin .append, args := #[d, x], argTypes := #[61, 61] }) (base : Nat) (v : Value) (acc : List Fd) (f : Fd) (N : Nat) (hs : a.eval d = v) (hx : a.eval x = .slice (some ⟨N, 0, none⟩) 1 1)
    (hN : N = wr.heap.size) (hw : w = wr.alloc (.cells #[.int .i64 f.id, .string f.nm, .int .i64 f.ty, .int .i64 f.pa] 60)) (hr : Own 60 4 wr base v (acc.map Fd.cells)) (hroom : acc.length ≤ 1000000) (hbase : base ≤ wr.heap.size)
    (hK : ∀ A' c' w', Own 60 4 w' base (.slice A' (acc.length + 1) c') ((acc ++ [f]).map Fd.cells) → wr.grownBy w' v.ownBlock → Below base wr w' → wpList Try.prog ops Q rest (a.put o.dst (.slice A' (acc.length + 1) c')) w') : wpList Try.prog ops Q (o :: rest) a w := by
  refine wpList_push hgd d x ho Try.underlying61 infoF rfl (by decide) base v (acc.map Fd.cells) f.cells N hs hx hN hw hr rfl (one_f f) (by simp; omega) (by decide) hbase ?_
  intro A' c' w' h1 h2 h3
  have e : (acc.map Fd.cells ++ [f.cells]).length = acc.length + 1 := by simp
  rw [e] at h1 ⊢
  exact hK A' c' w' (by simpa using h1) h2 h3
end Go.Proofs.Ytkeneoinfegodaa
