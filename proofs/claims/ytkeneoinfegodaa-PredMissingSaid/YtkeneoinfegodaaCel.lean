/-
  Values and cells of rows in memory; '==' of values.
-/
import Derived.Test.YtkeneoinfegodaaMm
import Derived.Test.YtkeneoinfegodaaValS
import Derived.Test.YtkeneoinfegodaaFldP
namespace Go.Proofs.Ytkeneoinfegodaa
open Go.RowKit

/-- a cell of a row: number, value -/
structure Ce where
  id : Int
  v : Va
def Ce.cells (c : Ce) : List Value := [.int .i64 c.id, .bool c.v.b, .int .i64 c.v.n, .string c.v.s]
def Ces (w : World) (B : Nat) (A : Option Addr) (l : List Ce) : Prop := RowAt 4 w B A (l.map Ce.cells)
section
variable {w w' : World} {B B' : Nat} {A : Option Addr} {l : List Ce} {f : Ce}
theorem Ces.nil : Ces w B A [] := RowAt.nil
theorem Ces.below (h : Ces w B A l) (hb : Below B w w') : Ces w' B A l := RowAt.below h hb
theorem Ces.more (h : Ces w B A l) (hB : B ≤ B') : Ces w B' A l := RowAt.more h hB
theorem Ces.up (h : Ces w w.heap.size A l) (hb : Below w.heap.size w w') : Ces w' w'.heap.size A l := RowAt.up h hb
theorem Ces.one (h : Ces w B A l) {i : Nat} (hi : l[i]? = some f) : ∃ b off, A = some ⟨b, off, none⟩ ∧ b < B ∧ w.cell? ⟨b, off + i * 4, none⟩ = some (.int .i64 f.id) ∧ w.cell? ⟨b, off + i * 4 + 1, none⟩ = some (.bool f.v.b) ∧
    w.cell? ⟨b, off + i * 4 + 2, none⟩ = some (.int .i64 f.v.n) ∧ w.cell? ⟨b, off + i * 4 + 3, none⟩ = some (.string f.v.s) := by
  obtain ⟨b, off, e, hlt, hc⟩ := RowAt.one h (vs := f.cells) (i := i) (by rw [List.getElem?_map, hi]; rfl)
  exact ⟨b, off, e, hlt, hc 0 _ rfl, hc 1 _ rfl, hc 2 _ rfl, hc 3 _ rfl⟩
end
theorem getE_of {l : List Ce} {k : Nat} (h : k < l.length) : ∃ f, l[k]? = some f := ⟨l[k], List.getElem?_eq_getElem h⟩

def Va.nul : Va := ⟨true, 0, ⟨#[]⟩⟩
/-- the first cell of a number -/
def getL : List Ce → Int → Va
  | [], _ => Va.nul
  | c :: r, i => if c.id = i then c.v else getL r i
theorem getL_drop {r : List Ce} {k : Nat} {f : Ce} {i : Int} {z : Va} (hd : r.drop k = f :: r.drop (k + 1)) (h : getL (r.drop k) i = z) (hne : ¬ f.id = i) : getL (r.drop (k + 1)) i = z := by
  rw [hd, getL, if_neg hne] at h
  exact h
def Va.cells3 (v : Va) : List Value := [.bool v.b, .int .i64 v.n, .string v.s]
def Vas (w : World) (B : Nat) (A : Option Addr) (l : List Va) : Prop := RowAt 3 w B A (l.map Va.cells3)
theorem Vas.one {w : World} {B : Nat} {A : Option Addr} {l : List Va} {v : Va} (h : Vas w B A l) {i : Nat} (hi : l[i]? = some v) : ∃ b off, A = some ⟨b, off, none⟩ ∧ b < B ∧ w.cell? ⟨b, off + i * 3, none⟩ = some (.bool v.b) ∧ w.cell? ⟨b, off + i * 3 + 1, none⟩ = some (.int .i64 v.n) ∧ w.cell? ⟨b, off + i * 3 + 2, none⟩ = some (.string v.s) := by
  obtain ⟨b, off, e, hlt, hc⟩ := RowAt.one h (vs := v.cells3) (i := i) (by rw [List.getElem?_map, hi]; rfl)
  exact ⟨b, off, e, hlt, hc 0 _ rfl, hc 1 _ rfl, hc 2 _ rfl⟩
theorem sizeV : (Try.prog.info? 37).map (·.size) = some 3 := by kernel_rfl
theorem sizeRo : (Try.prog.info? 29).map (·.size) = some 1 := by kernel_rfl
theorem infoCe : (Try.prog.info? 39).map (fun i => (i.zero, i.size, i.bytes)) = some (some (.agg #[.int .i64 0, .bool false, .int .i64 0, .string ⟨#[]⟩]), 4, 40) := by kernel_rfl
theorem one_v (b : Bool) (n : Int) (s : ByteArray) : ∀ z ∈ [Value.bool b, .int .i64 n, .string s], z.oneCell' = true := by
  intro z hz
  simp only [List.mem_cons, List.not_mem_nil, or_false] at hz
  rcases hz with rfl | rfl | rfl <;> rfl
theorem one_ce (d : Ce) : ∀ u ∈ d.cells, u.oneCell' = true := by
  intro z hz
  simp only [Ce.cells, List.mem_cons, List.not_mem_nil, or_false] at hz
  rcases hz with rfl | rfl | rfl | rfl <;> rfl
def eqVa (a b : Va) : Bool := a.b == b.b && (a.n == b.n && a.s.toList == b.s.toList)
theorem eqVa_iff (a b : Va) : eqVa a b = true ↔ a = b := by
  obtain ⟨x, m, s⟩ := a
  obtain ⟨y, n, t⟩ := b
  unfold eqVa
  simp only [Bool.and_eq_true, beq_iff_eq, Lib.toList_data, Va.mk.injEq]
  constructor
  · rintro ⟨rfl, rfl, h⟩
    exact ⟨rfl, rfl, by rw [← Lib.mk_data s, h, Lib.mk_data]⟩
  · rintro ⟨rfl, rfl, rfl⟩
    exact ⟨rfl, rfl, rfl⟩
theorem run_eq_va (w : World) (a b : Bool) (m n : Int) (s t : ByteArray) : (binOp .eql 37 (.agg #[.bool a, .int .i64 m, .string s]) (.agg #[.bool b, .int .i64 n, .string t])).run Try.prog w = .ok (.bool (eqVa ⟨a, m, s⟩ ⟨b, n, t⟩)) w := by
  unfold eqVa
  simp [go_sem]
  by_cases h1 : a = b <;> by_cases h2 : m = n <;> by_cases h3 : s.toList = t.toList <;> simp [h1, h2, h3]
theorem run_ne_va (w : World) (a b : Bool) (m n : Int) (s t : ByteArray) : (binOp .neq 37 (.agg #[.bool a, .int .i64 m, .string s]) (.agg #[.bool b, .int .i64 n, .string t])).run Try.prog w = .ok (.bool (!(eqVa ⟨a, m, s⟩ ⟨b, n, t⟩))) w := by
  unfold eqVa
  simp [go_sem]
  by_cases h1 : a = b <;> by_cases h2 : m = n <;> by_cases h3 : s.toList = t.toList <;> simp [h1, h2, h3]
theorem eqVa_self (a : Va) : eqVa a a = true := (eqVa_iff a a).2 rfl
theorem run_eq_same (w : World) (a : Bool) (m : Int) (s : ByteArray) : (binOp .eql 37 (.agg #[.bool a, .int .i64 m, .string s]) (.agg #[.bool a, .int .i64 m, .string s])).run Try.prog w = .ok (.bool true) w := by
  rw [run_eq_va, eqVa_self]
theorem run_ne_same (w : World) (a : Bool) (m : Int) (s : ByteArray) : (binOp .neq 37 (.agg #[.bool a, .int .i64 m, .string s]) (.agg #[.bool a, .int .i64 m, .string s])).run Try.prog w = .ok (.bool false) w := by
  rw [run_ne_va, eqVa_self]
  rfl
theorem run_eq_other (w : World) (a b : Bool) (m n : Int) (s t : ByteArray) (h : eqVa ⟨a, m, s⟩ ⟨b, n, t⟩ = false) : (binOp .eql 37 (.agg #[.bool a, .int .i64 m, .string s]) (.agg #[.bool b, .int .i64 n, .string t])).run Try.prog w = .ok (.bool false) w := by
  rw [run_eq_va, h]
end Go.Proofs.Ytkeneoinfegodaa
