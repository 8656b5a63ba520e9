/-
  A fenlandlaw01.Value that came in, opened; bounds out of the form's reach, and out of the bulk.
-/
import Derived.Test.YtnnefhiffadihaaOpen
import Derived.Lib.SmallJoins
import Derived.JoinedCond
namespace Go.Proofs.Ytnnefhiffadihaa
open Go.RowKit Go.ChangeShapes Go.WideShapes Go.ChangeAt

theorem one_bulk {H : Type} (d : DataW H) : 1 ≤ Rows.uptoBulk d := by
  cases d with
  | lit l => cases l <;> simp [Rows.uptoBulk]
  | nil => simp [Rows.uptoBulk]
  | ptr d => simp [Rows.uptoBulk]
  | slice elems spare => simp [Rows.uptoBulk]
  | agg parts => simp [Rows.uptoBulk]
  | iface t d => simp [Rows.uptoBulk]
  | map entries => simp [Rows.uptoBulk]
  | held h => simp [Rows.uptoBulk]
theorem mem_bulk {H : Type} {d : DataW H} {l : List (DataW H)} (h : d ∈ l) : Rows.uptoBulk d ≤ Rows.uptoBulkAll l := by
  induction l with
  | nil => cases h
  | cons x r ih =>
    simp only [Rows.uptoBulkAll]
    rcases List.mem_cons.1 h with rfl | h
    · omega
    · have := ih h; omega
theorem count_bulk {H : Type} (l : List (DataW H)) : l.length ≤ Rows.uptoBulkAll l := by
  induction l with
  | nil => simp [Rows.uptoBulkAll]
  | cons x r ih => have := one_bulk x; simp only [Rows.uptoBulkAll, List.length_cons]; omega
theorem places_bulk {H : Type} (d : DataW H) : places d ≤ Rows.uptoBulk d := by
  cases d with
  | slice elems spare =>
    have h1 := count_bulk elems
    have h2 := count_bulk spare
    simp only [places, Rows.uptoBulk]
    omega
  | _ => simp [places]
theorem bulk_part {H : Type} {d : DataW H} {l : List (DataW H)} (h : d ∈ l) (hk : Rows.uptoSmall H l = true) : Rows.uptoBulk d ≤ 1048576 :=
  Nat.le_trans (mem_bulk h) (of_decide_eq_true hk)

theorem cells25 : Try.prog.cellsOf 25 = 4 := by kernel_rfl

theorem open_value {H : Type} {enc : TypeId × Value → H} {W : World} {base : Nat} {held : Bool} {v : Value} {d : DataW H} {p : List MemPlace}
    (hv : Value.okWide Try.prog W .any base 25 v) (h : DataW.Trod enc Try.prog W 0 (fun _ => true) held 25 v d p) :
    ∃ (n : Nat) (z : Int) (s : ByteArray) (A : Option Addr) (cap : Nat) (l : List UInt8), v = .agg #[.int .u64 n, .int .i64 z, .string s, .slice A l.length cap] ∧ Num.U64 n ∧ -9223372036854775808 ≤ z ∧ z ≤ 9223372036854775807 ∧
      Shows W W.heap.size A l ∧ l.length ≤ cap ∧
      ((∀ x ∈ d.weights Try.prog 25, x ≤ 140737488351232) → s.size ≤ 140737488351232 ∧ cap ≤ 140737488351232) ∧ (Rows.uptoBulk d ≤ 1048576 → s.size ≤ 1048576 ∧ cap ≤ 1048576) := by
  obtain ⟨v0, v1, v2, v3, y0, y1, y2, y3, fu, rfl, rfl, rfl, h0, h1, h2, h3⟩ := Joins.open_agg4 Try.underlying25 (by kernel_rfl) cells25 hv h
  obtain ⟨n0, e0, rfl, w0⟩ := DataW.trod_int Try.underlying23 h0
  obtain ⟨z, e1, rfl, w1⟩ := DataW.trod_int Try.underlying2 h1
  obtain ⟨s, e2, rfl, _⟩ := DataW.trod_string Try.underlying9 h2
  obtain ⟨A, len, cap, e3⟩ := Joins.slice_form Try.underlying22 h3
  simp only [List.cons.injEq, and_true] at e0 e1 e2 e3
  subst e0 e1 e2 e3
  obtain ⟨l, rfl, hlc, _, hsh, hcp, hd⟩ := open_bytes h3
  obtain ⟨n, rfl, hu⟩ := open_u64 w0
  have b1 : -9223372036854775808 ≤ z ∧ z ≤ 9223372036854775807 := by simpa [Lit.wf, IntKind.min, IntKind.max, IntKind.signed, IntKind.bits] using w1
  have hsl := str_len s
  refine ⟨n, z, s, A, cap, l, rfl, hu, b1.1, b1.2, hsh, hlc, fun hw => ⟨?_, ?_⟩, fun hb => ?_⟩
  · refine hw s.size ?_
    simp [DataW.weights, DataW.weightsEach, Try.underlying25]
  · rw [hcp]
    refine places_le hd fun x hx => hw x ?_
    simp only [DataW.weights, Try.underlying25, DataW.weightsEach, List.map_cons, List.map_nil]
    simp only [List.mem_append]
    exact .inr (.inr (.inr (.inl hx)))
  · simp only [Rows.uptoBulk, Rows.uptoBulkAll] at hb
    have h3 := places_bulk y3.1
    rw [hcp]
    omega

/-- The four fields of the boxed value. -/
def Box (w : World) (B : Nat) (n : Nat) (z : Int) (s : ByteArray) (A : Option Addr) (m cap : Nat) : Prop :=
  w.cell? ⟨B, 0, none⟩ = some (.int .u64 n) ∧ w.cell? ⟨B, 1, none⟩ = some (.int .i64 z) ∧ w.cell? ⟨B, 2, none⟩ = some (.string s) ∧ w.cell? ⟨B, 3, none⟩ = some (.slice A m cap)
theorem Box.below {w w' : World} {B n m cap : Nat} {z : Int} {s : ByteArray} {A : Option Addr} {b : Nat} (h : Box w B n z s A m cap) (hb : Below b w w') (hB : B < b) : Box w' B n z s A m cap :=
  ⟨(hb.cell (p := ⟨B, 0, none⟩) hB).trans h.1, (hb.cell (p := ⟨B, 1, none⟩) hB).trans h.2.1, (hb.cell (p := ⟨B, 2, none⟩) hB).trans h.2.2.1, (hb.cell (p := ⟨B, 3, none⟩) hB).trans h.2.2.2⟩

end Go.Proofs.Ytnnefhiffadihaa
