/-
  The program's masked, by a contract.
-/
import Derived.Test.YteaaadccjnmacaaMaskP
import Derived.Test.YteaaadccjnmacaaEqP
import Derived.Test.YteaaadccjnmacaaShl
import Derived.Laws.OwnMore
import Derived.Deep.RegionHeld3
import Derived.Deep.RegionWith
import Derived.Lib.MinMax
namespace Go.Proofs.Yteaaadccjnmacaa
open Go.RowKit
attribute [local go_sem] u8_xor

/-- the bytes b, masked by the polynomials whose coefficients lie in r, m of them each -/
def maskB (x : UInt8) (m : Nat) : List UInt8 → List UInt8 → List UInt8
  | _, [] => []
  | r, a :: b => (a ^^^ maskV x (r.take m)) :: maskB x m (r.drop m) b
theorem maskB_len (x : UInt8) (m : Nat) (r b : List UInt8) : (maskB x m r b).length = b.length := by
  induction b generalizing r with
  | nil => rfl
  | cons a b ih => simp [maskB, ih]
theorem maskB_get (x : UInt8) (m : Nat) (r b : List UInt8) (i : Nat) : (maskB x m r b)[i]? = (b[i]?).map fun a => a ^^^ maskV x ((r.drop (i * m)).take m) := by
  induction b generalizing r i with
  | nil => simp [maskB]
  | cons a b ih =>
    cases i with
    | zero => simp [maskB]
    | succ i =>
      simp only [maskB, List.getElem?_cons_succ, ih, List.drop_drop]
      rw [show m + i * m = (i + 1) * m by rw [Nat.add_mul]; omega]
def masks (m : Nat) (r : List UInt8) (l : List Sh) : List Sh := l.map fun s => (s.1, maskB s.1 m r s.2)
/-- while the loop runs -/
def curB (x : UInt8) (m : Nat) (r b : List UInt8) (j : Nat) : List UInt8 := (maskB x m r b).take j ++ b.drop j
theorem curB_len (x : UInt8) (m : Nat) (r b : List UInt8) (j : Nat) : (curB x m r b j).length = b.length := by
  simp only [curB, List.length_append, List.length_take, List.length_drop, maskB_len]
  omega
theorem curB_at (x : UInt8) (m : Nat) (r b : List UInt8) (j : Nat) (h : j < b.length) : (curB x m r b j)[j]? = some (byte b j) := by
  unfold curB
  rw [List.getElem?_append_right (by simp [maskB_len]; omega), List.getElem?_drop]
  simp only [List.length_take, maskB_len, Nat.min_eq_left (Nat.le_of_lt h), Nat.sub_self, Nat.add_zero]
  exact byte_get h
theorem curB_set (x : UInt8) (m : Nat) (r b : List UInt8) (j : Nat) (h : j < b.length) : (curB x m r b j).set j (byte b j ^^^ maskV x ((r.drop (j * m)).take m)) = curB x m r b (j + 1) := by
  have hj : j < (maskB x m r b).length := by rw [maskB_len]; exact h
  have hv : (maskB x m r b)[j]? = some (byte b j ^^^ maskV x ((r.drop (j * m)).take m)) := by rw [maskB_get, byte_get h]; rfl
  apply List.ext_getElem?
  intro i
  rw [List.getElem?_set]
  unfold curB
  by_cases hi : j = i
  · subst hi
    rw [if_pos rfl, if_pos (by simp [maskB_len]; omega), List.getElem?_append_left (by simp [maskB_len]; omega), List.getElem?_take, if_pos (by omega), hv]
  · rw [if_neg hi]
    by_cases hlt : i < j
    · rw [List.getElem?_append_left (by simp [maskB_len]; omega), List.getElem?_append_left (by simp [maskB_len]; omega), List.getElem?_take, List.getElem?_take, if_pos hlt, if_pos (by omega)]
    · rw [List.getElem?_append_right (by simp [maskB_len]; omega), List.getElem?_append_right (by simp [maskB_len]; omega), List.getElem?_drop, List.getElem?_drop]
      simp only [List.length_take, maskB_len]
      rw [show j + (i - min j b.length) = i by omega, show j + 1 + (i - min (j + 1) b.length) = i by omega]
theorem curB_zero (x : UInt8) (m : Nat) (r b : List UInt8) : curB x m r b 0 = b := by simp [curB]
theorem curB_all (x : UInt8) (m : Nat) (r b : List UInt8) : curB x m r b b.length = maskB x m r b := by
  unfold curB
  rw [List.drop_of_length_le (Nat.le_refl _), List.append_nil, List.take_of_length_le (by rw [maskB_len]; exact Nat.le_refl _)]

/-- The share s lies at offset o of the call's own block g; its bytes lie in a later block. -/
def ShG (w : World) (g o : Nat) (s : Sh) : Prop :=
  w.cell? ⟨g, o, none⟩ = some (.int .u8 (s.1.toNat : Int)) ∧ ∃ A c, w.cell? ⟨g, o + 1, none⟩ = some (.slice A s.2.length c) ∧ s.2.length ≤ c ∧ c ≤ 9223372036854775807 ∧
    (0 < s.2.length → ∃ b, A = some ⟨b, 0, none⟩ ∧ g < b ∧ b < w.heap.size ∧ ∀ i c, s.2[i]? = some c → w.cell? ⟨b, i, none⟩ = some (.int .u8 (c.toNat : Int)))
theorem ShG.below {w w' : World} {g o : Nat} {s : Sh} (h : ShG w g o s) (hg : g < w.heap.size) (hb : Below w.heap.size w w') : ShG w' g o s := by
  obtain ⟨h1, A, c, h2, h3, h4, h5⟩ := h
  refine ⟨(hb.cell (p := ⟨g, o, none⟩) hg).trans h1, A, c, (hb.cell (p := ⟨g, o + 1, none⟩) hg).trans h2, h3, h4, fun hl => ?_⟩
  obtain ⟨b, e, h6, h7, h8⟩ := h5 hl
  exact ⟨b, e, h6, Nat.lt_of_lt_of_le h7 hb.size, fun i c hi => (hb.cell (p := ⟨b, i, none⟩) h7).trans (h8 i c hi)⟩
theorem ShG.set_ {w : World} {g o p : Nat} {s : Sh} (h : ShG w g o s) (v : Value) (h0 : p ≠ o) (h1 : p ≠ o + 1) : ShG (w.setCell ⟨g, p, none⟩ v) g o s := by
  obtain ⟨h2, A, c, h3, h4, h5, h6⟩ := h
  refine ⟨(World.cell?_setCell_other _ _ _ _ (fun e => h0 (congrArg Addr.off e))).trans h2, A, c, (World.cell?_setCell_other _ _ _ _ (fun e => h1 (congrArg Addr.off e))).trans h3, h4, h5, fun hl => ?_⟩
  obtain ⟨b, e, h6, h7, h8⟩ := h6 hl
  exact ⟨b, e, h6, by simpa [World.setCell] using h7, fun i c hi => (World.cell?_setCell_other _ _ _ _ (fun e => by have := congrArg Addr.block e; simp at this; omega)).trans (h8 i c hi)⟩
/-- The call's own row of n shares; the first k of them are those of l. -/
structure SG (w : World) (g n k : Nat) (l : List Sh) : Prop where
  row : ∃ cs : Array Value, w.heap[g]? = some (.cells cs 29 (0, 0)) ∧ cs.size = n * 2
  at_ : ∀ i s, i < k → l[i]? = some s → ShG w g (i * 2) s
section
variable {w w' : World} {g n k : Nat} {l : List Sh}
theorem SG.lt (h : SG w g n k l) : g < w.heap.size := by
  obtain ⟨cs, h, _⟩ := h.row
  exact (Array.getElem?_eq_some_iff.1 h).1
theorem SG.below (h : SG w g n k l) (hb : Below w.heap.size w w') : SG w' g n k l := by
  obtain ⟨cs, h1, h2⟩ := h.row
  exact ⟨⟨cs, (hb.block g h.lt).trans h1, h2⟩, fun i s hi hs => (h.at_ i s hi hs).below h.lt hb⟩
theorem SG.there (h : SG w g n k l) (i : Nat) (hi : i < n * 2) : ∃ v, w.cell? ⟨g, i, none⟩ = some v := by
  obtain ⟨cs, h1, h2⟩ := h.row
  refine ⟨cs[i]'(by omega), ?_⟩
  rw [cell_of_row w g i _ _ (0, 0) h1]
  simp
theorem SG.frozen (h : SG w g n k l) (i : Nat) : w.frozen? ⟨g, i, none⟩ = false := by
  obtain ⟨cs, h1, _⟩ := h.row
  simp [World.frozen?, h1]
theorem SG.put (h : SG w g n k l) (hk : k < n) {s : Sh} (hs : l[k]? = some s) (A : Option Addr) (c : Nat) (h3 : s.2.length ≤ c) (h4 : c ≤ 9223372036854775807)
    (h5 : 0 < s.2.length → ∃ b, A = some ⟨b, 0, none⟩ ∧ g < b ∧ b < w.heap.size ∧ ∀ i c, s.2[i]? = some c → w.cell? ⟨b, i, none⟩ = some (.int .u8 (c.toNat : Int))) :
    SG ((w.setCell ⟨g, k * 2, none⟩ (.int .u8 (s.1.toNat : Int))).setCell ⟨g, k * 2 + 1, none⟩ (.slice A s.2.length c)) g n (k + 1) l := by
  have hv1 := h.there (k * 2) (by omega)
  have hv2 := h.there (k * 2 + 1) (by omega)
  obtain ⟨cs, h1, h2⟩ := h.row
  have e1 := setCell_cells (o := k * 2) (.int .u8 (s.1.toNat : Int)) h1
  have e2 := setCell_cells (o := k * 2 + 1) (.slice A s.2.length c) e1
  refine ⟨⟨_, e2, by simp [h2]⟩, fun i t hi ht => ?_⟩
  by_cases hik : i = k
  · subst hik
    rw [hs] at ht
    obtain rfl := Option.some.inj ht
    refine ⟨?_, A, c, ?_, h3, h4, fun hl => ?_⟩
    · rw [World.cell?_setCell_other _ _ _ _ (fun e => by have := congrArg Addr.off e; simp at this)]
      exact World.cell?_setCell_same' _ _ _ (by obtain ⟨v, hv⟩ := hv1; rw [hv]; rfl)
    · refine World.cell?_setCell_same' _ _ _ ?_
      rw [World.cell?_setCell_other _ _ _ _ (fun e => by have := congrArg Addr.off e; simp at this)]
      obtain ⟨v, hv⟩ := hv2
      rw [hv]
      rfl
    · obtain ⟨b, e, h6, h7, h8⟩ := h5 hl
      refine ⟨b, e, h6, by simpa [World.setCell] using h7, fun i c hi => ?_⟩
      rw [World.cell?_setCell_other _ _ _ _ (fun e => by have := congrArg Addr.block e; simp at this; omega), World.cell?_setCell_other _ _ _ _ (fun e => by have := congrArg Addr.block e; simp at this; omega)]
      exact h8 i c hi
  · exact ((h.at_ i t (by omega) ht).set_ _ (by omega) (by omega)).set_ _ (by omega) (by omega)
theorem SG.shl (h : SG w g n k l) (hk : k = l.length) : ShL w w.heap.size (some ⟨g, 0, none⟩) l := fun _ => by
  refine ⟨g, 0, rfl, h.lt, fun i s hi => ?_⟩
  have hil := (List.getElem?_eq_some_iff.1 hi).1
  obtain ⟨h1, A, c, h2, h3, h4, h5⟩ := h.at_ i s (by omega) hi
  rw [Nat.zero_add]
  refine ⟨h1, A, c, h2, fun hl => ?_, h3, h4⟩
  obtain ⟨b, rfl, _, h7, h8⟩ := h5 hl
  exact ⟨b, 0, rfl, h7, fun i c hi => by rw [Nat.zero_add]; exact h8 i c hi⟩
end
theorem info33 : (Try.prog.info? 29).map (fun i => (i.zero, i.size, i.bytes)) = some (some (.agg #[.int .u8 0, .slice none 0 0]), 2, 32) := by kernel_rfl
/-- make([]Share, n) -/
theorem wpList_make_sh (w : World) {ops : Array Oper} {rest : List Oper} {o : Oper} {a : Act} {Q : Exit → Act → World → Prop}
    (hg : o.guard = none) (l : Operand) (hop : o.op = Op.makeSlice 26 l l) (n : Nat) (hl : a.eval l = .int .i64 (n : Int)) (hm : n ≤ 1000000) (res : List Sh)
    (hK : ∀ w', Hid (SG w' w.heap.size n 0 res) → Below w.heap.size w w' → w'.heap.size = w.heap.size + 1 → wpList Try.prog ops Q rest (a.put o.dst (.slice (some ⟨w.heap.size, 0, none⟩) n n)) w') :
    wpList Try.prog ops Q (o :: rest) a w := by
  obtain ⟨i, hi, hz, hs, hb⟩ := info_parts info33
  refine wpList_plain hg fun K hK' => ?_
  have hr := run_make (P := Try.prog) w 26 29 i _ Try.underlying26 hi hz .i64 .i64 (n : Int) (n : Int) (by omega) (by omega) (by rw [hb]; omega) (by omega)
  simp only [Int.toNat_natCast] at hr
  unfold Oper.wp
  simp [execOp, hop, hl, hr, Result.andThen]
  refine hK' _ _ (hK _ ?_ (below_alloc _) (by simp))
  exact ⟨⟨_, heap_alloc_new w _, by rw [size_madeCells, hs]⟩, fun i s hi => absurd hi (by omega)⟩
end Go.Proofs.Yteaaadccjnmacaa
