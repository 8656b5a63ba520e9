/-
  A row of shares of the call's own that grows. Plain theorems.
-/
import Derived.Test.YteaaadccjnmacaaSplitP
import Derived.Test.YteaaadccjnmacaaHand
import Derived.Test.YteaaadccjnmacaaSane
namespace Go.Proofs.Yteaaadccjnmacaa
open Go.RowKit

/-- The cells xs are those of the shares L; their bytes can be read below B. -/
def CellsOf (w : World) (B : Nat) (xs : List Value) (L : List Sh) : Prop :=
  xs.length = L.length * 2 ∧ ∀ i s, L[i]? = some s → xs[i * 2]? = some (.int .u8 (s.1.toNat : Int)) ∧ ∃ A c, xs[i * 2 + 1]? = some (.slice A s.2.length c) ∧ Shows w B A s.2 ∧ s.2.length ≤ c ∧ c ≤ 9223372036854775807
theorem CellsOf.nil (w : World) (B : Nat) : CellsOf w B [] [] := ⟨rfl, fun i s h => by simp at h⟩
theorem CellsOf.below {w w' : World} {B : Nat} {xs : List Value} {L : List Sh} (h : CellsOf w B xs L) (hb : Below B w w') : CellsOf w' B xs L := by
  refine ⟨h.1, fun i s hi => ?_⟩
  obtain ⟨h1, A, c, h2, h3, h4⟩ := h.2 i s hi
  exact ⟨h1, A, c, h2, h3.below hb, h4⟩
theorem CellsOf.snoc {w : World} {B : Nat} {xs : List Value} {L : List Sh} (h : CellsOf w B xs L) (s : Sh) (A : Option Addr) (c : Nat) (h3 : Shows w B A s.2) (h4 : s.2.length ≤ c) (h5 : c ≤ 9223372036854775807) :
    CellsOf w B (xs ++ [.int .u8 (s.1.toNat : Int), .slice A s.2.length c]) (L ++ [s]) := by
  obtain ⟨h0, h1⟩ := h
  refine ⟨by simp [h0]; omega, fun i t hi => ?_⟩
  by_cases hlt : i < L.length
  · rw [List.getElem?_append_left hlt] at hi
    obtain ⟨g1, A', c', g2, g3⟩ := h1 i t hi
    exact ⟨by rw [List.getElem?_append_left (by omega)]; exact g1, A', c', by rw [List.getElem?_append_left (by omega)]; exact g2, g3⟩
  · have hi2 := (List.getElem?_eq_some_iff.1 hi).1
    simp at hi2
    obtain rfl : i = L.length := by omega
    rw [List.getElem?_append_right (Nat.le_refl _), Nat.sub_self] at hi
    obtain rfl : s = t := by simpa using hi
    refine ⟨?_, A, c, ?_, h3, h4, h5⟩
    · rw [List.getElem?_append_right (by omega), h0, Nat.sub_self]
      rfl
    · rw [List.getElem?_append_right (by omega), show L.length * 2 + 1 - xs.length = 1 by omega]
      rfl
/-- The value v is the call's own row of the shares L. -/
def OwnSh (w : World) (base B : Nat) (v : Value) (L : List Sh) : Prop := ∃ xs, w.ownsRow base 29 2 v L.length xs ∧ CellsOf w B xs L
theorem OwnSh.shl {w : World} {base B n c : Nat} {A : Option Addr} {L : List Sh} (h : OwnSh w base B (.slice A n c) L) (hB : B ≤ w.heap.size) : n = L.length ∧ L.length ≤ c ∧ c ≤ 9223372036854775807 ∧ ShL w w.heap.size A L := by
  obtain ⟨xs, h1, h2⟩ := h
  have h3 := h1.2
  rcases h3 with ⟨e, hl⟩ | ⟨g, cap, cur, e, hb, hg, hn, hm, hs, ht⟩
  · injection e with e1 e2 e3
    subst e1 e2 e3
    have h0 : L = [] := List.eq_nil_of_length_eq_zero hl
    subst h0
    exact ⟨rfl, Nat.le_refl _, by omega, ShL.nil⟩
  · injection e with e1 e2 e3
    subst e1 e2 e3
    refine ⟨rfl, hn, by simpa [maxLen] using hm, fun _ => ⟨g, 0, rfl, (Array.getElem?_eq_some_iff.1 hg).1, fun i s hi => ?_⟩⟩
    have hil := (List.getElem?_eq_some_iff.1 hi).1
    obtain ⟨g1, A', c', g2, g3, g4⟩ := h2.2 i s hi
    rw [Nat.zero_add]
    refine ⟨?_, A', c', ?_, g3.more hB, g4⟩
    · rw [World.ownsRow.cellAt h1 (i * 2) (by omega)]
      exact g1
    · rw [World.ownsRow.cellAt h1 (i * 2 + 1) (by omega)]
      exact g2
/-- append(v, s) -/
theorem wpList_grow_sh {w wr : World} {ops : Array Oper} {rest : List Oper} {o : Oper} {a : Act} {Q : Exit → Act → World → Prop} (hgd : o.guard = none) (d x : Operand)
    (ho : o.op = .call { callee := .builtin .append, args := #[d, x], argTypes := #[26, 26] }) (base B : Nat) (v : Value) (L : List Sh) (s : Sh) (A : Option Addr) (c : Nat)
    (hs : a.eval d = v) (hx : a.eval x = .slice (some ⟨wr.heap.size, 0, none⟩) 1 1) (hw : w = wr.alloc (.cells #[.int .u8 (s.1.toNat : Int), .slice A s.2.length c] 29)) (hr : OwnSh wr base B v L)
    (h3 : Shows wr B A s.2) (h4 : s.2.length ≤ c) (h5 : c ≤ 9223372036854775807) (hroom : L.length + 1 ≤ 1000000) (hbase : base ≤ wr.heap.size) (hB : B ≤ base)
    (hK : ∀ A' c' w', OwnSh w' base B (.slice A' (L ++ [s]).length c') (L ++ [s]) → wr.grownBy w' v.ownBlock → Below base wr w' → wpList Try.prog ops Q rest (a.put o.dst (.slice A' (L ++ [s]).length c')) w') : wpList Try.prog ops Q (o :: rest) a w := by
  subst hw
  obtain ⟨i, hi, hz0, hsz, hby⟩ := info_parts info33
  obtain ⟨xs, h1, h2⟩ := hr
  have hnew := heap_alloc_new wr (.cells #[.int .u8 (s.1.toNat : Int), .slice A s.2.length c] 29)
  refine wpList_append_own _ hgd d x _ ho base 29 i _ 2 32 Try.underlying26 hi hz0 hsz hby rfl (by decide) v L.length xs hs (World.ownsRow.alloc h1 _) ⟨wr.heap.size, 0, none⟩ 1 1 [.int .u8 (s.1.toNat : Int), .slice A s.2.length c] hx rfl ?_ ?_ (by simp only [maxLen]; omega) (by omega) (by simp; omega) ?_
  · intro j u hj
    rw [Addr.add_lit, Nat.zero_add, cell_of_row _ wr.heap.size j _ _ (0, 0) hnew]
    simpa using hj
  · intro u hu
    simp only [List.mem_cons, List.not_mem_nil, or_false] at hu
    rcases hu with rfl | rfl <;> rfl
  · intro v' w' g1 g2 _
    have hb : Below base wr w' := ((Below.refl base wr).alloc hbase _).grown g2 (by simp; omega) (fun k hk => (World.ownsRow.lt h1 k hk).1)
    have ho' : OwnSh w' base B v' (L ++ [s]) := ⟨_, by simpa using g1, (h2.snoc s A c h3 h4 h5).below (hb.mono hB)⟩
    obtain ⟨A', c', rfl⟩ : ∃ A' c', v' = .slice A' (L ++ [s]).length c' := by
      rcases g1.2 with ⟨e, hl⟩ | ⟨g, cap, cur, e, _⟩
      · omega
      · exact ⟨some ⟨g, 0, none⟩, cap, by rw [e]; simp⟩
    refine hK A' c' w' ho' ⟨g2.os, g2.tape, g2.output, Nat.le_trans (by simp) g2.size, fun k hk hne => ?_⟩ hb
    exact (g2.block k (by simp; omega) hne).trans (Below.heap_alloc _ _ _ hk)
/-- Such a row is no block of another type. -/
theorem own_ne {w : World} {base B U : Nat} {v : Value} {L : List Sh} {t : TypeId} {l : List Value} (h : OwnSh w base B v L) (hU : CB w U t l) (ht : t ≠ 29) : some U ≠ v.ownBlock := by
  obtain ⟨xs, h1, _⟩ := h
  rcases h1.2 with ⟨e, _⟩ | ⟨g, cap, cur, e, _, hg, _⟩
  · rw [e]
    simp [Value.ownBlock]
  · rw [e]
    intro hx
    have hx' : some U = some g := hx
    injection hx' with hx'
    subst hx'
    unfold CB at hU
    rw [hU] at hg
    have := Option.some.inj hg
    injection this with _ h2
    exact ht h2
theorem OwnSh.below {w w' : World} {base B : Nat} {v : Value} {L : List Sh} (h : OwnSh w base B v L) (hb : w.grownBy w' none) : OwnSh w' base B v L := by
  obtain ⟨xs, h1, h2⟩ := h
  refine ⟨xs, h1.kept hb (by cases v.ownBlock <;> simp), ?_⟩
  refine ⟨h2.1, fun i s hi => ?_⟩
  obtain ⟨g1, A, c, g2, g3, g4⟩ := h2.2 i s hi
  refine ⟨g1, A, c, g2, fun hl => ?_, g4⟩
  obtain ⟨b, off, e, hlt, hc⟩ := g3 hl
  refine ⟨b, off, e, hlt, fun i c hi => ?_⟩
  have h3 := hc i c hi
  have h4 := World.block_lt_of_cell? w _ h3
  have h5 := hb.block b (by simpa using h4) (by simp)
  rw [← h3]
  unfold World.cell?
  simp only [h5]
end Go.Proofs.Yteaaadccjnmacaa
