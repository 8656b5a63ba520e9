/-
  A row of shares of the call's own that grows, whose bytes lie in rows of bytes of the call's own. Plain theorems.
-/
import Derived.Test.YteaaadccjnmacaaOwnSh
import Derived.Test.YteaaadccjnmacaaSumR
namespace Go.Proofs.Yteaaadccjnmacaa
open Go.RowKit

theorem rows_ne {w : World} {base base' n n' k k' : Nat} {t t' : TypeId} {v v' : Value} {xs xs' : List Value} (h : w.ownsRow base t k v n xs) (h' : w.ownsRow base' t' k' v' n' xs') (ht : t ≠ t') : v.ownBlock = none ∨ v.ownBlock ≠ v'.ownBlock := by
  rcases h.2 with ⟨e, _⟩ | ⟨g, cap, cur, e, _, hg, _⟩
  · exact .inl (by rw [e]; rfl)
  · right
    rcases h'.2 with ⟨e', _⟩ | ⟨g', cap', cur', e', _, hg', _⟩
    · rw [e, e']
      intro hx
      cases hx
    · rw [e, e']
      intro hx
      have hx' : some g = some g' := hx
      injection hx' with hx'
      subst hx'
      rw [hg] at hg'
      have := Option.some.inj hg'
      injection this with _ h2
      exact ht h2
theorem row_up {w w' : World} {base n k : Nat} {t : TypeId} {v : Value} {xs : List Value} (h : w.ownsRow base t k v n xs) (hb : Below w.heap.size w w') : w'.ownsRow base t k v n xs := by
  refine ⟨h.1, ?_⟩
  rcases h.2 with h2 | ⟨g, cap, cur, e, hb2, hg, r⟩
  · exact .inl h2
  · exact .inr ⟨g, cap, cur, e, hb2, (hb.block g (Array.getElem?_eq_some_iff.1 hg).1).trans hg, r⟩
def CellsN (w : World) (base : Nat) (xs : List Value) (L : List Sh) : Prop :=
  xs.length = L.length * 2 ∧ ∀ i s, L[i]? = some s → xs[i * 2]? = some (.int .u8 (s.1.toNat : Int)) ∧ ∃ A c, xs[i * 2 + 1]? = some (.slice A s.2.length c) ∧ Owns w base (.slice A s.2.length c) s.2
theorem CellsN.nil (w : World) (base : Nat) : CellsN w base [] [] := ⟨rfl, fun i s h => by simp at h⟩
theorem CellsN.map {w w' : World} {base : Nat} {xs : List Value} {L : List Sh} (h : CellsN w base xs L) (hk : ∀ A c l, Owns w base (.slice A l.length c) l → Owns w' base (.slice A l.length c) l) : CellsN w' base xs L := by
  refine ⟨h.1, fun i s hi => ?_⟩
  obtain ⟨h1, A, c, h2, h3⟩ := h.2 i s hi
  exact ⟨h1, A, c, h2, hk A c s.2 h3⟩
theorem CellsN.snoc {w : World} {base : Nat} {xs : List Value} {L : List Sh} (h : CellsN w base xs L) (s : Sh) (A : Option Addr) (c : Nat) (h3 : Owns w base (.slice A s.2.length c) s.2) :
    CellsN w base (xs ++ [.int .u8 (s.1.toNat : Int), .slice A s.2.length c]) (L ++ [s]) := by
  obtain ⟨h0, h1⟩ := h
  refine ⟨by simp [h0]; omega, fun i t hi => ?_⟩
  by_cases hlt : i < L.length
  · rw [List.getElem?_append_left hlt] at hi
    obtain ⟨g1, A', c', g2, g3⟩ := h1 i t hi
    exact ⟨by rw [List.getElem?_append_left (by omega)]; exact g1, A', c', by rw [List.getElem?_append_left (by omega)]; exact g2, g3⟩
  · have hi2 := (List.getElem?_eq_some_iff.1 hi).1
    simp at hi2
    obtain rfl : i = L.length := by omega
    rw [List.getElem?_append_right (Nat.le_refl _), Nat.sub_self] at hi
    obtain rfl : s = t := by simpa using hi
    refine ⟨?_, A, c, ?_, h3⟩
    · rw [List.getElem?_append_right (by omega), h0, Nat.sub_self]
      rfl
    · rw [List.getElem?_append_right (by omega), show L.length * 2 + 1 - xs.length = 1 by omega]
      rfl
/-- The value v is the call's own row of the shares L, with bytes of its own. -/
def OwnN (w : World) (base : Nat) (v : Value) (L : List Sh) : Prop := ∃ xs, w.ownsRow base 29 2 v L.length xs ∧ CellsN w base xs L
theorem OwnN.up {w w' : World} {base : Nat} {v : Value} {L : List Sh} (h : OwnN w base v L) (hb : Below w.heap.size w w') : OwnN w' base v L := by
  obtain ⟨xs, h1, h2⟩ := h
  exact ⟨xs, row_up h1 hb, h2.map fun _ _ _ h => row_up h hb⟩
theorem OwnN.len {w : World} {base : Nat} {v : Value} {L : List Sh} (h : OwnN w base v L) : ∃ A c, v = .slice A L.length c := by
  obtain ⟨xs, h1, _⟩ := h
  rcases h1.2 with ⟨e, hl⟩ | ⟨g, cap, cur, e, _⟩
  · exact ⟨none, 0, by rw [e, hl]⟩
  · exact ⟨_, _, e⟩
theorem OwnN.shl {w : World} {base n c : Nat} {A : Option Addr} {L : List Sh} (h : OwnN w base (.slice A n c) L) : n = L.length ∧ L.length ≤ c ∧ c ≤ 9223372036854775807 ∧ ShL w w.heap.size A L := by
  obtain ⟨xs, h1, h2⟩ := h
  have h3 := h1.2
  rcases h3 with ⟨e, hl⟩ | ⟨g, cap, cur, e, hb, hg, hn, hm, hs, ht⟩
  · injection e with e1 e2 e3
    subst e1 e2 e3
    have h0 : L = [] := List.eq_nil_of_length_eq_zero hl
    subst h0
    exact ⟨rfl, Nat.le_refl _, by omega, ShL.nil⟩
  · injection e with e1 e2 e3
    subst e1 e2 e3
    refine ⟨rfl, hn, by simpa [maxLen] using hm, fun _ => ⟨g, 0, rfl, (Array.getElem?_eq_some_iff.1 hg).1, fun i s hi => ?_⟩⟩
    have hil := (List.getElem?_eq_some_iff.1 hi).1
    obtain ⟨g1, A', c', g2, g3⟩ := h2.2 i s hi
    rw [Nat.zero_add]
    refine ⟨?_, A', c', ?_, g3.shows.2.2, g3.shows.2.1, g3.cap_le⟩
    · rw [World.ownsRow.cellAt h1 (i * 2) (by omega)]
      exact g1
    · rw [World.ownsRow.cellAt h1 (i * 2 + 1) (by omega)]
      exact g2
/-- what a drawn region keeps while a share is appended -/
structure FN (base : Nat) (w0 w : World) (v : Value) (L : List Sh) : Prop where
  bel : Below base w0 w
  own : OwnN w base v L
  top : base ≤ w.heap.size
structure GN (base : Nat) (w0 w : World) (v : Value) (L : List Sh) (s : Sh) (A : Option Addr) (c g : Nat) : Prop where
  f : FN base w0 w v L
  by_ : Owns w base (.slice A s.2.length c) s.2
  c0 : w.cell? ⟨g, 0, none⟩ = some (.int .u8 (s.1.toNat : Int))
  c1 : w.cell? ⟨g, 1, none⟩ = some (.slice A s.2.length c)
theorem FN.dr {base : Nat} {w0 w : World} {v : Value} {L : List Sh} (h : FN base w0 w v L) : FN base w0 w.drew v L := ⟨h.bel.drew, h.own, h.top⟩
theorem GN.dr {base : Nat} {w0 w : World} {v : Value} {L : List Sh} {s : Sh} {A : Option Addr} {c g : Nat} (h : GN base w0 w v L s A c g) : GN base w0 w.drew v L s A c g := ⟨h.f.dr, h.by_, h.c0, h.c1⟩
theorem FN.up {base : Nat} {w0 w w' : World} {v : Value} {L : List Sh} (h : FN base w0 w v L) (hb : Below w.heap.size w w') : FN base w0 w' v L :=
  ⟨h.bel.trans (hb.mono h.top), h.own.up hb, Nat.le_trans h.top hb.size⟩
theorem FN.al {base : Nat} {w0 w : World} {v : Value} {L : List Sh} (h : FN base w0 w v L) (s : Sh) (A : Option Addr) (c : Nat) (ho : Owns w base (.slice A s.2.length c) s.2) :
    GN base w0 (w.alloc (.cells #[.int .u8 (s.1.toNat : Int), .slice A s.2.length c] 29)) v L s A c w.heap.size := by
  have hb := ba1 w (.cells #[.int .u8 (s.1.toNat : Int), .slice A s.2.length c] 29)
  have hn := heap_alloc_new w (.cells #[.int .u8 (s.1.toNat : Int), .slice A s.2.length c] 29)
  exact ⟨h.up hb, row_up ho hb, cell_of_row _ w.heap.size 0 _ _ (0, 0) hn, cell_of_row _ w.heap.size 1 _ _ (0, 0) hn⟩
theorem step_growN {ops : Array Oper} {o : Oper} {a : Act} {w : World} {K : Act → World → Prop} {Q : Exit → Act → World → Prop} {E : Prop} (hgd : o.guard = none) (d x : Operand)
    (ho : o.op = .call { callee := .builtin .append, args := #[d, x], argTypes := #[26, 26] }) (base : Nat) (w0 : World) (v : Value) (L : List Sh) (s : Sh) (A : Option Addr) (c g : Nat)
    (hs : a.eval d = v) (hx : a.eval x = .slice (some ⟨g, 0, none⟩) 1 1) (hG : GN base w0 w v L s A c g) (hroom : L.length + 1 ≤ 1000000)
    (hK : ∀ A' c' w', OwnN w' base (.slice A' (L ++ [s]).length c') (L ++ [s]) → Below base w0 w' → K (a.put o.dst (.slice A' (L ++ [s]).length c')) w') :
    if Region.wanted o (yielded ops a.tmps) = true then Oper.wp Try.prog o a w K Q else E := by
  have hw : Region.wanted o (yielded ops a.tmps) = true := by simp [Region.wanted, hgd]
  rw [if_pos hw]
  obtain ⟨i, hi, hz0, hsz, hby⟩ := info_parts info33
  obtain ⟨xs, h1, h2⟩ := hG.f.own
  refine wp_append_own _ d x _ ho base 29 i _ 2 32 Try.underlying26 hi hz0 hsz hby rfl (by decide) v L.length xs hs h1 ⟨g, 0, none⟩ 1 1 [.int .u8 (s.1.toNat : Int), .slice A s.2.length c] hx rfl ?_ ?_ (by simp only [maxLen]; omega) (by omega) hG.f.top ?_
  · intro j u hj
    rw [Addr.add_lit, Nat.zero_add]
    rcases j with _ | _ | j
    · simp at hj
      subst hj
      exact hG.c0
    · simp at hj
      subst hj
      exact hG.c1
    · simp at hj
  · intro u hu
    simp only [List.mem_cons, List.not_mem_nil, or_false] at hu
    rcases hu with rfl | rfl <;> rfl
  · intro v' w' g1 g2 _
    have hb : Below base w0 w' := hG.f.bel.grown g2 hG.f.top (fun k hk => (World.ownsRow.lt h1 k hk).1)
    have hkeep : ∀ A c l, Owns w base (.slice A l.length c) l → Owns w' base (.slice A l.length c) l := fun A c l ho => World.ownsRow.kept ho g2 (rows_ne ho h1 (by decide))
    have ho' : OwnN w' base v' (L ++ [s]) := ⟨_, by simpa using g1, (h2.map hkeep).snoc s A c (hkeep A c s.2 hG.by_)⟩
    obtain ⟨A', c', rfl⟩ := ho'.len
    exact hK A' c' w' ho' hb
theorem own_newN (w : World) : OwnN (w.alloc (.cells #[] 29)) w.heap.size (.slice (some ⟨w.heap.size, 0, none⟩) 0 0) [] :=
  ⟨[], ⟨rfl, .inr ⟨w.heap.size, 0, #[], rfl, Nat.le_refl _, heap_alloc_new w _, Nat.le_refl _, by simp [maxLen], rfl, rfl⟩⟩, CellsN.nil _ _⟩
end Go.Proofs.Yteaaadccjnmacaa
