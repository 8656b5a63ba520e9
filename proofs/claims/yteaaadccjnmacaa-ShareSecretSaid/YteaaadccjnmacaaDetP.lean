/-
  append of all shares to an empty row of the call's own; Combine of a list that is not well-formed.
-/
import Derived.Test.YteaaadccjnmacaaDetR
namespace Go.Proofs.Yteaaadccjnmacaa
open Go.RowKit

theorem shl_cells {w : World} {B : Nat} {A : Option Addr} {L : List Sh} (h : ShL w B A L) (hl : 0 < L.length) : ∃ b off xs, A = some ⟨b, off, none⟩ ∧ CellsOf w B xs L ∧ (∀ j u, xs[j]? = some u → w.cell? ⟨b, off + j, none⟩ = some u) ∧ ∀ u ∈ xs, u.oneCell' = true := by
  obtain ⟨b, off, rfl, hb, hc⟩ := h hl
  have hex : ∀ j, j < L.length * 2 → ∃ u, w.cell? ⟨b, off + j, none⟩ = some u ∧ u.oneCell' = true := by
    intro j hj
    obtain ⟨s, hs⟩ : ∃ s, L[j / 2]? = some s := ⟨L[j / 2]'(by omega), List.getElem?_eq_getElem (by omega)⟩
    obtain ⟨h1, A, c, h2, _⟩ := hc _ _ hs
    rcases Nat.mod_two_eq_zero_or_one j with e | e
    · exact ⟨_, by rw [← h1]; congr 2; omega, rfl⟩
    · exact ⟨_, by rw [← h2]; congr 2; omega, rfl⟩
  refine ⟨b, off, (List.range (L.length * 2)).map fun j => (w.cell? ⟨b, off + j, none⟩).getD (.int .u8 0), rfl, ⟨by simp, fun i s hi => ?_⟩, fun j u hu => ?_, fun u hu => ?_⟩
  · have hil := (List.getElem?_eq_some_iff.1 hi).1
    obtain ⟨h1, A, c, h2, h3⟩ := hc _ _ hi
    refine ⟨?_, A, c, ?_, h3⟩
    · rw [List.getElem?_map, List.getElem?_range (by omega)]
      simp [h1]
    · rw [List.getElem?_map, List.getElem?_range (by omega)]
      have e : off + (i * 2 + 1) = off + i * 2 + 1 := by omega
      simp [e, h2]
  · have hj : j < L.length * 2 := by have := (List.getElem?_eq_some_iff.1 hu).1; simpa using this
    obtain ⟨v, hv, _⟩ := hex j hj
    rw [List.getElem?_map, List.getElem?_range hj] at hu
    simp [hv] at hu
    rw [hv, hu]
  · obtain ⟨j, hj, rfl⟩ := List.mem_map.1 hu
    obtain ⟨v, hv, h1⟩ := hex j (by simpa using hj)
    rw [hv]
    exact h1
/-- append([]api.Share{}, l...) -/
theorem wpList_copy_sh {w wr : World} {ops : Array Oper} {rest : List Oper} {o : Oper} {a : Act} {Q : Exit → Act → World → Prop} (hgd : o.guard = none) (d x : Operand)
    (ho : o.op = .call { callee := .builtin .append, args := #[d, x], argTypes := #[26, 26] }) (B : Nat) (L : List Sh) (A : Option Addr) (T c : Nat) (cs : Array Value)
    (hs : a.eval d = .slice (some ⟨wr.heap.size, 0, none⟩) 0 0) (hx : a.eval x = .slice A T c) (hw : w = wr.alloc (.cells cs 29)) (hcs : cs = #[]) (hT : T = L.length) (h0 : 0 < T) (h3 : ShL wr B A L) (hroom : T ≤ 1000000) (hB : B ≤ wr.heap.size)
    (hK : ∀ g c' w', wr.heap.size ≤ g → T ≤ c' → c' ≤ 9223372036854775807 → Rw w' g T → ShIn w' B g L → Below wr.heap.size wr w' → wpList Try.prog ops Q rest (a.put o.dst (.slice (some ⟨g, 0, none⟩) T c')) w') : wpList Try.prog ops Q (o :: rest) a w := by
  subst hw hcs hT
  obtain ⟨b, off, xs, rfl, hxs, hcell, hone⟩ := shl_cells h3 h0
  obtain ⟨i, hi, hz0, hsz, hby⟩ := info_parts info33
  have hal : Below wr.heap.size wr (wr.alloc (.cells #[] 29)) := below_alloc _
  have hown : (wr.alloc (.cells #[] 29)).ownsRow wr.heap.size 29 2 (.slice (some ⟨wr.heap.size, 0, none⟩) 0 0) 0 [] := World.ownsRow_made wr #[] 0 (Nat.le_refl _) (by simp [maxLen]) rfl
  refine wpList_append_own _ hgd d x _ ho wr.heap.size 29 i _ 2 32 Try.underlying26 hi hz0 hsz hby rfl (by decide) _ 0 [] hs hown ⟨b, off, none⟩ L.length c xs hx hxs.1 ?_ hone (by simp only [maxLen]; omega) (by omega) (by simp) ?_
  · intro j u hj
    rw [Addr.add_lit]
    have h1 := hcell j u hj
    have h2 := World.block_lt_of_cell? wr _ h1
    exact (hal.cell (p := ⟨b, off + j, none⟩) h2).trans h1
  · intro v' w' g1 g2 _
    rw [Nat.zero_add, List.nil_append] at g1
    have hb : Below wr.heap.size wr w' := hal.grown g2 (by simp) (fun k hk => by simp [Value.ownBlock] at hk; omega)
    rcases g1.2 with ⟨e, hl⟩ | ⟨g, cap, cur, e, hbg, hg, hn, hm, hs', ht⟩
    · omega
    · rw [e]
      refine hK g cap w' hbg hn (by simpa [maxLen] using hm) ⟨cur, hg, by omega⟩ (fun i s hi => ?_) hb
      have hil := (List.getElem?_eq_some_iff.1 hi).1
      obtain ⟨k1, A', c', k2, k3, k4⟩ := hxs.2 i s hi
      rw [e] at g1
      refine ⟨?_, A', c', ?_, k3.below (hb.mono hB), k4⟩
      · rw [World.ownsRow.cellAt g1 (i * 2) (by omega)]
        exact k1
      · rw [World.ownsRow.cellAt g1 (i * 2 + 1) (by omega)]
        exact k2
end Go.Proofs.Yteaaadccjnmacaa
