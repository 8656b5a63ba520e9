/-
  A row of bytes of the call's own, one byte of which is replaced; append in a region that draws its order. Plain theorems.
-/
import Derived.Test.YteaaadccjnmacaaDetP
import Derived.Deep.QuietTactic
import Derived.BigQuiet
import Derived.Deep.RegionHeldLaw
import Derived.RegionTactic
namespace Go.Proofs.Yteaaadccjnmacaa
open Go.RowKit

/-- The bytes p lie at the head of block g, which is not frozen. -/
def Rb (w : World) (g : Nat) (p : List UInt8) : Prop := ∃ cur, w.heap[g]? = some (.cells cur 5 (0, 0)) ∧ p.length ≤ cur.size ∧ cur.toList.take p.length = cb p
section
variable {w w' : World} {g : Nat} {p : List UInt8}
theorem Rb.lt (h : Rb w g p) : g < w.heap.size := by
  obtain ⟨cur, h1, _⟩ := h
  exact (Array.getElem?_eq_some_iff.1 h1).1
theorem Rb.cell (h : Rb w g p) {i : Nat} (hi : i < p.length) : w.cell? ⟨g, i, none⟩ = some (.int .u8 ((byte p i).toNat : Int)) := by
  obtain ⟨cur, h1, h2, h3⟩ := h
  rw [cell_of_row w g i _ _ (0, 0) h1]
  have e : cur.toList[i]? = (cb p)[i]? := by rw [← h3, List.getElem?_take, if_pos hi]
  rw [← Array.getElem?_toList, e]
  simp [cb, byte, hi]
theorem Rb.frozen (h : Rb w g p) (i : Nat) : w.frozen? ⟨g, i, none⟩ = false := by
  obtain ⟨cur, h1, _⟩ := h
  simp [World.frozen?, h1]
theorem Rb.keep (h : Rb w g p) (hk : w'.heap[g]? = w.heap[g]?) : Rb w' g p := by
  obtain ⟨cur, h1, h2⟩ := h
  exact ⟨cur, hk.trans h1, h2⟩
theorem Rb.up (h : Rb w g p) (hb : Below w.heap.size w w') : Rb w' g p := h.keep (hb.block g h.lt)
theorem Rb.set (h : Rb w g p) (i : Nat) (v : UInt8) (V : Int) (hV : V = (v.toNat : Int)) (hi : i < p.length) : Rb (w.setCell ⟨g, i, none⟩ (.int .u8 V)) g (p.set i v) := by
  subst hV
  obtain ⟨cur, h1, h2, h3⟩ := h
  refine ⟨cur.setIfInBounds i (.int .u8 (v.toNat : Int)), ?_, by simpa using h2, ?_⟩
  · simp [World.setCell, Array.getElem?_modify, h1]
  · rw [List.length_set, Array.toList_setIfInBounds, List.take_set, h3]
    simp [cb, List.map_set]
theorem Rb.shows (h : Rb w g p) {B : Nat} (hB : g < B) : Shows w B (some ⟨g, 0, none⟩) p := fun _ => ⟨g, 0, rfl, hB, fun i c hi => by
  rw [Nat.zero_add, h.cell (List.getElem?_eq_some_iff.1 hi).1, byte_of hi]⟩
end
/-- append([]byte{}, p...), p not empty -/
theorem wpList_clone {w wr : World} {ops : Array Oper} {rest : List Oper} {o : Oper} {a : Act} {Q : Exit → Act → World → Prop} (hgd : o.guard = none) (d x : Operand)
    (ho : o.op = .call { callee := .builtin .append, args := #[d, x], argTypes := #[22, 22] }) (B : Nat) (p : List UInt8) (A : Option Addr) (n c : Nat) (cs : Array Value)
    (hs : a.eval d = .slice (some ⟨wr.heap.size, 0, none⟩) 0 0) (hx : a.eval x = .slice A n c) (hw : w = wr.alloc (.cells cs 5)) (hcs : cs = #[]) (hn : n = p.length) (h0 : 0 < n) (h3 : Shows wr B A p) (hroom : n ≤ 1000000) (hB : B ≤ wr.heap.size)
    (hK : ∀ g c' w', wr.heap.size ≤ g → n ≤ c' → c' ≤ 9223372036854775807 → Rb w' g p → Below wr.heap.size wr w' → wpList Try.prog ops Q rest (a.put o.dst (.slice (some ⟨g, 0, none⟩) n c')) w') : wpList Try.prog ops Q (o :: rest) a w := by
  subst hw hcs hn
  have hal : Below wr.heap.size wr (wr.alloc (.cells #[] 5)) := below_alloc _
  refine wpList_growB hgd d x _ ho Try.underlying22 info5 wr.heap.size (.slice (some ⟨wr.heap.size, 0, none⟩) 0 0) [] A p c B hs hx (owns_empty wr #[] rfl) (h3.below (hal.mono hB)) (by simp; omega) (by simp) ?_
  intro A' c' w' h1 h2
  have hb : Below wr.heap.size wr w' := hal.grown h2 (by simp) (fun k hk => by simp [Value.ownBlock] at hk; omega)
  unfold Owns at h1
  simp only [List.nil_append] at h1 ⊢
  rcases h1.2 with ⟨e, hl⟩ | ⟨g, cap, cur, e, hbg, hg, hn, hm, hs', ht⟩
  · omega
  · injection e with e1 e2 e3
    subst e1 e3
    refine hK g c' w' hbg hn (by simpa [maxLen] using hm) ⟨cur, hg, by omega, by simpa using ht⟩ hb
set_option maxRecDepth 100000 in
/-- append of bytes to a row of the call's own, in a region -/
theorem step_growB {ops : Array Oper} {o : Oper} {a : Act} {w : World} {K : Act → World → Prop} {Q : Exit → Act → World → Prop} {E : Prop} (hgd : o.guard = none) (d x : Operand)
    (ho : o.op = .call { callee := .builtin .append, args := #[d, x], argTypes := #[22, 22] }) (base : Nat) (w0 : World) (v : Value) (l : List UInt8) (b off : Nat) (p : List UInt8) (m c B n : Nat)
    (hs : a.eval d = v) (hx : a.eval x = .slice (some ⟨b, off, none⟩) m c) (hm : m = p.length) (h0 : 0 < m) (hbel : Below base w0 w) (hown : Owns w base v l) (htop : base ≤ w.heap.size) (hp : Shows w B (some ⟨b, off, none⟩) p) (hroom : l.length + m ≤ 1000000) (hn : n = (l ++ p).length)
    (hK : ∀ A' c' w', Owns w' base (.slice A' n c') (l ++ p) → Below base w0 w' → w.grownBy w' v.ownBlock → K (a.put o.dst (.slice A' n c')) w') :
    if Region.wanted o (yielded ops a.tmps) = true then Oper.wp Try.prog o a w K Q else E := by
  subst hm
  subst hn
  have hw : Region.wanted o (yielded ops a.tmps) = true := by simp [Region.wanted, hgd]
  rw [if_pos hw]
  obtain ⟨i, hi, hz0, hsz, hb⟩ := info_parts info5
  have e : (l ++ p).length = l.length + p.length := by simp
  refine wp_append_own _ d x 22 ho base 5 i (.int .u8 0) 1 1 Try.underlying22 hi hz0 hsz hb rfl (by decide) v l.length (cb l) hs hown ⟨b, off, none⟩ p.length c (cb p) hx (by simp [cb]) ?_ (cb_one p) (by simp only [maxLen]; omega) (by omega) htop ?_
  · intro j u hj
    obtain ⟨v, hv, rfl⟩ := cb_get hj
    obtain ⟨b', off', h, _, hc⟩ := hp h0
    injection h with h
    injection h with h1 h2
    subst h1 h2
    simpa [Addr.add_lit] using hc j v hv
  · intro v' w' h1 h3 _
    have ho' : Owns w' base v' (l ++ p) := by unfold Owns; rw [cb_app, e]; exact h1
    obtain ⟨A', c', rfl⟩ := ho'.slice
    exact hK A' c' w' ho' (grown_owns hown h3 hbel htop (Nat.le_refl _)) h3
theorem own_e {w : World} {base h : Nat} (hb : base ≤ w.heap.size) (hh : h = w.heap.size) : Owns (w.alloc (.cells #[] 5)) base (.slice (some ⟨h, 0, none⟩) 0 0) [] := by
  subst hh
  exact ⟨rfl, .inr ⟨w.heap.size, 0, #[], rfl, hb, heap_alloc_new w _, Nat.le_refl _, by simp [maxLen], rfl, rfl⟩⟩
theorem show_z {w : World} {h : Nat} (hh : h = w.heap.size) : Shows (w.alloc (.cells #[.int .u8 0] 5)) (w.heap.size + 1) (some ⟨h, 0, none⟩) [0] := by
  subst hh
  exact show_1 w 0 0 rfl
theorem zA (w : World) : ((w.alloc (.cells #[.int .u8 0] 5)).alloc (.cells #[] 5)).cell? ⟨w.heap.size, 0, none⟩ = some (.int .u8 0) :=
  ((ba1 (w.alloc (.cells #[.int .u8 0] 5)) (.cells #[] 5)).cell (p := ⟨w.heap.size, 0, none⟩) (by simp)).trans (cell_of_row _ w.heap.size 0 _ _ (0, 0) (heap_alloc_new w _))
theorem zB (w : World) : ((w.alloc (.cells #[] 5)).alloc (.cells #[.int .u8 0] 5)).cell? ⟨w.heap.size + 1, 0, none⟩ = some (.int .u8 0) := by
  have h := heap_alloc_new (w.alloc (.cells #[] 5)) (.cells #[.int .u8 0] 5)
  rw [hz] at h
  exact cell_of_row _ (w.heap.size + 1) 0 _ _ (0, 0) h
theorem neA (n : Nat) : some n ≠ (Value.slice (some ⟨n + 1, 0, none⟩) 0 0).ownBlock := fun h => by
  have h' : some n = some (n + 1) := h
  injection h' with h'
  omega
theorem neB (n : Nat) : some (n + 1) ≠ (Value.slice (some ⟨n, 0, none⟩) 0 0).ownBlock := fun h => by
  have h' : some (n + 1) = some n := h
  injection h' with h'
  omega
theorem own_put2 {w : World} {base j k : Nat} {v x u : Value} {l : List UInt8} (h : Owns w base v l) (hj : j < base) : Owns (put2 w j k x u) base v l := by
  refine ⟨h.1, ?_⟩
  rcases h.2 with h2 | ⟨g, cap, cur, e, hb, hg, r⟩
  · exact .inl h2
  · have e1 := Below.heap_setCell (w.setCell ⟨j, k * 2, none⟩ x) ⟨j, k * 2 + 1, none⟩ u g (fun e => by have e' : g = j := e; omega)
    have e2 := Below.heap_setCell w ⟨j, k * 2, none⟩ x g (fun e => by have e' : g = j := e; omega)
    exact .inr ⟨g, cap, cur, e, hb, e1.trans (e2.trans hg), r⟩
theorem one_show {w : World} {z B : Nat} (h : w.cell? ⟨z, 0, none⟩ = some (.int .u8 0)) (hB : z < B) : Shows w B (some ⟨z, 0, none⟩) [0] := fun _ => ⟨z, 0, rfl, hB, fun i c hi => by
  have h0 : i = 0 := by have := (List.getElem?_eq_some_iff.1 hi).1; simpa using this
  subst h0
  simp at hi
  subst hi
  exact h⟩
end Go.Proofs.Yteaaadccjnmacaa
