/-
  The law's sanity: all examples as the document says.
-/
import Derived.Test.YteaaadccjnmacaaCombP
import Derived.Test.YteaaadccjnmacaaSplitB
import Derived.Test.YteaaadccjnmacaaSameR
namespace Go.Proofs.Yteaaadccjnmacaa
open Go.RowKit

theorem combine_ok (A : Option Addr) (N cap : Nat) (l : List Sh) (need n : Nat) (w : World) (hN : N = l.length) (hs : ShL w w.heap.size A l) (hl : l.length ≤ 1000000) (hc : N ≤ cap ∧ cap ≤ 9223372036854775807) (hn : ∀ s ∈ l, s.2.length = n) (hn0 : n ≤ 140737488351232) (h1 : 1 ≤ need) (h2 : need ≤ 255) (hw : wfB l = true) (hle : need ≤ N) (hf : Fits l need n) :
    Calls Try.prog 9 #[.slice A N cap, .int .i64 (need : Int)] w fun e w' => ∃ g, e = .returned (.tuple #[.slice (some ⟨g, 0, none⟩) n n, .int .i64 0]) ∧ Blk w' g (interpB (l.take need) 0 n) ∧ w.heap.size ≤ g ∧ Below w.heap.size w w' := by
  refine (combine_any A N cap l need n w hN hs hl hc hn hn0 h1 h2 hw hle).mono ?_
  rintro e w' ⟨⟨_, g, h3, h4, h5⟩ | ⟨h3, _⟩, hb⟩
  · exact ⟨g, h3, h4, h5, hb⟩
  · exact absurd hf h3
theorem combine_no (A : Option Addr) (N cap : Nat) (l : List Sh) (need n : Nat) (w : World) (hN : N = l.length) (hs : ShL w w.heap.size A l) (hl : l.length ≤ 1000000) (hc : N ≤ cap ∧ cap ≤ 9223372036854775807) (hn : ∀ s ∈ l, s.2.length = n) (hn0 : n ≤ 140737488351232) (h1 : 1 ≤ need) (h2 : need ≤ 255) (hw : wfB l = true) (hle : need ≤ N) (hf : ¬ Fits l need n) :
    Calls Try.prog 9 #[.slice A N cap, .int .i64 (need : Int)] w fun e w' => e = .returned (.tuple #[.slice none 0 0, .int .i64 40]) ∧ Below w.heap.size w w' := by
  refine (combine_any A N cap l need n w hN hs hl hc hn hn0 h1 h2 hw hle).mono ?_
  rintro e w' ⟨⟨h3, _⟩ | ⟨_, h4⟩, hb⟩
  · exact absurd h3 hf
  · exact ⟨h4, hb⟩

/-! ### literals -/
theorem step_al {w w0 w' : World} (h : Below w.heap.size w w0) (h2 : Below w0.heap.size w0 w') : Below w.heap.size w w' := h.trans (h2.mono h.size)
theorem ba1 (w : World) (a : Obj) : Below w.heap.size w (w.alloc a) := below_alloc a
theorem ba2 (w : World) (a b : Obj) : Below w.heap.size w ((w.alloc a).alloc b) := (ba1 w a).alloc (by simp) b
theorem ba3 (w : World) (a b c : Obj) : Below w.heap.size w (((w.alloc a).alloc b).alloc c) := (ba2 w a b).alloc (by simp; omega) c
theorem ba4 (w : World) (a b c d : Obj) : Below w.heap.size w ((((w.alloc a).alloc b).alloc c).alloc d) := (ba3 w a b c).alloc (by simp; omega) d
theorem hz (w : World) (o : Obj) : (w.alloc o).heap.size = w.heap.size + 1 := by simp

theorem lit_b {w : World} {g B : Nat} {x : UInt8} {v : Int} (hg : w.heap[g]? = some (.cells #[.int .u8 v] 5 (0, 0))) (hv : v = (x.toNat : Int)) (hB : g < B) : Shows w B (some ⟨g, 0, none⟩) [x] := fun _ => ⟨g, 0, rfl, hB, fun i c hi => by
  have h0 : i = 0 := by have := (List.getElem?_eq_some_iff.1 hi).1; simpa using this
  subst h0 hv
  simp at hi
  subst hi
  rw [cell_of_row w g _ _ _ (0, 0) hg]
  rfl⟩
theorem show_1 (w : World) (x : UInt8) (v : Int) (hv : v = (x.toNat : Int)) : Shows (w.alloc (.cells #[.int .u8 v] 5)) (w.heap.size + 1) (some ⟨w.heap.size, 0, none⟩) [x] := lit_b (heap_alloc_new w _) hv (by omega)
/-- one share, its cells known -/
theorem shat_of {w : World} {g o b B : Nat} {p x : UInt8} {cs : Array Value} (hg : w.heap[g]? = some (.cells cs 29 (0, 0))) (h0 : cs[o]? = some (.int .u8 (p.toNat : Int))) (h1 : cs[o + 1]? = some (.slice (some ⟨b, 0, none⟩) 1 1)) (hs : Shows w B (some ⟨b, 0, none⟩) [x]) : ShAt w B g o (p, [x]) :=
  ⟨by rw [cell_of_row w g _ _ _ (0, 0) hg]; exact h0, _, 1, by rw [cell_of_row w g _ _ _ (0, 0) hg]; exact h1, hs, by simp, by omega⟩
def O1 (v : Int) : Obj := .cells #[.int .u8 v] 5
theorem shl_1 (w : World) (p x : UInt8) (q v : Int) (hq : q = (p.toNat : Int)) (hv : v = (x.toNat : Int)) :
    ShL ((w.alloc (.cells #[.int .u8 v] 5)).alloc (.cells #[.int .u8 q, .slice (some ⟨w.heap.size, 0, none⟩) 1 1] 29)) (w.heap.size + 1 + 1) (some ⟨w.heap.size + 1, 0, none⟩) [(p, [x])] := fun _ => by
  subst hq
  have hg := heap_alloc_new (w.alloc (.cells #[.int .u8 v] 5)) (.cells #[.int .u8 (p.toNat : Int), .slice (some ⟨w.heap.size, 0, none⟩) 1 1] 29)
  rw [hz] at hg
  refine ⟨w.heap.size + 1, 0, rfl, by omega, fun i s hi => ?_⟩
  match i, hi with
  | 0, hi =>
    simp at hi
    subst hi
    exact shat_of hg rfl rfl (((show_1 w x v hv).below ((below_alloc _).mono (by rw [hz]; omega))).more (by omega))
theorem shl_2 (w : World) (p1 x1 p2 x2 : UInt8) (q1 v1 q2 v2 : Int) (hq1 : q1 = (p1.toNat : Int)) (hv1 : v1 = (x1.toNat : Int)) (hq2 : q2 = (p2.toNat : Int)) (hv2 : v2 = (x2.toNat : Int)) :
    ShL (((w.alloc (.cells #[.int .u8 v1] 5)).alloc (.cells #[.int .u8 v2] 5)).alloc (.cells #[.int .u8 q1, .slice (some ⟨w.heap.size, 0, none⟩) 1 1, .int .u8 q2, .slice (some ⟨w.heap.size + 1, 0, none⟩) 1 1] 29)) (w.heap.size + 1 + 1 + 1) (some ⟨w.heap.size + 1 + 1, 0, none⟩) [(p1, [x1]), (p2, [x2])] := fun _ => by
  subst hq1 hq2
  have hg := heap_alloc_new ((w.alloc (.cells #[.int .u8 v1] 5)).alloc (.cells #[.int .u8 v2] 5)) (.cells #[.int .u8 (p1.toNat : Int), .slice (some ⟨w.heap.size, 0, none⟩) 1 1, .int .u8 (p2.toNat : Int), .slice (some ⟨w.heap.size + 1, 0, none⟩) 1 1] 29)
  rw [hz, hz] at hg
  have s1 := show_1 w x1 v1 hv1
  have s2 := show_1 (w.alloc (.cells #[.int .u8 v1] 5)) x2 v2 hv2
  rw [hz] at s2
  refine ⟨w.heap.size + 1 + 1, 0, rfl, by omega, fun i s hi => ?_⟩
  match i, hi with
  | 0, hi =>
    simp at hi
    subst hi
    exact shat_of hg rfl rfl ((s1.below ((ba2 _ _ _).mono (by rw [hz]; omega))).more (by omega))
  | 1, hi =>
    simp at hi
    subst hi
    exact shat_of hg rfl rfl ((s2.below ((ba1 _ _).mono (by rw [hz, hz]; omega))).more (by omega))
theorem shl_3 (w : World) (p1 x1 p2 x2 p3 x3 : UInt8) (q1 v1 q2 v2 q3 v3 : Int) (hq1 : q1 = (p1.toNat : Int)) (hv1 : v1 = (x1.toNat : Int)) (hq2 : q2 = (p2.toNat : Int)) (hv2 : v2 = (x2.toNat : Int)) (hq3 : q3 = (p3.toNat : Int)) (hv3 : v3 = (x3.toNat : Int)) :
    ShL ((((w.alloc (.cells #[.int .u8 v1] 5)).alloc (.cells #[.int .u8 v2] 5)).alloc (.cells #[.int .u8 v3] 5)).alloc (.cells #[.int .u8 q1, .slice (some ⟨w.heap.size, 0, none⟩) 1 1, .int .u8 q2, .slice (some ⟨w.heap.size + 1, 0, none⟩) 1 1, .int .u8 q3, .slice (some ⟨w.heap.size + 1 + 1, 0, none⟩) 1 1] 29)) (w.heap.size + 1 + 1 + 1 + 1) (some ⟨w.heap.size + 1 + 1 + 1, 0, none⟩) [(p1, [x1]), (p2, [x2]), (p3, [x3])] := fun _ => by
  subst hq1 hq2 hq3
  have hg := heap_alloc_new (((w.alloc (.cells #[.int .u8 v1] 5)).alloc (.cells #[.int .u8 v2] 5)).alloc (.cells #[.int .u8 v3] 5)) (.cells #[.int .u8 (p1.toNat : Int), .slice (some ⟨w.heap.size, 0, none⟩) 1 1, .int .u8 (p2.toNat : Int), .slice (some ⟨w.heap.size + 1, 0, none⟩) 1 1, .int .u8 (p3.toNat : Int), .slice (some ⟨w.heap.size + 1 + 1, 0, none⟩) 1 1] 29)
  rw [hz, hz, hz] at hg
  have s1 := show_1 w x1 v1 hv1
  have s2 := show_1 (w.alloc (.cells #[.int .u8 v1] 5)) x2 v2 hv2
  have s3 := show_1 ((w.alloc (.cells #[.int .u8 v1] 5)).alloc (.cells #[.int .u8 v2] 5)) x3 v3 hv3
  rw [hz] at s2
  rw [hz, hz] at s3
  refine ⟨w.heap.size + 1 + 1 + 1, 0, rfl, by omega, fun i s hi => ?_⟩
  match i, hi with
  | 0, hi =>
    simp at hi
    subst hi
    exact shat_of hg rfl rfl ((s1.below ((ba3 _ _ _ _).mono (by rw [hz]; omega))).more (by omega))
  | 1, hi =>
    simp at hi
    subst hi
    exact shat_of hg rfl rfl ((s2.below ((ba2 _ _ _).mono (by rw [hz, hz]; omega))).more (by omega))
  | 2, hi =>
    simp at hi
    subst hi
    exact shat_of hg rfl rfl ((s3.below ((ba1 _ _).mono (by rw [hz, hz, hz]; omega))).more (by omega))
end Go.Proofs.Yteaaadccjnmacaa
