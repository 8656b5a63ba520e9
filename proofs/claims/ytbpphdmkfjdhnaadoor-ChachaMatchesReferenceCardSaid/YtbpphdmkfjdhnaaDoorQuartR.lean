/-
  The reference's quarter round and its reverse, by contracts.
-/
import Derived.Test.YtbpphdmkfjdhnaaDoorQRot
import Derived.Test.YtbpphdmkfjdhnaaDoorQSpec
import Derived.Test.YtbpphdmkfjdhnaaDoorCells
import Derived.RegionTactic
import Derived.Deep.RegionWith
import Derived.StillTailTactics
namespace Go.Proofs.YtbpphdmkfjdhnaaDoor
open Go.RowKit

theorem wd_sub (x y : UInt32) : (wd x - wd y) % 4294967296 = wd (x - y) := by
  have hx := x.toNat_lt
  have hy := y.toNat_lt
  unfold wd
  rw [UInt32.toNat_sub]
  omega
theorem wd_subw (x y : UInt32) : IntKind.u32.wrap (wd x - wd y) = wd (x - y) := by rw [IntKind.wrap_u32, wd_sub]
attribute [local go_sem] wd_add wd_addw wd_xor wd_or wd_sub wd_subw

/-- Four indices in block q. -/
def QI (w : World) (q a b c d : Nat) : Prop := w.heap[q]? = some (.cells #[.int .i64 a, .int .i64 b, .int .i64 c, .int .i64 d] 46 (0, 0))
theorem QI.cells {w : World} {q a b c d : Nat} (h : QI w q a b c d) : w.cell? ⟨q, 0, none⟩ = some (.int .i64 a) ∧ w.cell? ⟨q, 1, none⟩ = some (.int .i64 b) ∧ w.cell? ⟨q, 2, none⟩ = some (.int .i64 c) ∧ w.cell? ⟨q, 3, none⟩ = some (.int .i64 d) := by
  refine ⟨?_, ?_, ?_, ?_⟩ <;> exact cell_of_row _ _ _ _ _ (0, 0) h

theorem grown_setdd (w : World) (g i : Nat) (u : Value) : w.grownBy (w.setCell ⟨g, i, none⟩ u).drew.drew (some g) :=
  ⟨rfl, rfl, rfl, by simp [World.setCell, World.drew], fun k _ hk => Below.heap_setCell w _ u k (fun e => hk (by rw [e]))⟩
/-- The ways of a region come to one end. -/
theorem wp_merge {P : Program} {c : Code} {Q : Exit → Act → World → Prop} {a A : Act} {w W : World} (h : c.wp P (fun e a' w' => match e with | .normal => a' = A ∧ w' = W | _ => False) a w) (k : Q .normal A W) : c.wp P Q a w := by
  refine Code.wp_mono ?_ h
  intro e a' w' h
  cases e with
  | normal => obtain ⟨rfl, rfl⟩ := h; exact k
  | _ => exact h.elim

def subAt (v : List UInt32) (c d : Nat) : List UInt32 := v.set c (at_ v c - at_ v d)
def backAt (n : Nat) (v : List UInt32) (b c : Nat) : List UInt32 := v.set b (rotr n (at_ v b) ^^^ at_ v c)
theorem subAt_len (v : List UInt32) (c d : Nat) : (subAt v c d).length = v.length := by simp [subAt]
theorem backAt_len (n : Nat) (v : List UInt32) (b c : Nat) : (backAt n v b c).length = v.length := by simp [backAt]
/-- the reverse of a quarter round -/
def backed (v : List UInt32) (a b c d : Nat) : List UInt32 :=
  subAt (backAt 16 (subAt (backAt 12 (subAt (backAt 8 (subAt (backAt 7 v b c) c d) d a) a b) b c) c d) d a) a b
theorem backed_len (v : List UInt32) (a b c d : Nat) : (backed v a b c d).length = v.length := by simp [backed, subAt_len, backAt_len]

set_option maxHeartbeats 1000000 in
set_option maxRecDepth 20000 in
theorem quartR_any (g cap a b c d : Nat) (t : TypeId) (v : List UInt32) (tail : List Value) (w : World) (h : WR w g t v tail) (hv : v.length = 16) (ha : a < 16) (hb : b < 16) (hc : c < 16) (hd : d < 16) :
    Calls Tryd.prog 24 #[.slice (some ⟨g, 0, none⟩) 16 cap, .agg #[.int .i64 a, .int .i64 b, .int .i64 c, .int .i64 d]] w
      fun e w' => e = .returned (.tuple #[]) ∧ WR w' g t (quarter v a b c d) tail ∧ w.grownBy w' (some g) := by
  obtain ⟨v1, e1⟩ : ∃ u, u = addAt v a b := ⟨_, rfl⟩
  have l1 : v1.length = 16 := by rw [e1, addAt_len v a b, hv]
  obtain ⟨v2, e2⟩ : ∃ u, u = rotAt 16 v1 d a := ⟨_, rfl⟩
  have l2 : v2.length = 16 := by rw [e2, rotAt_len 16 v1 d a, l1]
  obtain ⟨v3, e3⟩ : ∃ u, u = addAt v2 c d := ⟨_, rfl⟩
  have l3 : v3.length = 16 := by rw [e3, addAt_len v2 c d, l2]
  obtain ⟨v4, e4⟩ : ∃ u, u = rotAt 20 v3 b c := ⟨_, rfl⟩
  have l4 : v4.length = 16 := by rw [e4, rotAt_len 20 v3 b c, l3]
  obtain ⟨v5, e5⟩ : ∃ u, u = addAt v4 a b := ⟨_, rfl⟩
  have l5 : v5.length = 16 := by rw [e5, addAt_len v4 a b, l4]
  obtain ⟨v6, e6⟩ : ∃ u, u = rotAt 24 v5 d a := ⟨_, rfl⟩
  have l6 : v6.length = 16 := by rw [e6, rotAt_len 24 v5 d a, l5]
  obtain ⟨v7, e7⟩ : ∃ u, u = addAt v6 c d := ⟨_, rfl⟩
  have l7 : v7.length = 16 := by rw [e7, addAt_len v6 c d, l6]
  obtain ⟨v8, e8⟩ : ∃ u, u = rotAt 25 v7 b c := ⟨_, rfl⟩
  have l8 : v8.length = 16 := by rw [e8, rotAt_len 25 v7 b c, l7]
  have fin : quarter v a b c d = v8 := by rw [e8, e7, e6, e5, e4, e3, e2, e1]; rfl
  have FIN := Lib.hid fin
  clear fin
  have E1 := Lib.hid e1
  have L1 := Lib.hid l1
  clear e1 l1
  have E2 := Lib.hid e2
  have L2 := Lib.hid l2
  clear e2 l2
  have E3 := Lib.hid e3
  have L3 := Lib.hid l3
  clear e3 l3
  have E4 := Lib.hid e4
  have L4 := Lib.hid l4
  clear e4 l4
  have E5 := Lib.hid e5
  have L5 := Lib.hid l5
  clear e5 l5
  have E6 := Lib.hid e6
  have L6 := Lib.hid l6
  clear e6 l6
  have E7 := Lib.hid e7
  have L7 := Lib.hid l7
  clear e7 l7
  have E8 := Lib.hid e8
  have L8 := Lib.hid l8
  clear e8 l8
  have L0 := Lib.hid hv
  have G0 := Lib.hid (World.grownBy_alloc w (.cells #[.int .i64 a, .int .i64 b, .int .i64 c, .int .i64 d] 46) (some g))
  have H0 := Lib.hid (h.alloc (.cells #[.int .i64 a, .int .i64 b, .int .i64 c, .int .i64 d] 46))
  have Q0 : Hid (QI (w.alloc (.cells #[.int .i64 a, .int .i64 b, .int .i64 c, .int .i64 d] 46)) w.heap.size a b c d) := heap_alloc_new w _
  clear h hv
  have ia : (a : Int) < 16 := by omega
  have ib : (b : Int) < 16 := by omega
  have ic : (c : Int) < 16 := by omega
  have id : (d : Int) < 16 := by omega
  obtain ⟨q0, q1, q2, q3⟩ := Q0.out.cells
  go_enter Tryd.func24, Tryd.ntmps24
  go_wp2
  clear q0 q1 q2 q3 Q0
  generalize w.heap.size = q at *
  generalize w.alloc (.cells #[.int .i64 a, .int .i64 b, .int .i64 c, .int .i64 d] 46) = w0 at *
  have ct := H0.out.cell a (L0.out ▸ ha)
  have cs := H0.out.cell b (L0.out ▸ hb)
  have ft := H0.out.frozen a
  go_still_tail 12, (by kernel_rfl)
  change wpList _ _ _ _ _ w0.drew
  go_wp2
  have h1 : WR ((w0.setCell ⟨g, a, none⟩ (.int .u32 (wd (at_ v a + at_ v b)))).drew) g t v1 tail := by rw [E1.out]; exact (H0.out.set_ _ _ (L0.out ▸ ha)).drew
  have g1 : w.grownBy ((w0.setCell ⟨g, a, none⟩ (.int .u32 (wd (at_ v a + at_ v b)))).drew) (some g) := grown_step G0.out (grown_setd _ _ _ _)
  generalize (w0.setCell ⟨g, a, none⟩ (.int .u32 (wd (at_ v a + at_ v b)))).drew = w1 at h1 g1 ⊢
  have H1 := Lib.hid h1
  have G1 := Lib.hid g1
  clear h1 g1 ct cs ft H0 G0
  go_wp2
  have ct := H1.out.cell d (L1.out ▸ hd)
  have cs := H1.out.cell a (L1.out ▸ ha)
  have ft := H1.out.frozen d
  refine' wp_merge ?merge2 ?after2
  case merge2 =>
    go_region_with ((go_at_call 29; refine (turn_16 _ _).mono ?_; rintro e w9 ⟨rfl, rfl⟩))
    all_goals exact ⟨rfl, rfl⟩
  have h2 : WR ((w1.setCell ⟨g, d, none⟩ (.int .u32 (wd (rotr 16 (at_ v1 d ^^^ at_ v1 a))))).drew.drew) g t v2 tail := by rw [E2.out]; exact (H1.out.set_ _ _ (L1.out ▸ hd)).drew
  have g2 : w.grownBy ((w1.setCell ⟨g, d, none⟩ (.int .u32 (wd (rotr 16 (at_ v1 d ^^^ at_ v1 a))))).drew.drew) (some g) := grown_step G1.out (grown_setdd _ _ _ _)
  generalize (w1.setCell ⟨g, d, none⟩ (.int .u32 (wd (rotr 16 (at_ v1 d ^^^ at_ v1 a))))).drew.drew = w2 at h2 g2 ⊢
  have H2 := Lib.hid h2
  have G2 := Lib.hid g2
  clear h2 g2 ct cs ft H1 G1
  go_wp2
  have ct := H2.out.cell c (L2.out ▸ hc)
  have cs := H2.out.cell d (L2.out ▸ hd)
  have ft := H2.out.frozen c
  go_still_tail 12, (by kernel_rfl)
  change wpList _ _ _ _ _ w2.drew
  go_wp2
  have h3 : WR ((w2.setCell ⟨g, c, none⟩ (.int .u32 (wd (at_ v2 c + at_ v2 d)))).drew) g t v3 tail := by rw [E3.out]; exact (H2.out.set_ _ _ (L2.out ▸ hc)).drew
  have g3 : w.grownBy ((w2.setCell ⟨g, c, none⟩ (.int .u32 (wd (at_ v2 c + at_ v2 d)))).drew) (some g) := grown_step G2.out (grown_setd _ _ _ _)
  generalize (w2.setCell ⟨g, c, none⟩ (.int .u32 (wd (at_ v2 c + at_ v2 d)))).drew = w3 at h3 g3 ⊢
  have H3 := Lib.hid h3
  have G3 := Lib.hid g3
  clear h3 g3 ct cs ft H2 G2
  go_wp2
  have ct := H3.out.cell b (L3.out ▸ hb)
  have cs := H3.out.cell c (L3.out ▸ hc)
  have ft := H3.out.frozen b
  refine' wp_merge ?merge4 ?after4
  case merge4 =>
    go_region_with ((go_at_call 29; refine (turn_12 _ _).mono ?_; rintro e w9 ⟨rfl, rfl⟩))
    all_goals exact ⟨rfl, rfl⟩
  have h4 : WR ((w3.setCell ⟨g, b, none⟩ (.int .u32 (wd (rotr 20 (at_ v3 b ^^^ at_ v3 c))))).drew.drew) g t v4 tail := by rw [E4.out]; exact (H3.out.set_ _ _ (L3.out ▸ hb)).drew
  have g4 : w.grownBy ((w3.setCell ⟨g, b, none⟩ (.int .u32 (wd (rotr 20 (at_ v3 b ^^^ at_ v3 c))))).drew.drew) (some g) := grown_step G3.out (grown_setdd _ _ _ _)
  generalize (w3.setCell ⟨g, b, none⟩ (.int .u32 (wd (rotr 20 (at_ v3 b ^^^ at_ v3 c))))).drew.drew = w4 at h4 g4 ⊢
  have H4 := Lib.hid h4
  have G4 := Lib.hid g4
  clear h4 g4 ct cs ft H3 G3
  go_wp2
  have ct := H4.out.cell a (L4.out ▸ ha)
  have cs := H4.out.cell b (L4.out ▸ hb)
  have ft := H4.out.frozen a
  go_still_tail 12, (by kernel_rfl)
  change wpList _ _ _ _ _ w4.drew
  go_wp2
  have h5 : WR ((w4.setCell ⟨g, a, none⟩ (.int .u32 (wd (at_ v4 a + at_ v4 b)))).drew) g t v5 tail := by rw [E5.out]; exact (H4.out.set_ _ _ (L4.out ▸ ha)).drew
  have g5 : w.grownBy ((w4.setCell ⟨g, a, none⟩ (.int .u32 (wd (at_ v4 a + at_ v4 b)))).drew) (some g) := grown_step G4.out (grown_setd _ _ _ _)
  generalize (w4.setCell ⟨g, a, none⟩ (.int .u32 (wd (at_ v4 a + at_ v4 b)))).drew = w5 at h5 g5 ⊢
  have H5 := Lib.hid h5
  have G5 := Lib.hid g5
  clear h5 g5 ct cs ft H4 G4
  go_wp2
  have ct := H5.out.cell d (L5.out ▸ hd)
  have cs := H5.out.cell a (L5.out ▸ ha)
  have ft := H5.out.frozen d
  refine' wp_merge ?merge6 ?after6
  case merge6 =>
    go_region_with ((go_at_call 29; refine (turn_8 _ _).mono ?_; rintro e w9 ⟨rfl, rfl⟩))
    all_goals exact ⟨rfl, rfl⟩
  have h6 : WR ((w5.setCell ⟨g, d, none⟩ (.int .u32 (wd (rotr 24 (at_ v5 d ^^^ at_ v5 a))))).drew.drew) g t v6 tail := by rw [E6.out]; exact (H5.out.set_ _ _ (L5.out ▸ hd)).drew
  have g6 : w.grownBy ((w5.setCell ⟨g, d, none⟩ (.int .u32 (wd (rotr 24 (at_ v5 d ^^^ at_ v5 a))))).drew.drew) (some g) := grown_step G5.out (grown_setdd _ _ _ _)
  generalize (w5.setCell ⟨g, d, none⟩ (.int .u32 (wd (rotr 24 (at_ v5 d ^^^ at_ v5 a))))).drew.drew = w6 at h6 g6 ⊢
  have H6 := Lib.hid h6
  have G6 := Lib.hid g6
  clear h6 g6 ct cs ft H5 G5
  go_wp2
  have ct := H6.out.cell c (L6.out ▸ hc)
  have cs := H6.out.cell d (L6.out ▸ hd)
  have ft := H6.out.frozen c
  go_still_tail 12, (by kernel_rfl)
  change wpList _ _ _ _ _ w6.drew
  go_wp2
  have h7 : WR ((w6.setCell ⟨g, c, none⟩ (.int .u32 (wd (at_ v6 c + at_ v6 d)))).drew) g t v7 tail := by rw [E7.out]; exact (H6.out.set_ _ _ (L6.out ▸ hc)).drew
  have g7 : w.grownBy ((w6.setCell ⟨g, c, none⟩ (.int .u32 (wd (at_ v6 c + at_ v6 d)))).drew) (some g) := grown_step G6.out (grown_setd _ _ _ _)
  generalize (w6.setCell ⟨g, c, none⟩ (.int .u32 (wd (at_ v6 c + at_ v6 d)))).drew = w7 at h7 g7 ⊢
  have H7 := Lib.hid h7
  have G7 := Lib.hid g7
  clear h7 g7 ct cs ft H6 G6
  go_wp2
  have ct := H7.out.cell b (L7.out ▸ hb)
  have cs := H7.out.cell c (L7.out ▸ hc)
  have ft := H7.out.frozen b
  refine' wp_merge ?merge8 ?after8
  case merge8 =>
    go_region_with ((go_at_call 29; refine (turn_7 _ _).mono ?_; rintro e w9 ⟨rfl, rfl⟩))
    all_goals exact ⟨rfl, rfl⟩
  have h8 : WR ((w7.setCell ⟨g, b, none⟩ (.int .u32 (wd (rotr 25 (at_ v7 b ^^^ at_ v7 c))))).drew.drew) g t v8 tail := by rw [E8.out]; exact (H7.out.set_ _ _ (L7.out ▸ hb)).drew
  have g8 : w.grownBy ((w7.setCell ⟨g, b, none⟩ (.int .u32 (wd (rotr 25 (at_ v7 b ^^^ at_ v7 c))))).drew.drew) (some g) := grown_step G7.out (grown_setdd _ _ _ _)
  generalize (w7.setCell ⟨g, b, none⟩ (.int .u32 (wd (rotr 25 (at_ v7 b ^^^ at_ v7 c))))).drew.drew = w8 at h8 g8 ⊢
  have H8 := Lib.hid h8
  have G8 := Lib.hid g8
  clear h8 g8 ct cs ft H7 G7
  go_wp2
  go_end0
  exact ⟨rfl, by rw [FIN.out]; exact H8.out, G8.out⟩
set_option maxHeartbeats 1000000 in
set_option maxRecDepth 20000 in
theorem backR_any (g cap a b c d : Nat) (t : TypeId) (v : List UInt32) (tail : List Value) (w : World) (h : WR w g t v tail) (hv : v.length = 16) (ha : a < 16) (hb : b < 16) (hc : c < 16) (hd : d < 16) :
    Calls Tryd.prog 21 #[.slice (some ⟨g, 0, none⟩) 16 cap, .agg #[.int .i64 a, .int .i64 b, .int .i64 c, .int .i64 d]] w
      fun e w' => e = .returned (.tuple #[]) ∧ WR w' g t (backed v a b c d) tail ∧ w.grownBy w' (some g) := by
  obtain ⟨v1, e1⟩ : ∃ u, u = backAt 7 v b c := ⟨_, rfl⟩
  have l1 : v1.length = 16 := by rw [e1, backAt_len 7 v b c, hv]
  obtain ⟨v2, e2⟩ : ∃ u, u = subAt v1 c d := ⟨_, rfl⟩
  have l2 : v2.length = 16 := by rw [e2, subAt_len v1 c d, l1]
  obtain ⟨v3, e3⟩ : ∃ u, u = backAt 8 v2 d a := ⟨_, rfl⟩
  have l3 : v3.length = 16 := by rw [e3, backAt_len 8 v2 d a, l2]
  obtain ⟨v4, e4⟩ : ∃ u, u = subAt v3 a b := ⟨_, rfl⟩
  have l4 : v4.length = 16 := by rw [e4, subAt_len v3 a b, l3]
  obtain ⟨v5, e5⟩ : ∃ u, u = backAt 12 v4 b c := ⟨_, rfl⟩
  have l5 : v5.length = 16 := by rw [e5, backAt_len 12 v4 b c, l4]
  obtain ⟨v6, e6⟩ : ∃ u, u = subAt v5 c d := ⟨_, rfl⟩
  have l6 : v6.length = 16 := by rw [e6, subAt_len v5 c d, l5]
  obtain ⟨v7, e7⟩ : ∃ u, u = backAt 16 v6 d a := ⟨_, rfl⟩
  have l7 : v7.length = 16 := by rw [e7, backAt_len 16 v6 d a, l6]
  obtain ⟨v8, e8⟩ : ∃ u, u = subAt v7 a b := ⟨_, rfl⟩
  have l8 : v8.length = 16 := by rw [e8, subAt_len v7 a b, l7]
  have fin : backed v a b c d = v8 := by rw [e8, e7, e6, e5, e4, e3, e2, e1]; rfl
  have FIN := Lib.hid fin
  clear fin
  have E1 := Lib.hid e1
  have L1 := Lib.hid l1
  clear e1 l1
  have E2 := Lib.hid e2
  have L2 := Lib.hid l2
  clear e2 l2
  have E3 := Lib.hid e3
  have L3 := Lib.hid l3
  clear e3 l3
  have E4 := Lib.hid e4
  have L4 := Lib.hid l4
  clear e4 l4
  have E5 := Lib.hid e5
  have L5 := Lib.hid l5
  clear e5 l5
  have E6 := Lib.hid e6
  have L6 := Lib.hid l6
  clear e6 l6
  have E7 := Lib.hid e7
  have L7 := Lib.hid l7
  clear e7 l7
  have E8 := Lib.hid e8
  have L8 := Lib.hid l8
  clear e8 l8
  have L0 := Lib.hid hv
  have G0 := Lib.hid (World.grownBy_alloc w (.cells #[.int .i64 a, .int .i64 b, .int .i64 c, .int .i64 d] 46) (some g))
  have H0 := Lib.hid (h.alloc (.cells #[.int .i64 a, .int .i64 b, .int .i64 c, .int .i64 d] 46))
  have Q0 : Hid (QI (w.alloc (.cells #[.int .i64 a, .int .i64 b, .int .i64 c, .int .i64 d] 46)) w.heap.size a b c d) := heap_alloc_new w _
  clear h hv
  have ia : (a : Int) < 16 := by omega
  have ib : (b : Int) < 16 := by omega
  have ic : (c : Int) < 16 := by omega
  have id : (d : Int) < 16 := by omega
  obtain ⟨q0, q1, q2, q3⟩ := Q0.out.cells
  go_enter Tryd.func21, Tryd.ntmps21
  go_wp2
  clear q0 q1 q2 q3 Q0
  generalize w.heap.size = q at *
  generalize w.alloc (.cells #[.int .i64 a, .int .i64 b, .int .i64 c, .int .i64 d] 46) = w0 at *
  have ct := H0.out.cell b (L0.out ▸ hb)
  have cs := H0.out.cell c (L0.out ▸ hc)
  have ft := H0.out.frozen b
  refine' wp_merge ?merge1 ?after1
  case merge1 =>
    go_region_with ((go_at_call 29; refine (turn_25 _ _).mono ?_; rintro e w9 ⟨rfl, rfl⟩))
    all_goals exact ⟨rfl, rfl⟩
  have h1 : WR ((w0.setCell ⟨g, b, none⟩ (.int .u32 (wd (rotr 7 (at_ v b) ^^^ at_ v c)))).drew.drew) g t v1 tail := by rw [E1.out]; exact (H0.out.set_ _ _ (L0.out ▸ hb)).drew
  have g1 : w.grownBy ((w0.setCell ⟨g, b, none⟩ (.int .u32 (wd (rotr 7 (at_ v b) ^^^ at_ v c)))).drew.drew) (some g) := grown_step G0.out (grown_setdd _ _ _ _)
  generalize (w0.setCell ⟨g, b, none⟩ (.int .u32 (wd (rotr 7 (at_ v b) ^^^ at_ v c)))).drew.drew = w1 at h1 g1 ⊢
  have H1 := Lib.hid h1
  have G1 := Lib.hid g1
  clear h1 g1 ct cs ft H0 G0
  go_wp2
  have ct := H1.out.cell c (L1.out ▸ hc)
  have cs := H1.out.cell d (L1.out ▸ hd)
  have ft := H1.out.frozen c
  go_still_tail 12, (by kernel_rfl)
  change wpList _ _ _ _ _ w1.drew
  go_wp2
  have h2 : WR ((w1.setCell ⟨g, c, none⟩ (.int .u32 (wd (at_ v1 c - at_ v1 d)))).drew) g t v2 tail := by rw [E2.out]; exact (H1.out.set_ _ _ (L1.out ▸ hc)).drew
  have g2 : w.grownBy ((w1.setCell ⟨g, c, none⟩ (.int .u32 (wd (at_ v1 c - at_ v1 d)))).drew) (some g) := grown_step G1.out (grown_setd _ _ _ _)
  generalize (w1.setCell ⟨g, c, none⟩ (.int .u32 (wd (at_ v1 c - at_ v1 d)))).drew = w2 at h2 g2 ⊢
  have H2 := Lib.hid h2
  have G2 := Lib.hid g2
  clear h2 g2 ct cs ft H1 G1
  go_wp2
  have ct := H2.out.cell d (L2.out ▸ hd)
  have cs := H2.out.cell a (L2.out ▸ ha)
  have ft := H2.out.frozen d
  refine' wp_merge ?merge3 ?after3
  case merge3 =>
    go_region_with ((go_at_call 29; refine (turn_24 _ _).mono ?_; rintro e w9 ⟨rfl, rfl⟩))
    all_goals exact ⟨rfl, rfl⟩
  have h3 : WR ((w2.setCell ⟨g, d, none⟩ (.int .u32 (wd (rotr 8 (at_ v2 d) ^^^ at_ v2 a)))).drew.drew) g t v3 tail := by rw [E3.out]; exact (H2.out.set_ _ _ (L2.out ▸ hd)).drew
  have g3 : w.grownBy ((w2.setCell ⟨g, d, none⟩ (.int .u32 (wd (rotr 8 (at_ v2 d) ^^^ at_ v2 a)))).drew.drew) (some g) := grown_step G2.out (grown_setdd _ _ _ _)
  generalize (w2.setCell ⟨g, d, none⟩ (.int .u32 (wd (rotr 8 (at_ v2 d) ^^^ at_ v2 a)))).drew.drew = w3 at h3 g3 ⊢
  have H3 := Lib.hid h3
  have G3 := Lib.hid g3
  clear h3 g3 ct cs ft H2 G2
  go_wp2
  have ct := H3.out.cell a (L3.out ▸ ha)
  have cs := H3.out.cell b (L3.out ▸ hb)
  have ft := H3.out.frozen a
  go_still_tail 12, (by kernel_rfl)
  change wpList _ _ _ _ _ w3.drew
  go_wp2
  have h4 : WR ((w3.setCell ⟨g, a, none⟩ (.int .u32 (wd (at_ v3 a - at_ v3 b)))).drew) g t v4 tail := by rw [E4.out]; exact (H3.out.set_ _ _ (L3.out ▸ ha)).drew
  have g4 : w.grownBy ((w3.setCell ⟨g, a, none⟩ (.int .u32 (wd (at_ v3 a - at_ v3 b)))).drew) (some g) := grown_step G3.out (grown_setd _ _ _ _)
  generalize (w3.setCell ⟨g, a, none⟩ (.int .u32 (wd (at_ v3 a - at_ v3 b)))).drew = w4 at h4 g4 ⊢
  have H4 := Lib.hid h4
  have G4 := Lib.hid g4
  clear h4 g4 ct cs ft H3 G3
  go_wp2
  have ct := H4.out.cell b (L4.out ▸ hb)
  have cs := H4.out.cell c (L4.out ▸ hc)
  have ft := H4.out.frozen b
  refine' wp_merge ?merge5 ?after5
  case merge5 =>
    go_region_with ((go_at_call 29; refine (turn_20 _ _).mono ?_; rintro e w9 ⟨rfl, rfl⟩))
    all_goals exact ⟨rfl, rfl⟩
  have h5 : WR ((w4.setCell ⟨g, b, none⟩ (.int .u32 (wd (rotr 12 (at_ v4 b) ^^^ at_ v4 c)))).drew.drew) g t v5 tail := by rw [E5.out]; exact (H4.out.set_ _ _ (L4.out ▸ hb)).drew
  have g5 : w.grownBy ((w4.setCell ⟨g, b, none⟩ (.int .u32 (wd (rotr 12 (at_ v4 b) ^^^ at_ v4 c)))).drew.drew) (some g) := grown_step G4.out (grown_setdd _ _ _ _)
  generalize (w4.setCell ⟨g, b, none⟩ (.int .u32 (wd (rotr 12 (at_ v4 b) ^^^ at_ v4 c)))).drew.drew = w5 at h5 g5 ⊢
  have H5 := Lib.hid h5
  have G5 := Lib.hid g5
  clear h5 g5 ct cs ft H4 G4
  go_wp2
  have ct := H5.out.cell c (L5.out ▸ hc)
  have cs := H5.out.cell d (L5.out ▸ hd)
  have ft := H5.out.frozen c
  go_still_tail 12, (by kernel_rfl)
  change wpList _ _ _ _ _ w5.drew
  go_wp2
  have h6 : WR ((w5.setCell ⟨g, c, none⟩ (.int .u32 (wd (at_ v5 c - at_ v5 d)))).drew) g t v6 tail := by rw [E6.out]; exact (H5.out.set_ _ _ (L5.out ▸ hc)).drew
  have g6 : w.grownBy ((w5.setCell ⟨g, c, none⟩ (.int .u32 (wd (at_ v5 c - at_ v5 d)))).drew) (some g) := grown_step G5.out (grown_setd _ _ _ _)
  generalize (w5.setCell ⟨g, c, none⟩ (.int .u32 (wd (at_ v5 c - at_ v5 d)))).drew = w6 at h6 g6 ⊢
  have H6 := Lib.hid h6
  have G6 := Lib.hid g6
  clear h6 g6 ct cs ft H5 G5
  go_wp2
  have ct := H6.out.cell d (L6.out ▸ hd)
  have cs := H6.out.cell a (L6.out ▸ ha)
  have ft := H6.out.frozen d
  refine' wp_merge ?merge7 ?after7
  case merge7 =>
    go_region_with ((go_at_call 29; refine (turn_16 _ _).mono ?_; rintro e w9 ⟨rfl, rfl⟩))
    all_goals exact ⟨rfl, rfl⟩
  have h7 : WR ((w6.setCell ⟨g, d, none⟩ (.int .u32 (wd (rotr 16 (at_ v6 d) ^^^ at_ v6 a)))).drew.drew) g t v7 tail := by rw [E7.out]; exact (H6.out.set_ _ _ (L6.out ▸ hd)).drew
  have g7 : w.grownBy ((w6.setCell ⟨g, d, none⟩ (.int .u32 (wd (rotr 16 (at_ v6 d) ^^^ at_ v6 a)))).drew.drew) (some g) := grown_step G6.out (grown_setdd _ _ _ _)
  generalize (w6.setCell ⟨g, d, none⟩ (.int .u32 (wd (rotr 16 (at_ v6 d) ^^^ at_ v6 a)))).drew.drew = w7 at h7 g7 ⊢
  have H7 := Lib.hid h7
  have G7 := Lib.hid g7
  clear h7 g7 ct cs ft H6 G6
  go_wp2
  have ct := H7.out.cell a (L7.out ▸ ha)
  have cs := H7.out.cell b (L7.out ▸ hb)
  have ft := H7.out.frozen a
  go_still_tail 12, (by kernel_rfl)
  change wpList _ _ _ _ _ w7.drew
  go_wp2
  have h8 : WR ((w7.setCell ⟨g, a, none⟩ (.int .u32 (wd (at_ v7 a - at_ v7 b)))).drew) g t v8 tail := by rw [E8.out]; exact (H7.out.set_ _ _ (L7.out ▸ ha)).drew
  have g8 : w.grownBy ((w7.setCell ⟨g, a, none⟩ (.int .u32 (wd (at_ v7 a - at_ v7 b)))).drew) (some g) := grown_step G7.out (grown_setd _ _ _ _)
  generalize (w7.setCell ⟨g, a, none⟩ (.int .u32 (wd (at_ v7 a - at_ v7 b)))).drew = w8 at h8 g8 ⊢
  have H8 := Lib.hid h8
  have G8 := Lib.hid g8
  clear h8 g8 ct cs ft H7 G7
  go_wp2
  go_end0
  exact ⟨rfl, by rw [FIN.out]; exact H8.out, G8.out⟩
end Go.Proofs.YtbpphdmkfjdhnaaDoor
