/-
  The program's mixing, by a contract.
-/
import Derived.Test.YtmdokldbggingaaDoorRot
import Derived.Test.YtmdokldbggingaaDoorCells
import Derived.RegionTactic
import Derived.Deep.RegionHeld3
import Derived.BigRegion
import Derived.StillTailTactics
import Derived.StillTailTactics
namespace Go.Proofs.YtmdokldbggingaaDoor
open Go.RowKit

attribute [local go_sem] wd_add wd_xor wd_or

set_option maxHeartbeats 1000000 in
set_option maxRecDepth 20000 in
theorem mixP_any (g a b c d : Nat) (t : TypeId) (v : List UInt32) (x y : UInt32) (w : World) (h : WB w g t v) (ha : a < v.length) (hb : b < v.length) (hc : c < v.length) (hd : d < v.length) :
    Calls Tryd.prog 60 #[.pointer (some ⟨g, a, none⟩), .pointer (some ⟨g, b, none⟩), .pointer (some ⟨g, c, none⟩), .pointer (some ⟨g, d, none⟩), .int .u32 (wd x), .int .u32 (wd y)] w
      fun e w' => e = .returned (.tuple #[]) ∧ WB w' g t (mixed v a b c d x y) ∧ w.grownBy w' (some g) := by
  obtain ⟨v1, e1⟩ : ∃ u, u = sumAt v a b x := ⟨_, rfl⟩
  have l1 : v1.length = v.length := by rw [e1, sumAt_len v a b x]
  obtain ⟨v2, e2⟩ : ∃ u, u = rotAt 16 v1 d a := ⟨_, rfl⟩
  have l2 : v2.length = v.length := by rw [e2, rotAt_len 16 v1 d a, l1]
  obtain ⟨v3, e3⟩ : ∃ u, u = addAt v2 c d := ⟨_, rfl⟩
  have l3 : v3.length = v.length := by rw [e3, addAt_len v2 c d, l2]
  obtain ⟨v4, e4⟩ : ∃ u, u = rotAt 12 v3 b c := ⟨_, rfl⟩
  have l4 : v4.length = v.length := by rw [e4, rotAt_len 12 v3 b c, l3]
  obtain ⟨v5, e5⟩ : ∃ u, u = sumAt v4 a b y := ⟨_, rfl⟩
  have l5 : v5.length = v.length := by rw [e5, sumAt_len v4 a b y, l4]
  obtain ⟨v6, e6⟩ : ∃ u, u = rotAt 8 v5 d a := ⟨_, rfl⟩
  have l6 : v6.length = v.length := by rw [e6, rotAt_len 8 v5 d a, l5]
  obtain ⟨v7, e7⟩ : ∃ u, u = addAt v6 c d := ⟨_, rfl⟩
  have l7 : v7.length = v.length := by rw [e7, addAt_len v6 c d, l6]
  obtain ⟨v8, e8⟩ : ∃ u, u = rotAt 7 v7 b c := ⟨_, rfl⟩
  have l8 : v8.length = v.length := by rw [e8, rotAt_len 7 v7 b c, l7]
  have fin : mixed v a b c d x y = v8 := by rw [e8, e7, e6, e5, e4, e3, e2, e1]; rfl
  have FIN := Lib.hid fin
  clear fin
  have E1 := Lib.hid e1
  have L1 := Lib.hid l1
  clear e1 l1
  have E2 := Lib.hid e2
  have L2 := Lib.hid l2
  clear e2 l2
  have E3 := Lib.hid e3
  have L3 := Lib.hid l3
  clear e3 l3
  have E4 := Lib.hid e4
  have L4 := Lib.hid l4
  clear e4 l4
  have E5 := Lib.hid e5
  have L5 := Lib.hid l5
  clear e5 l5
  have E6 := Lib.hid e6
  have L6 := Lib.hid l6
  clear e6 l6
  have E7 := Lib.hid e7
  have L7 := Lib.hid l7
  clear e7 l7
  have E8 := Lib.hid e8
  have L8 := Lib.hid l8
  clear e8 l8
  have G0 := Lib.hid (World.grownBy.refl w (some g))
  have H0 := Lib.hid h
  clear h
  go_enter Tryd.func60, Tryd.ntmps60
  go_wp2
  have ct := H0.out.cell a ha
  have cs := H0.out.cell b hb
  have ft := H0.out.frozen a
  go_region
  have h1 : WB ((w.setCell ⟨g, a, none⟩ (.int .u32 (wd (at_ v a + (at_ v b + x))))).drew) g t v1 := by rw [E1.out]; exact (H0.out.set_ _ _).drew
  have g1 : w.grownBy ((w.setCell ⟨g, a, none⟩ (.int .u32 (wd (at_ v a + (at_ v b + x))))).drew) (some g) := grown_step G0.out (grown_setd _ _ _ _)
  generalize (w.setCell ⟨g, a, none⟩ (.int .u32 (wd (at_ v a + (at_ v b + x))))).drew = w1 at h1 g1 ⊢
  have H1 := Lib.hid h1
  have G1 := Lib.hid g1
  clear h1 g1 ct cs ft H0 G0
  go_wp2
  have ct := H1.out.cell d (L1.out ▸ hd)
  have cs := H1.out.cell a (L1.out ▸ ha)
  have ft := H1.out.frozen d
  go_still_tail 10, (by kernel_rfl)
  still_call ((rotl_16 _ _).mono fun _ _ hh => ⟨hh.1, hh.2.symm⟩)
  repeat still_step
  refine wpStill_nil ?_
  change wpList _ _ _ _ _ w1.drew
  go_wp2
  have h2 : WB ((w1.setCell ⟨g, d, none⟩ (.int .u32 (wd (rotr 16 (at_ v1 d ^^^ at_ v1 a))))).drew) g t v2 := by rw [E2.out]; exact (H1.out.set_ _ _).drew
  have g2 : w.grownBy ((w1.setCell ⟨g, d, none⟩ (.int .u32 (wd (rotr 16 (at_ v1 d ^^^ at_ v1 a))))).drew) (some g) := grown_step G1.out (grown_setd _ _ _ _)
  generalize (w1.setCell ⟨g, d, none⟩ (.int .u32 (wd (rotr 16 (at_ v1 d ^^^ at_ v1 a))))).drew = w2 at h2 g2 ⊢
  have H2 := Lib.hid h2
  have G2 := Lib.hid g2
  clear h2 g2 ct cs ft H1 G1
  go_wp2
  have ct := H2.out.cell c (L2.out ▸ hc)
  have cs := H2.out.cell d (L2.out ▸ hd)
  have ft := H2.out.frozen c
  go_region
  have h3 : WB ((w2.setCell ⟨g, c, none⟩ (.int .u32 (wd (at_ v2 c + at_ v2 d)))).drew) g t v3 := by rw [E3.out]; exact (H2.out.set_ _ _).drew
  have g3 : w.grownBy ((w2.setCell ⟨g, c, none⟩ (.int .u32 (wd (at_ v2 c + at_ v2 d)))).drew) (some g) := grown_step G2.out (grown_setd _ _ _ _)
  generalize (w2.setCell ⟨g, c, none⟩ (.int .u32 (wd (at_ v2 c + at_ v2 d)))).drew = w3 at h3 g3 ⊢
  have H3 := Lib.hid h3
  have G3 := Lib.hid g3
  clear h3 g3 ct cs ft H2 G2
  go_wp2
  have ct := H3.out.cell b (L3.out ▸ hb)
  have cs := H3.out.cell c (L3.out ▸ hc)
  have ft := H3.out.frozen b
  go_still_tail 10, (by kernel_rfl)
  still_call ((rotl_12 _ _).mono fun _ _ hh => ⟨hh.1, hh.2.symm⟩)
  repeat still_step
  refine wpStill_nil ?_
  change wpList _ _ _ _ _ w3.drew
  go_wp2
  have h4 : WB ((w3.setCell ⟨g, b, none⟩ (.int .u32 (wd (rotr 12 (at_ v3 b ^^^ at_ v3 c))))).drew) g t v4 := by rw [E4.out]; exact (H3.out.set_ _ _).drew
  have g4 : w.grownBy ((w3.setCell ⟨g, b, none⟩ (.int .u32 (wd (rotr 12 (at_ v3 b ^^^ at_ v3 c))))).drew) (some g) := grown_step G3.out (grown_setd _ _ _ _)
  generalize (w3.setCell ⟨g, b, none⟩ (.int .u32 (wd (rotr 12 (at_ v3 b ^^^ at_ v3 c))))).drew = w4 at h4 g4 ⊢
  have H4 := Lib.hid h4
  have G4 := Lib.hid g4
  clear h4 g4 ct cs ft H3 G3
  go_wp2
  have ct := H4.out.cell a (L4.out ▸ ha)
  have cs := H4.out.cell b (L4.out ▸ hb)
  have ft := H4.out.frozen a
  go_region
  have h5 : WB ((w4.setCell ⟨g, a, none⟩ (.int .u32 (wd (at_ v4 a + (at_ v4 b + y))))).drew) g t v5 := by rw [E5.out]; exact (H4.out.set_ _ _).drew
  have g5 : w.grownBy ((w4.setCell ⟨g, a, none⟩ (.int .u32 (wd (at_ v4 a + (at_ v4 b + y))))).drew) (some g) := grown_step G4.out (grown_setd _ _ _ _)
  generalize (w4.setCell ⟨g, a, none⟩ (.int .u32 (wd (at_ v4 a + (at_ v4 b + y))))).drew = w5 at h5 g5 ⊢
  have H5 := Lib.hid h5
  have G5 := Lib.hid g5
  clear h5 g5 ct cs ft H4 G4
  go_wp2
  have ct := H5.out.cell d (L5.out ▸ hd)
  have cs := H5.out.cell a (L5.out ▸ ha)
  have ft := H5.out.frozen d
  go_still_tail 10, (by kernel_rfl)
  still_call ((rotl_8 _ _).mono fun _ _ hh => ⟨hh.1, hh.2.symm⟩)
  repeat still_step
  refine wpStill_nil ?_
  change wpList _ _ _ _ _ w5.drew
  go_wp2
  have h6 : WB ((w5.setCell ⟨g, d, none⟩ (.int .u32 (wd (rotr 8 (at_ v5 d ^^^ at_ v5 a))))).drew) g t v6 := by rw [E6.out]; exact (H5.out.set_ _ _).drew
  have g6 : w.grownBy ((w5.setCell ⟨g, d, none⟩ (.int .u32 (wd (rotr 8 (at_ v5 d ^^^ at_ v5 a))))).drew) (some g) := grown_step G5.out (grown_setd _ _ _ _)
  generalize (w5.setCell ⟨g, d, none⟩ (.int .u32 (wd (rotr 8 (at_ v5 d ^^^ at_ v5 a))))).drew = w6 at h6 g6 ⊢
  have H6 := Lib.hid h6
  have G6 := Lib.hid g6
  clear h6 g6 ct cs ft H5 G5
  go_wp2
  have ct := H6.out.cell c (L6.out ▸ hc)
  have cs := H6.out.cell d (L6.out ▸ hd)
  have ft := H6.out.frozen c
  go_region
  have h7 : WB ((w6.setCell ⟨g, c, none⟩ (.int .u32 (wd (at_ v6 c + at_ v6 d)))).drew) g t v7 := by rw [E7.out]; exact (H6.out.set_ _ _).drew
  have g7 : w.grownBy ((w6.setCell ⟨g, c, none⟩ (.int .u32 (wd (at_ v6 c + at_ v6 d)))).drew) (some g) := grown_step G6.out (grown_setd _ _ _ _)
  generalize (w6.setCell ⟨g, c, none⟩ (.int .u32 (wd (at_ v6 c + at_ v6 d)))).drew = w7 at h7 g7 ⊢
  have H7 := Lib.hid h7
  have G7 := Lib.hid g7
  clear h7 g7 ct cs ft H6 G6
  go_wp2
  have ct := H7.out.cell b (L7.out ▸ hb)
  have cs := H7.out.cell c (L7.out ▸ hc)
  have ft := H7.out.frozen b
  go_still_tail 10, (by kernel_rfl)
  still_call ((rotl_7 _ _).mono fun _ _ hh => ⟨hh.1, hh.2.symm⟩)
  repeat still_step
  refine wpStill_nil ?_
  change wpList _ _ _ _ _ w7.drew
  go_wp2
  have h8 : WB ((w7.setCell ⟨g, b, none⟩ (.int .u32 (wd (rotr 7 (at_ v7 b ^^^ at_ v7 c))))).drew) g t v8 := by rw [E8.out]; exact (H7.out.set_ _ _).drew
  have g8 : w.grownBy ((w7.setCell ⟨g, b, none⟩ (.int .u32 (wd (rotr 7 (at_ v7 b ^^^ at_ v7 c))))).drew) (some g) := grown_step G7.out (grown_setd _ _ _ _)
  generalize (w7.setCell ⟨g, b, none⟩ (.int .u32 (wd (rotr 7 (at_ v7 b ^^^ at_ v7 c))))).drew = w8 at h8 g8 ⊢
  have H8 := Lib.hid h8
  have G8 := Lib.hid g8
  clear h8 g8 ct cs ft H7 G7
  go_wp2
  go_end0
  exact ⟨rfl, by rw [FIN.out]; exact H8.out, G8.out⟩
end Go.Proofs.YtmdokldbggingaaDoor
