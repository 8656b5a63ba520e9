/-
  The law's sanity returns true: the walk.
-/
import Derived.Test.YteaaadccjnmacaaSaneF
namespace Go.Proofs.Yteaaadccjnmacaa
open Go.RowKit

attribute [local irreducible] LW gmul ginv splitL masks interpB wfB
set_option maxHeartbeats 400000 in
set_option maxRecDepth 20000 in
theorem sanity_any (w : World) : Calls Try.prog 6 #[] w fun e w' => e = .returned (.bool true) ∧ Below w.heap.size w w' := by
  go_enter Try.func6, Try.ntmps6
  go_wp2_with (first
    | ((with_reducible show Calls _ 7 #[.slice _ 1 1, _, _] _ _); refine (cW_split w).mono ?_; rintro e w1 ⟨g1, rfl, hl1, hb1⟩; have L1 := Lib.hid hl1; have B1 := Lib.hid hb1; clear hl1 hb1)
    | ((with_reducible show Calls _ 9 #[.slice _ 2 2, _] _ _); refine (cW_comb2 w1).mono ?_; rintro e w2 ⟨⟨g2, rfl, hl2⟩, hb2⟩; have L2 := Lib.hid hl2; have B2 := Lib.hid hb2; clear hl2 hb2)
    | ((with_reducible show Calls _ 9 #[.slice _ 3 3, _] _ _); refine (cW_comb3 w2).mono ?_; rintro e w3 ⟨rfl, hb3⟩; have B3 := Lib.hid hb3; clear hb3)
    | ((with_reducible show Calls _ 9 #[.slice _ 1 1, .int .i64 2] _ _); refine (cW_comb1 w3).mono ?_; rintro e w4 ⟨rfl, hb4⟩; have B4 := Lib.hid hb4; clear hb4)
    | ((with_reducible show Calls _ 7 #[.slice none 0 0, _, _] _ _); refine (split_bad _ _ 3 2 _ (by omega)).mono ?_; rintro e w5 ⟨rfl, hb5⟩; have B5 := Lib.hid hb5; clear hb5)
    | ((with_reducible show Calls _ 9 #[.slice none 0 0, _] _ _); refine (combine_bad _ 0 _ (by omega)).mono ?_; rintro e w6 ⟨rfl, rfl⟩)
    | ((with_reducible show Calls _ 9 #[.slice _ 1 1, .int .i64 1] _ _); refine (cW_comb0 w6).mono ?_; rintro e w7 ⟨rfl, hb7⟩; have B7 := Lib.hid hb7; clear hb7)
    | ((with_reducible show Calls _ 11 _ _ _); refine (cW_refr w7).mono ?_; rintro e w8 ⟨g8, rfl, hl8, hb8⟩; have L8 := Lib.hid hl8; have B8 := Lib.hid hb8; clear hl8 hb8)
    | ((with_reducible show Calls _ 18 _ _ _); refine (cW_mul w8).mono ?_; rintro e w9 ⟨rfl, hl9, hb9⟩; have L9 := Lib.hid hl9; have B9 := Lib.hid hb9; clear hl9 hb9)
    | ((with_reducible show Calls _ 19 #[.int .u8 2] _ _); refine (c_inv2 w9).mono ?_; rintro e w10 ⟨rfl, hb10⟩; have B10 := Lib.hid hb10; clear hb10)
    | ((with_reducible show Calls _ 19 #[.int .u8 0] _ _); refine (c_inv0 w10).mono ?_; rintro e w11 ⟨rfl, hb11⟩; have B11 := Lib.hid hb11; clear hb11; have C1 := Lib.hid (step_al (step_al (step_al (step_al (step_al (step_al (step_al (step_al B2.out B3.out) B4.out) B5.out) B7.out) B8.out) B9.out) B10.out) B11.out); have C2 := Lib.hid (step_al (step_al (step_al (step_al (step_al (step_al (step_al B3.out B4.out) B5.out) B7.out) B8.out) B9.out) B10.out) B11.out); have C8 := Lib.hid (step_al (step_al B9.out B10.out) B11.out))
    | ((with_reducible show Calls _ 13 #[.slice _ 3 3, _] _ _); refine (cW_ss _ _ w11 (L1.out.up C1.out) (L9.out.up (step_al B10.out B11.out))).mono ?_; rintro e w12 ⟨rfl, hb12⟩; have B12 := Lib.hid hb12; clear hb12)
    | ((with_reducible show Calls _ 14 _ _ _); refine (cW_same _ w12 (L2.out.shows.up (step_al C2.out B12.out))).mono ?_; rintro e w13 ⟨rfl, hb13⟩; have B13 := Lib.hid hb13; clear hb13)
    | ((with_reducible show Calls _ 13 #[.slice _ 1 1, _] _ _); refine (cW_ss1 _ w13 (L8.out.up (step_al (step_al C8.out B12.out) B13.out))).mono ?_; rintro e w14 ⟨rfl, hb14⟩; have B14 := Lib.hid hb14; clear hb14))
  go_ret
  exact ⟨rfl, step_al (step_al (step_al (step_al B1.out C1.out) B12.out) B13.out) B14.out⟩
end Go.Proofs.Yteaaadccjnmacaa
