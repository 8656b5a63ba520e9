/-
  The laws' sanity: the fixed examples. By a contract.
-/
import Derived.Test.YtmdokldbggingaaDoorBl8
import Derived.Test.YtmdokldbggingaaDoorHdm
namespace Go.Proofs.YtmdokldbggingaaDoor
open Go.RowKit

theorem bt_lit (w : World) (l : List UInt8) {cs : Array Value} {t : TypeId} (h : cs = (cb l).toArray) : BT (w.alloc (.cells cs t)) w.heap.size t l := by
  subst h
  exact heap_alloc_new w _
theorem bt_lit1 (w : World) (o : Obj) (l : List UInt8) {cs : Array Value} {t : TypeId} (h : cs = (cb l).toArray) : BT ((w.alloc o).alloc (.cells cs t)) (w.heap.size + 1) t l := by
  have := bt_lit (w.alloc o) l (t := t) h
  rwa [asz] at this
theorem size_lit (x K : Int) (n z : Nat) (w : World) (hx : x = (n : Int)) (hn : n ≤ 32768) (hK : isKB K = true) (hz : szN (2 * n) = z) :
    Calls Tryd.prog 25 #[.int .i64 x, .int .i64 K] w fun e w' => e = .returned (.tuple #[.int .i64 (z : Nat), .int .i64 0]) ∧ Below w.heap.size w w' := by
  subst hx hz
  exact size_ok n K w hn hK
theorem tb_none (p : Nat) (hp : p < 8) : tb [0] p = false := by
  unfold tb
  rw [show p / 8 = 0 by omega]
  simp
theorem has_empty : (bitsL 1 1 []).all (tb [0]) = false := by
  have h : ∃ p, p < 8 ∧ bitsL 1 1 [] = [p] := by
    refine ⟨sumN (hA []) (hB []) 0 % 8, Nat.mod_lt _ (by decide), ?_⟩
    unfold bitsL
    rw [if_pos (by decide)]
    rfl
  obtain ⟨p, hp, e⟩ := h
  rw [e]
  simp [tb_none p hp]
theorem has_bad : (bitsL 0 1 []).all (tb [0]) = true := by
  unfold bitsL
  rw [if_neg (by decide)]
  rfl
theorem Has_nil (K : Int) (g : Nat) (b : Bool) (w : World) (hb : (bitsL K 1 []).all (tb [0]) = b) (hF : BT w g 5 [0]) (G : Glob w) :
    Calls Tryd.prog 18 #[.agg #[.int .i64 K, .slice (some ⟨g, 0, none⟩) 1 1], .slice none 0 0] w fun e w' => e = .returned (.bool b) ∧ Below w.heap.size w w' := by
  subst hb
  exact Has_any K (some ⟨g, 0, none⟩) 1 1 [0] none 0 [] w rfl (hF.shows hF.lt) (by decide) (by decide) Shows.nil G
theorem Same_eq (K : Int) (A B : Option Addr) (n c d : Nat) (a : List UInt8) (w : World) (hn : n = a.length) (hnl : n ≤ 9223372036854775807) (hA : Shows w w.heap.size A a) (hB : Shows w w.heap.size B a) :
    Calls Tryd.prog 15 #[.agg #[.int .i64 K, .slice A n c], .agg #[.int .i64 K, .slice B n d]] w fun e w' => e = .returned (.bool true) ∧ Below w.heap.size w w' :=
  (Same_any K K A B n c n d a a w hn hn hnl hnl hA hB).mono fun e w' h => ⟨by rw [h.1]; simp, h.2⟩
/-- what the last examples read -/
structure SA (w : World) (p q : Nat) (A B : Option Addr) (c d : Nat) (X : World) : Prop where
  x : CB X p 24 [.int .i64 2, .slice A 2 c]
  y : CB X q 24 [.int .i64 1, .slice B 2 d]
  sx : Shows X X.heap.size A [5, 0]
  sy : Shows X X.heap.size B [5, 2]
  g : Glob X
  d : Below w.heap.size w X
theorem SA.up {w X X' : World} {p q : Nat} {A B : Option Addr} {c d : Nat} (h : SA w p q A B c d X) (hb : Below X.heap.size X X') : SA w p q A B c d X' := ⟨h.x.up hb, h.y.up hb, h.sx.up hb, h.sy.up hb, h.g.up hb, below_step h.d h.d.size hb⟩
structure S1 (w : World) (p : Nat) (A : Option Addr) (c : Nat) (X : World) : Prop where
  x : CB X p 24 [.int .i64 2, .slice A 2 c]
  sx : Shows X X.heap.size A [5, 0]
  d : Below w.heap.size w X
theorem S1.up {w X X' : World} {p : Nat} {A : Option Addr} {c : Nat} (h : S1 w p A c X) (hb : Below X.heap.size X X') : S1 w p A c X' := ⟨h.x.up hb, h.sx.up hb, below_step h.d h.d.size hb⟩
theorem owns_sh {w w' : World} {B n c : Nat} {A : Option Addr} {l : List UInt8} (h : Owns w B (.slice A n c) l) (hb : Below w.heap.size w w') : Shows w' w'.heap.size A l := (h.shows.2.2).up hb
set_option maxHeartbeats 8000000 in
set_option maxRecDepth 40000 in
theorem sanity_any (w : World) (G : Glob w) : Calls Tryd.prog 8 #[] w fun e w' => e = .returned (.bool true) ∧ Below w.heap.size w w' := by
  have HG := Li G
  have tk0 : Hid True := Li trivial
  have B0 := Li (Below.refl w.heap.size w)
  clear G
  go_enter Tryd.func8, Tryd.ntmps8
  go_upto_region 13 with (first | (have tok := tk0; go_at_call 25; refine (size_lit 0 1 0 1 _ rfl (by decide) (by decide) (by decide +kernel)).mono ?_; rintro e w1 ⟨rfl, hb⟩; have B1 := Li (below_step B0.out B0.out.size hb); clear hb B0; have tk1 : Hid True := Li trivial; clear tok tk0) | (have tok := tk1; go_at_call 25; refine (size_lit 1 1 1 2 _ rfl (by decide) (by decide) (by decide +kernel)).mono ?_; rintro e w2 ⟨rfl, hb⟩; have B2 := Li (below_step B1.out B1.out.size hb); clear hb B1; have tk2 : Hid True := Li trivial; clear tok tk1) | (have tok := tk2; go_at_call 25; refine (size_lit 5 3 5 16 _ rfl (by decide) (by decide) (by decide +kernel)).mono ?_; rintro e w3 ⟨rfl, hb⟩; have B3 := Li (below_step B2.out B2.out.size hb); clear hb B2; have tk3 : Hid True := Li trivial; clear tok tk2) | (have tok := tk3; go_at_call 25; refine (size_lit 32768 16 32768 65536 _ rfl (by decide) (by decide) (by decide +kernel)).mono ?_; rintro e w4 ⟨rfl, hb⟩; have B4 := Li (below_step B3.out B3.out.size hb); clear hb B3; have tk4 : Hid True := Li trivial; clear tok tk3) | (have tok := tk4; go_at_call 25; refine (size_bad (-1) 1 1 (by decide) _ (New_neg (-1) 1 _ (by decide))).mono ?_; rintro e w5 ⟨rfl, hb⟩; have B5 := Li (below_step B4.out B4.out.size hb); clear hb B4; have tk5 : Hid True := Li trivial; clear tok tk4) | (have tok := tk5; go_at_call 25; refine (size_bad (1) 17 1 (by decide) _ (New_badK 1 17 _ (by decide) (by decide))).mono ?_; rintro e w6 ⟨rfl, hb⟩; have B6 := Li (below_step B5.out B5.out.size hb); clear hb B5; have tk6 : Hid True := Li trivial; clear tok tk5) | (have tok := tk6; go_at_call 25; refine (size_bad (32769) 1 2 (by decide) _ (New_big 32769 1 _ (by decide) (by decide))).mono ?_; rintro e w7 ⟨rfl, hb⟩; have B7 := Li (below_step B6.out B6.out.size hb); clear hb B6; have L8 := Li (bt_lit w7 [1, 0, 4, 0] (cs := #[.int .u8 1, .int .u8 0, .int .u8 4, .int .u8 0]) (t := 5) rfl); have A8 := Li (al1 w7 (.cells #[.int .u8 1, .int .u8 0, .int .u8 4, .int .u8 0] 5)); have tk7 : Hid True := Li trivial; clear tok tk6) | (have tok := tk7; go_at_call 22; refine (sketch_any 2 _ 4 4 _).mono ?_; rintro e w8 ⟨rfl, hb⟩; have B8 := Li (below_step (below_step B7.out B7.out.size A8.out) (Nat.le_trans B7.out.size A8.out.size) hb); have M8 := Li (L8.out.up hb); clear hb B7 L8 A8; have tk8 : Hid True := Li trivial; clear tok tk7) | (have tok := tk8; go_at_call 11; refine (Fold_ok 2 (some ⟨w7.heap.size, 0, none⟩) 4 4 2 [1, 0, 4, 0] _ rfl rfl (by decide) (by decide) (by decide) (by decide) (M8.out.shows M8.out.lt) (by decide)).mono ?_; rintro e w9 ⟨⟨A9, c9, rfl, ho⟩, hb⟩; have B9 := Li (below_step B8.out B8.out.size hb); have Y9 := al1 w9 (.cells #[.int .i64 2, .slice A9 2 c9] 24); have X9 := Li (show S1 w w9.heap.size A9 c9 (w9.alloc (.cells #[.int .i64 2, .slice A9 2 c9] 24)) from ⟨CB.new w9 24 [.int .i64 2, .slice A9 2 c9], owns_sh (show Owns w9 w8.heap.size (.slice A9 2 c9) [5, 0] from ho) Y9, below_step B9.out B9.out.size Y9⟩); have A10 := Li (al1 (w9.alloc (.cells #[.int .i64 2, .slice A9 2 c9] 24)) (.cells #[.int .u8 1] 5)); clear ho hb B8 M8 B9 Y9; have tk9 : Hid True := Li trivial; clear tok tk8) | (have tok := tk9; go_at_call 22; refine (sketch_any 2 _ 1 1 _).mono ?_; rintro e w10 ⟨rfl, hb⟩; have X10 := Li (X9.out.up (below_step A10.out A10.out.size hb)); clear hb X9 A10; have tk10 : Hid True := Li trivial; clear tok tk9) | (have tok := tk10; go_at_call 11; refine (Fold_bad2 2 _ 1 _).mono ?_; rintro e w11 ⟨rfl, hb⟩; have X11 := Li (X10.out.up hb); have C12 := Li (al1 w11 (.cells #[.int .i64 0, .slice none 0 0] 24)); have L12 := Li (bt_lit1 w11 (.cells #[.int .i64 0, .slice none 0 0] 24) [1, 2] (cs := #[.int .u8 1, .int .u8 2]) (t := 5) rfl); have A12 := Li (al1 (w11.alloc (.cells #[.int .i64 0, .slice none 0 0] 24)) (.cells #[.int .u8 1, .int .u8 2] 5)); clear hb X10; have tk11 : Hid True := Li trivial; clear tok tk10) | (have tok := tk11; go_at_call 22; refine (sketch_any 1 _ 2 2 _).mono ?_; rintro e w12 ⟨rfl, hb⟩; have X12 := Li (X11.out.up (below_step C12.out C12.out.size (below_step A12.out A12.out.size hb))); have M12 := Li (L12.out.up hb); have L13 := Li (bt_lit w12 [4, 2] (cs := #[.int .u8 4, .int .u8 2]) (t := 5) rfl); have A13 := Li (al1 w12 (.cells #[.int .u8 4, .int .u8 2] 5)); clear hb X11 C12 L12 A12; have tk12 : Hid True := Li trivial; clear tok tk11) | (have tok := tk12; go_at_call 22; refine (sketch_any 1 _ 2 2 _).mono ?_; rintro e w13 ⟨rfl, hb⟩; have X13 := Li (X12.out.up (below_step A13.out A13.out.size hb)); have M13 := Li (M12.out.up (below_step A13.out A13.out.size hb)); have N13 := Li (L13.out.up hb); clear hb X12 M12 L13 A13; have tk13 : Hid True := Li trivial; clear tok tk12) | (have tok := tk13; go_at_call 9; refine (Union_ok 1 (some ⟨w11.heap.size + 1, 0, none⟩) (some ⟨w12.heap.size, 0, none⟩) 2 2 2 [1, 2] [4, 2] _ rfl rfl (by decide) (M13.out.shows M13.out.lt) (N13.out.shows N13.out.lt) (by decide)).mono ?_; rintro e w14 ⟨⟨A14, c14, rfl, ho⟩, hb⟩; have X14 := Li (X13.out.up hb); have Y14 := al1 w14 (.cells #[.int .i64 1, .slice A14 2 c14] 24); have V14 := Li (show SA w w9.heap.size w14.heap.size A9 A14 c9 c14 (w14.alloc (.cells #[.int .i64 1, .slice A14 2 c14] 24)) from ⟨X14.out.x.alloc _, CB.new w14 24 [.int .i64 1, .slice A14 2 c14], X14.out.sx.up Y14, owns_sh (show Owns w14 w13.heap.size (.slice A14 2 c14) [5, 2] from ho) Y14, HG.out.up (below_step X14.out.d X14.out.d.size Y14), below_step X14.out.d X14.out.d.size Y14⟩); have A15 := Li (al1 (w14.alloc (.cells #[.int .i64 1, .slice A14 2 c14] 24)) (.cells #[.int .u8 1, .int .u8 2] 5)); clear ho hb X13 M13 N13 X14 Y14; have tk14 : Hid True := Li trivial; clear tok tk13) | (have tok := tk14; go_at_call 22; refine (sketch_any 1 _ 2 2 _).mono ?_; rintro e w15 ⟨rfl, hb⟩; have V15 := Li (V14.out.up (below_step A15.out A15.out.size hb)); have A16 := Li (al1 w15 (.cells #[.int .u8 4, .int .u8 2] 5)); clear hb A15 V14; have tk15 : Hid True := Li trivial; clear tok tk14) | (have tok := tk15; go_at_call 22; refine (sketch_any 2 _ 2 2 _).mono ?_; rintro e w16 ⟨rfl, hb⟩; have V16 := Li (V15.out.up (below_step A16.out A16.out.size hb)); clear hb V15 A16; have tk16 : Hid True := Li trivial; clear tok tk15) | (have tok := tk16; go_at_call 9; refine (Union_bad3 1 2 _ _ 2 2 2 2 _ (by decide) (by decide) (by decide) (by decide) (by decide)).mono ?_; rintro e w17 ⟨rfl, hb⟩; have V17 := Li (V16.out.up hb); clear hb V16; have tk17 : Hid True := Li trivial; clear tok tk16))
  have PP : Hid (SA w w9.heap.size w14.heap.size A9 A14 c9 c14 (w17.alloc (.cells #[.int .i64 0, .slice none 0 0] 24))) := Li (V17.out.up (al1 w17 _))
  clear V17 HG tk17
  generalize w17.alloc (.cells #[.int .i64 0, .slice none 0 0] 24) = V0 at *
  replace PP := Li (PP.out.up (bd V0))
  refine wpM.start (D := [0, 1, 2, 6, 10, 18, 32, 32, 160, 352, 544, 1536, 2048, 6144, 10240, 18432, 32768, 98304, 163840, 294912, 524288, 524288, 2621440, 5767168, 8912896, 25165824, 33554432, 100663296, 167772160, 301989888, 536870912, 1610612736, 2684354560, 4831838208, 9126805504, 21474836480, 34359738368, 103079215104, 171798691840, 309237645312, 1099511627775]) (F := [0, 1, 2, 6, 10, 16, 32, 32, 160, 352, 544, 1024, 2048, 6144, 10240, 16384, 32768, 98304, 163840, 262144, 524288, 524288, 2621440, 5767168, 8912896, 16777216, 33554432, 100663296, 167772160, 268435456, 536870912, 1610612736, 2684354560, 4831838208, 9126805504, 17179869184, 34359738368, 103079215104, 171798691840, 309237645312, 549755813888]) (S := fun X => Hid (SA w w9.heap.size w14.heap.size A9 A14 c9 c14 X)) (by kernel_rfl) PP (by kernel_rfl) (by kernel_rfl) (by kernel_rfl) (fun hHeld => ?_)
  revert hHeld PP
  generalize V0.drew = X0
  intro PP hHeld
  refine mtk 0 1 ?_
  refine mtk 1 3 ?_
  refine mtk 2 7 ?_
  refine mtk 3 15 ?_
  refine mtk 4 31 ?_
  refine mtk 5 63 ?_
  refine mtf 6 127 (fun _ h => And.intro h.out.x.c2 h.out.x.lt) ?_
  refine md1 7 255 fun KK hK => ?_
  go_simp
  have L7 := Li (bt_lit X0 [5, 0] (cs := #[.int .u8 5, .int .u8 0]) (t := 5) rfl)
  have hb := al1 X0 (.cells #[.int .u8 5, .int .u8 0] 5)
  replace PP := Li (PP.out.up hb)
  clear hb
  refine hK.out _ _ (PP) (fun hHeld => ?_)
  clear hK KK
  try simp only
  generalize World.alloc X0 _ = v7 at *
  refine md1 8 511 fun KK hK => ?_
  go_simp
  go_at_call 22
  refine (sketch_any 2 _ 2 2 _).mono ?_
  rintro e v8 ⟨rfl, hb⟩
  replace L7 := Li (L7.out.up hb)
  replace PP := Li (PP.out.up hb)
  clear hb
  go_wp2_with fail
  refine hK.out _ _ (PP) (fun hHeld => ?_)
  clear hK KK
  try simp only [pnz]
  refine md1 9 1023 fun KK hK => ?_
  go_simp
  go_at_call 15
  refine (Same_eq 2 A9 _ 2 c9 2 [5, 0] _ rfl (by decide) PP.out.sx (L7.out.shows L7.out.lt)).mono ?_
  rintro e v9 ⟨rfl, hb⟩
  replace PP := Li (PP.out.up hb)
  clear hb L7
  go_wp2_with fail
  refine hK.out _ _ (PP) (fun hHeld => ?_)
  clear hK KK
  try simp only [pnz]
  refine mtk 10 2047 ?_
  refine mtk 11 4095 ?_
  refine mtk 12 8191 ?_
  refine mtk 13 16383 ?_
  refine mtk 14 32767 ?_
  refine mtk 15 65535 ?_
  refine mtk 16 131071 ?_
  refine mtk 17 262143 ?_
  refine mtk 18 524287 ?_
  refine mtk 19 1048575 ?_
  refine mtf 20 2097151 (fun _ h => And.intro h.out.y.c2 h.out.y.lt) ?_
  refine md1 21 4194303 fun KK hK => ?_
  go_simp
  have L21 := Li (bt_lit v9 [5, 2] (cs := #[.int .u8 5, .int .u8 2]) (t := 5) rfl)
  have hb := al1 v9 (.cells #[.int .u8 5, .int .u8 2] 5)
  replace PP := Li (PP.out.up hb)
  clear hb
  refine hK.out _ _ (PP) (fun hHeld => ?_)
  clear hK KK
  try simp only [pnz]
  generalize World.alloc v9 _ = v21 at *
  refine md1 22 8388607 fun KK hK => ?_
  go_simp
  go_at_call 22
  refine (sketch_any 1 _ 2 2 _).mono ?_
  rintro e v22 ⟨rfl, hb⟩
  replace L21 := Li (L21.out.up hb)
  replace PP := Li (PP.out.up hb)
  clear hb
  go_wp2_with fail
  refine hK.out _ _ (PP) (fun hHeld => ?_)
  clear hK KK
  try simp only [pnz]
  refine md1 23 16777215 fun KK hK => ?_
  go_simp
  go_at_call 15
  refine (Same_eq 1 A14 _ 2 c14 2 [5, 2] _ rfl (by decide) PP.out.sy (L21.out.shows L21.out.lt)).mono ?_
  rintro e v23 ⟨rfl, hb⟩
  replace PP := Li (PP.out.up hb)
  clear hb L21
  go_wp2_with fail
  refine hK.out _ _ (PP) (fun hHeld => ?_)
  clear hK KK
  try simp only [pnz]
  refine mtk 24 33554431 ?_
  refine mtk 25 67108863 ?_
  refine mtk 26 134217727 ?_
  refine mtk 27 268435455 ?_
  refine mtk 28 536870911 ?_
  refine mtk 29 1073741823 ?_
  refine md1 30 2147483647 fun KK hK => ?_
  go_simp
  have L30 := Li (bt_lit v23 [0] (cs := #[.int .u8 0]) (t := 5) rfl)
  have hb := al1 v23 (.cells #[.int .u8 0] 5)
  replace PP := Li (PP.out.up hb)
  clear hb
  refine hK.out _ _ (PP) (fun hHeld => ?_)
  clear hK KK
  try simp only [pnz]
  generalize World.alloc v23 _ = v30 at *
  refine md1 31 4294967295 fun KK hK => ?_
  go_simp
  go_at_call 22
  refine (sketch_any 1 _ 1 1 _).mono ?_
  rintro e v31 ⟨rfl, hb⟩
  replace L30 := Li (L30.out.up hb)
  replace PP := Li (PP.out.up hb)
  clear hb
  go_wp2_with fail
  refine hK.out _ _ (PP) (fun hHeld => ?_)
  clear hK KK
  try simp only [pnz]
  refine md1 32 8589934591 fun KK hK => ?_
  go_simp
  go_at_call 18
  refine (Has_nil 1 _ false _ has_empty L30.out PP.out.g).mono ?_
  rintro e v32 ⟨rfl, hb⟩
  replace PP := Li (PP.out.up hb)
  clear hb L30
  go_wp2_with fail
  refine hK.out _ _ (PP) (fun hHeld => ?_)
  clear hK KK
  try simp only [pnz]
  refine mtk 33 17179869183 ?_
  refine mtk 34 34359738367 ?_
  refine mtk 35 68719476735 ?_
  refine md1 36 137438953471 fun KK hK => ?_
  go_simp
  have L36 := Li (bt_lit v32 [0] (cs := #[.int .u8 0]) (t := 5) rfl)
  have hb := al1 v32 (.cells #[.int .u8 0] 5)
  replace PP := Li (PP.out.up hb)
  clear hb
  refine hK.out _ _ (PP) (fun hHeld => ?_)
  clear hK KK
  try simp only [pnz]
  generalize World.alloc v32 _ = v36 at *
  refine md1 37 274877906943 fun KK hK => ?_
  go_simp
  go_at_call 22
  refine (sketch_any 0 _ 1 1 _).mono ?_
  rintro e v37 ⟨rfl, hb⟩
  replace L36 := Li (L36.out.up hb)
  replace PP := Li (PP.out.up hb)
  clear hb
  go_wp2_with fail
  refine hK.out _ _ (PP) (fun hHeld => ?_)
  clear hK KK
  try simp only [pnz]
  refine md1 38 549755813887 fun KK hK => ?_
  go_simp
  go_at_call 18
  refine (Has_nil 0 _ true _ has_bad L36.out PP.out.g).mono ?_
  rintro e v38 ⟨rfl, hb⟩
  replace PP := Li (PP.out.up hb)
  clear hb L36
  go_wp2_with fail
  refine hK.out _ _ (PP) (fun hHeld => ?_)
  clear hK KK
  try simp only [pnz]
  refine mtk 39 1099511627775 ?_
  refine mtk 40 2199023255551 ?_
  refine done_m (of_decide_eq_true (by kernel_rfl)) (of_decide_eq_true (by kernel_rfl)) (by kernel_rfl) ?_
  go_wp2_with fail
  go_ret
  exact ⟨rfl, PP.out.d⟩
end Go.Proofs.YtmdokldbggingaaDoor
