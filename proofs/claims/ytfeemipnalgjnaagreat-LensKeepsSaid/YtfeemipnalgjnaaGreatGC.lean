/-
 Layer 6's contracts and plain theorems, texts of layer 6's own claims put together: Kin2P Kin3P AppS AppP AppA AftS AftP.
-/
import Derived.Test.YtfeemipnalgjnaaGreatHb
import Derived.Test.YtfeemipnalgjnaaGreatGK
import Derived.Test.YtfeemipnalgjnaaGreatGA
import Derived.Test.YtfeemipnalgjnaaGreatGR
namespace Go.Proofs.YtfeemipnalgjnaaGreat
open Go.RowKit

theorem cell_set2 {w : World} {g : Nat} {u v : Value} {b o : Nat} {z : Option Value} (h : b ≠ g) (hz : w.cell? ⟨b, o, none⟩ = z) : ((w.setCell ⟨g, 0, none⟩ u).setCell ⟨g, 1, none⟩ v).cell? ⟨b, o, none⟩ = z := by
 rw [World.cell?_setCell_other _ _ _ _ (fun e => h (by injection e with e; exact e.symm)), World.cell?_setCell_other _ _ _ _ (fun e => h (by injection e with e; exact e.symm))]
 exact hz

set_option maxHeartbeats 2000000 in
set_option maxRecDepth 20000 in
theorem spl_any (A : Option Addr) (n c : Nat) (x : Int) (l : List Fd) (kd id wi : Int) (nm ot : ByteArray) (ty pa : Int) (sep : ByteArray) (w : World) (hn : n = l.length) (hs : Fds w w.heap.size A l) (hl0 : n ≤ 1000) (hx0 : 0 ≤ x) (hx1 : x ≤ 2305843009213693952) (hsep : sep.size ≤ 9223372036854775807) :
  Calls Tryz.prog 99 #[.agg #[.slice A n c, .int .i64 x, .int .i64 kd, .int .i64 id, .int .i64 wi, .string nm, .string ot, .int .i64 ty, .int .i64 pa, .string sep]] w fun e w' => ResS w w' (splE ⟨l, x⟩ ⟨kd, id, wi, nm, ot, ty, pa, sep⟩) e ∧ Below w.heap.size w w' := by
 have HN := Li hn
 have HS := Li hs
 clear hn hs
 have hl : n ≤ 1000000 := by omega
 have hl2 : n ≤ 9223372036854775807 := by omega
 obtain ⟨g, hg⟩ : ∃ g, fieldD l id = g := ⟨_, rfl⟩
 obtain ⟨ok, hok⟩ : ∃ ok, hasF l id = ok := ⟨_, rfl⟩
 have HG := Li hg
 have HO := Li hok
 clear hg hok
 obtain ⟨sz, hsz⟩ : ∃ sz, sepB sep = sz := ⟨_, rfl⟩
 have HP := Li hsz
 clear hsz
 cases ok with
 | false =>
  go_enter Tryz.func99, Tryz.ntmps99
  go_wp2_with (first | (go_at_call 72; refine (Field_any _ n c x l id _ HN.out (HS.out.up (al2 w _ _)) hl2).mono ?_; rintro e w5 ⟨rfl, hb5⟩; rw [HG.out, HO.out]; have HB5 := Li ((al2 w _ _).trans (hb5.mono (al2 w _ _).size)); have HR5 := Li ((CB.new1 w (.cells #[.slice A n c, .int .i64 x, .int .i64 kd, .int .i64 id, .int .i64 wi, .string nm, .string ot, .int .i64 ty, .int .i64 pa, .string sep] 111) 35 [.slice none 0 0, .int .i64 0]).up hb5); have HE5 := Li (((CB.new w 111 [.slice A n c, .int .i64 x, .int .i64 kd, .int .i64 id, .int .i64 wi, .string nm, .string ot, .int .i64 ty, .int .i64 pa, .string sep]).alloc (.cells #[.slice none 0 0, .int .i64 0] 35)).up hb5); have hz5 : w.heap.size + 1 < w5.heap.size := HR5.out.lt; have hy5 : w.heap.size < w5.heap.size := HE5.out.lt; have e5_0 := HE5.out.cell 0 rfl; have e5_1 := HE5.out.cell 1 rfl; have e5_2 := HE5.out.cell 2 rfl; have e5_3 := HE5.out.cell 3 rfl; have e5_4 := HE5.out.cell 4 rfl; have e5_5 := HE5.out.cell 5 rfl; have e5_6 := HE5.out.cell 6 rfl; have e5_7 := HE5.out.cell 7 rfl; have e5_8 := HE5.out.cell 8 rfl; have e5_9 := HE5.out.cell 9 rfl; clear hb5) | ((with_reducible show wpList _ _ _ _ _ _); refine wpList_store_cb rfl 35 (.tmp 2) (.tmp 19) rfl (w.heap.size + 1) [.slice none 0 0, .int .i64 0] rfl rfl 35 [.slice none 0 0, .int .i64 0] 2 (HR5.out.alloc _) sizeS rfl rfl (one_s _ _ _ _) ?_; intro w9 hc9 hg9 hz9))
  refine bodyPost_ret (res_cell Tryz.results99 rfl rfl hc9 Tryz.underlying35 sizeS rfl) rfl ⟨?_, below_grown (HB5.out.alloc (by omega) _) hg9 (by rw [asz]; omega) (by omega)⟩
  unfold splE
  rw [if_neg (by simp only [HO.out]; decide)]
  exact res_zero _ _ _
 | true =>
  by_cases hy : g.ty = 4
  ·
   have y1 : (g.ty != 4) = false := by simpa using hy
   have HY := Li hy
   clear hy
   cases sz with
   | false =>
    go_enter Tryz.func99, Tryz.ntmps99
    go_wp2_with (first | (go_at_call 72; refine (Field_any _ n c x l id _ HN.out (HS.out.up (al2 w _ _)) hl2).mono ?_; rintro e w5 ⟨rfl, hb5⟩; rw [HG.out, HO.out]; have HB5 := Li ((al2 w _ _).trans (hb5.mono (al2 w _ _).size)); have HR5 := Li ((CB.new1 w (.cells #[.slice A n c, .int .i64 x, .int .i64 kd, .int .i64 id, .int .i64 wi, .string nm, .string ot, .int .i64 ty, .int .i64 pa, .string sep] 111) 35 [.slice none 0 0, .int .i64 0]).up hb5); have HE5 := Li (((CB.new w 111 [.slice A n c, .int .i64 x, .int .i64 kd, .int .i64 id, .int .i64 wi, .string nm, .string ot, .int .i64 ty, .int .i64 pa, .string sep]).alloc (.cells #[.slice none 0 0, .int .i64 0] 35)).up hb5); have hz5 : w.heap.size + 1 < w5.heap.size := HR5.out.lt; have hy5 : w.heap.size < w5.heap.size := HE5.out.lt; have e5_0 := HE5.out.cell 0 rfl; have e5_1 := HE5.out.cell 1 rfl; have e5_2 := HE5.out.cell 2 rfl; have e5_3 := HE5.out.cell 3 rfl; have e5_4 := HE5.out.cell 4 rfl; have e5_5 := HE5.out.cell 5 rfl; have e5_6 := HE5.out.cell 6 rfl; have e5_7 := HE5.out.cell 7 rfl; have e5_8 := HE5.out.cell 8 rfl; have e5_9 := HE5.out.cell 9 rfl; clear hb5) | (go_at_call 110; refine (isSep_any sep false _ HP.out hsep).mono ?_; rintro e w' ⟨rfl, rfl⟩) | ((with_reducible show wpList _ _ _ _ _ _); refine wpList_store_cb rfl 35 (.tmp 2) (.tmp 31) rfl (w.heap.size + 1) [.slice none 0 0, .int .i64 0] rfl rfl 35 [.slice none 0 0, .int .i64 0] 2 (HR5.out.alloc _) sizeS rfl rfl (one_s _ _ _ _) ?_; intro w9 hc9 hg9 hz9))
    refine bodyPost_ret (res_cell Tryz.results99 rfl rfl hc9 Tryz.underlying35 sizeS rfl) rfl ⟨?_, below_grown (HB5.out.alloc (by omega) _) hg9 (by rw [asz]; omega) (by omega)⟩
    unfold splE
    rw [if_pos (by exact HO.out), if_pos (by rw [HG.out]; exact HY.out), if_neg (by simp only [HP.out]; decide)]
    exact res_zero _ _ _
   | true =>
    go_enter Tryz.func99, Tryz.ntmps99
    go_wp2_with (first | (go_at_call 72; refine (Field_any _ n c x l id _ HN.out (HS.out.up (al2 w _ _)) hl2).mono ?_; rintro e w5 ⟨rfl, hb5⟩; rw [HG.out, HO.out]; have HB5 := Li ((al2 w _ _).trans (hb5.mono (al2 w _ _).size)); have HR5 := Li ((CB.new1 w (.cells #[.slice A n c, .int .i64 x, .int .i64 kd, .int .i64 id, .int .i64 wi, .string nm, .string ot, .int .i64 ty, .int .i64 pa, .string sep] 111) 35 [.slice none 0 0, .int .i64 0]).up hb5); have HE5 := Li (((CB.new w 111 [.slice A n c, .int .i64 x, .int .i64 kd, .int .i64 id, .int .i64 wi, .string nm, .string ot, .int .i64 ty, .int .i64 pa, .string sep]).alloc (.cells #[.slice none 0 0, .int .i64 0] 35)).up hb5); have hz5 : w.heap.size + 1 < w5.heap.size := HR5.out.lt; have hy5 : w.heap.size < w5.heap.size := HE5.out.lt; have e5_0 := HE5.out.cell 0 rfl; have e5_1 := HE5.out.cell 1 rfl; have e5_2 := HE5.out.cell 2 rfl; have e5_3 := HE5.out.cell 3 rfl; have e5_4 := HE5.out.cell 4 rfl; have e5_5 := HE5.out.cell 5 rfl; have e5_6 := HE5.out.cell 6 rfl; have e5_7 := HE5.out.cell 7 rfl; have e5_8 := HE5.out.cell 8 rfl; have e5_9 := HE5.out.cell 9 rfl; clear hb5) | (go_at_call 110; refine (isSep_any sep true _ HP.out hsep).mono ?_; rintro e w' ⟨rfl, rfl⟩))
    have hq1 := HE5.out.alloc (.cells #[.int .i64 g.id, .string g.nm, .int .i64 g.ty, .int .i64 g.pa] 58)
    have hq2 := HR5.out.alloc (.cells #[.int .i64 g.id, .string g.nm, .int .i64 g.ty, .int .i64 g.pa] 58)
    have hq3 := CB.new w5 58 [.int .i64 g.id, .string g.nm, .int .i64 g.ty, .int .i64 g.pa]
    have hqb := HB5.out.alloc (by omega) (.cells #[.int .i64 g.id, .string g.nm, .int .i64 g.ty, .int .i64 g.pa] 58)
    have hw0z : (w5.alloc (.cells #[.int .i64 g.id, .string g.nm, .int .i64 g.ty, .int .i64 g.pa] 58)).heap.size = w5.heap.size + 1 := asz _ _
    generalize w5.alloc (.cells #[.int .i64 g.id, .string g.nm, .int .i64 g.ty, .int .i64 g.pa] 58) = W0 at *
    have nA0 : w.heap.size ≠ W0.heap.size := by omega
    have nB0 : w5.heap.size ≠ W0.heap.size := by omega
    have hy0 : w.heap.size < W0.heap.size := by omega
    have hz0 : w5.heap.size < W0.heap.size := by omega
    clear hw0z
    have Q1 := Li hq1
    have Q2 := Li hq2
    have Q3 := Li hq3
    have QB := Li hqb
    have HCELL : Hid (∀ W, Below W0.heap.size W0 W → W.cell? ⟨w.heap.size, 0, none⟩ = some (.slice A n c) ∧ W.cell? ⟨w.heap.size, 1, none⟩ = some (.int .i64 x) ∧ W.cell? ⟨w.heap.size, 5, none⟩ = some (.string nm) ∧ W.cell? ⟨w.heap.size, 6, none⟩ = some (.string ot) ∧ W.cell? ⟨w5.heap.size, 0, none⟩ = some (.int .i64 g.id) ∧ W.cell? ⟨w5.heap.size, 3, none⟩ = some (.int .i64 g.pa)) := by
     intro W hW
     exact ⟨(Q1.out.up hW).cell 0 rfl, (Q1.out.up hW).cell 1 rfl, (Q1.out.up hW).cell 5 rfl, (Q1.out.up hW).cell 6 rfl, (Q3.out.up hW).cell 0 rfl, (Q3.out.up hW).cell 3 rfl⟩
    obtain ⟨x0, x1, x2, x3, x4, x5⟩ := HCELL.out W0 (Below.refl _ _)
    clear hq1 hq2 hq3 hqb HE5 HR5 e5_0 e5_1 e5_2 e5_3 e5_4 e5_5 e5_6 e5_7 e5_8 e5_9
    have hwx : IntKind.i64.wrap (x + 1) = x + 1 := IntWalk.i64_in _ ⟨by omega, by omega⟩
    have hdl : (dropF l g.id).length ≤ 1000 := Nat.le_trans (drp_len l g.id) (by rw [← HN.out]; exact hl0)
    go_region_held_law (fun w' => w'.cell? ⟨w.heap.size, 0, none⟩ = some (.slice A n c) ∧ w'.cell? ⟨w.heap.size, 1, none⟩ = some (.int .i64 x) ∧ w'.cell? ⟨w.heap.size, 5, none⟩ = some (.string nm) ∧ w'.cell? ⟨w5.heap.size, 0, none⟩ = some (.int .i64 g.id) ∧ w'.cell? ⟨w5.heap.size, 3, none⟩ = some (.int .i64 g.pa))
     (first | exact (fun h => ⟨h.1, h.2.1, h.2.2.1, h.2.2.2.2.1, h.2.2.2.2.2⟩) (HCELL.out _ (by first | exact hw7 | exact hw6 | exact hw6.alloc hw6.size _ | exact hw6.drew | exact hw6.drew.alloc hw6.size _ | exact bd _ | exact bda _ _ | exact bdad _ _ | exact bad _ _ | exact al1 _ _ | exact hw7.alloc hw7.size _)) | exact (fun h => ⟨cell_set2 (by first | exact nA6 | exact nA0 | exact nA7) h.1, cell_set2 (by first | exact nA6 | exact nA0 | exact nA7) h.2.1, cell_set2 (by first | exact nA6 | exact nA0 | exact nA7) h.2.2.1, cell_set2 (by first | exact nB6 | exact nB0 | exact nB7) h.2.2.2.2.1, cell_set2 (by first | exact nB6 | exact nB0 | exact nB7) h.2.2.2.2.2⟩) (HCELL.out _ hw7) | go_keep)
     (first | (go_at_call 108; go_loud (refine (without_any A n c x l g.id _ HN.out (HS.out.up (QB.out.trans ((show Below W0.heap.size W0 _ by first | exact bd _ | exact bda _ _ | exact bdad _ _ | exact bad _ _ | exact Below.refl _ _ | exact al1 _ _).mono QB.out.size))) hl).mono ?_; rintro e w6 ⟨⟨A6, c6, rfl, ho6⟩, hb6⟩; have hw6 : Below W0.heap.size W0 w6 := (by first | exact (bd _).trans (hb6.mono (bd _).size) | exact (bda _ _).trans (hb6.mono (bda _ _).size) | exact (bdad _ _).trans (hb6.mono (bdad _ _).size) | exact (bad _ _).trans (hb6.mono (bad _ _).size) | exact (al1 _ _).trans (hb6.mono (al1 _ _).size) | exact hb6); have HO6 := Li (ho6.low (b := W0.heap.size) (by first | exact (bd W0).size | exact (bda W0 _).size | exact (bdad W0 _).size | exact (bad W0 _).size | exact (al1 W0 _).size | exact Nat.le_refl _)); obtain ⟨hcA, hfA⟩ := bcell hb6; (try have hq6 : W0.heap.size < w6.heap.size := (by first | exact lt_al hb6 | exact lt_ald hb6)); (try have hcb0 : CB w6 W0.heap.size 35 [.slice none 0 0, .int .i64 0] := (by first | exact (CB.new _ _ _).up hb6 | exact (CB.new _ _ _).dr.up hb6)); have nA6 : w.heap.size ≠ w6.heap.size := Nat.ne_of_lt (Nat.lt_of_lt_of_le hy0 hw6.size); have nB6 : w5.heap.size ≠ w6.heap.size := Nat.ne_of_lt (Nat.lt_of_lt_of_le hz0 hw6.size); clear ho6 hb6)) | (go_at_call 107; go_loud (refine (with_any A6 (dropF l g.id).length c6 x (dropF l g.id) nm 4 g.pa _ rfl (Fds.up (HO6.out.row.2.2.2) (by first | exact Below.refl _ _ | exact bd _ | exact al1 _ _ | exact bda _ _ | exact bad _ _)) (by omega) hx0 (by omega)).mono ?_; rintro e w7 ⟨⟨A7, c7, rfl, ho7⟩, hb7⟩; have hw7 : Below W0.heap.size W0 w7 := (by first | exact hw6.trans (hb7.mono hw6.size) | exact hw6.drew.trans (hb7.mono hw6.size) | exact (hw6.alloc hw6.size _).trans (hb7.mono (hw6.alloc hw6.size _).size) | exact (hw6.drew.alloc hw6.size _).trans (hb7.mono (hw6.drew.alloc hw6.size _).size) | exact (hw6.alloc hw6.size _).drew.trans (hb7.mono (hw6.alloc hw6.size _).drew.size)); have HO7 := Li (ho7.low (b := W0.heap.size) (by first | exact hw6.size | exact (hw6.alloc hw6.size _).size | exact (hw6.drew.alloc hw6.size _).size)); obtain ⟨hcB, hfB⟩ := bcell hb7; (try have hcb7 : CB w7 W0.heap.size 35 [.slice none 0 0, .int .i64 0] := hcb0.up hb7); (try have hcb6 : CB w7 w6.heap.size 35 [.slice none 0 0, .int .i64 0] := (by first | exact (CB.new _ _ _).up hb7 | exact (CB.new _ _ _).dr.up hb7)); have nA7 : w.heap.size ≠ w7.heap.size := Nat.ne_of_lt (Nat.lt_of_lt_of_le hy0 hw7.size); have nB7 : w5.heap.size ≠ w7.heap.size := Nat.ne_of_lt (Nat.lt_of_lt_of_le hz0 hw7.size); clear ho7 hb7)))
    have hwx2 : IntKind.i64.wrap (x + 1 + 1) = x + 1 + 1 := IntWalk.i64_in _ ⟨by omega, by omega⟩
    ·
     have z1 : Below W0.heap.size W0 (w7.alloc (.cells #[.slice A7 ((dropF l g.id).length + 1) c7, .int .i64 (x + 1)] 35)) := hw7.alloc hw7.size _
     have z2 : CB (w7.alloc (.cells #[.slice A7 ((dropF l g.id).length + 1) c7, .int .i64 (x + 1)] 35)) w7.heap.size 35 [(.slice A7 ((dropF l g.id).length + 1) c7), .int .i64 (x + 1)] := CB.new w7 35 [(.slice A7 ((dropF l g.id).length + 1) c7), .int .i64 (x + 1)]
     have z3 : Own 58 4 (w7.alloc (.cells #[.slice A7 ((dropF l g.id).length + 1) c7, .int .i64 (x + 1)] 35)) W0.heap.size (.slice A7 ((dropF l g.id).length + 1) c7) ((dropF l g.id ++ [(⟨x, nm, 4, g.pa⟩ : Fd)]).map Fd.cells) := HO7.out.alloc _
     generalize (w7.alloc (.cells #[.slice A7 ((dropF l g.id).length + 1) c7, .int .i64 (x + 1)] 35)) = Wz at z1 z2 z3 ⊢
     have Z1 := Li z1
     have Z3 := Li z3
     have d0 := z2.c2
     obtain ⟨y0, y1', y2, y3, y4, y5⟩ := HCELL.out Wz z1
     clear hcA hfA hcB hfB z1 z2 z3
     go_wp2_with (first | (go_at_call 107; refine (with_any A7 ((dropF l g.id).length + 1) c7 (x + 1) (dropF l g.id ++ [(⟨x, nm, 4, g.pa⟩ : Fd)]) ot 4 g.pa _ (by simp) (Z3.out.row.2.2.2) (by omega) (by omega) (by omega)).mono ?_; rintro e w8 ⟨⟨A8, c8, rfl, ho8⟩, hb8⟩; have HB8 := Li (below_step (QB.out.trans (Z1.out.mono QB.out.size)) (Nat.le_trans QB.out.size Z1.out.size) hb8); have HR8 := Li ((Q2.out.up Z1.out).up hb8); have HO8 := Li (ho8.low (b := w.heap.size) (Nat.le_trans QB.out.size Z1.out.size)); have hz8 : w.heap.size + 1 < w8.heap.size := HR8.out.lt; clear ho8 hb8) | ((with_reducible show wpList _ _ _ _ _ _); refine wpList_store_cb rfl 35 (.tmp 2) (.tmp 49) rfl (w.heap.size + 1) [.slice A8 ((dropF l g.id).length + 1 + 1) c8, .int .i64 (x + 1 + 1)] rfl rfl 35 [.slice none 0 0, .int .i64 0] 2 HR8.out sizeS rfl rfl (one_s _ _ _ _) ?_; intro w9 hc9 hg9 hz9))
     refine bodyPost_ret (res_cell Tryz.results99 rfl rfl hc9 Tryz.underlying35 sizeS rfl) rfl ⟨?_, below_grown HB8.out hg9 (by omega) (by omega)⟩
     unfold splE
     rw [if_pos (by exact HO.out), if_pos (by rw [HG.out]; exact HY.out), if_pos (by exact HP.out)]
     simp only [HG.out]
     exact ⟨A8, _, c8, rfl, by simp [withS, dropS], HO8.out.kept hg9 (.inr (HO8.out.ne HR8.out (by decide)).symm)⟩
    ·
     have z1 : Below W0.heap.size W0 ((w7.setCell ⟨w6.heap.size, 0, none⟩ (.slice A7 ((dropF l g.id).length + 1) c7)).setCell ⟨w6.heap.size, 1, none⟩ (.int .i64 (x + 1))) := (hw7.setCell (p := ⟨w6.heap.size, 0, none⟩) hw6.size _).setCell (p := ⟨w6.heap.size, 1, none⟩) hw6.size _
     have z2 : CB ((w7.setCell ⟨w6.heap.size, 0, none⟩ (.slice A7 ((dropF l g.id).length + 1) c7)).setCell ⟨w6.heap.size, 1, none⟩ (.int .i64 (x + 1))) w6.heap.size 35 [(.slice A7 ((dropF l g.id).length + 1) c7), .int .i64 (x + 1)] := (hcb6.set_ 0 _).set_ 1 _
     have z3 : Own 58 4 ((w7.setCell ⟨w6.heap.size, 0, none⟩ (.slice A7 ((dropF l g.id).length + 1) c7)).setCell ⟨w6.heap.size, 1, none⟩ (.int .i64 (x + 1))) W0.heap.size (.slice A7 ((dropF l g.id).length + 1) c7) ((dropF l g.id ++ [(⟨x, nm, 4, g.pa⟩ : Fd)]).map Fd.cells) := (HO7.out.set_ 0 _ (HO7.out.ne hcb6 (by decide))).set_ 1 _ (HO7.out.ne hcb6 (by decide))
     generalize ((w7.setCell ⟨w6.heap.size, 0, none⟩ (.slice A7 ((dropF l g.id).length + 1) c7)).setCell ⟨w6.heap.size, 1, none⟩ (.int .i64 (x + 1))) = Wz at z1 z2 z3 ⊢
     have Z1 := Li z1
     have Z3 := Li z3
     have d0 := z2.c2
     obtain ⟨y0, y1', y2, y3, y4, y5⟩ := HCELL.out Wz z1
     clear hcA hfA hcB hfB z1 z2 z3
     go_wp2_with (first | (go_at_call 107; refine (with_any A7 ((dropF l g.id).length + 1) c7 (x + 1) (dropF l g.id ++ [(⟨x, nm, 4, g.pa⟩ : Fd)]) ot 4 g.pa _ (by simp) (Z3.out.row.2.2.2) (by omega) (by omega) (by omega)).mono ?_; rintro e w8 ⟨⟨A8, c8, rfl, ho8⟩, hb8⟩; have HB8 := Li (below_step (QB.out.trans (Z1.out.mono QB.out.size)) (Nat.le_trans QB.out.size Z1.out.size) hb8); have HR8 := Li ((Q2.out.up Z1.out).up hb8); have HO8 := Li (ho8.low (b := w.heap.size) (Nat.le_trans QB.out.size Z1.out.size)); have hz8 : w.heap.size + 1 < w8.heap.size := HR8.out.lt; clear ho8 hb8) | ((with_reducible show wpList _ _ _ _ _ _); refine wpList_store_cb rfl 35 (.tmp 2) (.tmp 49) rfl (w.heap.size + 1) [.slice A8 ((dropF l g.id).length + 1 + 1) c8, .int .i64 (x + 1 + 1)] rfl rfl 35 [.slice none 0 0, .int .i64 0] 2 HR8.out sizeS rfl rfl (one_s _ _ _ _) ?_; intro w9 hc9 hg9 hz9))
     refine bodyPost_ret (res_cell Tryz.results99 rfl rfl hc9 Tryz.underlying35 sizeS rfl) rfl ⟨?_, below_grown HB8.out hg9 (by omega) (by omega)⟩
     unfold splE
     rw [if_pos (by exact HO.out), if_pos (by rw [HG.out]; exact HY.out), if_pos (by exact HP.out)]
     simp only [HG.out]
     exact ⟨A8, _, c8, rfl, by simp [withS, dropS], HO8.out.kept hg9 (.inr (HO8.out.ne HR8.out (by decide)).symm)⟩
    ·
     have z1 : Below W0.heap.size W0 ((w7.setCell ⟨W0.heap.size, 0, none⟩ (.slice A7 ((dropF l g.id).length + 1) c7)).setCell ⟨W0.heap.size, 1, none⟩ (.int .i64 (x + 1))) := (hw7.setCell (p := ⟨W0.heap.size, 0, none⟩) (Nat.le_refl _) _).setCell (p := ⟨W0.heap.size, 1, none⟩) (Nat.le_refl _) _
     have z2 : CB ((w7.setCell ⟨W0.heap.size, 0, none⟩ (.slice A7 ((dropF l g.id).length + 1) c7)).setCell ⟨W0.heap.size, 1, none⟩ (.int .i64 (x + 1))) W0.heap.size 35 [(.slice A7 ((dropF l g.id).length + 1) c7), .int .i64 (x + 1)] := (hcb7.set_ 0 _).set_ 1 _
     have z3 : Own 58 4 ((w7.setCell ⟨W0.heap.size, 0, none⟩ (.slice A7 ((dropF l g.id).length + 1) c7)).setCell ⟨W0.heap.size, 1, none⟩ (.int .i64 (x + 1))) W0.heap.size (.slice A7 ((dropF l g.id).length + 1) c7) ((dropF l g.id ++ [(⟨x, nm, 4, g.pa⟩ : Fd)]).map Fd.cells) := (HO7.out.set_ 0 _ (HO7.out.ne hcb7 (by decide))).set_ 1 _ (HO7.out.ne hcb7 (by decide))
     generalize ((w7.setCell ⟨W0.heap.size, 0, none⟩ (.slice A7 ((dropF l g.id).length + 1) c7)).setCell ⟨W0.heap.size, 1, none⟩ (.int .i64 (x + 1))) = Wz at z1 z2 z3 ⊢
     have Z1 := Li z1
     have Z3 := Li z3
     have d0 := z2.c2
     obtain ⟨y0, y1', y2, y3, y4, y5⟩ := HCELL.out Wz z1
     clear hcA hfA hcB hfB z1 z2 z3
     go_wp2_with (first | (go_at_call 107; refine (with_any A7 ((dropF l g.id).length + 1) c7 (x + 1) (dropF l g.id ++ [(⟨x, nm, 4, g.pa⟩ : Fd)]) ot 4 g.pa _ (by simp) (Z3.out.row.2.2.2) (by omega) (by omega) (by omega)).mono ?_; rintro e w8 ⟨⟨A8, c8, rfl, ho8⟩, hb8⟩; have HB8 := Li (below_step (QB.out.trans (Z1.out.mono QB.out.size)) (Nat.le_trans QB.out.size Z1.out.size) hb8); have HR8 := Li ((Q2.out.up Z1.out).up hb8); have HO8 := Li (ho8.low (b := w.heap.size) (Nat.le_trans QB.out.size Z1.out.size)); have hz8 : w.heap.size + 1 < w8.heap.size := HR8.out.lt; clear ho8 hb8) | ((with_reducible show wpList _ _ _ _ _ _); refine wpList_store_cb rfl 35 (.tmp 2) (.tmp 49) rfl (w.heap.size + 1) [.slice A8 ((dropF l g.id).length + 1 + 1) c8, .int .i64 (x + 1 + 1)] rfl rfl 35 [.slice none 0 0, .int .i64 0] 2 HR8.out sizeS rfl rfl (one_s _ _ _ _) ?_; intro w9 hc9 hg9 hz9))
     refine bodyPost_ret (res_cell Tryz.results99 rfl rfl hc9 Tryz.underlying35 sizeS rfl) rfl ⟨?_, below_grown HB8.out hg9 (by omega) (by omega)⟩
     unfold splE
     rw [if_pos (by exact HO.out), if_pos (by rw [HG.out]; exact HY.out), if_pos (by exact HP.out)]
     simp only [HG.out]
     exact ⟨A8, _, c8, rfl, by simp [withS, dropS], HO8.out.kept hg9 (.inr (HO8.out.ne HR8.out (by decide)).symm)⟩
  ·
   have y1 : (g.ty != 4) = true := by simpa using hy
   have HY := Li hy
   clear hy
   go_enter Tryz.func99, Tryz.ntmps99
   go_wp2_with (first | (go_at_call 72; refine (Field_any _ n c x l id _ HN.out (HS.out.up (al2 w _ _)) hl2).mono ?_; rintro e w5 ⟨rfl, hb5⟩; rw [HG.out, HO.out]; have HB5 := Li ((al2 w _ _).trans (hb5.mono (al2 w _ _).size)); have HR5 := Li ((CB.new1 w (.cells #[.slice A n c, .int .i64 x, .int .i64 kd, .int .i64 id, .int .i64 wi, .string nm, .string ot, .int .i64 ty, .int .i64 pa, .string sep] 111) 35 [.slice none 0 0, .int .i64 0]).up hb5); have HE5 := Li (((CB.new w 111 [.slice A n c, .int .i64 x, .int .i64 kd, .int .i64 id, .int .i64 wi, .string nm, .string ot, .int .i64 ty, .int .i64 pa, .string sep]).alloc (.cells #[.slice none 0 0, .int .i64 0] 35)).up hb5); have hz5 : w.heap.size + 1 < w5.heap.size := HR5.out.lt; have hy5 : w.heap.size < w5.heap.size := HE5.out.lt; have e5_0 := HE5.out.cell 0 rfl; have e5_1 := HE5.out.cell 1 rfl; have e5_2 := HE5.out.cell 2 rfl; have e5_3 := HE5.out.cell 3 rfl; have e5_4 := HE5.out.cell 4 rfl; have e5_5 := HE5.out.cell 5 rfl; have e5_6 := HE5.out.cell 6 rfl; have e5_7 := HE5.out.cell 7 rfl; have e5_8 := HE5.out.cell 8 rfl; have e5_9 := HE5.out.cell 9 rfl; clear hb5) | ((with_reducible show wpList _ _ _ _ _ _); refine wpList_store_cb rfl 35 (.tmp 2) (.tmp 24) rfl (w.heap.size + 1) [.slice none 0 0, .int .i64 0] rfl rfl 35 [.slice none 0 0, .int .i64 0] 2 (HR5.out.alloc _) sizeS rfl rfl (one_s _ _ _ _) ?_; intro w9 hc9 hg9 hz9))
   refine bodyPost_ret (res_cell Tryz.results99 rfl rfl hc9 Tryz.underlying35 sizeS rfl) rfl ⟨?_, below_grown (HB5.out.alloc (by omega) _) hg9 (by rw [asz]; omega) (by omega)⟩
   unfold splE
   rw [if_pos (by exact HO.out), if_neg (by rw [HG.out]; exact HY.out)]
   exact res_zero _ _ _
end Go.Proofs.YtfeemipnalgjnaaGreat
namespace Go.Proofs.YtfeemipnalgjnaaGreat
open Go.RowKit

set_option maxHeartbeats 8000000 in
set_option maxRecDepth 20000 in
theorem joi_any (A : Option Addr) (n c : Nat) (x : Int) (l : List Fd) (kd id wi : Int) (nm ot : ByteArray) (ty pa : Int) (sep : ByteArray) (w : World) (hn : n = l.length) (hs : Fds w w.heap.size A l) (hl0 : n ≤ 1000) (hx0 : 0 ≤ x) (hx1 : x ≤ 2305843009213693952) (hsep : sep.size ≤ 9223372036854775807) :
  Calls Tryz.prog 100 #[.agg #[.slice A n c, .int .i64 x, .int .i64 kd, .int .i64 id, .int .i64 wi, .string nm, .string ot, .int .i64 ty, .int .i64 pa, .string sep]] w fun e w' => ResS w w' (joiE ⟨l, x⟩ ⟨kd, id, wi, nm, ot, ty, pa, sep⟩) e ∧ Below w.heap.size w w' := by
 have HN := Li hn
 have HS := Li hs
 clear hn hs
 have hl : n ≤ 1000000 := by omega
 have hl2 : n ≤ 9223372036854775807 := by omega
 obtain ⟨g, hg⟩ : ∃ g, fieldD l id = g := ⟨_, rfl⟩
 obtain ⟨ok, hok⟩ : ∃ ok, hasF l id = ok := ⟨_, rfl⟩
 have HG := Li hg
 have HO := Li hok
 clear hg hok
 obtain ⟨k, hg2⟩ : ∃ k, fieldD l wi = k := ⟨_, rfl⟩
 obtain ⟨ok2, hok2⟩ : ∃ ok, hasF l wi = ok := ⟨_, rfl⟩
 have HG2 := Li hg2
 have HO2 := Li hok2
 clear hg2 hok2
 obtain ⟨sz, hsz⟩ : ∃ sz, sepB sep = sz := ⟨_, rfl⟩
 have HP := Li hsz
 clear hsz
 cases ok with
 | false =>
  have tokF : True := trivial
  go_enter Tryz.func100, Tryz.ntmps100
  go_wp2_with (first | (go_at_call 72; have _t := tokF; refine (Field_any _ n c x l id _ HN.out (HS.out.up (al2 w _ _)) hl2).mono ?_; rintro e w5 ⟨rfl, hb5⟩; clear tokF _t; rw [HG.out, HO.out]; have HB5 := Li ((al2 w _ _).trans (hb5.mono (al2 w _ _).size)); have HR5 := Li ((CB.new1 w (.cells #[.slice A n c, .int .i64 x, .int .i64 kd, .int .i64 id, .int .i64 wi, .string nm, .string ot, .int .i64 ty, .int .i64 pa, .string sep] 111) 35 [.slice none 0 0, .int .i64 0]).up hb5); have HE5 := Li (((CB.new w 111 [.slice A n c, .int .i64 x, .int .i64 kd, .int .i64 id, .int .i64 wi, .string nm, .string ot, .int .i64 ty, .int .i64 pa, .string sep]).alloc (.cells #[.slice none 0 0, .int .i64 0] 35)).up hb5); have hz5 : w.heap.size + 1 < w5.heap.size := HR5.out.lt; have hy5 : w.heap.size < w5.heap.size := HE5.out.lt; have e5_0 := HE5.out.cell 0 rfl; have e5_1 := HE5.out.cell 1 rfl; have e5_2 := HE5.out.cell 2 rfl; have e5_3 := HE5.out.cell 3 rfl; have e5_4 := HE5.out.cell 4 rfl; have e5_5 := HE5.out.cell 5 rfl; have e5_6 := HE5.out.cell 6 rfl; have e5_7 := HE5.out.cell 7 rfl; have e5_8 := HE5.out.cell 8 rfl; have e5_9 := HE5.out.cell 9 rfl; clear hb5) | (go_at_call 72; refine (Field_any _ n c x l wi _ HN.out (HS.out.up (HB5.out.alloc (by omega) _)) hl2).mono ?_; rintro e w4 ⟨rfl, hb4⟩; rw [HG2.out, HO2.out]; have HB4 := Li (below_step (HB5.out.alloc (by omega) _) (by rw [asz]; omega) hb4); have HR4 := Li ((HR5.out.alloc _).up hb4); have HE4 := Li ((HE5.out.alloc _).up hb4); have HF4 := Li ((CB.new w5 58 [.int .i64 g.id, .string g.nm, .int .i64 g.ty, .int .i64 g.pa]).up hb4); have hx4 : w5.heap.size < w4.heap.size := lt_al hb4; have hz4 : w.heap.size + 1 < w4.heap.size := HR4.out.lt; have hy4 : w.heap.size < w4.heap.size := HE4.out.lt; have f4_0 := HF4.out.cell 0 rfl; have f4_2 := HF4.out.cell 2 rfl; have f4_3 := HF4.out.cell 3 rfl; have e4_0 := HE4.out.cell 0 rfl; have e4_1 := HE4.out.cell 1 rfl; have e4_2 := HE4.out.cell 2 rfl; have e4_3 := HE4.out.cell 3 rfl; have e4_4 := HE4.out.cell 4 rfl; have e4_5 := HE4.out.cell 5 rfl; have e4_6 := HE4.out.cell 6 rfl; have e4_7 := HE4.out.cell 7 rfl; have e4_8 := HE4.out.cell 8 rfl; have e4_9 := HE4.out.cell 9 rfl; clear hb4) | ((with_reducible show wpList _ _ _ _ _ _); refine wpList_store_cb rfl 35 (.tmp 2) (.tmp 41) rfl (w.heap.size + 1) [.slice none 0 0, .int .i64 0] rfl rfl 35 [.slice none 0 0, .int .i64 0] 2 (HR4.out.alloc _) sizeS rfl rfl (one_s _ _ _ _) ?_; intro w9 hc9 hg9 hz9))
  refine bodyPost_ret (res_cell Tryz.results100 rfl rfl hc9 Tryz.underlying35 sizeS rfl) rfl ⟨?_, below_grown (HB4.out.alloc (by omega) _) hg9 (by rw [asz]; omega) (by omega)⟩
  unfold joiE
  rw [if_neg (fun h => by have := h.1; simp only [HO.out] at this; cases this)]
  exact res_zero _ _ _
 | true =>
  cases ok2 with
  | false =>
   have tokF : True := trivial
   go_enter Tryz.func100, Tryz.ntmps100
   go_wp2_with (first | (go_at_call 72; have _t := tokF; refine (Field_any _ n c x l id _ HN.out (HS.out.up (al2 w _ _)) hl2).mono ?_; rintro e w5 ⟨rfl, hb5⟩; clear tokF _t; rw [HG.out, HO.out]; have HB5 := Li ((al2 w _ _).trans (hb5.mono (al2 w _ _).size)); have HR5 := Li ((CB.new1 w (.cells #[.slice A n c, .int .i64 x, .int .i64 kd, .int .i64 id, .int .i64 wi, .string nm, .string ot, .int .i64 ty, .int .i64 pa, .string sep] 111) 35 [.slice none 0 0, .int .i64 0]).up hb5); have HE5 := Li (((CB.new w 111 [.slice A n c, .int .i64 x, .int .i64 kd, .int .i64 id, .int .i64 wi, .string nm, .string ot, .int .i64 ty, .int .i64 pa, .string sep]).alloc (.cells #[.slice none 0 0, .int .i64 0] 35)).up hb5); have hz5 : w.heap.size + 1 < w5.heap.size := HR5.out.lt; have hy5 : w.heap.size < w5.heap.size := HE5.out.lt; have e5_0 := HE5.out.cell 0 rfl; have e5_1 := HE5.out.cell 1 rfl; have e5_2 := HE5.out.cell 2 rfl; have e5_3 := HE5.out.cell 3 rfl; have e5_4 := HE5.out.cell 4 rfl; have e5_5 := HE5.out.cell 5 rfl; have e5_6 := HE5.out.cell 6 rfl; have e5_7 := HE5.out.cell 7 rfl; have e5_8 := HE5.out.cell 8 rfl; have e5_9 := HE5.out.cell 9 rfl; clear hb5) | (go_at_call 72; refine (Field_any _ n c x l wi _ HN.out (HS.out.up (HB5.out.alloc (by omega) _)) hl2).mono ?_; rintro e w4 ⟨rfl, hb4⟩; rw [HG2.out, HO2.out]; have HB4 := Li (below_step (HB5.out.alloc (by omega) _) (by rw [asz]; omega) hb4); have HR4 := Li ((HR5.out.alloc _).up hb4); have HE4 := Li ((HE5.out.alloc _).up hb4); have HF4 := Li ((CB.new w5 58 [.int .i64 g.id, .string g.nm, .int .i64 g.ty, .int .i64 g.pa]).up hb4); have hx4 : w5.heap.size < w4.heap.size := lt_al hb4; have hz4 : w.heap.size + 1 < w4.heap.size := HR4.out.lt; have hy4 : w.heap.size < w4.heap.size := HE4.out.lt; have f4_0 := HF4.out.cell 0 rfl; have f4_2 := HF4.out.cell 2 rfl; have f4_3 := HF4.out.cell 3 rfl; have e4_0 := HE4.out.cell 0 rfl; have e4_1 := HE4.out.cell 1 rfl; have e4_2 := HE4.out.cell 2 rfl; have e4_3 := HE4.out.cell 3 rfl; have e4_4 := HE4.out.cell 4 rfl; have e4_5 := HE4.out.cell 5 rfl; have e4_6 := HE4.out.cell 6 rfl; have e4_7 := HE4.out.cell 7 rfl; have e4_8 := HE4.out.cell 8 rfl; have e4_9 := HE4.out.cell 9 rfl; clear hb4) | ((with_reducible show wpList _ _ _ _ _ _); refine wpList_store_cb rfl 35 (.tmp 2) (.tmp 41) rfl (w.heap.size + 1) [.slice none 0 0, .int .i64 0] rfl rfl 35 [.slice none 0 0, .int .i64 0] 2 (HR4.out.alloc _) sizeS rfl rfl (one_s _ _ _ _) ?_; intro w9 hc9 hg9 hz9))
   refine bodyPost_ret (res_cell Tryz.results100 rfl rfl hc9 Tryz.underlying35 sizeS rfl) rfl ⟨?_, below_grown (HB4.out.alloc (by omega) _) hg9 (by rw [asz]; omega) (by omega)⟩
   unfold joiE
   rw [if_neg (fun h => by have := h.2.1; simp only [HO2.out] at this; cases this)]
   exact res_zero _ _ _
  | true =>
   by_cases hi : g.id = k.id
   ·
    have i1 : (g.id == k.id) = true := by simpa using hi
    have HI := Li hi
    clear hi
    have tokF : True := trivial
    go_enter Tryz.func100, Tryz.ntmps100
    go_wp2_with (first | (go_at_call 72; have _t := tokF; refine (Field_any _ n c x l id _ HN.out (HS.out.up (al2 w _ _)) hl2).mono ?_; rintro e w5 ⟨rfl, hb5⟩; clear tokF _t; rw [HG.out, HO.out]; have HB5 := Li ((al2 w _ _).trans (hb5.mono (al2 w _ _).size)); have HR5 := Li ((CB.new1 w (.cells #[.slice A n c, .int .i64 x, .int .i64 kd, .int .i64 id, .int .i64 wi, .string nm, .string ot, .int .i64 ty, .int .i64 pa, .string sep] 111) 35 [.slice none 0 0, .int .i64 0]).up hb5); have HE5 := Li (((CB.new w 111 [.slice A n c, .int .i64 x, .int .i64 kd, .int .i64 id, .int .i64 wi, .string nm, .string ot, .int .i64 ty, .int .i64 pa, .string sep]).alloc (.cells #[.slice none 0 0, .int .i64 0] 35)).up hb5); have hz5 : w.heap.size + 1 < w5.heap.size := HR5.out.lt; have hy5 : w.heap.size < w5.heap.size := HE5.out.lt; have e5_0 := HE5.out.cell 0 rfl; have e5_1 := HE5.out.cell 1 rfl; have e5_2 := HE5.out.cell 2 rfl; have e5_3 := HE5.out.cell 3 rfl; have e5_4 := HE5.out.cell 4 rfl; have e5_5 := HE5.out.cell 5 rfl; have e5_6 := HE5.out.cell 6 rfl; have e5_7 := HE5.out.cell 7 rfl; have e5_8 := HE5.out.cell 8 rfl; have e5_9 := HE5.out.cell 9 rfl; clear hb5) | (go_at_call 72; refine (Field_any _ n c x l wi _ HN.out (HS.out.up (HB5.out.alloc (by omega) _)) hl2).mono ?_; rintro e w4 ⟨rfl, hb4⟩; rw [HG2.out, HO2.out]; have HB4 := Li (below_step (HB5.out.alloc (by omega) _) (by rw [asz]; omega) hb4); have HR4 := Li ((HR5.out.alloc _).up hb4); have HE4 := Li ((HE5.out.alloc _).up hb4); have HF4 := Li ((CB.new w5 58 [.int .i64 g.id, .string g.nm, .int .i64 g.ty, .int .i64 g.pa]).up hb4); have hx4 : w5.heap.size < w4.heap.size := lt_al hb4; have hz4 : w.heap.size + 1 < w4.heap.size := HR4.out.lt; have hy4 : w.heap.size < w4.heap.size := HE4.out.lt; have f4_0 := HF4.out.cell 0 rfl; have f4_2 := HF4.out.cell 2 rfl; have f4_3 := HF4.out.cell 3 rfl; have e4_0 := HE4.out.cell 0 rfl; have e4_1 := HE4.out.cell 1 rfl; have e4_2 := HE4.out.cell 2 rfl; have e4_3 := HE4.out.cell 3 rfl; have e4_4 := HE4.out.cell 4 rfl; have e4_5 := HE4.out.cell 5 rfl; have e4_6 := HE4.out.cell 6 rfl; have e4_7 := HE4.out.cell 7 rfl; have e4_8 := HE4.out.cell 8 rfl; have e4_9 := HE4.out.cell 9 rfl; clear hb4) | ((with_reducible show wpList _ _ _ _ _ _); refine wpList_store_cb rfl 35 (.tmp 2) (.tmp 41) rfl (w.heap.size + 1) [.slice none 0 0, .int .i64 0] rfl rfl 35 [.slice none 0 0, .int .i64 0] 2 (HR4.out.alloc _) sizeS rfl rfl (one_s _ _ _ _) ?_; intro w9 hc9 hg9 hz9))
    refine bodyPost_ret (res_cell Tryz.results100 rfl rfl hc9 Tryz.underlying35 sizeS rfl) rfl ⟨?_, below_grown (HB4.out.alloc (by omega) _) hg9 (by rw [asz]; omega) (by omega)⟩
    unfold joiE
    rw [if_neg (fun h => h.2.2 (by rw [HG.out, HG2.out]; exact HI.out))]
    exact res_zero _ _ _
   ·
    have i1 : (g.id == k.id) = false := by simpa using hi
    have HI := Li hi
    clear hi
    by_cases hy : g.ty = 4
    ·
     have y1 : (g.ty != 4) = false := by simpa using hy
     by_cases hy2 : k.ty = 4
     ·
      have y2 : (k.ty != 4) = false := by simpa using hy2
      have HY : Hid (g.ty = 4 ∧ k.ty = 4) := ⟨hy, hy2⟩
      clear hy hy2
      by_cases ha : g.pa = k.pa
      ·
       have a1 : (g.pa != k.pa) = false := by simpa using ha
       have HA := Li ha
       clear ha
       cases sz with
       | false =>
        have tokF : True := trivial
        go_enter Tryz.func100, Tryz.ntmps100
        go_wp2_with (first | (go_at_call 72; have _t := tokF; refine (Field_any _ n c x l id _ HN.out (HS.out.up (al2 w _ _)) hl2).mono ?_; rintro e w5 ⟨rfl, hb5⟩; clear tokF _t; rw [HG.out, HO.out]; have HB5 := Li ((al2 w _ _).trans (hb5.mono (al2 w _ _).size)); have HR5 := Li ((CB.new1 w (.cells #[.slice A n c, .int .i64 x, .int .i64 kd, .int .i64 id, .int .i64 wi, .string nm, .string ot, .int .i64 ty, .int .i64 pa, .string sep] 111) 35 [.slice none 0 0, .int .i64 0]).up hb5); have HE5 := Li (((CB.new w 111 [.slice A n c, .int .i64 x, .int .i64 kd, .int .i64 id, .int .i64 wi, .string nm, .string ot, .int .i64 ty, .int .i64 pa, .string sep]).alloc (.cells #[.slice none 0 0, .int .i64 0] 35)).up hb5); have hz5 : w.heap.size + 1 < w5.heap.size := HR5.out.lt; have hy5 : w.heap.size < w5.heap.size := HE5.out.lt; have e5_0 := HE5.out.cell 0 rfl; have e5_1 := HE5.out.cell 1 rfl; have e5_2 := HE5.out.cell 2 rfl; have e5_3 := HE5.out.cell 3 rfl; have e5_4 := HE5.out.cell 4 rfl; have e5_5 := HE5.out.cell 5 rfl; have e5_6 := HE5.out.cell 6 rfl; have e5_7 := HE5.out.cell 7 rfl; have e5_8 := HE5.out.cell 8 rfl; have e5_9 := HE5.out.cell 9 rfl; clear hb5) | (go_at_call 72; refine (Field_any _ n c x l wi _ HN.out (HS.out.up (HB5.out.alloc (by omega) _)) hl2).mono ?_; rintro e w4 ⟨rfl, hb4⟩; rw [HG2.out, HO2.out]; have HB4 := Li (below_step (HB5.out.alloc (by omega) _) (by rw [asz]; omega) hb4); have HR4 := Li ((HR5.out.alloc _).up hb4); have HE4 := Li ((HE5.out.alloc _).up hb4); have HF4 := Li ((CB.new w5 58 [.int .i64 g.id, .string g.nm, .int .i64 g.ty, .int .i64 g.pa]).up hb4); have hx4 : w5.heap.size < w4.heap.size := lt_al hb4; have hz4 : w.heap.size + 1 < w4.heap.size := HR4.out.lt; have hy4 : w.heap.size < w4.heap.size := HE4.out.lt; have f4_0 := HF4.out.cell 0 rfl; have f4_2 := HF4.out.cell 2 rfl; have f4_3 := HF4.out.cell 3 rfl; have e4_0 := HE4.out.cell 0 rfl; have e4_1 := HE4.out.cell 1 rfl; have e4_2 := HE4.out.cell 2 rfl; have e4_3 := HE4.out.cell 3 rfl; have e4_4 := HE4.out.cell 4 rfl; have e4_5 := HE4.out.cell 5 rfl; have e4_6 := HE4.out.cell 6 rfl; have e4_7 := HE4.out.cell 7 rfl; have e4_8 := HE4.out.cell 8 rfl; have e4_9 := HE4.out.cell 9 rfl; clear hb4) | (go_at_call 110; refine (isSep_any sep false _ HP.out hsep).mono ?_; rintro e w' ⟨rfl, rfl⟩) | ((with_reducible show wpList _ _ _ _ _ _); refine wpList_store_cb rfl 35 (.tmp 2) (.tmp 65) rfl (w.heap.size + 1) [.slice none 0 0, .int .i64 0] rfl rfl 35 [.slice none 0 0, .int .i64 0] 2 (HR4.out.alloc _) sizeS rfl rfl (one_s _ _ _ _) ?_; intro w9 hc9 hg9 hz9))
        refine bodyPost_ret (res_cell Tryz.results100 rfl rfl hc9 Tryz.underlying35 sizeS rfl) rfl ⟨?_, below_grown (HB4.out.alloc (by omega) _) hg9 (by rw [asz]; omega) (by omega)⟩
        unfold joiE
        rw [if_pos (by exact ⟨HO.out, HO2.out, by rw [HG.out, HG2.out]; exact HI.out⟩), if_pos (by rw [HG.out, HG2.out]; exact HY.out), if_pos (by rw [HG.out, HG2.out]; exact HA.out), if_neg (by simp only [HP.out]; decide)]
        exact res_zero _ _ _
       | true =>
        have tokF : True := trivial
        go_enter Tryz.func100, Tryz.ntmps100
        go_wp2_with (first | (go_at_call 72; have _t := tokF; refine (Field_any _ n c x l id _ HN.out (HS.out.up (al2 w _ _)) hl2).mono ?_; rintro e w5 ⟨rfl, hb5⟩; clear tokF _t; rw [HG.out, HO.out]; have HB5 := Li ((al2 w _ _).trans (hb5.mono (al2 w _ _).size)); have HR5 := Li ((CB.new1 w (.cells #[.slice A n c, .int .i64 x, .int .i64 kd, .int .i64 id, .int .i64 wi, .string nm, .string ot, .int .i64 ty, .int .i64 pa, .string sep] 111) 35 [.slice none 0 0, .int .i64 0]).up hb5); have HE5 := Li (((CB.new w 111 [.slice A n c, .int .i64 x, .int .i64 kd, .int .i64 id, .int .i64 wi, .string nm, .string ot, .int .i64 ty, .int .i64 pa, .string sep]).alloc (.cells #[.slice none 0 0, .int .i64 0] 35)).up hb5); have hz5 : w.heap.size + 1 < w5.heap.size := HR5.out.lt; have hy5 : w.heap.size < w5.heap.size := HE5.out.lt; have e5_0 := HE5.out.cell 0 rfl; have e5_1 := HE5.out.cell 1 rfl; have e5_2 := HE5.out.cell 2 rfl; have e5_3 := HE5.out.cell 3 rfl; have e5_4 := HE5.out.cell 4 rfl; have e5_5 := HE5.out.cell 5 rfl; have e5_6 := HE5.out.cell 6 rfl; have e5_7 := HE5.out.cell 7 rfl; have e5_8 := HE5.out.cell 8 rfl; have e5_9 := HE5.out.cell 9 rfl; clear hb5) | (go_at_call 72; refine (Field_any _ n c x l wi _ HN.out (HS.out.up (HB5.out.alloc (by omega) _)) hl2).mono ?_; rintro e w4 ⟨rfl, hb4⟩; rw [HG2.out, HO2.out]; have HB4 := Li (below_step (HB5.out.alloc (by omega) _) (by rw [asz]; omega) hb4); have HR4 := Li ((HR5.out.alloc _).up hb4); have HE4 := Li ((HE5.out.alloc _).up hb4); have HF4 := Li ((CB.new w5 58 [.int .i64 g.id, .string g.nm, .int .i64 g.ty, .int .i64 g.pa]).up hb4); have hx4 : w5.heap.size < w4.heap.size := lt_al hb4; have hz4 : w.heap.size + 1 < w4.heap.size := HR4.out.lt; have hy4 : w.heap.size < w4.heap.size := HE4.out.lt; have f4_0 := HF4.out.cell 0 rfl; have f4_2 := HF4.out.cell 2 rfl; have f4_3 := HF4.out.cell 3 rfl; have e4_0 := HE4.out.cell 0 rfl; have e4_1 := HE4.out.cell 1 rfl; have e4_2 := HE4.out.cell 2 rfl; have e4_3 := HE4.out.cell 3 rfl; have e4_4 := HE4.out.cell 4 rfl; have e4_5 := HE4.out.cell 5 rfl; have e4_6 := HE4.out.cell 6 rfl; have e4_7 := HE4.out.cell 7 rfl; have e4_8 := HE4.out.cell 8 rfl; have e4_9 := HE4.out.cell 9 rfl; clear hb4) | (go_at_call 110; refine (isSep_any sep true _ HP.out hsep).mono ?_; rintro e w' ⟨rfl, rfl⟩))
        have hq1 := HE4.out.alloc (.cells #[.int .i64 k.id, .string k.nm, .int .i64 k.ty, .int .i64 k.pa] 58)
        have hq2 := HR4.out.alloc (.cells #[.int .i64 k.id, .string k.nm, .int .i64 k.ty, .int .i64 k.pa] 58)
        have hq3 := HF4.out.alloc (.cells #[.int .i64 k.id, .string k.nm, .int .i64 k.ty, .int .i64 k.pa] 58)
        have hq4 := CB.new w4 58 [.int .i64 k.id, .string k.nm, .int .i64 k.ty, .int .i64 k.pa]
        have hqb := HB4.out.alloc (by omega) (.cells #[.int .i64 k.id, .string k.nm, .int .i64 k.ty, .int .i64 k.pa] 58)
        have hw0z : (w4.alloc (.cells #[.int .i64 k.id, .string k.nm, .int .i64 k.ty, .int .i64 k.pa] 58)).heap.size = w4.heap.size + 1 := asz _ _
        generalize w4.alloc (.cells #[.int .i64 k.id, .string k.nm, .int .i64 k.ty, .int .i64 k.pa] 58) = W0 at *
        have nA0 : w.heap.size ≠ W0.heap.size := by omega
        have nB0 : w5.heap.size ≠ W0.heap.size := by omega
        have nC0 : w4.heap.size ≠ W0.heap.size := by omega
        have hy0 : w.heap.size < W0.heap.size := by omega
        have hz0 : w5.heap.size < W0.heap.size := by omega
        have hv0 : w4.heap.size < W0.heap.size := by omega
        clear hw0z
        have Q1 := Li hq1
        have Q2 := Li hq2
        have Q3 := Li hq3
        have Q4 := Li hq4
        have QB := Li hqb
        have HCELL : Hid (∀ W, Below W0.heap.size W0 W → W.cell? ⟨w.heap.size, 0, none⟩ = some (.slice A n c) ∧ W.cell? ⟨w.heap.size, 1, none⟩ = some (.int .i64 x) ∧ W.cell? ⟨w.heap.size, 5, none⟩ = some (.string nm) ∧ W.cell? ⟨w5.heap.size, 0, none⟩ = some (.int .i64 g.id) ∧ W.cell? ⟨w5.heap.size, 3, none⟩ = some (.int .i64 g.pa) ∧ W.cell? ⟨w4.heap.size, 0, none⟩ = some (.int .i64 k.id)) := by
         intro W hW
         exact ⟨(Q1.out.up hW).cell 0 rfl, (Q1.out.up hW).cell 1 rfl, (Q1.out.up hW).cell 5 rfl, (Q3.out.up hW).cell 0 rfl, (Q3.out.up hW).cell 3 rfl, (Q4.out.up hW).cell 0 rfl⟩
        obtain ⟨x0, x1, x2, x3, x4, x5⟩ := HCELL.out W0 (Below.refl _ _)
        clear hq1 hq2 hq3 hq4 hqb HE5 HR5 HE4 HR4 HF4 f4_0 f4_2 f4_3 e5_0 e5_1 e5_2 e5_3 e5_4 e5_5 e5_6 e5_7 e5_8 e5_9 e4_0 e4_1 e4_2 e4_3 e4_4 e4_5 e4_6 e4_7 e4_8 e4_9
        have hwx : IntKind.i64.wrap (x + 1) = x + 1 := IntWalk.i64_in _ ⟨by omega, by omega⟩
        have hdl : (dropF l g.id).length ≤ 1000 := Nat.le_trans (drp_len l g.id) (by rw [← HN.out]; exact hl0)
        have hdl2 : (dropF (dropF l g.id) k.id).length ≤ 1000 := Nat.le_trans (drp_len _ k.id) hdl
        have tok1 : True := trivial
        go_region_held_law (fun w' => w'.cell? ⟨w.heap.size, 0, none⟩ = some (.slice A n c) ∧ w'.cell? ⟨w.heap.size, 1, none⟩ = some (.int .i64 x) ∧ w'.cell? ⟨w5.heap.size, 0, none⟩ = some (.int .i64 g.id) ∧ w'.cell? ⟨w4.heap.size, 0, none⟩ = some (.int .i64 k.id))
         (first | exact (fun h => ⟨h.1, h.2.1, h.2.2.2.1, h.2.2.2.2.2⟩) (HCELL.out _ (by first | exact hw7 | exact hw6 | exact hw6.alloc hw6.size _ | exact hw6.drew | exact hw6.drew.alloc hw6.size _ | exact bd _ | exact bda _ _ | exact bdad _ _ | exact bad _ _ | exact al1 _ _ | exact hw7.alloc hw7.size _)) | exact (fun h => ⟨cell_set2 (by first | exact nA6 | exact nA0 | exact nA7) h.1, cell_set2 (by first | exact nA6 | exact nA0 | exact nA7) h.2.1, cell_set2 (by first | exact nB6 | exact nB0 | exact nB7) h.2.2.2.1, cell_set2 (by first | exact nC6 | exact nC0 | exact nC7) h.2.2.2.2.2⟩) (HCELL.out _ hw7) | go_keep)
         (first | (go_at_call 108; have _t := tok1; refine (without_any A n c x l g.id _ HN.out (HS.out.up (QB.out.trans ((show Below W0.heap.size W0 _ by first | exact bd _ | exact bda _ _ | exact bdad _ _ | exact bad _ _ | exact Below.refl _ _ | exact al1 _ _).mono QB.out.size))) hl).mono ?_; rintro e w6 ⟨⟨A6, c6, rfl, ho6⟩, hb6⟩; clear tok1; have hw6 : Below W0.heap.size W0 w6 := (by first | exact (bd _).trans (hb6.mono (bd _).size) | exact (bda _ _).trans (hb6.mono (bda _ _).size) | exact (bdad _ _).trans (hb6.mono (bdad _ _).size) | exact (bad _ _).trans (hb6.mono (bad _ _).size) | exact (al1 _ _).trans (hb6.mono (al1 _ _).size) | exact hb6); have HO6 := Li (ho6.low (b := W0.heap.size) (by first | exact (bd W0).size | exact (bda W0 _).size | exact (bdad W0 _).size | exact (bad W0 _).size | exact (al1 W0 _).size | exact Nat.le_refl _)); obtain ⟨hcA, hfA⟩ := bcell hb6; (try have hq6 : W0.heap.size < w6.heap.size := (by first | exact lt_al hb6 | exact lt_ald hb6)); (try have hcb0 : CB w6 W0.heap.size 35 [.slice none 0 0, .int .i64 0] := (by first | exact (CB.new _ _ _).up hb6 | exact (CB.new _ _ _).dr.up hb6)); have nA6 : w.heap.size ≠ w6.heap.size := Nat.ne_of_lt (Nat.lt_of_lt_of_le hy0 hw6.size); have nB6 : w5.heap.size ≠ w6.heap.size := Nat.ne_of_lt (Nat.lt_of_lt_of_le hz0 hw6.size); have nC6 : w4.heap.size ≠ w6.heap.size := Nat.ne_of_lt (Nat.lt_of_lt_of_le hv0 hw6.size); clear ho6 hb6) | (go_at_call 108; refine (without_any A6 (dropF l g.id).length c6 x (dropF l g.id) k.id _ rfl (Fds.up (HO6.out.row.2.2.2) (by first | exact Below.refl _ _ | exact bd _ | exact al1 _ _ | exact bda _ _ | exact bad _ _)) (by omega)).mono ?_; rintro e w7 ⟨⟨A7, c7, rfl, ho7⟩, hb7⟩; have hw7 : Below W0.heap.size W0 w7 := (by first | exact (hw6).trans (hb7.mono (hw6).size) | exact (hw6.drew).trans (hb7.mono (hw6.drew).size) | exact (hw6.alloc hw6.size _).trans (hb7.mono (hw6.alloc hw6.size _).size) | exact (hw6.drew.alloc hw6.size _).trans (hb7.mono (hw6.drew.alloc hw6.size _).size) | exact ((hw6.alloc hw6.size _).drew).trans (hb7.mono ((hw6.alloc hw6.size _).drew).size)); have HO7 := Li (ho7.low (b := W0.heap.size) (by first | exact hw6.size | exact (hw6.alloc hw6.size _).size | exact (hw6.drew.alloc hw6.size _).size)); obtain ⟨hcB, hfB⟩ := bcell hb7; (try have hcb7 : CB w7 W0.heap.size 35 [.slice none 0 0, .int .i64 0] := hcb0.up hb7); (try have hcb6 : CB w7 w6.heap.size 35 [.slice none 0 0, .int .i64 0] := (by first | exact (CB.new _ _ _).up hb7 | exact (CB.new _ _ _).dr.up hb7)); have nA7 : w.heap.size ≠ w7.heap.size := Nat.ne_of_lt (Nat.lt_of_lt_of_le hy0 hw7.size); have nB7 : w5.heap.size ≠ w7.heap.size := Nat.ne_of_lt (Nat.lt_of_lt_of_le hz0 hw7.size); have nC7 : w4.heap.size ≠ w7.heap.size := Nat.ne_of_lt (Nat.lt_of_lt_of_le hv0 hw7.size); clear ho7 hb7))
        ·
         have z1 : Below W0.heap.size W0 (w7.alloc (.cells #[.slice A7 (dropF (dropF l g.id) k.id).length c7, .int .i64 x] 35)) := hw7.alloc hw7.size _
         have z2 : CB (w7.alloc (.cells #[.slice A7 (dropF (dropF l g.id) k.id).length c7, .int .i64 x] 35)) w7.heap.size 35 [(.slice A7 (dropF (dropF l g.id) k.id).length c7), .int .i64 x] := CB.new w7 35 [(.slice A7 (dropF (dropF l g.id) k.id).length c7), .int .i64 x]
         have z3 : Own 58 4 (w7.alloc (.cells #[.slice A7 (dropF (dropF l g.id) k.id).length c7, .int .i64 x] 35)) W0.heap.size (.slice A7 (dropF (dropF l g.id) k.id).length c7) ((dropF (dropF l g.id) k.id).map Fd.cells) := HO7.out.alloc _
         generalize (w7.alloc (.cells #[.slice A7 (dropF (dropF l g.id) k.id).length c7, .int .i64 x] 35)) = Wz at z1 z2 z3 ⊢
         have Z1 := Li z1
         have Z3 := Li z3
         have d0 := z2.c2
         obtain ⟨y0, y1', y2, y3, y4, y5⟩ := HCELL.out Wz z1
         clear hcA hfA hcB hfB z1 z2 z3
         go_wp2_with (first | (go_at_call 107; refine (with_any A7 (dropF (dropF l g.id) k.id).length c7 x (dropF (dropF l g.id) k.id) nm 4 g.pa _ rfl (Z3.out.row.2.2.2) (by omega) hx0 (by omega)).mono ?_; rintro e w8 ⟨⟨A8, c8, rfl, ho8⟩, hb8⟩; have HB8 := Li (below_step (QB.out.trans (Z1.out.mono QB.out.size)) (Nat.le_trans QB.out.size Z1.out.size) hb8); have HR8 := Li ((Q2.out.up Z1.out).up hb8); have HO8 := Li (ho8.low (b := w.heap.size) (Nat.le_trans QB.out.size Z1.out.size)); have hz8 : w.heap.size + 1 < w8.heap.size := HR8.out.lt; clear ho8 hb8) | ((with_reducible show wpList _ _ _ _ _ _); refine wpList_store_cb rfl 35 (.tmp 2) (.tmp 80) rfl (w.heap.size + 1) [.slice A8 ((dropF (dropF l g.id) k.id).length + 1) c8, .int .i64 (x + 1)] rfl rfl 35 [.slice none 0 0, .int .i64 0] 2 HR8.out sizeS rfl rfl (one_s _ _ _ _) ?_; intro w9 hc9 hg9 hz9))
         refine bodyPost_ret (res_cell Tryz.results100 rfl rfl hc9 Tryz.underlying35 sizeS rfl) rfl ⟨?_, below_grown HB8.out hg9 (by omega) (by omega)⟩
         unfold joiE
         rw [if_pos (by exact ⟨HO.out, HO2.out, by rw [HG.out, HG2.out]; exact HI.out⟩), if_pos (by rw [HG.out, HG2.out]; exact HY.out), if_pos (by rw [HG.out, HG2.out]; exact HA.out), if_pos (by exact HP.out)]
         simp only [HG.out, HG2.out]
         exact ⟨A8, _, c8, rfl, by simp [withS, dropS], HO8.out.kept hg9 (.inr (HO8.out.ne HR8.out (by decide)).symm)⟩
        ·
         have z1 : Below W0.heap.size W0 ((w7.setCell ⟨w6.heap.size, 0, none⟩ (.slice A7 (dropF (dropF l g.id) k.id).length c7)).setCell ⟨w6.heap.size, 1, none⟩ (.int .i64 x)) := (hw7.setCell (p := ⟨w6.heap.size, 0, none⟩) hw6.size _).setCell (p := ⟨w6.heap.size, 1, none⟩) hw6.size _
         have z2 : CB ((w7.setCell ⟨w6.heap.size, 0, none⟩ (.slice A7 (dropF (dropF l g.id) k.id).length c7)).setCell ⟨w6.heap.size, 1, none⟩ (.int .i64 x)) w6.heap.size 35 [(.slice A7 (dropF (dropF l g.id) k.id).length c7), .int .i64 x] := (hcb6.set_ 0 _).set_ 1 _
         have z3 : Own 58 4 ((w7.setCell ⟨w6.heap.size, 0, none⟩ (.slice A7 (dropF (dropF l g.id) k.id).length c7)).setCell ⟨w6.heap.size, 1, none⟩ (.int .i64 x)) W0.heap.size (.slice A7 (dropF (dropF l g.id) k.id).length c7) ((dropF (dropF l g.id) k.id).map Fd.cells) := (HO7.out.set_ 0 _ (HO7.out.ne hcb6 (by decide))).set_ 1 _ (HO7.out.ne hcb6 (by decide))
         generalize ((w7.setCell ⟨w6.heap.size, 0, none⟩ (.slice A7 (dropF (dropF l g.id) k.id).length c7)).setCell ⟨w6.heap.size, 1, none⟩ (.int .i64 x)) = Wz at z1 z2 z3 ⊢
         have Z1 := Li z1
         have Z3 := Li z3
         have d0 := z2.c2
         obtain ⟨y0, y1', y2, y3, y4, y5⟩ := HCELL.out Wz z1
         clear hcA hfA hcB hfB z1 z2 z3
         go_wp2_with (first | (go_at_call 107; refine (with_any A7 (dropF (dropF l g.id) k.id).length c7 x (dropF (dropF l g.id) k.id) nm 4 g.pa _ rfl (Z3.out.row.2.2.2) (by omega) hx0 (by omega)).mono ?_; rintro e w8 ⟨⟨A8, c8, rfl, ho8⟩, hb8⟩; have HB8 := Li (below_step (QB.out.trans (Z1.out.mono QB.out.size)) (Nat.le_trans QB.out.size Z1.out.size) hb8); have HR8 := Li ((Q2.out.up Z1.out).up hb8); have HO8 := Li (ho8.low (b := w.heap.size) (Nat.le_trans QB.out.size Z1.out.size)); have hz8 : w.heap.size + 1 < w8.heap.size := HR8.out.lt; clear ho8 hb8) | ((with_reducible show wpList _ _ _ _ _ _); refine wpList_store_cb rfl 35 (.tmp 2) (.tmp 80) rfl (w.heap.size + 1) [.slice A8 ((dropF (dropF l g.id) k.id).length + 1) c8, .int .i64 (x + 1)] rfl rfl 35 [.slice none 0 0, .int .i64 0] 2 HR8.out sizeS rfl rfl (one_s _ _ _ _) ?_; intro w9 hc9 hg9 hz9))
         refine bodyPost_ret (res_cell Tryz.results100 rfl rfl hc9 Tryz.underlying35 sizeS rfl) rfl ⟨?_, below_grown HB8.out hg9 (by omega) (by omega)⟩
         unfold joiE
         rw [if_pos (by exact ⟨HO.out, HO2.out, by rw [HG.out, HG2.out]; exact HI.out⟩), if_pos (by rw [HG.out, HG2.out]; exact HY.out), if_pos (by rw [HG.out, HG2.out]; exact HA.out), if_pos (by exact HP.out)]
         simp only [HG.out, HG2.out]
         exact ⟨A8, _, c8, rfl, by simp [withS, dropS], HO8.out.kept hg9 (.inr (HO8.out.ne HR8.out (by decide)).symm)⟩
        ·
         have z1 : Below W0.heap.size W0 ((w7.setCell ⟨W0.heap.size, 0, none⟩ (.slice A7 (dropF (dropF l g.id) k.id).length c7)).setCell ⟨W0.heap.size, 1, none⟩ (.int .i64 x)) := (hw7.setCell (p := ⟨W0.heap.size, 0, none⟩) (Nat.le_refl _) _).setCell (p := ⟨W0.heap.size, 1, none⟩) (Nat.le_refl _) _
         have z2 : CB ((w7.setCell ⟨W0.heap.size, 0, none⟩ (.slice A7 (dropF (dropF l g.id) k.id).length c7)).setCell ⟨W0.heap.size, 1, none⟩ (.int .i64 x)) W0.heap.size 35 [(.slice A7 (dropF (dropF l g.id) k.id).length c7), .int .i64 x] := (hcb7.set_ 0 _).set_ 1 _
         have z3 : Own 58 4 ((w7.setCell ⟨W0.heap.size, 0, none⟩ (.slice A7 (dropF (dropF l g.id) k.id).length c7)).setCell ⟨W0.heap.size, 1, none⟩ (.int .i64 x)) W0.heap.size (.slice A7 (dropF (dropF l g.id) k.id).length c7) ((dropF (dropF l g.id) k.id).map Fd.cells) := (HO7.out.set_ 0 _ (HO7.out.ne hcb7 (by decide))).set_ 1 _ (HO7.out.ne hcb7 (by decide))
         generalize ((w7.setCell ⟨W0.heap.size, 0, none⟩ (.slice A7 (dropF (dropF l g.id) k.id).length c7)).setCell ⟨W0.heap.size, 1, none⟩ (.int .i64 x)) = Wz at z1 z2 z3 ⊢
         have Z1 := Li z1
         have Z3 := Li z3
         have d0 := z2.c2
         obtain ⟨y0, y1', y2, y3, y4, y5⟩ := HCELL.out Wz z1
         clear hcA hfA hcB hfB z1 z2 z3
         go_wp2_with (first | (go_at_call 107; refine (with_any A7 (dropF (dropF l g.id) k.id).length c7 x (dropF (dropF l g.id) k.id) nm 4 g.pa _ rfl (Z3.out.row.2.2.2) (by omega) hx0 (by omega)).mono ?_; rintro e w8 ⟨⟨A8, c8, rfl, ho8⟩, hb8⟩; have HB8 := Li (below_step (QB.out.trans (Z1.out.mono QB.out.size)) (Nat.le_trans QB.out.size Z1.out.size) hb8); have HR8 := Li ((Q2.out.up Z1.out).up hb8); have HO8 := Li (ho8.low (b := w.heap.size) (Nat.le_trans QB.out.size Z1.out.size)); have hz8 : w.heap.size + 1 < w8.heap.size := HR8.out.lt; clear ho8 hb8) | ((with_reducible show wpList _ _ _ _ _ _); refine wpList_store_cb rfl 35 (.tmp 2) (.tmp 80) rfl (w.heap.size + 1) [.slice A8 ((dropF (dropF l g.id) k.id).length + 1) c8, .int .i64 (x + 1)] rfl rfl 35 [.slice none 0 0, .int .i64 0] 2 HR8.out sizeS rfl rfl (one_s _ _ _ _) ?_; intro w9 hc9 hg9 hz9))
         refine bodyPost_ret (res_cell Tryz.results100 rfl rfl hc9 Tryz.underlying35 sizeS rfl) rfl ⟨?_, below_grown HB8.out hg9 (by omega) (by omega)⟩
         unfold joiE
         rw [if_pos (by exact ⟨HO.out, HO2.out, by rw [HG.out, HG2.out]; exact HI.out⟩), if_pos (by rw [HG.out, HG2.out]; exact HY.out), if_pos (by rw [HG.out, HG2.out]; exact HA.out), if_pos (by exact HP.out)]
         simp only [HG.out, HG2.out]
         exact ⟨A8, _, c8, rfl, by simp [withS, dropS], HO8.out.kept hg9 (.inr (HO8.out.ne HR8.out (by decide)).symm)⟩
      ·
       have a1 : (g.pa != k.pa) = true := by simpa using ha
       have HA := Li ha
       clear ha
       have tokF : True := trivial
       go_enter Tryz.func100, Tryz.ntmps100
       go_wp2_with (first | (go_at_call 72; have _t := tokF; refine (Field_any _ n c x l id _ HN.out (HS.out.up (al2 w _ _)) hl2).mono ?_; rintro e w5 ⟨rfl, hb5⟩; clear tokF _t; rw [HG.out, HO.out]; have HB5 := Li ((al2 w _ _).trans (hb5.mono (al2 w _ _).size)); have HR5 := Li ((CB.new1 w (.cells #[.slice A n c, .int .i64 x, .int .i64 kd, .int .i64 id, .int .i64 wi, .string nm, .string ot, .int .i64 ty, .int .i64 pa, .string sep] 111) 35 [.slice none 0 0, .int .i64 0]).up hb5); have HE5 := Li (((CB.new w 111 [.slice A n c, .int .i64 x, .int .i64 kd, .int .i64 id, .int .i64 wi, .string nm, .string ot, .int .i64 ty, .int .i64 pa, .string sep]).alloc (.cells #[.slice none 0 0, .int .i64 0] 35)).up hb5); have hz5 : w.heap.size + 1 < w5.heap.size := HR5.out.lt; have hy5 : w.heap.size < w5.heap.size := HE5.out.lt; have e5_0 := HE5.out.cell 0 rfl; have e5_1 := HE5.out.cell 1 rfl; have e5_2 := HE5.out.cell 2 rfl; have e5_3 := HE5.out.cell 3 rfl; have e5_4 := HE5.out.cell 4 rfl; have e5_5 := HE5.out.cell 5 rfl; have e5_6 := HE5.out.cell 6 rfl; have e5_7 := HE5.out.cell 7 rfl; have e5_8 := HE5.out.cell 8 rfl; have e5_9 := HE5.out.cell 9 rfl; clear hb5) | (go_at_call 72; refine (Field_any _ n c x l wi _ HN.out (HS.out.up (HB5.out.alloc (by omega) _)) hl2).mono ?_; rintro e w4 ⟨rfl, hb4⟩; rw [HG2.out, HO2.out]; have HB4 := Li (below_step (HB5.out.alloc (by omega) _) (by rw [asz]; omega) hb4); have HR4 := Li ((HR5.out.alloc _).up hb4); have HE4 := Li ((HE5.out.alloc _).up hb4); have HF4 := Li ((CB.new w5 58 [.int .i64 g.id, .string g.nm, .int .i64 g.ty, .int .i64 g.pa]).up hb4); have hx4 : w5.heap.size < w4.heap.size := lt_al hb4; have hz4 : w.heap.size + 1 < w4.heap.size := HR4.out.lt; have hy4 : w.heap.size < w4.heap.size := HE4.out.lt; have f4_0 := HF4.out.cell 0 rfl; have f4_2 := HF4.out.cell 2 rfl; have f4_3 := HF4.out.cell 3 rfl; have e4_0 := HE4.out.cell 0 rfl; have e4_1 := HE4.out.cell 1 rfl; have e4_2 := HE4.out.cell 2 rfl; have e4_3 := HE4.out.cell 3 rfl; have e4_4 := HE4.out.cell 4 rfl; have e4_5 := HE4.out.cell 5 rfl; have e4_6 := HE4.out.cell 6 rfl; have e4_7 := HE4.out.cell 7 rfl; have e4_8 := HE4.out.cell 8 rfl; have e4_9 := HE4.out.cell 9 rfl; clear hb4) | ((with_reducible show wpList _ _ _ _ _ _); refine wpList_store_cb rfl 35 (.tmp 2) (.tmp 58) rfl (w.heap.size + 1) [.slice none 0 0, .int .i64 0] rfl rfl 35 [.slice none 0 0, .int .i64 0] 2 (HR4.out.alloc _) sizeS rfl rfl (one_s _ _ _ _) ?_; intro w9 hc9 hg9 hz9))
       refine bodyPost_ret (res_cell Tryz.results100 rfl rfl hc9 Tryz.underlying35 sizeS rfl) rfl ⟨?_, below_grown (HB4.out.alloc (by omega) _) hg9 (by rw [asz]; omega) (by omega)⟩
       unfold joiE
       rw [if_pos (by exact ⟨HO.out, HO2.out, by rw [HG.out, HG2.out]; exact HI.out⟩), if_pos (by rw [HG.out, HG2.out]; exact HY.out), if_neg (by rw [HG.out, HG2.out]; exact HA.out)]
       exact res_zero _ _ _
     ·
      have y2 : (k.ty != 4) = true := by simpa using hy2
      have HY : Hid (¬ (g.ty = 4 ∧ k.ty = 4)) := fun h => hy2 h.2
      clear hy hy2
      have tokF : True := trivial
      go_enter Tryz.func100, Tryz.ntmps100
      go_wp2_with (first | (go_at_call 72; have _t := tokF; refine (Field_any _ n c x l id _ HN.out (HS.out.up (al2 w _ _)) hl2).mono ?_; rintro e w5 ⟨rfl, hb5⟩; clear tokF _t; rw [HG.out, HO.out]; have HB5 := Li ((al2 w _ _).trans (hb5.mono (al2 w _ _).size)); have HR5 := Li ((CB.new1 w (.cells #[.slice A n c, .int .i64 x, .int .i64 kd, .int .i64 id, .int .i64 wi, .string nm, .string ot, .int .i64 ty, .int .i64 pa, .string sep] 111) 35 [.slice none 0 0, .int .i64 0]).up hb5); have HE5 := Li (((CB.new w 111 [.slice A n c, .int .i64 x, .int .i64 kd, .int .i64 id, .int .i64 wi, .string nm, .string ot, .int .i64 ty, .int .i64 pa, .string sep]).alloc (.cells #[.slice none 0 0, .int .i64 0] 35)).up hb5); have hz5 : w.heap.size + 1 < w5.heap.size := HR5.out.lt; have hy5 : w.heap.size < w5.heap.size := HE5.out.lt; have e5_0 := HE5.out.cell 0 rfl; have e5_1 := HE5.out.cell 1 rfl; have e5_2 := HE5.out.cell 2 rfl; have e5_3 := HE5.out.cell 3 rfl; have e5_4 := HE5.out.cell 4 rfl; have e5_5 := HE5.out.cell 5 rfl; have e5_6 := HE5.out.cell 6 rfl; have e5_7 := HE5.out.cell 7 rfl; have e5_8 := HE5.out.cell 8 rfl; have e5_9 := HE5.out.cell 9 rfl; clear hb5) | (go_at_call 72; refine (Field_any _ n c x l wi _ HN.out (HS.out.up (HB5.out.alloc (by omega) _)) hl2).mono ?_; rintro e w4 ⟨rfl, hb4⟩; rw [HG2.out, HO2.out]; have HB4 := Li (below_step (HB5.out.alloc (by omega) _) (by rw [asz]; omega) hb4); have HR4 := Li ((HR5.out.alloc _).up hb4); have HE4 := Li ((HE5.out.alloc _).up hb4); have HF4 := Li ((CB.new w5 58 [.int .i64 g.id, .string g.nm, .int .i64 g.ty, .int .i64 g.pa]).up hb4); have hx4 : w5.heap.size < w4.heap.size := lt_al hb4; have hz4 : w.heap.size + 1 < w4.heap.size := HR4.out.lt; have hy4 : w.heap.size < w4.heap.size := HE4.out.lt; have f4_0 := HF4.out.cell 0 rfl; have f4_2 := HF4.out.cell 2 rfl; have f4_3 := HF4.out.cell 3 rfl; have e4_0 := HE4.out.cell 0 rfl; have e4_1 := HE4.out.cell 1 rfl; have e4_2 := HE4.out.cell 2 rfl; have e4_3 := HE4.out.cell 3 rfl; have e4_4 := HE4.out.cell 4 rfl; have e4_5 := HE4.out.cell 5 rfl; have e4_6 := HE4.out.cell 6 rfl; have e4_7 := HE4.out.cell 7 rfl; have e4_8 := HE4.out.cell 8 rfl; have e4_9 := HE4.out.cell 9 rfl; clear hb4) | ((with_reducible show wpList _ _ _ _ _ _); refine wpList_store_cb rfl 35 (.tmp 2) (.tmp 51) rfl (w.heap.size + 1) [.slice none 0 0, .int .i64 0] rfl rfl 35 [.slice none 0 0, .int .i64 0] 2 (HR4.out.alloc _) sizeS rfl rfl (one_s _ _ _ _) ?_; intro w9 hc9 hg9 hz9))
      refine bodyPost_ret (res_cell Tryz.results100 rfl rfl hc9 Tryz.underlying35 sizeS rfl) rfl ⟨?_, below_grown (HB4.out.alloc (by omega) _) hg9 (by rw [asz]; omega) (by omega)⟩
      unfold joiE
      rw [if_pos (by exact ⟨HO.out, HO2.out, by rw [HG.out, HG2.out]; exact HI.out⟩), if_neg (by rw [HG.out, HG2.out]; exact HY.out)]
      exact res_zero _ _ _
    ·
     have y1 : (g.ty != 4) = true := by simpa using hy
     have HY : Hid (¬ (g.ty = 4 ∧ k.ty = 4)) := fun h => hy h.1
     clear hy
     have tokF : True := trivial
     go_enter Tryz.func100, Tryz.ntmps100
     go_wp2_with (first | (go_at_call 72; have _t := tokF; refine (Field_any _ n c x l id _ HN.out (HS.out.up (al2 w _ _)) hl2).mono ?_; rintro e w5 ⟨rfl, hb5⟩; clear tokF _t; rw [HG.out, HO.out]; have HB5 := Li ((al2 w _ _).trans (hb5.mono (al2 w _ _).size)); have HR5 := Li ((CB.new1 w (.cells #[.slice A n c, .int .i64 x, .int .i64 kd, .int .i64 id, .int .i64 wi, .string nm, .string ot, .int .i64 ty, .int .i64 pa, .string sep] 111) 35 [.slice none 0 0, .int .i64 0]).up hb5); have HE5 := Li (((CB.new w 111 [.slice A n c, .int .i64 x, .int .i64 kd, .int .i64 id, .int .i64 wi, .string nm, .string ot, .int .i64 ty, .int .i64 pa, .string sep]).alloc (.cells #[.slice none 0 0, .int .i64 0] 35)).up hb5); have hz5 : w.heap.size + 1 < w5.heap.size := HR5.out.lt; have hy5 : w.heap.size < w5.heap.size := HE5.out.lt; have e5_0 := HE5.out.cell 0 rfl; have e5_1 := HE5.out.cell 1 rfl; have e5_2 := HE5.out.cell 2 rfl; have e5_3 := HE5.out.cell 3 rfl; have e5_4 := HE5.out.cell 4 rfl; have e5_5 := HE5.out.cell 5 rfl; have e5_6 := HE5.out.cell 6 rfl; have e5_7 := HE5.out.cell 7 rfl; have e5_8 := HE5.out.cell 8 rfl; have e5_9 := HE5.out.cell 9 rfl; clear hb5) | (go_at_call 72; refine (Field_any _ n c x l wi _ HN.out (HS.out.up (HB5.out.alloc (by omega) _)) hl2).mono ?_; rintro e w4 ⟨rfl, hb4⟩; rw [HG2.out, HO2.out]; have HB4 := Li (below_step (HB5.out.alloc (by omega) _) (by rw [asz]; omega) hb4); have HR4 := Li ((HR5.out.alloc _).up hb4); have HE4 := Li ((HE5.out.alloc _).up hb4); have HF4 := Li ((CB.new w5 58 [.int .i64 g.id, .string g.nm, .int .i64 g.ty, .int .i64 g.pa]).up hb4); have hx4 : w5.heap.size < w4.heap.size := lt_al hb4; have hz4 : w.heap.size + 1 < w4.heap.size := HR4.out.lt; have hy4 : w.heap.size < w4.heap.size := HE4.out.lt; have f4_0 := HF4.out.cell 0 rfl; have f4_2 := HF4.out.cell 2 rfl; have f4_3 := HF4.out.cell 3 rfl; have e4_0 := HE4.out.cell 0 rfl; have e4_1 := HE4.out.cell 1 rfl; have e4_2 := HE4.out.cell 2 rfl; have e4_3 := HE4.out.cell 3 rfl; have e4_4 := HE4.out.cell 4 rfl; have e4_5 := HE4.out.cell 5 rfl; have e4_6 := HE4.out.cell 6 rfl; have e4_7 := HE4.out.cell 7 rfl; have e4_8 := HE4.out.cell 8 rfl; have e4_9 := HE4.out.cell 9 rfl; clear hb4) | ((with_reducible show wpList _ _ _ _ _ _); refine wpList_store_cb rfl 35 (.tmp 2) (.tmp 51) rfl (w.heap.size + 1) [.slice none 0 0, .int .i64 0] rfl rfl 35 [.slice none 0 0, .int .i64 0] 2 (HR4.out.alloc _) sizeS rfl rfl (one_s _ _ _ _) ?_; intro w9 hc9 hg9 hz9))
     refine bodyPost_ret (res_cell Tryz.results100 rfl rfl hc9 Tryz.underlying35 sizeS rfl) rfl ⟨?_, below_grown (HB4.out.alloc (by omega) _) hg9 (by rw [asz]; omega) (by omega)⟩
     unfold joiE
     rw [if_pos (by exact ⟨HO.out, HO2.out, by rw [HG.out, HG2.out]; exact HI.out⟩), if_neg (by rw [HG.out, HG2.out]; exact HY.out)]
     exact res_zero _ _ _
end Go.Proofs.YtfeemipnalgjnaaGreat
namespace Go.Proofs.YtfeemipnalgjnaaGreat
open Go.RowKit

def editE (s : Sc) (c : Ch) : Sc × Int := if c.kind = 1 then addE s c else if c.kind = 2 then dropE s c else if c.kind = 3 then renE s c else if c.kind = 4 then widE s c else if c.kind = 5 then movE s c else if c.kind = 6 then splE s c else joiE s c
/-- the checks that come last -/
def lastE (r : Sc × Int) : Sc × Int :=
 if r.2 = 0 then (if plcsB r.1.fs then (if namGo [] r.1.fs then (if r.1.fs.length ≤ 64 ∧ r.1.next ≤ 1073741824 then (r.1, 0) else (Sc.zero, 2)) else (Sc.zero, 60)) else (Sc.zero, 63)) else (Sc.zero, r.2)
def applyP (s : Sc) (c : Ch) : Sc × Int := if 1 ≤ c.kind ∧ c.kind ≤ 7 then lastE (editE s c) else (Sc.zero, 1)

/-- a property of names that the fields and the change's names have, the edited fields have too -/
def AllN (P : ByteArray → Prop) (l : List Fd) : Prop := ∀ f ∈ l, P f.nm
section
variable {P : ByteArray → Prop} {l : List Fd} {s : Sc} {c : Ch}
theorem alln_nil : AllN P [] := fun _ h => by simp at h
theorem alln_snoc (h : AllN P l) {f : Fd} (hf : P f.nm) : AllN P (l ++ [f]) := fun g hg => by
 simp only [List.mem_append, List.mem_singleton] at hg
 rcases hg with hg | rfl
 ·
  exact h g hg
 ·
  exact hf
theorem alln_drop (h : AllN P l) (i : Int) : AllN P (dropF l i) := fun g hg => h g (List.mem_filter.1 hg).1
theorem alln_put (h : AllN P l) {g : Fd} (hg : P g.nm) : AllN P (putF l g) := fun f hf => by
 obtain ⟨x, hx, rfl⟩ := List.mem_map.1 hf
 split
 ·
  exact hg
 ·
  exact h x hx
theorem alln_fld (h : AllN P l) {i : Int} (hh : hasF l i = true) : P (fieldD l i).nm := by
 unfold hasF at hh
 unfold fieldD
 cases hf : field l i with
 | none => rw [hf] at hh; cases hh
 | some f => exact h f (field_mem hf).1
theorem alln_edit (h : AllN P s.fs) (h1 : P c.nm) (h2 : P c.ot) : AllN P (editE s c).1.fs := by
 unfold editE addE dropE renE widE movE splE joiE
 repeat' split
 all_goals (try exact alln_nil)
 ·
  exact alln_snoc h h1
 ·
  exact alln_drop h _
 ·
  exact alln_put h h1
 ·
  next hh _ => exact alln_put h (alln_fld h hh)
 ·
  next hh => exact alln_put h (alln_fld h hh)
 ·
  exact alln_snoc (alln_snoc (alln_drop h _) h1) h2
 ·
  exact alln_snoc (alln_drop (alln_drop h _) _) h1
end
end Go.Proofs.YtfeemipnalgjnaaGreat
namespace Go.Proofs.YtfeemipnalgjnaaGreat
open Go.RowKit

theorem one_c (a b c : Int) (s t : ByteArray) (d e : Int) (u : ByteArray) : ∀ z ∈ [Value.int .i64 a, .int .i64 b, .int .i64 c, .string s, .string t, .int .i64 d, .int .i64 e, .string u], z.oneCell' = true := by
 intro z hz
 simp only [List.mem_cons, List.not_mem_nil, or_false] at hz
 rcases hz with rfl | rfl | rfl | rfl | rfl | rfl | rfl | rfl <;> rfl
theorem last_ne {r : Sc × Int} {er : Int} (h : r.2 = er) (h0 : ¬ er = 0) : lastE r = (Sc.zero, er) := by
 unfold lastE
 rw [if_neg (by rw [h]; exact h0), h]
theorem last_pl {r : Sc × Int} (h : r.2 = 0) (hp : plcsB r.1.fs = false) : lastE r = (Sc.zero, 63) := by
 unfold lastE
 rw [if_pos h, hp]
 rfl
theorem last_nm {r : Sc × Int} (h : r.2 = 0) (hp : plcsB r.1.fs = true) (hn : namGo [] r.1.fs = false) : lastE r = (Sc.zero, 60) := by
 unfold lastE
 rw [if_pos h, hp, hn]
 rfl
theorem last_li {r : Sc × Int} (h : r.2 = 0) (hp : plcsB r.1.fs = true) (hn : namGo [] r.1.fs = true) (hl : ¬ (r.1.fs.length ≤ 64 ∧ r.1.next ≤ 1073741824)) : lastE r = (Sc.zero, 2) := by
 unfold lastE
 rw [if_pos h, hp, hn, if_pos rfl, if_pos rfl, if_neg hl]
theorem last_ok {r : Sc × Int} (h : r.2 = 0) (hp : plcsB r.1.fs = true) (hn : namGo [] r.1.fs = true) (hl : r.1.fs.length ≤ 64 ∧ r.1.next ≤ 1073741824) : lastE r = (r.1, 0) := by
 unfold lastE
 rw [if_pos h, hp, hn, if_pos rfl, if_pos rfl, if_pos hl]

set_option maxHeartbeats 2000000 in
set_option maxRecDepth 20000 in
theorem Apply_none (A : Option Addr) (n c : Nat) (x : Int) (l : List Fd) (kd : Int) (id wi : Int) (nm ot : ByteArray) (ty pa : Int) (sep : ByteArray) (w : World) (hn : n = l.length) (hs : Fds w w.heap.size A l) (_hl0 : n ≤ 1000) (_hx0 : 0 ≤ x) (_hx1 : x ≤ 2305843009213693952) (_hsep : sep.size ≤ 9223372036854775807) (hnl : AllN (fun s => s.size ≤ 9223372036854775807) l) (_hnm : nm.size ≤ 9223372036854775807) (_hot : ot.size ≤ 9223372036854775807) (hwf : (Lit.int .i64 kd).wf = true) (hk : ¬ (1 ≤ kd ∧ kd ≤ 7)) :
  Calls Tryz.prog 61 #[.agg #[.slice A n c, .int .i64 x], .agg #[.int .i64 kd, .int .i64 id, .int .i64 wi, .string nm, .string ot, .int .i64 ty, .int .i64 pa, .string sep]] w fun e w' => ResS w w' (Sc.zero, 1) e ∧ Below w.heap.size w w' := by
 have hkd : decide (1 ≤ kd ∧ kd ≤ 7) = false := decide_eq_false hk
 have HK := Li hk
 clear hk
 have HN := Li hn
 have HS := Li hs
 have HNL := Li hnl
 clear hn hs hnl
 have hq1 := ((CB.new w 35 [.slice A n c, .int .i64 x]).alloc (.cells #[.int .i64 kd, .int .i64 id, .int .i64 wi, .string nm, .string ot, .int .i64 ty, .int .i64 pa, .string sep] 24)).alloc (.cells #[.slice none 0 0, .int .i64 0] 35)
 have hq2 := (CB.new1 w (.cells #[.slice A n c, .int .i64 x] 35) 24 [.int .i64 kd, .int .i64 id, .int .i64 wi, .string nm, .string ot, .int .i64 ty, .int .i64 pa, .string sep]).alloc (.cells #[.slice none 0 0, .int .i64 0] 35)
 have hq3 := CB.new2 w (.cells #[.slice A n c, .int .i64 x] 35) (.cells #[.int .i64 kd, .int .i64 id, .int .i64 wi, .string nm, .string ot, .int .i64 ty, .int .i64 pa, .string sep] 24) 35 [.slice none 0 0, .int .i64 0]
 have hqb := al3 w (.cells #[.slice A n c, .int .i64 x] 35) (.cells #[.int .i64 kd, .int .i64 id, .int .i64 wi, .string nm, .string ot, .int .i64 ty, .int .i64 pa, .string sep] 24) (.cells #[.slice none 0 0, .int .i64 0] 35)
 go_enter Tryz.func61, Tryz.ntmps61
 go_wp2
 generalize (((w.alloc (.cells #[.slice A n c, .int .i64 x] 35)).alloc (.cells #[.int .i64 kd, .int .i64 id, .int .i64 wi, .string nm, .string ot, .int .i64 ty, .int .i64 pa, .string sep] 24)).alloc (.cells #[.slice none 0 0, .int .i64 0] 35)) = W0 at *
 have Q1 := Li hq1
 have Q2 := Li hq2
 have Q3 := Li hq3
 have QB := Li hqb
 have k0 := hq2.cell 0 rfl
 clear hq1 hq2 hq3 hqb
 go_region_held_law (fun w' => w'.cell? ⟨w.heap.size + 1, 0, none⟩ = some (.int .i64 kd))
  (first | exact (Q2.out.up hw7).cell 0 rfl | exact Q2.out.dr.cell 0 rfl | exact (Q2.out.up hw7).dr.cell 0 rfl | go_keep)
  (first | (go_at_call 80; refine (kinds_any _).mono ?_; rintro e w7 ⟨rfl, hm7, hb7⟩; have hw7 : Below W0.heap.size W0 w7 := (by first | exact hb7 | exact (bd _).trans (hb7.mono (bd _).size)); have hlook := kinds_look (show KM w7 W0.heap.size 7 kinD from hm7) kd (by exact hwf); rw [hkd] at hlook; clear hm7 hb7))
 go_wp2_with ((with_reducible show wpList _ _ _ _ _ _); refine wpList_store_cb rfl 35 (.tmp 4) (.tmp 19) rfl (w.heap.size + 1 + 1) [.slice none 0 0, .int .i64 0] rfl rfl 35 [.slice none 0 0, .int .i64 0] 2 (Q3.out.up hw7) sizeS rfl rfl (one_s _ _ _ _) ?_; intro w9 hc9 hg9 hz9)
 refine bodyPost_ret (res_cell Tryz.results61 rfl rfl hc9 Tryz.underlying35 sizeS rfl) rfl ⟨?_, below_grown (QB.out.trans (hw7.mono QB.out.size)) hg9 (Nat.le_trans QB.out.size hw7.size) (by omega)⟩
 exact res_zero _ _ _

theorem goes_in {f : FuncId} {fn : Func} {k : Code} (hf : Tryz.prog.funcs[f]? = some fn) (hn : (fn.name == "runtime.NumGoroutine") = false) (hk : fn.body = some k) (args : Array Value) (w : World) : (callFunc f args).run Tryz.prog w = .ok (.enter f args) w := by
 have hne : ¬ fn.name = "runtime.NumGoroutine" := by simpa using hn
 simp [callFunc, mark, hf, hk, hne]
set_option maxHeartbeats 4000000 in
set_option maxRecDepth 20000 in
theorem Apply_gen (A : Option Addr) (n c : Nat) (x : Int) (l : List Fd) (kd : Int) (F : Nat) (E : Sc → Ch → Sc × Int) (id wi : Int) (nm ot : ByteArray) (ty pa : Int) (sep : ByteArray) (w : World) (hn : n = l.length) (hs : Fds w w.heap.size A l) (hF : kindV kd = .func (.func F) #[] #[]) (hk1 : decide (1 ≤ kd ∧ kd ≤ 7) = true) (hwf : (Lit.int .i64 kd).wf = true) (hEn : ∀ args w', (callFunc F args).run Tryz.prog w' = .ok (.enter F args) w') (hC : ∀ w7 : World, Fds w7 w7.heap.size A l → Calls Tryz.prog F #[.agg #[.slice A n c, .int .i64 x, .int .i64 kd, .int .i64 id, .int .i64 wi, .string nm, .string ot, .int .i64 ty, .int .i64 pa, .string sep]] w7 fun e w' => ResS w7 w' (E ⟨l, x⟩ ⟨kd, id, wi, nm, ot, ty, pa, sep⟩) e ∧ Below w7.heap.size w7 w') (hAN : AllN (fun s => s.size ≤ 9223372036854775807) (E ⟨l, x⟩ ⟨kd, id, wi, nm, ot, ty, pa, sep⟩).1.fs) :
  Calls Tryz.prog 61 #[.agg #[.slice A n c, .int .i64 x], .agg #[.int .i64 kd, .int .i64 id, .int .i64 wi, .string nm, .string ot, .int .i64 ty, .int .i64 pa, .string sep]] w fun e w' => ResS w w' (lastE (E ⟨l, x⟩ ⟨kd, id, wi, nm, ot, ty, pa, sep⟩)) e ∧ Below w.heap.size w w' := by
 have HN := Li hn
 have HS := Li hs
 have HC := Li hC
 have HAN0 := Li hAN
 clear hn hs hC hAN
 have hq1 := ((CB.new w 35 [.slice A n c, .int .i64 x]).alloc (.cells #[.int .i64 kd, .int .i64 id, .int .i64 wi, .string nm, .string ot, .int .i64 ty, .int .i64 pa, .string sep] 24)).alloc (.cells #[.slice none 0 0, .int .i64 0] 35)
 have hq2 := (CB.new1 w (.cells #[.slice A n c, .int .i64 x] 35) 24 [.int .i64 kd, .int .i64 id, .int .i64 wi, .string nm, .string ot, .int .i64 ty, .int .i64 pa, .string sep]).alloc (.cells #[.slice none 0 0, .int .i64 0] 35)
 have hq3 := CB.new2 w (.cells #[.slice A n c, .int .i64 x] 35) (.cells #[.int .i64 kd, .int .i64 id, .int .i64 wi, .string nm, .string ot, .int .i64 ty, .int .i64 pa, .string sep] 24) 35 [.slice none 0 0, .int .i64 0]
 have hqb := al3 w (.cells #[.slice A n c, .int .i64 x] 35) (.cells #[.int .i64 kd, .int .i64 id, .int .i64 wi, .string nm, .string ot, .int .i64 ty, .int .i64 pa, .string sep] 24) (.cells #[.slice none 0 0, .int .i64 0] 35)
 go_enter Tryz.func61, Tryz.ntmps61
 go_wp2
 generalize (((w.alloc (.cells #[.slice A n c, .int .i64 x] 35)).alloc (.cells #[.int .i64 kd, .int .i64 id, .int .i64 wi, .string nm, .string ot, .int .i64 ty, .int .i64 pa, .string sep] 24)).alloc (.cells #[.slice none 0 0, .int .i64 0] 35)) = W0 at *
 have Q1 := Li hq1
 have Q2 := Li hq2
 have Q3 := Li hq3
 have QB := Li hqb
 have k0 := hq2.cell 0 rfl
 clear hq1 hq2 hq3 hqb
 go_region_held_law (fun w' => w'.cell? ⟨w.heap.size + 1, 0, none⟩ = some (.int .i64 kd))
  (first | exact (Q2.out.up hw7).cell 0 rfl | exact Q2.out.dr.cell 0 rfl | exact (Q2.out.up hw7).dr.cell 0 rfl | go_keep)
  (first | (go_at_call 80; refine (kinds_any _).mono ?_; rintro e w7 ⟨rfl, hm7, hb7⟩; have hw7 : Below W0.heap.size W0 w7 := (by first | exact hb7 | exact (bd _).trans (hb7.mono (bd _).size)); have hlook := kinds_look (show KM w7 W0.heap.size 7 kinD from hm7) kd hwf; rw [hF, hk1] at hlook; clear hm7 hb7))
 have he := HC.out w7 (HS.out.up (QB.out.trans (hw7.mono QB.out.size)))
 have han := HAN0.out
 obtain ⟨⟨⟨fs, nx⟩, er⟩, hr⟩ : ∃ r, E ⟨l, x⟩ ⟨kd, id, wi, nm, ot, ty, pa, sep⟩ = r := ⟨_, rfl⟩
 rw [hr] at he han
 have HE := Li he
 have HAN := Li han
 have HRQ := Li hr
 clear he han hr
 have HQ1 := Li (Q1.out.up hw7)
 have HQ2 := Li (Q2.out.up hw7)
 have HQ3 := Li (Q3.out.up hw7)
 have HQB := Li (QB.out.trans (hw7.mono QB.out.size))
 have s0 := HQ1.out.c2
 have t0 := HQ2.out.c8
 clear hw7 k0 hlook Q1 Q2 Q3 QB hF hk1 hwf
 by_cases h0 : er = 0
 ·
  subst h0
  cases hp : plcsB fs with
  | false =>
   have HP := Li hp
   clear hp
   go_wp2_with (first | ((with_reducible show Calls _ F _ _ _); refine HE.out.mono ?_; rintro e w6 ⟨⟨A6, m6, c6, rfl, hm6, ho6⟩, hb6⟩; dsimp only at hm6 ho6; have HO6 := Li ho6; have HM6 := Li hm6; have HB6 := Li (below_step HQB.out HQB.out.size hb6); have HR6 := Li (HQ3.out.up hb6); have hz6 : w.heap.size + 1 + 1 < w6.heap.size := HR6.out.lt; clear ho6 hm6 hb6 HE) | (go_at_call 81; refine (placed_any A6 m6 c6 fs _ HM6.out ((show Fds w6 w6.heap.size A6 fs from HO6.out.row.2.2.2).up (al1 _ _)) (Nat.le_trans HO6.out.row.2.1 HO6.out.row.2.2.1 |> fun h => by rw [HM6.out]; simpa using h)).mono ?_; rintro e w8 ⟨rfl, hb8⟩; rw [HP.out]; have HB8 := Li (below_step (HB6.out.alloc (by omega) _) (by rw [asz]; omega) hb8); have HR8 := Li ((HR6.out.alloc _).up hb8); have HC8 := Li ((CB.new w6 35 [.slice A6 m6 c6, .int .i64 nx]).up hb8); have c8_0 := HC8.out.c2; have hz8 : w.heap.size + 1 + 1 < w8.heap.size := HR8.out.lt; have HW8 := Li hb8; have HY8 := Li ((al1 w6 _).trans (hb8.mono (al1 w6 _).size)); clear hb8) | ((with_reducible show wpList _ _ _ _ _ _); refine wpList_store_cb rfl 35 (.tmp 4) (.tmp 38) rfl (w.heap.size + 1 + 1) [.slice none 0 0, .int .i64 0] rfl rfl 35 [.slice none 0 0, .int .i64 0] 2 HR8.out sizeS rfl rfl (one_s _ _ _ _) ?_; intro w9 hc9 hg9 hz9))
   refine bodyPost_ret (res_cell Tryz.results61 rfl rfl hc9 Tryz.underlying35 sizeS rfl) rfl ⟨?_, below_grown HB8.out hg9 (by omega) (by omega)⟩
   rw [HRQ.out, last_pl rfl HP.out]
   exact res_zero _ _ _
  | true =>
   have HP := Li hp
   clear hp
   cases hnb : namGo [] fs with
   | false =>
    have HNB := Li hnb
    clear hnb
    go_wp2_with (first | ((with_reducible show Calls _ F _ _ _); refine HE.out.mono ?_; rintro e w6 ⟨⟨A6, m6, c6, rfl, hm6, ho6⟩, hb6⟩; dsimp only at hm6 ho6; have HO6 := Li ho6; have HM6 := Li hm6; have HB6 := Li (below_step HQB.out HQB.out.size hb6); have HR6 := Li (HQ3.out.up hb6); have hz6 : w.heap.size + 1 + 1 < w6.heap.size := HR6.out.lt; clear ho6 hm6 hb6 HE) | (go_at_call 81; refine (placed_any A6 m6 c6 fs _ HM6.out ((show Fds w6 w6.heap.size A6 fs from HO6.out.row.2.2.2).up (al1 _ _)) (Nat.le_trans HO6.out.row.2.1 HO6.out.row.2.2.1 |> fun h => by rw [HM6.out]; simpa using h)).mono ?_; rintro e w8 ⟨rfl, hb8⟩; rw [HP.out]; have HB8 := Li (below_step (HB6.out.alloc (by omega) _) (by rw [asz]; omega) hb8); have HR8 := Li ((HR6.out.alloc _).up hb8); have HC8 := Li ((CB.new w6 35 [.slice A6 m6 c6, .int .i64 nx]).up hb8); have c8_0 := HC8.out.c2; have hz8 : w.heap.size + 1 + 1 < w8.heap.size := HR8.out.lt; have HW8 := Li hb8; have HY8 := Li ((al1 w6 _).trans (hb8.mono (al1 w6 _).size)); clear hb8) | (go_at_call 82; refine (named_any A6 m6 c6 fs _ HM6.out (by rw [HM6.out]; simpa using HO6.out.row.2.1) (((show Fds w6 w6.heap.size A6 fs from HO6.out.row.2.2.2).up (al1 _ _)).up HW8.out) HO6.out.row.2.2.1 (fun f hf => HAN.out f hf)).mono ?_; rintro e w10 ⟨rfl, hb10⟩; rw [HNB.out]; have HB10 := Li (below_step HB8.out HB8.out.size hb10); have HR10 := Li (HR8.out.up hb10); have HC10 := Li (HC8.out.up hb10); have c10_0 := HC10.out.c2; have hz10 : w.heap.size + 1 + 1 < w10.heap.size := HR10.out.lt; have HY10 := Li (below_step HY8.out HY8.out.size hb10); clear hb10) | ((with_reducible show wpList _ _ _ _ _ _); refine wpList_store_cb rfl 35 (.tmp 4) (.tmp 44) rfl (w.heap.size + 1 + 1) [.slice none 0 0, .int .i64 0] rfl rfl 35 [.slice none 0 0, .int .i64 0] 2 HR10.out sizeS rfl rfl (one_s _ _ _ _) ?_; intro w9 hc9 hg9 hz9))
    refine bodyPost_ret (res_cell Tryz.results61 rfl rfl hc9 Tryz.underlying35 sizeS rfl) rfl ⟨?_, below_grown HB10.out hg9 (by omega) (by omega)⟩
    rw [HRQ.out, last_nm rfl HP.out HNB.out]
    exact res_zero _ _ _
   | true =>
    have HNB := Li hnb
    clear hnb
    by_cases hli : fs.length ≤ 64 ∧ nx ≤ 1073741824
    ·
     have HLI := Li hli
     clear hli
     have HL : ∀ m6 : Nat, Hid (m6 = fs.length) → Hid (decide (m6 ≤ 64 ∧ nx ≤ 1073741824) = true) := fun m6 h => by show _ = _; rw [h.out]; exact decide_eq_true HLI.out
     go_wp2_with (first | ((with_reducible show Calls _ F _ _ _); refine HE.out.mono ?_; rintro e w6 ⟨⟨A6, m6, c6, rfl, hm6, ho6⟩, hb6⟩; dsimp only at hm6 ho6; have HO6 := Li ho6; have HM6 := Li hm6; have HB6 := Li (below_step HQB.out HQB.out.size hb6); have HR6 := Li (HQ3.out.up hb6); have hz6 : w.heap.size + 1 + 1 < w6.heap.size := HR6.out.lt; clear ho6 hm6 hb6 HE) | (go_at_call 81; refine (placed_any A6 m6 c6 fs _ HM6.out ((show Fds w6 w6.heap.size A6 fs from HO6.out.row.2.2.2).up (al1 _ _)) (Nat.le_trans HO6.out.row.2.1 HO6.out.row.2.2.1 |> fun h => by rw [HM6.out]; simpa using h)).mono ?_; rintro e w8 ⟨rfl, hb8⟩; rw [HP.out]; have HB8 := Li (below_step (HB6.out.alloc (by omega) _) (by rw [asz]; omega) hb8); have HR8 := Li ((HR6.out.alloc _).up hb8); have HC8 := Li ((CB.new w6 35 [.slice A6 m6 c6, .int .i64 nx]).up hb8); have c8_0 := HC8.out.c2; have hz8 : w.heap.size + 1 + 1 < w8.heap.size := HR8.out.lt; have HW8 := Li hb8; have HY8 := Li ((al1 w6 _).trans (hb8.mono (al1 w6 _).size)); clear hb8) | (go_at_call 82; refine (named_any A6 m6 c6 fs _ HM6.out (by rw [HM6.out]; simpa using HO6.out.row.2.1) (((show Fds w6 w6.heap.size A6 fs from HO6.out.row.2.2.2).up (al1 _ _)).up HW8.out) HO6.out.row.2.2.1 (fun f hf => HAN.out f hf)).mono ?_; rintro e w10 ⟨rfl, hb10⟩; rw [HNB.out]; have HB10 := Li (below_step HB8.out HB8.out.size hb10); have HR10 := Li (HR8.out.up hb10); have HC10 := Li (HC8.out.up hb10); have c10_0 := HC10.out.c2; have hz10 : w.heap.size + 1 + 1 < w10.heap.size := HR10.out.lt; have HY10 := Li (below_step HY8.out HY8.out.size hb10); clear hb10) | (go_at_call 83; refine (limited_any A6 m6 c6 nx true _ (HL m6 HM6).out (Nat.le_trans HO6.out.row.2.1 HO6.out.row.2.2.1 |> fun h => by rw [HM6.out]; simpa using h)).mono ?_; rintro e w11 ⟨rfl, hb11⟩; have HB11 := Li (below_step HB10.out HB10.out.size hb11); have HR11 := Li (HR10.out.up hb11); have HC11 := Li (HC10.out.up hb11); have c11_0 := HC11.out.c2; have hz11 : w.heap.size + 1 + 1 < w11.heap.size := HR11.out.lt; have HW6 := Li (below_step HY10.out HY10.out.size hb11); clear hb11) | ((with_reducible show wpList _ _ _ _ _ _); refine wpList_store_cb rfl 35 (.tmp 4) (.tmp 50) rfl (w.heap.size + 1 + 1) [.slice A6 m6 c6, .int .i64 nx] rfl rfl 35 [.slice none 0 0, .int .i64 0] 2 HR11.out sizeS rfl rfl (one_s _ _ _ _) ?_; intro w9 hc9 hg9 hz9))
     refine bodyPost_ret (res_cell Tryz.results61 rfl rfl hc9 Tryz.underlying35 sizeS rfl) rfl ⟨?_, below_grown HB11.out hg9 (by omega) (by omega)⟩
     rw [HRQ.out, last_ok rfl HP.out HNB.out HLI.out]
     exact ⟨A6, m6, c6, rfl, HM6.out, ((HO6.out.low HQB.out.size).up HW6.out).kept hg9 (.inr (Own.ne ((HO6.out.low HQB.out.size).up HW6.out) HR11.out (by decide)).symm)⟩
    ·
     have HLI := Li hli
     clear hli
     have HL : ∀ m6 : Nat, Hid (m6 = fs.length) → Hid (decide (m6 ≤ 64 ∧ nx ≤ 1073741824) = false) := fun m6 h => by show _ = _; rw [h.out]; exact decide_eq_false HLI.out
     go_wp2_with (first | ((with_reducible show Calls _ F _ _ _); refine HE.out.mono ?_; rintro e w6 ⟨⟨A6, m6, c6, rfl, hm6, ho6⟩, hb6⟩; dsimp only at hm6 ho6; have HO6 := Li ho6; have HM6 := Li hm6; have HB6 := Li (below_step HQB.out HQB.out.size hb6); have HR6 := Li (HQ3.out.up hb6); have hz6 : w.heap.size + 1 + 1 < w6.heap.size := HR6.out.lt; clear ho6 hm6 hb6 HE) | (go_at_call 81; refine (placed_any A6 m6 c6 fs _ HM6.out ((show Fds w6 w6.heap.size A6 fs from HO6.out.row.2.2.2).up (al1 _ _)) (Nat.le_trans HO6.out.row.2.1 HO6.out.row.2.2.1 |> fun h => by rw [HM6.out]; simpa using h)).mono ?_; rintro e w8 ⟨rfl, hb8⟩; rw [HP.out]; have HB8 := Li (below_step (HB6.out.alloc (by omega) _) (by rw [asz]; omega) hb8); have HR8 := Li ((HR6.out.alloc _).up hb8); have HC8 := Li ((CB.new w6 35 [.slice A6 m6 c6, .int .i64 nx]).up hb8); have c8_0 := HC8.out.c2; have hz8 : w.heap.size + 1 + 1 < w8.heap.size := HR8.out.lt; have HW8 := Li hb8; have HY8 := Li ((al1 w6 _).trans (hb8.mono (al1 w6 _).size)); clear hb8) | (go_at_call 82; refine (named_any A6 m6 c6 fs _ HM6.out (by rw [HM6.out]; simpa using HO6.out.row.2.1) (((show Fds w6 w6.heap.size A6 fs from HO6.out.row.2.2.2).up (al1 _ _)).up HW8.out) HO6.out.row.2.2.1 (fun f hf => HAN.out f hf)).mono ?_; rintro e w10 ⟨rfl, hb10⟩; rw [HNB.out]; have HB10 := Li (below_step HB8.out HB8.out.size hb10); have HR10 := Li (HR8.out.up hb10); have HC10 := Li (HC8.out.up hb10); have c10_0 := HC10.out.c2; have hz10 : w.heap.size + 1 + 1 < w10.heap.size := HR10.out.lt; have HY10 := Li (below_step HY8.out HY8.out.size hb10); clear hb10) | (go_at_call 83; refine (limited_any A6 m6 c6 nx false _ (HL m6 HM6).out (Nat.le_trans HO6.out.row.2.1 HO6.out.row.2.2.1 |> fun h => by rw [HM6.out]; simpa using h)).mono ?_; rintro e w11 ⟨rfl, hb11⟩; have HB11 := Li (below_step HB10.out HB10.out.size hb11); have HR11 := Li (HR10.out.up hb11); have HC11 := Li (HC10.out.up hb11); have c11_0 := HC11.out.c2; have hz11 : w.heap.size + 1 + 1 < w11.heap.size := HR11.out.lt; have HW6 := Li (below_step HY10.out HY10.out.size hb11); clear hb11) | ((with_reducible show wpList _ _ _ _ _ _); refine wpList_store_cb rfl 35 (.tmp 4) (.tmp 49) rfl (w.heap.size + 1 + 1) [.slice none 0 0, .int .i64 0] rfl rfl 35 [.slice none 0 0, .int .i64 0] 2 HR11.out sizeS rfl rfl (one_s _ _ _ _) ?_; intro w9 hc9 hg9 hz9))
     refine bodyPost_ret (res_cell Tryz.results61 rfl rfl hc9 Tryz.underlying35 sizeS rfl) rfl ⟨?_, below_grown HB11.out hg9 (by omega) (by omega)⟩
     rw [HRQ.out, last_li rfl HP.out HNB.out HLI.out]
     exact res_zero _ _ _
 ·
  have e1 : (er != 0) = true := by simpa using h0
  have H0 := Li h0
  clear h0
  go_wp2_with (first | ((with_reducible show Calls _ F _ _ _); refine HE.out.mono ?_; rintro e w6 ⟨⟨A6, m6, c6, rfl, hm6, ho6⟩, hb6⟩; dsimp only at hm6 ho6; have HO6 := Li ho6; have HM6 := Li hm6; have HB6 := Li (below_step HQB.out HQB.out.size hb6); have HR6 := Li (HQ3.out.up hb6); have hz6 : w.heap.size + 1 + 1 < w6.heap.size := HR6.out.lt; clear ho6 hm6 hb6 HE) | ((with_reducible show wpList _ _ _ _ _ _); refine wpList_store_cb rfl 35 (.tmp 4) (.tmp 31) rfl (w.heap.size + 1 + 1) [.slice none 0 0, .int .i64 0] rfl rfl 35 [.slice none 0 0, .int .i64 0] 2 (HR6.out.alloc _) sizeS rfl rfl (one_s _ _ _ _) ?_; intro w9 hc9 hg9 hz9))
  refine bodyPost_ret (res_cell Tryz.results61 rfl rfl hc9 Tryz.underlying35 sizeS rfl) rfl ⟨?_, below_grown (HB6.out.alloc (by omega) _) hg9 (by rw [asz]; omega) (by omega)⟩
  rw [HRQ.out, last_ne rfl H0.out]
  exact res_zero _ _ _

theorem Apply_add (A : Option Addr) (n c : Nat) (x : Int) (l : List Fd)  (id wi : Int) (nm ot : ByteArray) (ty pa : Int) (sep : ByteArray) (w : World) (hn : n = l.length) (hs : Fds w w.heap.size A l) (hl0 : n ≤ 1000) (hx0 : 0 ≤ x) (hx1 : x ≤ 2305843009213693952) (hsep : sep.size ≤ 9223372036854775807) (hnl : AllN (fun s => s.size ≤ 9223372036854775807) l) (hnm : nm.size ≤ 9223372036854775807) (hot : ot.size ≤ 9223372036854775807) :
  Calls Tryz.prog 61 #[.agg #[.slice A n c, .int .i64 x], .agg #[.int .i64 1, .int .i64 id, .int .i64 wi, .string nm, .string ot, .int .i64 ty, .int .i64 pa, .string sep]] w fun e w' => ResS w w' (lastE (addE ⟨l, x⟩ ⟨1, id, wi, nm, ot, ty, pa, sep⟩)) e ∧ Below w.heap.size w w' :=
 Apply_gen A n c x l 1 94 addE id wi nm ot ty pa sep w hn hs rfl rfl (by decide) (goes_in Tryz.func94 (by kernel_rfl) rfl) (fun w7 h => add_any A n c x l 1 id wi nm ot ty pa sep w7 hn h hl0 hx0 hx1 hsep) (alln_edit (s := ⟨l, x⟩) (c := ⟨1, id, wi, nm, ot, ty, pa, sep⟩) hnl hnm hot)
theorem Apply_drop (A : Option Addr) (n c : Nat) (x : Int) (l : List Fd)  (id wi : Int) (nm ot : ByteArray) (ty pa : Int) (sep : ByteArray) (w : World) (hn : n = l.length) (hs : Fds w w.heap.size A l) (hl0 : n ≤ 1000) (hx0 : 0 ≤ x) (hx1 : x ≤ 2305843009213693952) (hsep : sep.size ≤ 9223372036854775807) (hnl : AllN (fun s => s.size ≤ 9223372036854775807) l) (hnm : nm.size ≤ 9223372036854775807) (hot : ot.size ≤ 9223372036854775807) :
  Calls Tryz.prog 61 #[.agg #[.slice A n c, .int .i64 x], .agg #[.int .i64 2, .int .i64 id, .int .i64 wi, .string nm, .string ot, .int .i64 ty, .int .i64 pa, .string sep]] w fun e w' => ResS w w' (lastE (dropE ⟨l, x⟩ ⟨2, id, wi, nm, ot, ty, pa, sep⟩)) e ∧ Below w.heap.size w w' :=
 Apply_gen A n c x l 2 95 dropE id wi nm ot ty pa sep w hn hs rfl rfl (by decide) (goes_in Tryz.func95 (by kernel_rfl) rfl) (fun w7 h => drop_any A n c x l 2 id wi nm ot ty pa sep w7 hn h hl0 hx0 hx1 hsep) (alln_edit (s := ⟨l, x⟩) (c := ⟨2, id, wi, nm, ot, ty, pa, sep⟩) hnl hnm hot)
theorem Apply_ren (A : Option Addr) (n c : Nat) (x : Int) (l : List Fd)  (id wi : Int) (nm ot : ByteArray) (ty pa : Int) (sep : ByteArray) (w : World) (hn : n = l.length) (hs : Fds w w.heap.size A l) (hl0 : n ≤ 1000) (hx0 : 0 ≤ x) (hx1 : x ≤ 2305843009213693952) (hsep : sep.size ≤ 9223372036854775807) (hnl : AllN (fun s => s.size ≤ 9223372036854775807) l) (hnm : nm.size ≤ 9223372036854775807) (hot : ot.size ≤ 9223372036854775807) :
  Calls Tryz.prog 61 #[.agg #[.slice A n c, .int .i64 x], .agg #[.int .i64 3, .int .i64 id, .int .i64 wi, .string nm, .string ot, .int .i64 ty, .int .i64 pa, .string sep]] w fun e w' => ResS w w' (lastE (renE ⟨l, x⟩ ⟨3, id, wi, nm, ot, ty, pa, sep⟩)) e ∧ Below w.heap.size w w' :=
 Apply_gen A n c x l 3 96 renE id wi nm ot ty pa sep w hn hs rfl rfl (by decide) (goes_in Tryz.func96 (by kernel_rfl) rfl) (fun w7 h => ren_any A n c x l 3 id wi nm ot ty pa sep w7 hn h hl0 hx0 hx1 hsep) (alln_edit (s := ⟨l, x⟩) (c := ⟨3, id, wi, nm, ot, ty, pa, sep⟩) hnl hnm hot)
theorem Apply_wid (A : Option Addr) (n c : Nat) (x : Int) (l : List Fd)  (id wi : Int) (nm ot : ByteArray) (ty pa : Int) (sep : ByteArray) (w : World) (hn : n = l.length) (hs : Fds w w.heap.size A l) (hl0 : n ≤ 1000) (hx0 : 0 ≤ x) (hx1 : x ≤ 2305843009213693952) (hsep : sep.size ≤ 9223372036854775807) (hnl : AllN (fun s => s.size ≤ 9223372036854775807) l) (hnm : nm.size ≤ 9223372036854775807) (hot : ot.size ≤ 9223372036854775807) :
  Calls Tryz.prog 61 #[.agg #[.slice A n c, .int .i64 x], .agg #[.int .i64 4, .int .i64 id, .int .i64 wi, .string nm, .string ot, .int .i64 ty, .int .i64 pa, .string sep]] w fun e w' => ResS w w' (lastE (widE ⟨l, x⟩ ⟨4, id, wi, nm, ot, ty, pa, sep⟩)) e ∧ Below w.heap.size w w' :=
 Apply_gen A n c x l 4 97 widE id wi nm ot ty pa sep w hn hs rfl rfl (by decide) (goes_in Tryz.func97 (by kernel_rfl) rfl) (fun w7 h => wid_any A n c x l 4 id wi nm ot ty pa sep w7 hn h hl0 hx0 hx1 hsep) (alln_edit (s := ⟨l, x⟩) (c := ⟨4, id, wi, nm, ot, ty, pa, sep⟩) hnl hnm hot)
theorem Apply_mov (A : Option Addr) (n c : Nat) (x : Int) (l : List Fd)  (id wi : Int) (nm ot : ByteArray) (ty pa : Int) (sep : ByteArray) (w : World) (hn : n = l.length) (hs : Fds w w.heap.size A l) (hl0 : n ≤ 1000) (hx0 : 0 ≤ x) (hx1 : x ≤ 2305843009213693952) (hsep : sep.size ≤ 9223372036854775807) (hnl : AllN (fun s => s.size ≤ 9223372036854775807) l) (hnm : nm.size ≤ 9223372036854775807) (hot : ot.size ≤ 9223372036854775807) :
  Calls Tryz.prog 61 #[.agg #[.slice A n c, .int .i64 x], .agg #[.int .i64 5, .int .i64 id, .int .i64 wi, .string nm, .string ot, .int .i64 ty, .int .i64 pa, .string sep]] w fun e w' => ResS w w' (lastE (movE ⟨l, x⟩ ⟨5, id, wi, nm, ot, ty, pa, sep⟩)) e ∧ Below w.heap.size w w' :=
 Apply_gen A n c x l 5 98 movE id wi nm ot ty pa sep w hn hs rfl rfl (by decide) (goes_in Tryz.func98 (by kernel_rfl) rfl) (fun w7 h => mov_any A n c x l 5 id wi nm ot ty pa sep w7 hn h hl0 hx0 hx1 hsep) (alln_edit (s := ⟨l, x⟩) (c := ⟨5, id, wi, nm, ot, ty, pa, sep⟩) hnl hnm hot)
theorem Apply_spl (A : Option Addr) (n c : Nat) (x : Int) (l : List Fd)  (id wi : Int) (nm ot : ByteArray) (ty pa : Int) (sep : ByteArray) (w : World) (hn : n = l.length) (hs : Fds w w.heap.size A l) (hl0 : n ≤ 1000) (hx0 : 0 ≤ x) (hx1 : x ≤ 2305843009213693952) (hsep : sep.size ≤ 9223372036854775807) (hnl : AllN (fun s => s.size ≤ 9223372036854775807) l) (hnm : nm.size ≤ 9223372036854775807) (hot : ot.size ≤ 9223372036854775807) :
  Calls Tryz.prog 61 #[.agg #[.slice A n c, .int .i64 x], .agg #[.int .i64 6, .int .i64 id, .int .i64 wi, .string nm, .string ot, .int .i64 ty, .int .i64 pa, .string sep]] w fun e w' => ResS w w' (lastE (splE ⟨l, x⟩ ⟨6, id, wi, nm, ot, ty, pa, sep⟩)) e ∧ Below w.heap.size w w' :=
 Apply_gen A n c x l 6 99 splE id wi nm ot ty pa sep w hn hs rfl rfl (by decide) (goes_in Tryz.func99 (by kernel_rfl) rfl) (fun w7 h => spl_any A n c x l 6 id wi nm ot ty pa sep w7 hn h hl0 hx0 hx1 hsep) (alln_edit (s := ⟨l, x⟩) (c := ⟨6, id, wi, nm, ot, ty, pa, sep⟩) hnl hnm hot)
theorem Apply_joi (A : Option Addr) (n c : Nat) (x : Int) (l : List Fd)  (id wi : Int) (nm ot : ByteArray) (ty pa : Int) (sep : ByteArray) (w : World) (hn : n = l.length) (hs : Fds w w.heap.size A l) (hl0 : n ≤ 1000) (hx0 : 0 ≤ x) (hx1 : x ≤ 2305843009213693952) (hsep : sep.size ≤ 9223372036854775807) (hnl : AllN (fun s => s.size ≤ 9223372036854775807) l) (hnm : nm.size ≤ 9223372036854775807) (hot : ot.size ≤ 9223372036854775807) :
  Calls Tryz.prog 61 #[.agg #[.slice A n c, .int .i64 x], .agg #[.int .i64 7, .int .i64 id, .int .i64 wi, .string nm, .string ot, .int .i64 ty, .int .i64 pa, .string sep]] w fun e w' => ResS w w' (lastE (joiE ⟨l, x⟩ ⟨7, id, wi, nm, ot, ty, pa, sep⟩)) e ∧ Below w.heap.size w w' :=
 Apply_gen A n c x l 7 100 joiE id wi nm ot ty pa sep w hn hs rfl rfl (by decide) (goes_in Tryz.func100 (by kernel_rfl) rfl) (fun w7 h => joi_any A n c x l 7 id wi nm ot ty pa sep w7 hn h hl0 hx0 hx1 hsep) (alln_edit (s := ⟨l, x⟩) (c := ⟨7, id, wi, nm, ot, ty, pa, sep⟩) hnl hnm hot)
end Go.Proofs.YtfeemipnalgjnaaGreat
namespace Go.Proofs.YtfeemipnalgjnaaGreat
open Go.RowKit

theorem Apply_any (A : Option Addr) (n c : Nat) (x : Int) (l : List Fd) (kd id wi : Int) (nm ot : ByteArray) (ty pa : Int) (sep : ByteArray) (w : World) (hn : n = l.length) (hs : Fds w w.heap.size A l) (hl0 : n ≤ 1000) (hx0 : 0 ≤ x) (hx1 : x ≤ 2305843009213693952) (hsep : sep.size ≤ 9223372036854775807) (hnl : AllN (fun s => s.size ≤ 9223372036854775807) l) (hnm : nm.size ≤ 9223372036854775807) (hot : ot.size ≤ 9223372036854775807) (hwf : (Lit.int .i64 kd).wf = true) :
  Calls Tryz.prog 61 #[.agg #[.slice A n c, .int .i64 x], .agg #[.int .i64 kd, .int .i64 id, .int .i64 wi, .string nm, .string ot, .int .i64 ty, .int .i64 pa, .string sep]] w fun e w' => ResS w w' (applyP ⟨l, x⟩ ⟨kd, id, wi, nm, ot, ty, pa, sep⟩) e ∧ Below w.heap.size w w' := by
 by_cases hk : 1 ≤ kd ∧ kd ≤ 7
 ·
  have h : kd = 1 ∨ kd = 2 ∨ kd = 3 ∨ kd = 4 ∨ kd = 5 ∨ kd = 6 ∨ kd = 7 := by omega
  rcases h with rfl | rfl | rfl | rfl | rfl | rfl | rfl
  ·
   exact Apply_add A n c x l id wi nm ot ty pa sep w hn hs hl0 hx0 hx1 hsep hnl hnm hot
  ·
   exact Apply_drop A n c x l id wi nm ot ty pa sep w hn hs hl0 hx0 hx1 hsep hnl hnm hot
  ·
   exact Apply_ren A n c x l id wi nm ot ty pa sep w hn hs hl0 hx0 hx1 hsep hnl hnm hot
  ·
   exact Apply_wid A n c x l id wi nm ot ty pa sep w hn hs hl0 hx0 hx1 hsep hnl hnm hot
  ·
   exact Apply_mov A n c x l id wi nm ot ty pa sep w hn hs hl0 hx0 hx1 hsep hnl hnm hot
  ·
   exact Apply_spl A n c x l id wi nm ot ty pa sep w hn hs hl0 hx0 hx1 hsep hnl hnm hot
  ·
   exact Apply_joi A n c x l id wi nm ot ty pa sep w hn hs hl0 hx0 hx1 hsep hnl hnm hot
 ·
  have h := Apply_none A n c x l kd id wi nm ot ty pa sep w hn hs hl0 hx0 hx1 hsep hnl hnm hot hwf hk
  have e : applyP ⟨l, x⟩ ⟨kd, id, wi, nm, ot, ty, pa, sep⟩ = (Sc.zero, 1) := by
   unfold applyP
   exact if_neg hk
  rw [e]
  exact h
end Go.Proofs.YtfeemipnalgjnaaGreat
namespace Go.Proofs.YtfeemipnalgjnaaGreat
open Go.RowKit

def aft : Sc → Int → List Ch → Sc × Int × Int
 | s, i, [] => (s, i, 0)
 | s, i, c :: r => if (applyP s c).2 = 0 then aft (applyP s c).1 (i + 1) r else (s, i, (applyP s c).2)
def Sc.new : Sc := ⟨[], 1⟩
def aftP (l : List Ch) : Sc × Int × Int := aft Sc.new 0 l
/-- what is kept from schema to schema -/
def Inv (s : Sc) : Prop := s.fs.length ≤ 64 ∧ 0 ≤ s.next ∧ s.next ≤ 1073741824 ∧ AllN (fun b => b.size ≤ 9223372036854775807) s.fs
/-- what a change of a program is like -/
def CW (c : Ch) : Prop := (Lit.int .i64 c.kind).wf = true ∧ c.nm.size ≤ 9223372036854775807 ∧ c.ot.size ≤ 9223372036854775807 ∧ c.sep.size ≤ 9223372036854775807
theorem edit_next {s : Sc} {c : Ch} (h : 0 ≤ s.next) : 0 ≤ (editE s c).1.next := by
 have h1 : 0 ≤ s.next + 1 := by omega
 have h2 : 0 ≤ s.next + 1 + 1 := by omega
 unfold editE addE dropE renE widE movE splE joiE
 repeat' split
 all_goals (first | exact h | exact h1 | exact h2 | exact Int.le_refl 0)
theorem inv_new : Inv Sc.new := ⟨by simp [Sc.new], by simp [Sc.new], by simp [Sc.new], fun _ h => by simp [Sc.new] at h⟩
theorem inv_apply {s : Sc} {c : Ch} (h : Inv s) (hc : CW c) (he : (applyP s c).2 = 0) : Inv (applyP s c).1 := by
 unfold applyP at he ⊢
 split at he
 ·
  next hk =>
  rw [if_pos hk]
  unfold lastE at he ⊢
  split at he
  ·
   next h0 =>
   rw [if_pos h0]
   split at he
   ·
    next h1 =>
    rw [if_pos h1]
    split at he
    ·
     next h2 =>
     rw [if_pos h2]
     split at he
     ·
      next h3 =>
      rw [if_pos h3]
      exact ⟨h3.1, edit_next h.2.1, h3.2, alln_edit h.2.2.2 hc.2.1 hc.2.2.1⟩
     ·
      simp at he
    ·
     simp at he
   ·
    simp at he
  ·
   next h0 => exact absurd he h0
 ·
  simp at he
theorem aft_stop {s : Sc} {i : Int} {m : List Ch} {k : Nat} {c : Ch} {r : Sc × Int × Int} (hd : m.drop k = c :: m.drop (k + 1)) (h : aft s i (m.drop k) = r) (he : ¬ (applyP s c).2 = 0) : r = (s, i, (applyP s c).2) := by
 rw [← h, hd, aft, if_neg he]
theorem aft_go {s : Sc} {i : Int} {m : List Ch} {k : Nat} {c : Ch} {r : Sc × Int × Int} (hd : m.drop k = c :: m.drop (k + 1)) (h : aft s i (m.drop k) = r) (he : (applyP s c).2 = 0) : aft (applyP s c).1 (i + 1) (m.drop (k + 1)) = r := by
 rw [← h, hd, aft, if_pos he]
theorem aft_end {s : Sc} {i : Int} {m : List Ch} {k : Nat} {r : Sc × Int × Int} (hk : m.length ≤ k) (h : aft s i (m.drop k) = r) : r = (s, i, 0) := by
 rw [← h, List.drop_of_length_le hk, aft]
theorem getC_of {l : List Ch} {k : Nat} (h : k < l.length) : ∃ f, l[k]? = some f := ⟨l[k], List.getElem?_eq_getElem h⟩
end Go.Proofs.YtfeemipnalgjnaaGreat
namespace Go.Proofs.YtfeemipnalgjnaaGreat
open Go.RowKit

theorem sizeC : (Tryz.prog.info? 24).map (·.size) = some 8 := by kernel_rfl
theorem res_cell3 {fn : Func} {p u v : Tmp} {ty T : TypeId} {tmps : Array Value} {P : Program} {w : World} {g : Nat} {l : List Value} {fs : Array Go.Field} {n : Nat} {x y : Value} (h : fn.results = #[.cell p ty, .tmp u, .tmp v]) (hp : tmps.getD p undef = .pointer (some ⟨g, 0, none⟩)) (hx : tmps.getD u undef = x) (hy : tmps.getD v undef = y)
  (hg : CB w g T l) (hu : P.underlying ty = some (.struct fs)) (hi : (P.info? ty).map (·.size) = some n) (hl : l.length = n) :
  (results fn tmps).run P w = .ok (.tuple #[.agg l.toArray, x, y]) w := by
 rw [Array.getD_eq_getD_getElem?] at hp hx hy
 simp only [results, h]
 simp [Result.andThen, hp, hx, hy, asAddr, run_loadVar_row _ _ _ _ _ (0, 0) _ hg hu rfl (by rw [hi]; simp [hl])]
def ResA (w w' : World) (r : Sc × Int × Int) (e : Ending) : Prop := ∃ A' m' c', e = .returned (.tuple #[.agg #[.slice A' m' c', .int .i64 r.1.next], .int .i64 r.2.1, .int .i64 r.2.2]) ∧ m' = r.1.fs.length ∧ Own 58 4 w' w.heap.size (.slice A' m' c') (r.1.fs.map Fd.cells)

set_option maxHeartbeats 2000000 in
set_option maxRecDepth 20000 in
theorem After_any (A : Option Addr) (n c : Nat) (m : List Ch) (w : World) (hn : n = m.length) (hs : Chs w w.heap.size A m) (hl : n ≤ 1000000) (hcw : ∀ d ∈ m, CW d) :
  Calls Tryz.prog 46 #[.slice A n c] w fun e w' => ResA w w' (aftP m) e ∧ Below w.heap.size w w' := by
 have HN := Li hn
 have HS := Li hs
 have HC := Li hcw
 clear hn hs hcw
 have R0 := Li (CB.new w 35 [.slice none 0 0, .int .i64 0])
 have B0 := Li (al1 w (.cells #[.slice none 0 0, .int .i64 0] 35))
 go_enter Tryz.func46, Tryz.ntmps46
 go_wp2_with (go_at_call 74; refine (New_any _).mono ?_; rintro e w1 ⟨rfl, hb1⟩; have R1 := Li (R0.out.up hb1); have B1 := Li (below_step B0.out B0.out.size hb1); have z1 := R1.out.lt; clear hb1)
 go_loopw [13] (fun j wr => ∃ (k n' c' : Nat) (A' : Option Addr) (x : Int) (fs : List Fd), k ≤ n ∧ j = .int .i64 k ∧ Hid (CB wr w.heap.size 35 [.slice none 0 0, .int .i64 0]) ∧ Hid (CB wr w1.heap.size 35 [.slice A' n' c', .int .i64 x]) ∧ Hid (Own 58 4 wr w.heap.size (.slice A' n' c') (fs.map Fd.cells)) ∧ Hid (n' = fs.length) ∧ Hid (Inv ⟨fs, x⟩) ∧ Hid (Below w.heap.size w wr) ∧ Hid (aft ⟨fs, x⟩ k (m.drop k) = aftP m)) (fun j _ => n - (intOf j).toNat)
 case atStart => exact ⟨0, 0, 0, none, 1, [], by omega, rfl, R1.out.alloc _, CB.new _ _ _, Own.nil _ _ _ _, rfl, inv_new, B1.out.alloc B1.out.size _, rfl⟩
 case round =>
  obtain ⟨k, n', c', A', x, fs, hk, rfl, hr, ht, hown, hnf, hinv, hbel, hgo⟩ := hrel
  have hzr := hr.out.lt
  have hzt := ht.out.lt
  have t0 := ht.out.c2
  by_cases hlt : k < n
  ·
   have i1 : (k : Int) < (n : Int) := by omega
   obtain ⟨d, hf⟩ := getC_of (l := m) (k := k) (by rw [← HN.out]; exact hlt)
   obtain ⟨b, off, rfl, hb, c0, c1, c2, c3, c4, c5, c6, c7⟩ := (HS.out.below hbel.out).one hf
   have hd := Li (drop_cons hf)
   have hmem := HC.out d (List.mem_of_getElem? hf)
   have hCW := Li hmem
   have HA := Li (Apply_any A' n' c' x fs d.kind d.id d.wi d.nm d.ot d.ty d.pa d.sep (wr.alloc (.cells #[.int .i64 d.kind, .int .i64 d.id, .int .i64 d.wi, .string d.nm, .string d.ot, .int .i64 d.ty, .int .i64 d.pa, .string d.sep] 24)) hnf.out ((show Fds wr wr.heap.size A' fs from hown.out.row.2.2.2).up (al1 _ _)) (by have h1 := hinv.out.1; have h2 := hnf.out; simp only at h1; omega) (by have := hinv.out.2.1; exact this) (by have h := hinv.out.2.2.1; simp only at h; omega) hmem.2.2.2 hinv.out.2.2.2 hmem.2.1 hmem.2.2.1 hmem.1)
   obtain ⟨⟨⟨fs2, x2⟩, er⟩, hq⟩ : ∃ r, applyP ⟨fs, x⟩ d = r := ⟨_, rfl⟩
   have HQ := Li hq
   have hbz := al1 wr (.cells #[.int .i64 d.kind, .int .i64 d.id, .int .i64 d.wi, .string d.nm, .string d.ot, .int .i64 d.ty, .int .i64 d.pa, .string d.sep] 24)
   have HBZ := Li hbz
   clear hf hmem hq hbz
   by_cases he : er = 0
   ·
    subst he
    have HG := Li (aft_go hd.out hgo.out (by rw [HQ.out]))
    have HI := Li (inv_apply hinv.out hCW.out (by rw [HQ.out]))
    rw [HQ.out] at HG HI
    go_wp2_with (first | (go_at_call 61; refine HA.out.mono ?_; rintro e w7 ⟨⟨A7, m7, c7', rfl, hm7, ho7⟩, hb7⟩; rw [show applyP ⟨fs, x⟩ ⟨d.kind, d.id, d.wi, d.nm, d.ot, d.ty, d.pa, d.sep⟩ = (⟨fs2, x2⟩, 0) from HQ.out] at hm7 ho7; rw [show applyP ⟨fs, x⟩ ⟨d.kind, d.id, d.wi, d.nm, d.ot, d.ty, d.pa, d.sep⟩ = (⟨fs2, x2⟩, 0) from HQ.out]; have hw7 := Li (HBZ.out.trans (hb7.mono HBZ.out.size)); have O7 := Li (ho7.low (b := w.heap.size) (by rw [asz]; omega)); have M7 := Li hm7; have R7 := Li (hr.out.up hw7.out); have T7 := Li (ht.out.up hw7.out); have B7 := Li (below_step hbel.out (by omega) hw7.out); have zr7 := R7.out.lt; have zt7 := T7.out.lt; clear hm7 ho7 hb7) | ((with_reducible show wpList _ _ _ _ _ _); refine wpList_store_cb rfl 35 (.tmp 5) (.tmp 29) rfl w1.heap.size [.slice A7 m7 c7', .int .i64 x2] rfl rfl 35 [.slice A' n' c', .int .i64 x] 2 (T7.out.alloc _) sizeS rfl rfl (one_s _ _ _ _) ?_; intro w9 hc9 hg9 hz9))
    have hz7 : w7.heap.size ≤ (w7.alloc (.cells #[.slice A7 m7 c7', .int .i64 x2] 35)).heap.size := (al1 _ _).size
    go_roundw
    case rel => exact ⟨k + 1, m7, c7', A7, x2, fs2, by omega, by go_num, (R7.out.alloc _).grown hg9 (fun h => by injection h with h; omega), hc9, (O7.out.alloc _).kept hg9 (.inr (Own.ne O7.out T7.out (by decide)).symm), M7.out, HI.out, below_grown (B7.out.alloc (by omega) _) hg9 (by omega) (by omega), by show _ = _; have h := HG.out; push_cast; exact h⟩
    case measure => simp [intOf]; omega
   ·
    have e1 : (er != 0) = true := by simpa using he
    have HG := Li (aft_stop hd.out hgo.out (by rw [HQ.out]; exact he))
    rw [HQ.out] at HG
    clear he
    go_wp2_with (first | (go_at_call 61; refine HA.out.mono ?_; rintro e w7 ⟨⟨A7, m7, c7', rfl, hm7, ho7⟩, hb7⟩; rw [show applyP ⟨fs, x⟩ ⟨d.kind, d.id, d.wi, d.nm, d.ot, d.ty, d.pa, d.sep⟩ = (⟨fs2, x2⟩, er) from HQ.out]; have hw7 := Li (HBZ.out.trans (hb7.mono HBZ.out.size)); have R7 := Li (hr.out.up hw7.out); have T7 := Li (ht.out.up hw7.out); have B7 := Li (below_step hbel.out (by omega) hw7.out); have zr7 := R7.out.lt; have zt7 := T7.out.lt; have t70 := T7.out.c2; clear hm7 ho7 hb7) | ((with_reducible show wpList _ _ _ _ _ _); refine wpList_store_cb rfl 35 (.tmp 2) (.tmp 26) rfl w.heap.size [.slice A' n' c', .int .i64 x] rfl rfl 35 [.slice none 0 0, .int .i64 0] 2 (R7.out.alloc _) sizeS rfl rfl (one_s _ _ _ _) ?_; intro w9 hc9 hg9 hz9))
    have hz7 : w7.heap.size ≤ (w7.alloc (.cells #[.slice A7 m7 c7', .int .i64 x2] 35)).heap.size := (al1 _ _).size
    refine bodyPost_ret (res_cell3 Tryz.results46 rfl rfl rfl hc9 Tryz.underlying35 sizeS rfl) rfl ⟨?_, below_grown (B7.out.alloc (by omega) _) hg9 (by omega) (by omega)⟩
    rw [HG.out]
    exact ⟨A', n', c', rfl, hnf.out, ((hown.out.up hw7.out).alloc _).kept hg9 (.inr (Own.ne (hown.out.up hw7.out) R7.out (by decide)).symm)⟩
  ·
   have i1 : ¬ (k : Int) < (n : Int) := by omega
   have HG := Li (aft_end (by rw [← HN.out]; omega) hgo.out)
   have hkn : k = n := by omega
   subst hkn
   go_wp2_with ((with_reducible show wpList _ _ _ _ _ _); refine wpList_store_cb rfl 35 (.tmp 2) (.tmp 31) rfl w.heap.size [.slice A' n' c', .int .i64 x] rfl rfl 35 [.slice none 0 0, .int .i64 0] 2 hr.out sizeS rfl rfl (one_s _ _ _ _) ?_; intro w9 hc9 hg9 hz9)
   refine bodyPost_ret (res_cell3 Tryz.results46 rfl rfl rfl hc9 Tryz.underlying35 sizeS rfl) rfl ⟨?_, below_grown hbel.out hg9 (by omega) (by omega)⟩
   rw [HG.out]
   exact ⟨A', n', c', rfl, hnf.out, hown.out.kept hg9 (.inr (Own.ne hown.out hr.out (by decide)).symm)⟩
end Go.Proofs.YtfeemipnalgjnaaGreat
