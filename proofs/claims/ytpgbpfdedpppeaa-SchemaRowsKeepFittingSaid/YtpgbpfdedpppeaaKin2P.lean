/-
  The program's split and join, by contracts.
-/
import Derived.Test.YtpgbpfdedpppeaaKindP
namespace Go.Proofs.Ytpgbpfdedpppeaa
open Go.RowKit

theorem cell_set2 {w : World} {g : Nat} {u v : Value} {b o : Nat} {z : Option Value} (h : b ≠ g) (hz : w.cell? ⟨b, o, none⟩ = z) : ((w.setCell ⟨g, 0, none⟩ u).setCell ⟨g, 1, none⟩ v).cell? ⟨b, o, none⟩ = z := by
  rw [World.cell?_setCell_other _ _ _ _ (fun e => h (by injection e with e; exact e.symm)), World.cell?_setCell_other _ _ _ _ (fun e => h (by injection e with e; exact e.symm))]
  exact hz

set_option maxHeartbeats 2000000 in
set_option maxRecDepth 20000 in
theorem spl_any (A : Option Addr) (n c : Nat) (x : Int) (l : List Fd) (kd id wi : Int) (nm ot : ByteArray) (ty pa : Int) (sep : ByteArray) (w : World) (hn : n = l.length) (hs : Fds w w.heap.size A l) (hl0 : n ≤ 1000) (hx0 : 0 ≤ x) (hx1 : x ≤ 2305843009213693952) (hsep : sep.size ≤ 9223372036854775807) :
    Calls Try.prog 59 #[.agg #[.slice A n c, .int .i64 x, .int .i64 kd, .int .i64 id, .int .i64 wi, .string nm, .string ot, .int .i64 ty, .int .i64 pa, .string sep]] w fun e w' => ResS w w' (splE ⟨l, x⟩ ⟨kd, id, wi, nm, ot, ty, pa, sep⟩) e ∧ Below w.heap.size w w' := by
  have HN := Lib.hid hn
  have HS := Lib.hid hs
  clear hn hs
  have hl : n ≤ 1000000 := by omega
  have hl2 : n ≤ 9223372036854775807 := by omega
  obtain ⟨g, hg⟩ : ∃ g, fieldD l id = g := ⟨_, rfl⟩
  obtain ⟨ok, hok⟩ : ∃ ok, hasF l id = ok := ⟨_, rfl⟩
  have HG := Lib.hid hg
  have HO := Lib.hid hok
  clear hg hok
  obtain ⟨sz, hsz⟩ : ∃ sz, sepB sep = sz := ⟨_, rfl⟩
  have HP := Lib.hid hsz
  clear hsz
  cases ok with
  | false =>
    go_enter Try.func59, Try.ntmps59
    go_wp2_with (first | (go_at_call 19; refine (Field_any _ n c x l id _ HN.out (HS.out.up (al2 w _ _)) hl2).mono ?_; rintro e w5 ⟨rfl, hb5⟩; rw [HG.out, HO.out]; have HB5 := Lib.hid ((al2 w _ _).trans (hb5.mono (al2 w _ _).size)); have HR5 := Lib.hid ((CB.new1 w (.cells #[.slice A n c, .int .i64 x, .int .i64 kd, .int .i64 id, .int .i64 wi, .string nm, .string ot, .int .i64 ty, .int .i64 pa, .string sep] 70) 30 [.slice none 0 0, .int .i64 0]).up hb5); have HE5 := Lib.hid (((CB.new w 70 [.slice A n c, .int .i64 x, .int .i64 kd, .int .i64 id, .int .i64 wi, .string nm, .string ot, .int .i64 ty, .int .i64 pa, .string sep]).alloc (.cells #[.slice none 0 0, .int .i64 0] 30)).up hb5); have hz5 : w.heap.size + 1 < w5.heap.size := HR5.out.lt; have hy5 : w.heap.size < w5.heap.size := HE5.out.lt; have e5_0 := HE5.out.cell 0 rfl; have e5_1 := HE5.out.cell 1 rfl; have e5_2 := HE5.out.cell 2 rfl; have e5_3 := HE5.out.cell 3 rfl; have e5_4 := HE5.out.cell 4 rfl; have e5_5 := HE5.out.cell 5 rfl; have e5_6 := HE5.out.cell 6 rfl; have e5_7 := HE5.out.cell 7 rfl; have e5_8 := HE5.out.cell 8 rfl; have e5_9 := HE5.out.cell 9 rfl; clear hb5) | ((with_reducible show wpList _ _ _ _ _ _); refine wpList_store_cb rfl 30 (.tmp 2) (.tmp 19) rfl (w.heap.size + 1) [.slice none 0 0, .int .i64 0] rfl rfl 30 [.slice none 0 0, .int .i64 0] 2 (HR5.out.alloc _) sizeS rfl rfl (one_s _ _ _ _) ?_; intro w9 hc9 hg9 hz9))
    refine bodyPost_ret (res_cell Try.results59 rfl rfl hc9 Try.underlying30 sizeS rfl) rfl ⟨?_, below_grown (HB5.out.alloc (by omega) _) hg9 (by rw [asz]; omega) (by omega)⟩
    unfold splE
    rw [if_neg (by simp only [HO.out]; decide)]
    exact res_zero _ _ _
  | true =>
    by_cases hy : g.ty = 4
    · have y1 : (g.ty != 4) = false := by simpa using hy
      have HY := Lib.hid hy
      clear hy
      cases sz with
      | false =>
        go_enter Try.func59, Try.ntmps59
        go_wp2_with (first | (go_at_call 19; refine (Field_any _ n c x l id _ HN.out (HS.out.up (al2 w _ _)) hl2).mono ?_; rintro e w5 ⟨rfl, hb5⟩; rw [HG.out, HO.out]; have HB5 := Lib.hid ((al2 w _ _).trans (hb5.mono (al2 w _ _).size)); have HR5 := Lib.hid ((CB.new1 w (.cells #[.slice A n c, .int .i64 x, .int .i64 kd, .int .i64 id, .int .i64 wi, .string nm, .string ot, .int .i64 ty, .int .i64 pa, .string sep] 70) 30 [.slice none 0 0, .int .i64 0]).up hb5); have HE5 := Lib.hid (((CB.new w 70 [.slice A n c, .int .i64 x, .int .i64 kd, .int .i64 id, .int .i64 wi, .string nm, .string ot, .int .i64 ty, .int .i64 pa, .string sep]).alloc (.cells #[.slice none 0 0, .int .i64 0] 30)).up hb5); have hz5 : w.heap.size + 1 < w5.heap.size := HR5.out.lt; have hy5 : w.heap.size < w5.heap.size := HE5.out.lt; have e5_0 := HE5.out.cell 0 rfl; have e5_1 := HE5.out.cell 1 rfl; have e5_2 := HE5.out.cell 2 rfl; have e5_3 := HE5.out.cell 3 rfl; have e5_4 := HE5.out.cell 4 rfl; have e5_5 := HE5.out.cell 5 rfl; have e5_6 := HE5.out.cell 6 rfl; have e5_7 := HE5.out.cell 7 rfl; have e5_8 := HE5.out.cell 8 rfl; have e5_9 := HE5.out.cell 9 rfl; clear hb5) | (go_at_call 78; refine (isSep_any sep false _ HP.out hsep).mono ?_; rintro e w' ⟨rfl, rfl⟩) | ((with_reducible show wpList _ _ _ _ _ _); refine wpList_store_cb rfl 30 (.tmp 2) (.tmp 31) rfl (w.heap.size + 1) [.slice none 0 0, .int .i64 0] rfl rfl 30 [.slice none 0 0, .int .i64 0] 2 (HR5.out.alloc _) sizeS rfl rfl (one_s _ _ _ _) ?_; intro w9 hc9 hg9 hz9))
        refine bodyPost_ret (res_cell Try.results59 rfl rfl hc9 Try.underlying30 sizeS rfl) rfl ⟨?_, below_grown (HB5.out.alloc (by omega) _) hg9 (by rw [asz]; omega) (by omega)⟩
        unfold splE
        rw [if_pos (by exact HO.out), if_pos (by rw [HG.out]; exact HY.out), if_neg (by simp only [HP.out]; decide)]
        exact res_zero _ _ _
      | true =>
        go_enter Try.func59, Try.ntmps59
        go_wp2_with (first | (go_at_call 19; refine (Field_any _ n c x l id _ HN.out (HS.out.up (al2 w _ _)) hl2).mono ?_; rintro e w5 ⟨rfl, hb5⟩; rw [HG.out, HO.out]; have HB5 := Lib.hid ((al2 w _ _).trans (hb5.mono (al2 w _ _).size)); have HR5 := Lib.hid ((CB.new1 w (.cells #[.slice A n c, .int .i64 x, .int .i64 kd, .int .i64 id, .int .i64 wi, .string nm, .string ot, .int .i64 ty, .int .i64 pa, .string sep] 70) 30 [.slice none 0 0, .int .i64 0]).up hb5); have HE5 := Lib.hid (((CB.new w 70 [.slice A n c, .int .i64 x, .int .i64 kd, .int .i64 id, .int .i64 wi, .string nm, .string ot, .int .i64 ty, .int .i64 pa, .string sep]).alloc (.cells #[.slice none 0 0, .int .i64 0] 30)).up hb5); have hz5 : w.heap.size + 1 < w5.heap.size := HR5.out.lt; have hy5 : w.heap.size < w5.heap.size := HE5.out.lt; have e5_0 := HE5.out.cell 0 rfl; have e5_1 := HE5.out.cell 1 rfl; have e5_2 := HE5.out.cell 2 rfl; have e5_3 := HE5.out.cell 3 rfl; have e5_4 := HE5.out.cell 4 rfl; have e5_5 := HE5.out.cell 5 rfl; have e5_6 := HE5.out.cell 6 rfl; have e5_7 := HE5.out.cell 7 rfl; have e5_8 := HE5.out.cell 8 rfl; have e5_9 := HE5.out.cell 9 rfl; clear hb5) | (go_at_call 78; refine (isSep_any sep true _ HP.out hsep).mono ?_; rintro e w' ⟨rfl, rfl⟩))
        have hq1 := HE5.out.alloc (.cells #[.int .i64 g.id, .string g.nm, .int .i64 g.ty, .int .i64 g.pa] 41)
        have hq2 := HR5.out.alloc (.cells #[.int .i64 g.id, .string g.nm, .int .i64 g.ty, .int .i64 g.pa] 41)
        have hq3 := CB.new w5 41 [.int .i64 g.id, .string g.nm, .int .i64 g.ty, .int .i64 g.pa]
        have hqb := HB5.out.alloc (by omega) (.cells #[.int .i64 g.id, .string g.nm, .int .i64 g.ty, .int .i64 g.pa] 41)
        have hw0z : (w5.alloc (.cells #[.int .i64 g.id, .string g.nm, .int .i64 g.ty, .int .i64 g.pa] 41)).heap.size = w5.heap.size + 1 := asz _ _
        generalize w5.alloc (.cells #[.int .i64 g.id, .string g.nm, .int .i64 g.ty, .int .i64 g.pa] 41) = W0 at *
        have nA0 : w.heap.size ≠ W0.heap.size := by omega
        have nB0 : w5.heap.size ≠ W0.heap.size := by omega
        have hy0 : w.heap.size < W0.heap.size := by omega
        have hz0 : w5.heap.size < W0.heap.size := by omega
        clear hw0z
        have Q1 := Lib.hid hq1
        have Q2 := Lib.hid hq2
        have Q3 := Lib.hid hq3
        have QB := Lib.hid hqb
        have HCELL : Hid (∀ W, Below W0.heap.size W0 W → W.cell? ⟨w.heap.size, 0, none⟩ = some (.slice A n c) ∧ W.cell? ⟨w.heap.size, 1, none⟩ = some (.int .i64 x) ∧ W.cell? ⟨w.heap.size, 5, none⟩ = some (.string nm) ∧ W.cell? ⟨w.heap.size, 6, none⟩ = some (.string ot) ∧ W.cell? ⟨w5.heap.size, 0, none⟩ = some (.int .i64 g.id) ∧ W.cell? ⟨w5.heap.size, 3, none⟩ = some (.int .i64 g.pa)) := by
          intro W hW
          exact ⟨(Q1.out.up hW).cell 0 rfl, (Q1.out.up hW).cell 1 rfl, (Q1.out.up hW).cell 5 rfl, (Q1.out.up hW).cell 6 rfl, (Q3.out.up hW).cell 0 rfl, (Q3.out.up hW).cell 3 rfl⟩
        obtain ⟨x0, x1, x2, x3, x4, x5⟩ := HCELL.out W0 (Below.refl _ _)
        clear hq1 hq2 hq3 hqb HE5 HR5 e5_0 e5_1 e5_2 e5_3 e5_4 e5_5 e5_6 e5_7 e5_8 e5_9
        have hwx : IntKind.i64.wrap (x + 1) = x + 1 := IntWalk.i64_in _ ⟨by omega, by omega⟩
        have hdl : (dropF l g.id).length ≤ 1000 := Nat.le_trans (drp_len l g.id) (by rw [← HN.out]; exact hl0)
        go_region_held_law (fun w' => w'.cell? ⟨w.heap.size, 0, none⟩ = some (.slice A n c) ∧ w'.cell? ⟨w.heap.size, 1, none⟩ = some (.int .i64 x) ∧ w'.cell? ⟨w.heap.size, 5, none⟩ = some (.string nm) ∧ w'.cell? ⟨w5.heap.size, 0, none⟩ = some (.int .i64 g.id) ∧ w'.cell? ⟨w5.heap.size, 3, none⟩ = some (.int .i64 g.pa))
          (first | exact (fun h => ⟨h.1, h.2.1, h.2.2.1, h.2.2.2.2.1, h.2.2.2.2.2⟩) (HCELL.out _ (by first | exact hw7 | exact hw6 | exact hw6.alloc hw6.size _ | exact hw6.drew | exact hw6.drew.alloc hw6.size _ | exact bd _ | exact bda _ _ | exact bdad _ _ | exact bad _ _ | exact al1 _ _ | exact hw7.alloc hw7.size _)) | exact (fun h => ⟨cell_set2 (by first | exact nA6 | exact nA0 | exact nA7) h.1, cell_set2 (by first | exact nA6 | exact nA0 | exact nA7) h.2.1, cell_set2 (by first | exact nA6 | exact nA0 | exact nA7) h.2.2.1, cell_set2 (by first | exact nB6 | exact nB0 | exact nB7) h.2.2.2.2.1, cell_set2 (by first | exact nB6 | exact nB0 | exact nB7) h.2.2.2.2.2⟩) (HCELL.out _ hw7) | go_keep)
          (first | (go_at_call 76; go_loud (refine (without_any A n c x l g.id _ HN.out (HS.out.up (QB.out.trans ((show Below W0.heap.size W0 _ by first | exact bd _ | exact bda _ _ | exact bdad _ _ | exact bad _ _ | exact Below.refl _ _ | exact al1 _ _).mono QB.out.size))) hl).mono ?_; rintro e w6 ⟨⟨A6, c6, rfl, ho6⟩, hb6⟩; have hw6 : Below W0.heap.size W0 w6 := (by first | exact (bd _).trans (hb6.mono (bd _).size) | exact (bda _ _).trans (hb6.mono (bda _ _).size) | exact (bdad _ _).trans (hb6.mono (bdad _ _).size) | exact (bad _ _).trans (hb6.mono (bad _ _).size) | exact (al1 _ _).trans (hb6.mono (al1 _ _).size) | exact hb6); have HO6 := Lib.hid (ho6.low (b := W0.heap.size) (by first | exact (bd W0).size | exact (bda W0 _).size | exact (bdad W0 _).size | exact (bad W0 _).size | exact (al1 W0 _).size | exact Nat.le_refl _)); obtain ⟨hcA, hfA⟩ := bcell hb6; (try have hq6 : W0.heap.size < w6.heap.size := (by first | exact lt_al hb6 | exact lt_ald hb6)); (try have hcb0 : CB w6 W0.heap.size 30 [.slice none 0 0, .int .i64 0] := (by first | exact (CB.new _ _ _).up hb6 | exact (CB.new _ _ _).dr.up hb6)); have nA6 : w.heap.size ≠ w6.heap.size := Nat.ne_of_lt (Nat.lt_of_lt_of_le hy0 hw6.size); have nB6 : w5.heap.size ≠ w6.heap.size := Nat.ne_of_lt (Nat.lt_of_lt_of_le hz0 hw6.size); clear ho6 hb6)) | (go_at_call 75; go_loud (refine (with_any A6 (dropF l g.id).length c6 x (dropF l g.id) nm 4 g.pa _ rfl (Fds.up (HO6.out.row.2.2.2) (by first | exact Below.refl _ _ | exact bd _ | exact al1 _ _ | exact bda _ _ | exact bad _ _)) (by omega) hx0 (by omega)).mono ?_; rintro e w7 ⟨⟨A7, c7, rfl, ho7⟩, hb7⟩; have hw7 : Below W0.heap.size W0 w7 := (by first | exact hw6.trans (hb7.mono hw6.size) | exact hw6.drew.trans (hb7.mono hw6.size) | exact (hw6.alloc hw6.size _).trans (hb7.mono (hw6.alloc hw6.size _).size) | exact (hw6.drew.alloc hw6.size _).trans (hb7.mono (hw6.drew.alloc hw6.size _).size) | exact (hw6.alloc hw6.size _).drew.trans (hb7.mono (hw6.alloc hw6.size _).drew.size)); have HO7 := Lib.hid (ho7.low (b := W0.heap.size) (by first | exact hw6.size | exact (hw6.alloc hw6.size _).size | exact (hw6.drew.alloc hw6.size _).size)); obtain ⟨hcB, hfB⟩ := bcell hb7; (try have hcb7 : CB w7 W0.heap.size 30 [.slice none 0 0, .int .i64 0] := hcb0.up hb7); (try have hcb6 : CB w7 w6.heap.size 30 [.slice none 0 0, .int .i64 0] := (by first | exact (CB.new _ _ _).up hb7 | exact (CB.new _ _ _).dr.up hb7)); have nA7 : w.heap.size ≠ w7.heap.size := Nat.ne_of_lt (Nat.lt_of_lt_of_le hy0 hw7.size); have nB7 : w5.heap.size ≠ w7.heap.size := Nat.ne_of_lt (Nat.lt_of_lt_of_le hz0 hw7.size); clear ho7 hb7)))
        have hwx2 : IntKind.i64.wrap (x + 1 + 1) = x + 1 + 1 := IntWalk.i64_in _ ⟨by omega, by omega⟩
        · have z1 : Below W0.heap.size W0 (w7.alloc (.cells #[.slice A7 ((dropF l g.id).length + 1) c7, .int .i64 (x + 1)] 30)) := hw7.alloc hw7.size _
          have z2 : CB (w7.alloc (.cells #[.slice A7 ((dropF l g.id).length + 1) c7, .int .i64 (x + 1)] 30)) w7.heap.size 30 [(.slice A7 ((dropF l g.id).length + 1) c7), .int .i64 (x + 1)] := CB.new w7 30 [(.slice A7 ((dropF l g.id).length + 1) c7), .int .i64 (x + 1)]
          have z3 : Own 41 4 (w7.alloc (.cells #[.slice A7 ((dropF l g.id).length + 1) c7, .int .i64 (x + 1)] 30)) W0.heap.size (.slice A7 ((dropF l g.id).length + 1) c7) ((dropF l g.id ++ [(⟨x, nm, 4, g.pa⟩ : Fd)]).map Fd.cells) := HO7.out.alloc _
          generalize (w7.alloc (.cells #[.slice A7 ((dropF l g.id).length + 1) c7, .int .i64 (x + 1)] 30)) = Wz at z1 z2 z3 ⊢
          have Z1 := Lib.hid z1
          have Z3 := Lib.hid z3
          have d0 := z2.cell 0 rfl
          have d1 := z2.cell 1 rfl
          obtain ⟨y0, y1', y2, y3, y4, y5⟩ := HCELL.out Wz z1
          clear hcA hfA hcB hfB z1 z2 z3
          go_wp2_with (first | (go_at_call 75; refine (with_any A7 ((dropF l g.id).length + 1) c7 (x + 1) (dropF l g.id ++ [(⟨x, nm, 4, g.pa⟩ : Fd)]) ot 4 g.pa _ (by simp) (Z3.out.row.2.2.2) (by omega) (by omega) (by omega)).mono ?_; rintro e w8 ⟨⟨A8, c8, rfl, ho8⟩, hb8⟩; have HB8 := Lib.hid (below_step (QB.out.trans (Z1.out.mono QB.out.size)) (Nat.le_trans QB.out.size Z1.out.size) hb8); have HR8 := Lib.hid ((Q2.out.up Z1.out).up hb8); have HO8 := Lib.hid (ho8.low (b := w.heap.size) (Nat.le_trans QB.out.size Z1.out.size)); have hz8 : w.heap.size + 1 < w8.heap.size := HR8.out.lt; clear ho8 hb8) | ((with_reducible show wpList _ _ _ _ _ _); refine wpList_store_cb rfl 30 (.tmp 2) (.tmp 49) rfl (w.heap.size + 1) [.slice A8 ((dropF l g.id).length + 1 + 1) c8, .int .i64 (x + 1 + 1)] rfl rfl 30 [.slice none 0 0, .int .i64 0] 2 HR8.out sizeS rfl rfl (one_s _ _ _ _) ?_; intro w9 hc9 hg9 hz9))
          refine bodyPost_ret (res_cell Try.results59 rfl rfl hc9 Try.underlying30 sizeS rfl) rfl ⟨?_, below_grown HB8.out hg9 (by omega) (by omega)⟩
          unfold splE
          rw [if_pos (by exact HO.out), if_pos (by rw [HG.out]; exact HY.out), if_pos (by exact HP.out)]
          simp only [HG.out]
          exact ⟨A8, _, c8, rfl, by simp [withS, dropS], HO8.out.kept hg9 (.inr (HO8.out.ne HR8.out (by decide)).symm)⟩
        · have z1 : Below W0.heap.size W0 ((w7.setCell ⟨w6.heap.size, 0, none⟩ (.slice A7 ((dropF l g.id).length + 1) c7)).setCell ⟨w6.heap.size, 1, none⟩ (.int .i64 (x + 1))) := (hw7.setCell (p := ⟨w6.heap.size, 0, none⟩) hw6.size _).setCell (p := ⟨w6.heap.size, 1, none⟩) hw6.size _
          have z2 : CB ((w7.setCell ⟨w6.heap.size, 0, none⟩ (.slice A7 ((dropF l g.id).length + 1) c7)).setCell ⟨w6.heap.size, 1, none⟩ (.int .i64 (x + 1))) w6.heap.size 30 [(.slice A7 ((dropF l g.id).length + 1) c7), .int .i64 (x + 1)] := (hcb6.set_ 0 _).set_ 1 _
          have z3 : Own 41 4 ((w7.setCell ⟨w6.heap.size, 0, none⟩ (.slice A7 ((dropF l g.id).length + 1) c7)).setCell ⟨w6.heap.size, 1, none⟩ (.int .i64 (x + 1))) W0.heap.size (.slice A7 ((dropF l g.id).length + 1) c7) ((dropF l g.id ++ [(⟨x, nm, 4, g.pa⟩ : Fd)]).map Fd.cells) := (HO7.out.set_ 0 _ (HO7.out.ne hcb6 (by decide))).set_ 1 _ (HO7.out.ne hcb6 (by decide))
          generalize ((w7.setCell ⟨w6.heap.size, 0, none⟩ (.slice A7 ((dropF l g.id).length + 1) c7)).setCell ⟨w6.heap.size, 1, none⟩ (.int .i64 (x + 1))) = Wz at z1 z2 z3 ⊢
          have Z1 := Lib.hid z1
          have Z3 := Lib.hid z3
          have d0 := z2.cell 0 rfl
          have d1 := z2.cell 1 rfl
          obtain ⟨y0, y1', y2, y3, y4, y5⟩ := HCELL.out Wz z1
          clear hcA hfA hcB hfB z1 z2 z3
          go_wp2_with (first | (go_at_call 75; refine (with_any A7 ((dropF l g.id).length + 1) c7 (x + 1) (dropF l g.id ++ [(⟨x, nm, 4, g.pa⟩ : Fd)]) ot 4 g.pa _ (by simp) (Z3.out.row.2.2.2) (by omega) (by omega) (by omega)).mono ?_; rintro e w8 ⟨⟨A8, c8, rfl, ho8⟩, hb8⟩; have HB8 := Lib.hid (below_step (QB.out.trans (Z1.out.mono QB.out.size)) (Nat.le_trans QB.out.size Z1.out.size) hb8); have HR8 := Lib.hid ((Q2.out.up Z1.out).up hb8); have HO8 := Lib.hid (ho8.low (b := w.heap.size) (Nat.le_trans QB.out.size Z1.out.size)); have hz8 : w.heap.size + 1 < w8.heap.size := HR8.out.lt; clear ho8 hb8) | ((with_reducible show wpList _ _ _ _ _ _); refine wpList_store_cb rfl 30 (.tmp 2) (.tmp 49) rfl (w.heap.size + 1) [.slice A8 ((dropF l g.id).length + 1 + 1) c8, .int .i64 (x + 1 + 1)] rfl rfl 30 [.slice none 0 0, .int .i64 0] 2 HR8.out sizeS rfl rfl (one_s _ _ _ _) ?_; intro w9 hc9 hg9 hz9))
          refine bodyPost_ret (res_cell Try.results59 rfl rfl hc9 Try.underlying30 sizeS rfl) rfl ⟨?_, below_grown HB8.out hg9 (by omega) (by omega)⟩
          unfold splE
          rw [if_pos (by exact HO.out), if_pos (by rw [HG.out]; exact HY.out), if_pos (by exact HP.out)]
          simp only [HG.out]
          exact ⟨A8, _, c8, rfl, by simp [withS, dropS], HO8.out.kept hg9 (.inr (HO8.out.ne HR8.out (by decide)).symm)⟩
        · have z1 : Below W0.heap.size W0 ((w7.setCell ⟨W0.heap.size, 0, none⟩ (.slice A7 ((dropF l g.id).length + 1) c7)).setCell ⟨W0.heap.size, 1, none⟩ (.int .i64 (x + 1))) := (hw7.setCell (p := ⟨W0.heap.size, 0, none⟩) (Nat.le_refl _) _).setCell (p := ⟨W0.heap.size, 1, none⟩) (Nat.le_refl _) _
          have z2 : CB ((w7.setCell ⟨W0.heap.size, 0, none⟩ (.slice A7 ((dropF l g.id).length + 1) c7)).setCell ⟨W0.heap.size, 1, none⟩ (.int .i64 (x + 1))) W0.heap.size 30 [(.slice A7 ((dropF l g.id).length + 1) c7), .int .i64 (x + 1)] := (hcb7.set_ 0 _).set_ 1 _
          have z3 : Own 41 4 ((w7.setCell ⟨W0.heap.size, 0, none⟩ (.slice A7 ((dropF l g.id).length + 1) c7)).setCell ⟨W0.heap.size, 1, none⟩ (.int .i64 (x + 1))) W0.heap.size (.slice A7 ((dropF l g.id).length + 1) c7) ((dropF l g.id ++ [(⟨x, nm, 4, g.pa⟩ : Fd)]).map Fd.cells) := (HO7.out.set_ 0 _ (HO7.out.ne hcb7 (by decide))).set_ 1 _ (HO7.out.ne hcb7 (by decide))
          generalize ((w7.setCell ⟨W0.heap.size, 0, none⟩ (.slice A7 ((dropF l g.id).length + 1) c7)).setCell ⟨W0.heap.size, 1, none⟩ (.int .i64 (x + 1))) = Wz at z1 z2 z3 ⊢
          have Z1 := Lib.hid z1
          have Z3 := Lib.hid z3
          have d0 := z2.cell 0 rfl
          have d1 := z2.cell 1 rfl
          obtain ⟨y0, y1', y2, y3, y4, y5⟩ := HCELL.out Wz z1
          clear hcA hfA hcB hfB z1 z2 z3
          go_wp2_with (first | (go_at_call 75; refine (with_any A7 ((dropF l g.id).length + 1) c7 (x + 1) (dropF l g.id ++ [(⟨x, nm, 4, g.pa⟩ : Fd)]) ot 4 g.pa _ (by simp) (Z3.out.row.2.2.2) (by omega) (by omega) (by omega)).mono ?_; rintro e w8 ⟨⟨A8, c8, rfl, ho8⟩, hb8⟩; have HB8 := Lib.hid (below_step (QB.out.trans (Z1.out.mono QB.out.size)) (Nat.le_trans QB.out.size Z1.out.size) hb8); have HR8 := Lib.hid ((Q2.out.up Z1.out).up hb8); have HO8 := Lib.hid (ho8.low (b := w.heap.size) (Nat.le_trans QB.out.size Z1.out.size)); have hz8 : w.heap.size + 1 < w8.heap.size := HR8.out.lt; clear ho8 hb8) | ((with_reducible show wpList _ _ _ _ _ _); refine wpList_store_cb rfl 30 (.tmp 2) (.tmp 49) rfl (w.heap.size + 1) [.slice A8 ((dropF l g.id).length + 1 + 1) c8, .int .i64 (x + 1 + 1)] rfl rfl 30 [.slice none 0 0, .int .i64 0] 2 HR8.out sizeS rfl rfl (one_s _ _ _ _) ?_; intro w9 hc9 hg9 hz9))
          refine bodyPost_ret (res_cell Try.results59 rfl rfl hc9 Try.underlying30 sizeS rfl) rfl ⟨?_, below_grown HB8.out hg9 (by omega) (by omega)⟩
          unfold splE
          rw [if_pos (by exact HO.out), if_pos (by rw [HG.out]; exact HY.out), if_pos (by exact HP.out)]
          simp only [HG.out]
          exact ⟨A8, _, c8, rfl, by simp [withS, dropS], HO8.out.kept hg9 (.inr (HO8.out.ne HR8.out (by decide)).symm)⟩
    · have y1 : (g.ty != 4) = true := by simpa using hy
      have HY := Lib.hid hy
      clear hy
      go_enter Try.func59, Try.ntmps59
      go_wp2_with (first | (go_at_call 19; refine (Field_any _ n c x l id _ HN.out (HS.out.up (al2 w _ _)) hl2).mono ?_; rintro e w5 ⟨rfl, hb5⟩; rw [HG.out, HO.out]; have HB5 := Lib.hid ((al2 w _ _).trans (hb5.mono (al2 w _ _).size)); have HR5 := Lib.hid ((CB.new1 w (.cells #[.slice A n c, .int .i64 x, .int .i64 kd, .int .i64 id, .int .i64 wi, .string nm, .string ot, .int .i64 ty, .int .i64 pa, .string sep] 70) 30 [.slice none 0 0, .int .i64 0]).up hb5); have HE5 := Lib.hid (((CB.new w 70 [.slice A n c, .int .i64 x, .int .i64 kd, .int .i64 id, .int .i64 wi, .string nm, .string ot, .int .i64 ty, .int .i64 pa, .string sep]).alloc (.cells #[.slice none 0 0, .int .i64 0] 30)).up hb5); have hz5 : w.heap.size + 1 < w5.heap.size := HR5.out.lt; have hy5 : w.heap.size < w5.heap.size := HE5.out.lt; have e5_0 := HE5.out.cell 0 rfl; have e5_1 := HE5.out.cell 1 rfl; have e5_2 := HE5.out.cell 2 rfl; have e5_3 := HE5.out.cell 3 rfl; have e5_4 := HE5.out.cell 4 rfl; have e5_5 := HE5.out.cell 5 rfl; have e5_6 := HE5.out.cell 6 rfl; have e5_7 := HE5.out.cell 7 rfl; have e5_8 := HE5.out.cell 8 rfl; have e5_9 := HE5.out.cell 9 rfl; clear hb5) | ((with_reducible show wpList _ _ _ _ _ _); refine wpList_store_cb rfl 30 (.tmp 2) (.tmp 24) rfl (w.heap.size + 1) [.slice none 0 0, .int .i64 0] rfl rfl 30 [.slice none 0 0, .int .i64 0] 2 (HR5.out.alloc _) sizeS rfl rfl (one_s _ _ _ _) ?_; intro w9 hc9 hg9 hz9))
      refine bodyPost_ret (res_cell Try.results59 rfl rfl hc9 Try.underlying30 sizeS rfl) rfl ⟨?_, below_grown (HB5.out.alloc (by omega) _) hg9 (by rw [asz]; omega) (by omega)⟩
      unfold splE
      rw [if_pos (by exact HO.out), if_neg (by rw [HG.out]; exact HY.out)]
      exact res_zero _ _ _
end Go.Proofs.Ytpgbpfdedpppeaa
