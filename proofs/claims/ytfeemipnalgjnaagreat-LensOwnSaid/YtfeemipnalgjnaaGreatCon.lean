/-
 narrowing's closure, undivided, connected, lensOf's closures, by contracts.
-/
import Derived.Test.YtfeemipnalgjnaaGreatHb
import Derived.Test.YtfeemipnalgjnaaGreatDvd
namespace Go.Proofs.YtfeemipnalgjnaaGreat
open Go.RowKit

set_option maxHeartbeats 4000000 in
set_option maxRecDepth 20000 in
theorem narrowing1_any (A : Option Addr) (n c : Nat) (r : List Ce) (i : Int) (g : Nat) (w : World) (hn : n = r.length) (hs : Ces w w.heap.size A r) (hl : n ≤ 1000) (hc : n ≤ c) (hcm : c ≤ 9223372036854775807) (hi : Inc r) (hz : ∀ d ∈ r, d.v.s.size ≤ 1000) (hg : CB w g 3 [.int .i64 i]) :
  Calls Tryz.prog 87 #[.agg #[.slice A n c], .pointer (some ⟨g, 0, none⟩)] w fun e w' => RetO w w' (narP r i) e ∧ Below w.heap.size w w' := by
 have HN := Li hn
 have HS := Li hs
 have hgl := hg.lt
 have hdz := vsz hi hz i
 have R0 := Li ((CB.new w 30 [.slice A n c]).alloc (.cells #[.slice none 0 0] 30))
 have I0 := Li ((hg.alloc (.cells #[.slice A n c] 30)).alloc (.cells #[.slice none 0 0] 30))
 have T0 := Li (CB.new1 w (.cells #[.slice A n c] 30) 30 [.slice none 0 0])
 have B0 := Li (al2 w (.cells #[.slice A n c] 30) (.cells #[.slice none 0 0] 30))
 have zI0 := I0.out.lt
 have i00 := I0.out.cell 0 rfl
 obtain ⟨d, hd⟩ : ∃ d, getL r i = d := ⟨_, rfl⟩
 rw [hd] at hdz
 have HDZ : Hid (d.s.size ≤ 9223372036854775807) := by show _ ≤ _; omega
 have HD := Li hd
 clear hs hn hg hdz hz
 cases hv : okV d 2 with
 | true =>
  have HV := Li hv
  have HE := Li (show narP r i = setL r i d by unfold narP; rw [hd, hv]; rfl)
  clear hd hv
  go_enter Tryz.func87, Tryz.ntmps87
  go_wp2_with (first | (go_at_call 88; refine (valueOf_any A n c r i _ HN.out (HS.out.up B0.out) (by omega) hi).mono ?_; rintro e w1 ⟨rfl, hb1⟩; rw [HD.out]; have B1 := Li (below_step B0.out B0.out.size hb1); have R1 := Li (R0.out.up hb1); have I1 := Li (I0.out.up hb1); have T1 := Li (T0.out.up hb1); have zR1 := R1.out.lt; have zI1 := I1.out.lt; have zT1 := T1.out.lt; clear hb1) | ((with_reducible show wpList _ _ _ (Oper.mk none (.store _ _ _) _ _ _ _ :: _) _ _); (with_reducible show wpList _ _ _ (Oper.mk none (.store _ (.tmp 4) (.tmp 7)) _ _ _ _ :: _) _ _); go_loud (refine wpList_store_cb rfl 62 (.tmp 4) (.tmp 7) rfl w1.heap.size [.bool d.b, .int .i64 d.n, .string d.s] rfl rfl 62 [.bool false, .int .i64 0, .string ⟨#[]⟩] 3 (CB.new w1 62 [.bool false, .int .i64 0, .string ⟨#[]⟩]) sizeVa rfl rfl (one_va _ _ _) ?_; intro s2 hc2 hg2 hz2; have N2 := Li hc2; have R2 := Li ((R1.out.alloc (.cells #[.bool false, .int .i64 0, .string ⟨#[]⟩] 62)).grown hg2 (by intro h; injection h with h; omega)); have I2 := Li ((I1.out.alloc (.cells #[.bool false, .int .i64 0, .string ⟨#[]⟩] 62)).grown hg2 (by intro h; injection h with h; omega)); have T2 := Li ((T1.out.alloc (.cells #[.bool false, .int .i64 0, .string ⟨#[]⟩] 62)).grown hg2 (by intro h; injection h with h; omega)); have B2 := Li (below_grown (B1.out.alloc B1.out.size (.cells #[.bool false, .int .i64 0, .string ⟨#[]⟩] 62)) hg2 (B1.out.alloc B1.out.size (.cells #[.bool false, .int .i64 0, .string ⟨#[]⟩] 62)).size B1.out.size); have zQ := Li B1.out.size; have zN2 := N2.out.lt; have nk0 := N2.out.c3; clear hc2 hg2)) | (go_at_call 73; refine (Valid_any d 2 true _ HV.out HDZ.out).mono ?_; rintro e w3 ⟨rfl, hb3⟩; have B3 := Li (below_step B2.out B2.out.size hb3); have R3 := Li (R2.out.up hb3); have I3 := Li (I2.out.up hb3); have T3 := Li (T2.out.up hb3); have N3 := Li (N2.out.up hb3); have zR3 := R3.out.lt; have zI3 := I3.out.lt; have zN3 := N3.out.lt; have zT3 := T3.out.lt; have r30 := R3.out.cell 0 rfl; have i30 := I3.out.cell 0 rfl; have n30 := N3.out.c3; clear hb3) | (go_at_call 85; refine (withC_any A n c r i d _ HN.out (HS.out.up B3.out) (by omega) hc hcm hi).mono ?_; rintro e w6 ⟨⟨A6, c6, rfl, ho6⟩, hb6⟩; have HO := Li (ho6.low (b := w.heap.size) B3.out.size); have B6 := Li (below_step B3.out B3.out.size hb6); have T6 := Li (T3.out.up hb6); have zT6 := T6.out.lt; have t60 := T6.out.cell 0 rfl; have t6f := T6.out.frozen 0; clear ho6 hb6))
  have hne := HO.out.ne T6.out (by decide)
  refine bodyPost_ret (res_cell1 Tryz.results87 rfl (T6.out.set_ 0 (.slice A6 (setL r i d).length c6)) Tryz.underlying30 sizeRw rfl) rfl ⟨?_, B6.out.setCell (p := ⟨w.heap.size + 1, 0, none⟩) (by show w.heap.size ≤ w.heap.size + 1; omega) _⟩
  rw [HE.out]
  exact ⟨A6, c6, rfl, HO.out.set_ 0 _ hne⟩
 | false =>
  have HV := Li hv
  have HE := Li (show narP r i = setL r i ⟨true, 0, ⟨#[]⟩⟩ by unfold narP; rw [hd, hv]; rfl)
  clear hd hv
  go_enter Tryz.func87, Tryz.ntmps87
  go_wp2_with (first | (go_at_call 88; refine (valueOf_any A n c r i _ HN.out (HS.out.up B0.out) (by omega) hi).mono ?_; rintro e w1 ⟨rfl, hb1⟩; rw [HD.out]; have B1 := Li (below_step B0.out B0.out.size hb1); have R1 := Li (R0.out.up hb1); have I1 := Li (I0.out.up hb1); have T1 := Li (T0.out.up hb1); have zR1 := R1.out.lt; have zI1 := I1.out.lt; have zT1 := T1.out.lt; clear hb1) | ((with_reducible show wpList _ _ _ (Oper.mk none (.store _ _ _) _ _ _ _ :: _) _ _); (with_reducible show wpList _ _ _ (Oper.mk none (.store _ (.tmp 4) (.tmp 7)) _ _ _ _ :: _) _ _); go_loud (refine wpList_store_cb rfl 62 (.tmp 4) (.tmp 7) rfl w1.heap.size [.bool d.b, .int .i64 d.n, .string d.s] rfl rfl 62 [.bool false, .int .i64 0, .string ⟨#[]⟩] 3 (CB.new w1 62 [.bool false, .int .i64 0, .string ⟨#[]⟩]) sizeVa rfl rfl (one_va _ _ _) ?_; intro s2 hc2 hg2 hz2; have N2 := Li hc2; have R2 := Li ((R1.out.alloc (.cells #[.bool false, .int .i64 0, .string ⟨#[]⟩] 62)).grown hg2 (by intro h; injection h with h; omega)); have I2 := Li ((I1.out.alloc (.cells #[.bool false, .int .i64 0, .string ⟨#[]⟩] 62)).grown hg2 (by intro h; injection h with h; omega)); have T2 := Li ((T1.out.alloc (.cells #[.bool false, .int .i64 0, .string ⟨#[]⟩] 62)).grown hg2 (by intro h; injection h with h; omega)); have B2 := Li (below_grown (B1.out.alloc B1.out.size (.cells #[.bool false, .int .i64 0, .string ⟨#[]⟩] 62)) hg2 (B1.out.alloc B1.out.size (.cells #[.bool false, .int .i64 0, .string ⟨#[]⟩] 62)).size B1.out.size); have zQ := Li B1.out.size; have zN2 := N2.out.lt; have nk0 := N2.out.c3; clear hc2 hg2)) | (go_at_call 73; refine (Valid_any d 2 false _ HV.out HDZ.out).mono ?_; rintro e w3 ⟨rfl, hb3⟩; have B3 := Li (below_step B2.out B2.out.size hb3); have R3 := Li (R2.out.up hb3); have I3 := Li (I2.out.up hb3); have T3 := Li (T2.out.up hb3); have N3 := Li (N2.out.up hb3); have zR3 := R3.out.lt; have zI3 := I3.out.lt; have zN3 := N3.out.lt; have zT3 := T3.out.lt; have r30 := R3.out.cell 0 rfl; have i30 := I3.out.cell 0 rfl; have n30 := N3.out.c3; clear hb3) | (go_at_call 86; refine (null_any _).mono ?_; rintro e w4 ⟨rfl, hb4⟩; have B4 := Li (below_step B3.out B3.out.size hb4); have R4 := Li (R3.out.up hb4); have I4 := Li (I3.out.up hb4); have T4 := Li (T3.out.up hb4); have N4 := Li (N3.out.up hb4); clear hb4) | ((with_reducible show wpList _ _ _ (Oper.mk none (.store _ _ _) _ _ _ _ :: _) _ _); (with_reducible show wpList _ _ _ (Oper.mk none (.store _ (.tmp 4) (.tmp 11)) _ _ _ _ :: _) _ _); go_loud (refine wpList_store_cb rfl 62 (.tmp 4) (.tmp 11) rfl w1.heap.size [.bool true, .int .i64 0, .string ⟨#[]⟩] rfl rfl 62 [.bool d.b, .int .i64 d.n, .string d.s] 3 (N4.out) sizeVa rfl rfl (one_va _ _ _) ?_; intro s5 hc5 hg5 hz5; have N5 := Li hc5; have R5 := Li (R4.out.grown hg5 (by intro h; injection h with h; omega)); have I5 := Li (I4.out.grown hg5 (by intro h; injection h with h; omega)); have T5 := Li (T4.out.grown hg5 (by intro h; injection h with h; omega)); have B5 := Li (below_grown B4.out hg5 B4.out.size (Nat.le_trans (by omega) zQ.out)); have zN5 := N5.out.lt; have zR5 := R5.out.lt; have zI5 := I5.out.lt; have zT5 := T5.out.lt; have n50 := N5.out.c3; have r50 := R5.out.cell 0 rfl; have i50 := I5.out.cell 0 rfl; clear hc5 hg5)) | (go_at_call 85; refine (withC_any A n c r i ⟨true, 0, ⟨#[]⟩⟩ _ HN.out (HS.out.up B5.out) (by omega) hc hcm hi).mono ?_; rintro e w6 ⟨⟨A6, c6, rfl, ho6⟩, hb6⟩; have HO := Li (ho6.low (b := w.heap.size) B5.out.size); have B6 := Li (below_step B5.out B5.out.size hb6); have T6 := Li (T5.out.up hb6); have zT6 := T6.out.lt; have t60 := T6.out.cell 0 rfl; have t6f := T6.out.frozen 0; clear ho6 hb6))
  have hne := HO.out.ne T6.out (by decide)
  refine bodyPost_ret (res_cell1 Tryz.results87 rfl (T6.out.set_ 0 (.slice A6 (setL r i ⟨true, 0, ⟨#[]⟩⟩).length c6)) Tryz.underlying30 sizeRw rfl) rfl ⟨?_, B6.out.setCell (p := ⟨w.heap.size + 1, 0, none⟩) (by show w.heap.size ≤ w.heap.size + 1; omega) _⟩
  rw [HE.out]
  exact ⟨A6, c6, rfl, HO.out.set_ 0 _ hne⟩

set_option maxHeartbeats 4000000 in
set_option maxRecDepth 20000 in
theorem connected_tt (an bn : Int) (as0 bs sep : ByteArray) (w : World) :
  Calls Tryz.prog 70 #[.agg #[.bool true, .int .i64 an, .string as0], .agg #[.bool true, .int .i64 bn, .string bs], .string sep] w fun e w' => e = .returned (.agg #[.bool true, .int .i64 0, .string ⟨#[]⟩]) ∧ Below w.heap.size w w' := by
 have P0 := Li (((CB.new w 62 [.bool true, .int .i64 an, .string as0]).alloc (.cells #[.bool true, .int .i64 bn, .string bs] 62)).alloc (.cells #[.bool false, .int .i64 0, .string ⟨#[]⟩] 62))
 have Q0 := Li ((CB.new1 w (.cells #[.bool true, .int .i64 an, .string as0] 62) 62 [.bool true, .int .i64 bn, .string bs]).alloc (.cells #[.bool false, .int .i64 0, .string ⟨#[]⟩] 62))
 have T0 := Li (CB.new2 w (.cells #[.bool true, .int .i64 an, .string as0] 62) (.cells #[.bool true, .int .i64 bn, .string bs] 62) 62 [.bool false, .int .i64 0, .string ⟨#[]⟩])
 have B0 := Li (al3 w (.cells #[.bool true, .int .i64 an, .string as0] 62) (.cells #[.bool true, .int .i64 bn, .string bs] 62) (.cells #[.bool false, .int .i64 0, .string ⟨#[]⟩] 62))
 go_enter Tryz.func70, Tryz.ntmps70
 go_wp2_with (first | (go_at_call 86; refine (null_any _).mono ?_; rintro e w1 ⟨rfl, hb1⟩; have B1 := Li (below_step B0.out B0.out.size hb1); have T1 := Li (T0.out.up hb1); clear hb1) | ((with_reducible show wpList _ _ _ (Oper.mk none (.store _ _ _) _ _ _ _ :: _) _ _); (with_reducible show wpList _ _ _ (Oper.mk none (.store _ (.tmp 6) (.tmp 14)) _ _ _ _ :: _) _ _); go_loud (refine wpList_store_cb rfl 62 (.tmp 6) (.tmp 14) rfl (w.heap.size + 1 + 1) [.bool true, .int .i64 0, .string ⟨#[]⟩] rfl rfl 62 [.bool false, .int .i64 0, .string ⟨#[]⟩] 3 (T1.out) sizeVa rfl rfl (one_va _ _ _) ?_; intro s2 hc2 hg2 hz2; have E2 := Li hc2; have F2 := Li (below_grown B1.out hg2 B1.out.size (by omega)); clear hc2 hg2)))
 refine bodyPost_ret (res_cell1 Tryz.results70 rfl E2.out Tryz.underlying62 sizeVa rfl) rfl ⟨rfl, F2.out⟩

set_option maxHeartbeats 4000000 in
set_option maxRecDepth 20000 in
theorem connected_tf (an bn : Int) (as0 bs sep : ByteArray) (w : World) (hz : (as0 ++ sep ++ bs).size ≤ 3000000) :
  Calls Tryz.prog 70 #[.agg #[.bool true, .int .i64 an, .string as0], .agg #[.bool false, .int .i64 bn, .string bs], .string sep] w fun e w' => e = .returned (.agg #[.bool false, .int .i64 0, .string (cut200 (as0 ++ sep ++ bs))]) ∧ Below w.heap.size w w' := by
 obtain ⟨S, hS⟩ : ∃ S, as0 ++ sep ++ bs = S := ⟨_, rfl⟩
 have hz0 : as0.size + sep.size + bs.size ≤ 3000000 := by rw [ByteArray.size_append, ByteArray.size_append] at hz; exact hz
 have j1 : ¬ 9223372036854775807 < as0.size + sep.size := by omega
 have j2 : ¬ 9223372036854775807 < as0.size + sep.size + bs.size := by omega
 clear hz0
 rw [hS] at hz ⊢
 have HC : Hid (cut200 S = S.extract 0 (min S.size 200)) := rfl
 obtain ⟨m, hm⟩ : ∃ m, min S.size 200 = m := ⟨_, rfl⟩
 have hm1 : min (S.size : Int) 200 = (m : Int) := by omega
 have hm2 : (m : Int) ≤ (S.size : Int) := by omega
 rw [hm] at HC
 rw [HC.out]
 clear hm HC
 go_enter Tryz.func70, Tryz.ntmps70
 go_wp2
 refine bodyPost_ret (res_cell1 Tryz.results70 rfl (CB.new2 w (.cells #[.bool true, .int .i64 an, .string as0] 62) (.cells #[.bool false, .int .i64 bn, .string bs] 62) 62 [.bool false, .int .i64 0, .string (S.extract 0 m)]) Tryz.underlying62 sizeVa rfl) rfl ⟨rfl, al3 w (.cells #[.bool true, .int .i64 an, .string as0] 62) (.cells #[.bool false, .int .i64 bn, .string bs] 62) (.cells #[.bool false, .int .i64 0, .string (S.extract 0 m)] 62)⟩

set_option maxHeartbeats 4000000 in
set_option maxRecDepth 20000 in
theorem connected_ft (an bn : Int) (as0 bs sep : ByteArray) (w : World) (hz : (as0 ++ sep ++ bs).size ≤ 3000000) :
  Calls Tryz.prog 70 #[.agg #[.bool false, .int .i64 an, .string as0], .agg #[.bool true, .int .i64 bn, .string bs], .string sep] w fun e w' => e = .returned (.agg #[.bool false, .int .i64 0, .string (cut200 (as0 ++ sep ++ bs))]) ∧ Below w.heap.size w w' := by
 obtain ⟨S, hS⟩ : ∃ S, as0 ++ sep ++ bs = S := ⟨_, rfl⟩
 have hz0 : as0.size + sep.size + bs.size ≤ 3000000 := by rw [ByteArray.size_append, ByteArray.size_append] at hz; exact hz
 have j1 : ¬ 9223372036854775807 < as0.size + sep.size := by omega
 have j2 : ¬ 9223372036854775807 < as0.size + sep.size + bs.size := by omega
 clear hz0
 rw [hS] at hz ⊢
 have HC : Hid (cut200 S = S.extract 0 (min S.size 200)) := rfl
 obtain ⟨m, hm⟩ : ∃ m, min S.size 200 = m := ⟨_, rfl⟩
 have hm1 : min (S.size : Int) 200 = (m : Int) := by omega
 have hm2 : (m : Int) ≤ (S.size : Int) := by omega
 rw [hm] at HC
 rw [HC.out]
 clear hm HC
 go_enter Tryz.func70, Tryz.ntmps70
 go_wp2
 refine bodyPost_ret (res_cell1 Tryz.results70 rfl (CB.new2 w (.cells #[.bool false, .int .i64 an, .string as0] 62) (.cells #[.bool true, .int .i64 bn, .string bs] 62) 62 [.bool false, .int .i64 0, .string (S.extract 0 m)]) Tryz.underlying62 sizeVa rfl) rfl ⟨rfl, al3 w (.cells #[.bool false, .int .i64 an, .string as0] 62) (.cells #[.bool true, .int .i64 bn, .string bs] 62) (.cells #[.bool false, .int .i64 0, .string (S.extract 0 m)] 62)⟩

set_option maxHeartbeats 4000000 in
set_option maxRecDepth 20000 in
theorem connected_ff (an bn : Int) (as0 bs sep : ByteArray) (w : World) (hz : (as0 ++ sep ++ bs).size ≤ 3000000) :
  Calls Tryz.prog 70 #[.agg #[.bool false, .int .i64 an, .string as0], .agg #[.bool false, .int .i64 bn, .string bs], .string sep] w fun e w' => e = .returned (.agg #[.bool false, .int .i64 0, .string (cut200 (as0 ++ sep ++ bs))]) ∧ Below w.heap.size w w' := by
 obtain ⟨S, hS⟩ : ∃ S, as0 ++ sep ++ bs = S := ⟨_, rfl⟩
 have hz0 : as0.size + sep.size + bs.size ≤ 3000000 := by rw [ByteArray.size_append, ByteArray.size_append] at hz; exact hz
 have j1 : ¬ 9223372036854775807 < as0.size + sep.size := by omega
 have j2 : ¬ 9223372036854775807 < as0.size + sep.size + bs.size := by omega
 clear hz0
 rw [hS] at hz ⊢
 have HC : Hid (cut200 S = S.extract 0 (min S.size 200)) := rfl
 obtain ⟨m, hm⟩ : ∃ m, min S.size 200 = m := ⟨_, rfl⟩
 have hm1 : min (S.size : Int) 200 = (m : Int) := by omega
 have hm2 : (m : Int) ≤ (S.size : Int) := by omega
 rw [hm] at HC
 rw [HC.out]
 clear hm HC
 go_enter Tryz.func70, Tryz.ntmps70
 go_wp2
 refine bodyPost_ret (res_cell1 Tryz.results70 rfl (CB.new2 w (.cells #[.bool false, .int .i64 an, .string as0] 62) (.cells #[.bool false, .int .i64 bn, .string bs] 62) 62 [.bool false, .int .i64 0, .string (S.extract 0 m)]) Tryz.underlying62 sizeVa rfl) rfl ⟨rfl, al3 w (.cells #[.bool false, .int .i64 an, .string as0] 62) (.cells #[.bool false, .int .i64 bn, .string bs] 62) (.cells #[.bool false, .int .i64 0, .string (S.extract 0 m)] 62)⟩

theorem connected_any (a b : Va) (sep : ByteArray) (w : World) (hz : a.s.size ≤ 1000000) (hz2 : b.s.size ≤ 1000000) (hz3 : sep.size ≤ 1000000) :
  Calls Tryz.prog 70 #[.agg #[.bool a.b, .int .i64 a.n, .string a.s], .agg #[.bool b.b, .int .i64 b.n, .string b.s], .string sep] w fun e w' => e = .returned (.agg #[.bool (conL a b sep).b, .int .i64 (conL a b sep).n, .string (conL a b sep).s]) ∧ Below w.heap.size w w' := by
 obtain ⟨ab, an, as0⟩ := a
 obtain ⟨bb, bn, bs⟩ := b
 have hsz : (as0 ++ sep ++ bs).size ≤ 3000000 := by
  rw [ByteArray.size_append, ByteArray.size_append]; simp only at hz hz2; omega
 cases ab <;> cases bb
 ·
  exact connected_ff an bn as0 bs sep w hsz
 ·
  exact connected_ft an bn as0 bs sep w hsz
 ·
  exact connected_tf an bn as0 bs sep w hsz
 ·
  exact connected_tt an bn as0 bs sep w
set_option maxHeartbeats 4000000 in
set_option maxRecDepth 20000 in
theorem undivided_t (a : Va) (bn : Int) (bs sep : ByteArray) (w : World) :
  Calls Tryz.prog 68 #[.agg #[.bool a.b, .int .i64 a.n, .string a.s], .agg #[.bool true, .int .i64 bn, .string bs], .string sep] w fun e w' => e = .returned (.agg #[.bool a.b, .int .i64 a.n, .string a.s]) ∧ Below w.heap.size w w' := by
 go_enter Tryz.func68, Tryz.ntmps68
 go_wp2
 refine bodyPost_ret (res_cell1 Tryz.results68 rfl (CB.new2 w (.cells #[.bool a.b, .int .i64 a.n, .string a.s] 62) (.cells #[.bool true, .int .i64 bn, .string bs] 62) 62 [.bool a.b, .int .i64 a.n, .string a.s]) Tryz.underlying62 sizeVa rfl) rfl ⟨rfl, al3 w (.cells #[.bool a.b, .int .i64 a.n, .string a.s] 62) (.cells #[.bool true, .int .i64 bn, .string bs] 62) (.cells #[.bool a.b, .int .i64 a.n, .string a.s] 62)⟩
set_option maxHeartbeats 4000000 in
set_option maxRecDepth 20000 in
theorem undivided_f (a : Va) (bn : Int) (bs sep : ByteArray) (w : World) (hz : a.s.size ≤ 1000000) (hz2 : bs.size ≤ 1000000) (hz3 : sep.size ≤ 1000000) :
  Calls Tryz.prog 68 #[.agg #[.bool a.b, .int .i64 a.n, .string a.s], .agg #[.bool false, .int .i64 bn, .string bs], .string sep] w fun e w' => e = .returned (.agg #[.bool (conL a ⟨false, bn, bs⟩ sep).b, .int .i64 (conL a ⟨false, bn, bs⟩ sep).n, .string (conL a ⟨false, bn, bs⟩ sep).s]) ∧ Below w.heap.size w w' := by
 have P0 := Li (((CB.new w 62 [.bool a.b, .int .i64 a.n, .string a.s]).alloc (.cells #[.bool false, .int .i64 bn, .string bs] 62)).alloc (.cells #[.bool false, .int .i64 0, .string ⟨#[]⟩] 62))
 have Q0 := Li ((CB.new1 w (.cells #[.bool a.b, .int .i64 a.n, .string a.s] 62) 62 [.bool false, .int .i64 bn, .string bs]).alloc (.cells #[.bool false, .int .i64 0, .string ⟨#[]⟩] 62))
 have T0 := Li (CB.new2 w (.cells #[.bool a.b, .int .i64 a.n, .string a.s] 62) (.cells #[.bool false, .int .i64 bn, .string bs] 62) 62 [.bool false, .int .i64 0, .string ⟨#[]⟩])
 have B0 := Li (al3 w (.cells #[.bool a.b, .int .i64 a.n, .string a.s] 62) (.cells #[.bool false, .int .i64 bn, .string bs] 62) (.cells #[.bool false, .int .i64 0, .string ⟨#[]⟩] 62))
 have HZ := Li hz
 have HZ2 := Li hz2
 have HZ3 := Li hz3
 clear hz hz2 hz3
 go_enter Tryz.func68, Tryz.ntmps68
 go_wp2_with (first | (go_at_call 70; refine (connected_any a ⟨false, bn, bs⟩ sep _ HZ.out HZ2.out HZ3.out).mono ?_; rintro e w1 ⟨rfl, hb1⟩; have B1 := Li (below_step B0.out B0.out.size hb1); have T1 := Li (T0.out.up hb1); clear hb1) | ((with_reducible show wpList _ _ _ (Oper.mk none (.store _ _ _) _ _ _ _ :: _) _ _); (with_reducible show wpList _ _ _ (Oper.mk none (.store _ (.tmp 6) (.tmp 13)) _ _ _ _ :: _) _ _); go_loud (refine wpList_store_cb rfl 62 (.tmp 6) (.tmp 13) rfl (w.heap.size + 1 + 1) [.bool (conL a ⟨false, bn, bs⟩ sep).b, .int .i64 (conL a ⟨false, bn, bs⟩ sep).n, .string (conL a ⟨false, bn, bs⟩ sep).s] rfl rfl 62 [.bool false, .int .i64 0, .string ⟨#[]⟩] 3 (T1.out) sizeVa rfl rfl (one_va _ _ _) ?_; intro s2 hc2 hg2 hz2; have E2 := Li hc2; have F2 := Li (below_grown B1.out hg2 B1.out.size (by omega)); clear hc2 hg2)))
 refine bodyPost_ret (res_cell1 Tryz.results68 rfl E2.out Tryz.underlying62 sizeVa rfl) rfl ⟨rfl, F2.out⟩
theorem undivided_any (a b : Va) (sep : ByteArray) (w : World) (hz : a.s.size ≤ 1000000) (hz2 : b.s.size ≤ 1000000) (hz3 : sep.size ≤ 1000000) :
  Calls Tryz.prog 68 #[.agg #[.bool a.b, .int .i64 a.n, .string a.s], .agg #[.bool b.b, .int .i64 b.n, .string b.s], .string sep] w fun e w' => e = .returned (.agg #[.bool (undP a b sep).b, .int .i64 (undP a b sep).n, .string (undP a b sep).s]) ∧ Below w.heap.size w w' := by
 obtain ⟨bb, bn, bs⟩ := b
 cases bb
 ·
  exact undivided_f a bn bs sep w hz hz2 hz3
 ·
  exact undivided_t a bn bs sep w
set_option maxHeartbeats 4000000 in
set_option maxRecDepth 20000 in
theorem lensOf1_any (a b : Va) (kd id wi : Int) (nm ot : ByteArray) (ty pa : Int) (sep : ByteArray) (g : Nat) (w : World) (hz : a.s.size ≤ 1000000) (hz2 : b.s.size ≤ 1000000) (hz3 : sep.size ≤ 1000000) (hg : CB w g 24 [.int .i64 kd, .int .i64 id, .int .i64 wi, .string nm, .string ot, .int .i64 ty, .int .i64 pa, .string sep]) :
  Calls Tryz.prog 67 #[.agg #[.bool a.b, .int .i64 a.n, .string a.s], .agg #[.bool b.b, .int .i64 b.n, .string b.s], .pointer (some ⟨g, 0, none⟩)] w fun e w' => e = .returned (.agg #[.bool (undP a b sep).b, .int .i64 (undP a b sep).n, .string (undP a b sep).s]) ∧ Below w.heap.size w w' := by
 have P0 := Li (((CB.new w 62 [.bool a.b, .int .i64 a.n, .string a.s]).alloc (.cells #[.bool b.b, .int .i64 b.n, .string b.s] 62)).alloc (.cells #[.bool false, .int .i64 0, .string ⟨#[]⟩] 62))
 have Q0 := Li ((CB.new1 w (.cells #[.bool a.b, .int .i64 a.n, .string a.s] 62) 62 [.bool b.b, .int .i64 b.n, .string b.s]).alloc (.cells #[.bool false, .int .i64 0, .string ⟨#[]⟩] 62))
 have T0 := Li (CB.new2 w (.cells #[.bool a.b, .int .i64 a.n, .string a.s] 62) (.cells #[.bool b.b, .int .i64 b.n, .string b.s] 62) 62 [.bool false, .int .i64 0, .string ⟨#[]⟩])
 have B0 := Li (al3 w (.cells #[.bool a.b, .int .i64 a.n, .string a.s] 62) (.cells #[.bool b.b, .int .i64 b.n, .string b.s] 62) (.cells #[.bool false, .int .i64 0, .string ⟨#[]⟩] 62))
 have HZ := Li hz
 have HZ2 := Li hz2
 have HZ3 := Li hz3
 have G0 := Li (((hg.alloc (.cells #[.bool a.b, .int .i64 a.n, .string a.s] 62)).alloc (.cells #[.bool b.b, .int .i64 b.n, .string b.s] 62)).alloc (.cells #[.bool false, .int .i64 0, .string ⟨#[]⟩] 62))
 have g07 := G0.out.cell 7 rfl
 have zg := hg.lt
 have TT := T0
 clear hz hz2 hz3 hg
 go_enter Tryz.func67, Tryz.ntmps67
 go_wp2_with (first | (go_at_call 68; refine (undivided_any a b sep _ HZ.out HZ2.out HZ3.out).mono ?_; rintro e w1 ⟨rfl, hb1⟩; have B1 := Li (below_step B0.out B0.out.size hb1); have T1 := Li (T0.out.up hb1); clear hb1) | ((with_reducible show wpList _ _ _ (Oper.mk none (.store _ _ _) _ _ _ _ :: _) _ _); (with_reducible show wpList _ _ _ (Oper.mk none (.store _ (.tmp 5) (.tmp 10)) _ _ _ _ :: _) _ _); go_loud (refine wpList_store_cb rfl 62 (.tmp 5) (.tmp 10) rfl (w.heap.size + 1 + 1) [.bool (undP a b sep).b, .int .i64 (undP a b sep).n, .string (undP a b sep).s] rfl rfl 62 [.bool false, .int .i64 0, .string ⟨#[]⟩] 3 (T1.out) sizeVa rfl rfl (one_va _ _ _) ?_; intro s2 hc2 hg2 hz2; have E2 := Li hc2; have F2 := Li (below_grown B1.out hg2 B1.out.size (by omega)); clear hc2 hg2)))
 refine bodyPost_ret (res_cell1 Tryz.results67 rfl E2.out Tryz.underlying62 sizeVa rfl) rfl ⟨rfl, F2.out⟩
set_option maxHeartbeats 4000000 in
set_option maxRecDepth 20000 in
theorem lensOf2_any (a b : Va) (kd id wi : Int) (nm ot : ByteArray) (ty pa : Int) (sep : ByteArray) (g : Nat) (w : World) (hz : a.s.size ≤ 1000000) (hz2 : b.s.size ≤ 1000000) (hz3 : sep.size ≤ 1000000) (hg : CB w g 24 [.int .i64 kd, .int .i64 id, .int .i64 wi, .string nm, .string ot, .int .i64 ty, .int .i64 pa, .string sep]) :
  Calls Tryz.prog 69 #[.agg #[.bool a.b, .int .i64 a.n, .string a.s], .agg #[.bool b.b, .int .i64 b.n, .string b.s], .pointer (some ⟨g, 0, none⟩)] w fun e w' => e = .returned (.agg #[.bool (conL a b sep).b, .int .i64 (conL a b sep).n, .string (conL a b sep).s]) ∧ Below w.heap.size w w' := by
 have P0 := Li (((CB.new w 62 [.bool a.b, .int .i64 a.n, .string a.s]).alloc (.cells #[.bool b.b, .int .i64 b.n, .string b.s] 62)).alloc (.cells #[.bool false, .int .i64 0, .string ⟨#[]⟩] 62))
 have Q0 := Li ((CB.new1 w (.cells #[.bool a.b, .int .i64 a.n, .string a.s] 62) 62 [.bool b.b, .int .i64 b.n, .string b.s]).alloc (.cells #[.bool false, .int .i64 0, .string ⟨#[]⟩] 62))
 have T0 := Li (CB.new2 w (.cells #[.bool a.b, .int .i64 a.n, .string a.s] 62) (.cells #[.bool b.b, .int .i64 b.n, .string b.s] 62) 62 [.bool false, .int .i64 0, .string ⟨#[]⟩])
 have B0 := Li (al3 w (.cells #[.bool a.b, .int .i64 a.n, .string a.s] 62) (.cells #[.bool b.b, .int .i64 b.n, .string b.s] 62) (.cells #[.bool false, .int .i64 0, .string ⟨#[]⟩] 62))
 have HZ := Li hz
 have HZ2 := Li hz2
 have HZ3 := Li hz3
 have G0 := Li (((hg.alloc (.cells #[.bool a.b, .int .i64 a.n, .string a.s] 62)).alloc (.cells #[.bool b.b, .int .i64 b.n, .string b.s] 62)).alloc (.cells #[.bool false, .int .i64 0, .string ⟨#[]⟩] 62))
 have g07 := G0.out.cell 7 rfl
 have zg := hg.lt
 have TT := T0
 clear hz hz2 hz3 hg
 go_enter Tryz.func69, Tryz.ntmps69
 go_wp2_with (first | (go_at_call 70; refine (connected_any a b sep _ HZ.out HZ2.out HZ3.out).mono ?_; rintro e w1 ⟨rfl, hb1⟩; have B1 := Li (below_step B0.out B0.out.size hb1); have T1 := Li (T0.out.up hb1); clear hb1) | ((with_reducible show wpList _ _ _ (Oper.mk none (.store _ _ _) _ _ _ _ :: _) _ _); (with_reducible show wpList _ _ _ (Oper.mk none (.store _ (.tmp 5) (.tmp 10)) _ _ _ _ :: _) _ _); go_loud (refine wpList_store_cb rfl 62 (.tmp 5) (.tmp 10) rfl (w.heap.size + 1 + 1) [.bool (conL a b sep).b, .int .i64 (conL a b sep).n, .string (conL a b sep).s] rfl rfl 62 [.bool false, .int .i64 0, .string ⟨#[]⟩] 3 (T1.out) sizeVa rfl rfl (one_va _ _ _) ?_; intro s2 hc2 hg2 hz2; have E2 := Li hc2; have F2 := Li (below_grown B1.out hg2 B1.out.size (by omega)); clear hc2 hg2)))
 refine bodyPost_ret (res_cell1 Tryz.results69 rfl E2.out Tryz.underlying62 sizeVa rfl) rfl ⟨rfl, F2.out⟩
end Go.Proofs.YtfeemipnalgjnaaGreat
