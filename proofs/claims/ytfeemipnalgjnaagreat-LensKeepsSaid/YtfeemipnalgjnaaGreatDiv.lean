/-
 The closures of dividing and connecting, and the functions that make closures, by contracts.
-/
import Derived.Test.YtfeemipnalgjnaaGreatHd
import Derived.Test.YtfeemipnalgjnaaGreatCon
import Derived.Deep.RegionHeld3
namespace Go.Proofs.YtfeemipnalgjnaaGreat
open Go.RowKit

set_option maxHeartbeats 8000000 in
set_option maxRecDepth 20000 in
theorem dividing1_any (A : Option Addr) (n c : Nat) (r : List Ce) (wh p0 p1 : Int) (sep : ByteArray) (g1 g2 g3 : Nat) (w : World) (hn : n = r.length) (hs : Ces w w.heap.size A r) (hl : n ≤ 1000) (hc : n ≤ c) (hcm : c ≤ 9223372036854775807) (hi : Inc r) (hz : ∀ d ∈ r, d.v.s.size ≤ 1000) (hG : GV w) (h1 : CB w g1 3 [.int .i64 wh]) (h2 : CB w g2 9 [.string sep]) (h3 : CB w g3 46 [.int .i64 p0, .int .i64 p1]) :
  Calls Tryz.prog 89 #[.agg #[.slice A n c], .pointer (some ⟨g1, 0, none⟩), .pointer (some ⟨g2, 0, none⟩), .pointer (some ⟨g3, 0, none⟩)] w fun e w' => RetO w w' (diP r wh p0 p1 sep) e ∧ Below w.heap.size w w' := by
 have HN := Li hn
 have HS := Li hs
 have R0 := Li ((CB.new w 30 [.slice A n c]).alloc (.cells #[.slice none 0 0] 30))
 have T0 := Li (CB.new1 w (.cells #[.slice A n c] 30) 30 [.slice none 0 0])
 have BB := Li (al2 w (.cells #[.slice A n c] 30) (.cells #[.slice none 0 0] 30))
 have I0 := Li ((h1.alloc (.cells #[.slice A n c] 30)).alloc (.cells #[.slice none 0 0] 30))
 have lI0 := h1.lt
 have S0 := Li ((h2.alloc (.cells #[.slice A n c] 30)).alloc (.cells #[.slice none 0 0] 30))
 have lS0 := h2.lt
 have P0 := Li ((h3.alloc (.cells #[.slice A n c] 30)).alloc (.cells #[.slice none 0 0] 30))
 have lP0 := h3.lt
 have HGV := Li hG
 have HLN := Li (show r.length ≤ 1000 by omega)
 have htz := vsz hi hz wh
 obtain ⟨t, ht⟩ : ∃ t, getL r wh = t := ⟨_, rfl⟩
 rw [ht] at htz
 have HTZ := Li htz
 have HD := Li ht
 obtain ⟨d1, hd1⟩ : ∃ d1, (divP t sep).1 = d1 := ⟨_, rfl⟩
 obtain ⟨d2, hd2⟩ : ∃ d2, (divP t sep).2 = d2 := ⟨_, rfl⟩
 have HD1 := Li hd1
 have HD2 := Li hd2
 have HE := Li (show diP r wh p0 p1 sep = setL (setL (setL r wh ⟨true, 0, ⟨#[]⟩⟩) p0 d1) p1 d2 by unfold diP; rw [ht, hd1, hd2]; rfl)
 clear hs hn h1 h2 h3 hG htz ht hd1 hd2 hz
 go_enter Tryz.func89, Tryz.ntmps89
 go_upto_region 1 with fail
 generalize (w.alloc (.cells #[.slice A n c] 30)).alloc (.cells #[.slice none 0 0] 30) = W0 at *
 go_cut [6, 7] from 8 to 15 (fun u v wx => ∃ g6 g7 : Nat, u = .pointer (some ⟨g6, 0, none⟩) ∧ v = .pointer (some ⟨g7, 0, none⟩) ∧ w.heap.size + 1 < g6 ∧ w.heap.size + 1 < g7 ∧ Hid (CB wx g6 62 [.bool d1.b, .int .i64 d1.n, .string d1.s]) ∧ Hid (CB wx g7 62 [.bool d2.b, .int .i64 d2.n, .string d2.s]) ∧ Hid (CB wx w.heap.size 30 [.slice A n c]) ∧ Hid (CB wx g1 3 [.int .i64 wh]) ∧ Hid (CB wx g3 46 [.int .i64 p0, .int .i64 p1]) ∧ Hid (CB wx (w.heap.size + 1) 30 [.slice none 0 0]) ∧ Hid (Below w.heap.size w wx))
 case first =>
  have R0 := Li R0.out.dr
  have I0 := Li I0.out.dr
  have S0 := Li S0.out.dr
  have T0 := Li T0.out.dr
  have P0 := Li P0.out.dr
  have BB := Li BB.out.drew
  refine wp_region_held_drew (S := fun w' => Hid (CB w' w.heap.size 30 [.slice A n c] ∧ CB w' g1 3 [.int .i64 wh] ∧ CB w' g2 9 [.string sep])) (by kernel_rfl) (Li ⟨R0.out, I0.out, S0.out⟩) (fun hHeld => ?_)
  revert hHeld R0 I0 S0 T0 P0 BB
  generalize W0.drew = X0
  intro R0 I0 S0 T0 P0 BB hHeld
  refine htf 0 (fun _ h => And.intro (h.out.1.cell 0 rfl) (And.intro (h.out.1.lt) (And.intro (h.out.2.1.cell 0 rfl) (And.intro (h.out.2.1.lt) (And.intro (h.out.2.2.cell 0 rfl) (h.out.2.2.lt)))))) ?_
  refine htf 1 (fun _ h => And.intro (h.out.1.cell 0 rfl) (And.intro (h.out.1.lt) (And.intro (h.out.2.1.cell 0 rfl) (And.intro (h.out.2.1.lt) (And.intro (h.out.2.2.cell 0 rfl) (h.out.2.2.lt)))))) ?_
  refine htf 3 (fun _ h => And.intro (h.out.1.cell 0 rfl) (And.intro (h.out.1.lt) (And.intro (h.out.2.1.cell 0 rfl) (And.intro (h.out.2.1.lt) (And.intro (h.out.2.2.cell 0 rfl) (h.out.2.2.lt)))))) ?_
  refine rd3 2 8 9 (fun KK hK => ?_) (fun KK hK => ?_) (fun KK hK => ?_)
  ·
   go_simp
   go_at_call 88
   refine (valueOf_any A n c r wh _ HN.out (HS.out.up BB.out) (by omega) hi).mono ?_
   rintro e v2 ⟨rfl, hb8⟩
   rw [HD.out]
   have R0 := Li (R0.out.up hb8)
   have I0 := Li (I0.out.up hb8)
   have S0 := Li (S0.out.up hb8)
   have T0 := Li (T0.out.up hb8)
   have P0 := Li (P0.out.up hb8)
   have BB := Li (below_step BB.out BB.out.size hb8)
   clear hb8
   go_wp2_with fail
   refine hK.out _ _ (Li ⟨R0.out, I0.out, S0.out⟩) (fun hHeld => ?_)
   clear hK KK
   try simp only [pnz]
   refine rd3 4 8 9 (fun KK hK => ?_) (fun KK hK => ?_) (fun KK hK => ?_)
   ·
    go_simp
    go_at_call 90
    refine (divided_any t sep _ (HGV.out.up BB.out) HTZ.out).mono ?_
    rintro e v4 ⟨rfl, hb8⟩
    rw [HD1.out, HD2.out]
    have R0 := Li (R0.out.up hb8)
    have I0 := Li (I0.out.up hb8)
    have S0 := Li (S0.out.up hb8)
    have T0 := Li (T0.out.up hb8)
    have P0 := Li (P0.out.up hb8)
    have BB := Li (below_step BB.out BB.out.size hb8)
    clear hb8
    go_wp2_with fail
    refine hK.out _ _ (Li ⟨R0.out, I0.out, S0.out⟩) (fun hHeld => ?_)
    clear hK KK
    try simp only [pnz]
    refine htk 5 ?_
    refine htk 6 ?_
    refine htk 7 ?_
    refine rd2 8 9 (fun KK hK => ?_) (fun KK hK => ?_)
    ·
     go_simp
     have n8 := T0.out.lt
     have G6 := Li (CB.new v4 62 [.bool false, .int .i64 0, .string ⟨#[]⟩])
     have R0 := Li (R0.out.alloc (.cells #[.bool false, .int .i64 0, .string ⟨#[]⟩] 62))
     have I0 := Li (I0.out.alloc (.cells #[.bool false, .int .i64 0, .string ⟨#[]⟩] 62))
     have S0 := Li (S0.out.alloc (.cells #[.bool false, .int .i64 0, .string ⟨#[]⟩] 62))
     have T0 := Li (T0.out.alloc (.cells #[.bool false, .int .i64 0, .string ⟨#[]⟩] 62))
     have P0 := Li (P0.out.alloc (.cells #[.bool false, .int .i64 0, .string ⟨#[]⟩] 62))
     have BB := Li (BB.out.alloc BB.out.size (.cells #[.bool false, .int .i64 0, .string ⟨#[]⟩] 62))
     have m8 := G6.out.lt
     refine hK.out _ _ (Li ⟨R0.out, I0.out, S0.out⟩) (fun hHeld => ?_)
     clear hK KK
     try simp only [pnz]
     generalize v4.alloc (.cells #[.bool false, .int .i64 0, .string ⟨#[]⟩] 62) = v8 at R0 I0 S0 T0 P0 G6 m8 hHeld BB ⊢
     refine rd1 9 fun KK hK => ?_
     go_simp
     have n9 := T0.out.lt
     have d89 := G6.out.lt
     have G7 := Li (CB.new v8 62 [.bool false, .int .i64 0, .string ⟨#[]⟩])
     have R0 := Li (R0.out.alloc (.cells #[.bool false, .int .i64 0, .string ⟨#[]⟩] 62))
     have I0 := Li (I0.out.alloc (.cells #[.bool false, .int .i64 0, .string ⟨#[]⟩] 62))
     have S0 := Li (S0.out.alloc (.cells #[.bool false, .int .i64 0, .string ⟨#[]⟩] 62))
     have T0 := Li (T0.out.alloc (.cells #[.bool false, .int .i64 0, .string ⟨#[]⟩] 62))
     have P0 := Li (P0.out.alloc (.cells #[.bool false, .int .i64 0, .string ⟨#[]⟩] 62))
     have G6 := Li (G6.out.alloc (.cells #[.bool false, .int .i64 0, .string ⟨#[]⟩] 62))
     have BB := Li (BB.out.alloc BB.out.size (.cells #[.bool false, .int .i64 0, .string ⟨#[]⟩] 62))
     have m9 := G7.out.lt
     refine hK.out _ _ (Li ⟨R0.out, I0.out, S0.out⟩) (fun hHeld => ?_)
     clear hK KK
     try simp only [pnz]
     generalize v8.alloc (.cells #[.bool false, .int .i64 0, .string ⟨#[]⟩] 62) = v9 at R0 I0 S0 T0 P0 G7 m9 hHeld BB G6 ⊢
     refine rd1 10 fun KK hK => ?_
     refine step_store_cb rfl 62 (.tmp 6) (.tmp 14) rfl v4.heap.size [.bool d1.b, .int .i64 d1.n, .string d1.s] rfl rfl 62 [.bool false, .int .i64 0, .string ⟨#[]⟩] 3 G6.out sizeVa rfl rfl (one_va _ _ _) ?_
     intro s10 hc10 hg10 hz10
     have R0 := Li (R0.out.grown hg10 (by intro h; injection h with h; omega))
     have I0 := Li (I0.out.grown hg10 (by intro h; injection h with h; omega))
     have S0 := Li (S0.out.grown hg10 (by intro h; injection h with h; omega))
     have T0 := Li (T0.out.grown hg10 (by intro h; injection h with h; omega))
     have P0 := Li (P0.out.grown hg10 (by intro h; injection h with h; omega))
     have G7 := Li (G7.out.grown hg10 (by intro h; injection h with h; omega))
     have G6 := Li hc10
     have BB := Li (below_grown BB.out hg10 BB.out.size (by omega))
     refine hK.out _ _ (Li ⟨R0.out, I0.out, S0.out⟩) (fun hHeld => ?_)
     clear hK KK
     try simp only [pnz]
     refine rd1 11 fun KK hK => ?_
     refine step_store_cb rfl 62 (.tmp 7) (.tmp 15) rfl v8.heap.size [.bool d2.b, .int .i64 d2.n, .string d2.s] rfl rfl 62 [.bool false, .int .i64 0, .string ⟨#[]⟩] 3 G7.out sizeVa rfl rfl (one_va _ _ _) ?_
     intro s11 hc11 hg11 hz11
     have R0 := Li (R0.out.grown hg11 (by intro h; injection h with h; omega))
     have I0 := Li (I0.out.grown hg11 (by intro h; injection h with h; omega))
     have S0 := Li (S0.out.grown hg11 (by intro h; injection h with h; omega))
     have T0 := Li (T0.out.grown hg11 (by intro h; injection h with h; omega))
     have P0 := Li (P0.out.grown hg11 (by intro h; injection h with h; omega))
     have G6 := Li (G6.out.grown hg11 (by intro h; injection h with h; omega))
     have G7 := Li hc11
     have BB := Li (below_grown BB.out hg11 BB.out.size (by omega))
     refine hK.out _ _ (Li ⟨R0.out, I0.out, S0.out⟩) (fun hHeld => ?_)
     clear hK KK
     try simp only [pnz]
     refine wpAnyH_done (by kernel_rfl) ?_ _
     go_wp2_with fail
     go_meet
     exact ⟨_, _, rfl, rfl, by omega, by omega, G6, G7, R0, I0, P0, T0, BB⟩
    ·
     go_simp
     have n9 := T0.out.lt
     have G7 := Li (CB.new v4 62 [.bool false, .int .i64 0, .string ⟨#[]⟩])
     have R0 := Li (R0.out.alloc (.cells #[.bool false, .int .i64 0, .string ⟨#[]⟩] 62))
     have I0 := Li (I0.out.alloc (.cells #[.bool false, .int .i64 0, .string ⟨#[]⟩] 62))
     have S0 := Li (S0.out.alloc (.cells #[.bool false, .int .i64 0, .string ⟨#[]⟩] 62))
     have T0 := Li (T0.out.alloc (.cells #[.bool false, .int .i64 0, .string ⟨#[]⟩] 62))
     have P0 := Li (P0.out.alloc (.cells #[.bool false, .int .i64 0, .string ⟨#[]⟩] 62))
     have BB := Li (BB.out.alloc BB.out.size (.cells #[.bool false, .int .i64 0, .string ⟨#[]⟩] 62))
     have m9 := G7.out.lt
     refine hK.out _ _ (Li ⟨R0.out, I0.out, S0.out⟩) (fun hHeld => ?_)
     clear hK KK
     try simp only [pnz]
     generalize v4.alloc (.cells #[.bool false, .int .i64 0, .string ⟨#[]⟩] 62) = v9 at R0 I0 S0 T0 P0 G7 m9 hHeld BB ⊢
     refine rd1 8 fun KK hK => ?_
     go_simp
     have n8 := T0.out.lt
     have d98 := G7.out.lt
     have G6 := Li (CB.new v9 62 [.bool false, .int .i64 0, .string ⟨#[]⟩])
     have R0 := Li (R0.out.alloc (.cells #[.bool false, .int .i64 0, .string ⟨#[]⟩] 62))
     have I0 := Li (I0.out.alloc (.cells #[.bool false, .int .i64 0, .string ⟨#[]⟩] 62))
     have S0 := Li (S0.out.alloc (.cells #[.bool false, .int .i64 0, .string ⟨#[]⟩] 62))
     have T0 := Li (T0.out.alloc (.cells #[.bool false, .int .i64 0, .string ⟨#[]⟩] 62))
     have P0 := Li (P0.out.alloc (.cells #[.bool false, .int .i64 0, .string ⟨#[]⟩] 62))
     have G7 := Li (G7.out.alloc (.cells #[.bool false, .int .i64 0, .string ⟨#[]⟩] 62))
     have BB := Li (BB.out.alloc BB.out.size (.cells #[.bool false, .int .i64 0, .string ⟨#[]⟩] 62))
     have m8 := G6.out.lt
     refine hK.out _ _ (Li ⟨R0.out, I0.out, S0.out⟩) (fun hHeld => ?_)
     clear hK KK
     try simp only [pnz]
     generalize v9.alloc (.cells #[.bool false, .int .i64 0, .string ⟨#[]⟩] 62) = v8 at R0 I0 S0 T0 P0 G6 m8 hHeld BB G7 ⊢
     refine rd1 10 fun KK hK => ?_
     refine step_store_cb rfl 62 (.tmp 6) (.tmp 14) rfl v9.heap.size [.bool d1.b, .int .i64 d1.n, .string d1.s] rfl rfl 62 [.bool false, .int .i64 0, .string ⟨#[]⟩] 3 G6.out sizeVa rfl rfl (one_va _ _ _) ?_
     intro s10 hc10 hg10 hz10
     have R0 := Li (R0.out.grown hg10 (by intro h; injection h with h; omega))
     have I0 := Li (I0.out.grown hg10 (by intro h; injection h with h; omega))
     have S0 := Li (S0.out.grown hg10 (by intro h; injection h with h; omega))
     have T0 := Li (T0.out.grown hg10 (by intro h; injection h with h; omega))
     have P0 := Li (P0.out.grown hg10 (by intro h; injection h with h; omega))
     have G7 := Li (G7.out.grown hg10 (by intro h; injection h with h; omega))
     have G6 := Li hc10
     have BB := Li (below_grown BB.out hg10 BB.out.size (by omega))
     refine hK.out _ _ (Li ⟨R0.out, I0.out, S0.out⟩) (fun hHeld => ?_)
     clear hK KK
     try simp only [pnz]
     refine rd1 11 fun KK hK => ?_
     refine step_store_cb rfl 62 (.tmp 7) (.tmp 15) rfl v4.heap.size [.bool d2.b, .int .i64 d2.n, .string d2.s] rfl rfl 62 [.bool false, .int .i64 0, .string ⟨#[]⟩] 3 G7.out sizeVa rfl rfl (one_va _ _ _) ?_
     intro s11 hc11 hg11 hz11
     have R0 := Li (R0.out.grown hg11 (by intro h; injection h with h; omega))
     have I0 := Li (I0.out.grown hg11 (by intro h; injection h with h; omega))
     have S0 := Li (S0.out.grown hg11 (by intro h; injection h with h; omega))
     have T0 := Li (T0.out.grown hg11 (by intro h; injection h with h; omega))
     have P0 := Li (P0.out.grown hg11 (by intro h; injection h with h; omega))
     have G6 := Li (G6.out.grown hg11 (by intro h; injection h with h; omega))
     have G7 := Li hc11
     have BB := Li (below_grown BB.out hg11 BB.out.size (by omega))
     refine hK.out _ _ (Li ⟨R0.out, I0.out, S0.out⟩) (fun hHeld => ?_)
     clear hK KK
     try simp only [pnz]
     refine wpAnyH_done (by kernel_rfl) ?_ _
     go_wp2_with fail
     go_meet
     exact ⟨_, _, rfl, rfl, by omega, by omega, G6, G7, R0, I0, P0, T0, BB⟩
   ·
    go_simp
    have n8 := T0.out.lt
    have G6 := Li (CB.new v2 62 [.bool false, .int .i64 0, .string ⟨#[]⟩])
    have R0 := Li (R0.out.alloc (.cells #[.bool false, .int .i64 0, .string ⟨#[]⟩] 62))
    have I0 := Li (I0.out.alloc (.cells #[.bool false, .int .i64 0, .string ⟨#[]⟩] 62))
    have S0 := Li (S0.out.alloc (.cells #[.bool false, .int .i64 0, .string ⟨#[]⟩] 62))
    have T0 := Li (T0.out.alloc (.cells #[.bool false, .int .i64 0, .string ⟨#[]⟩] 62))
    have P0 := Li (P0.out.alloc (.cells #[.bool false, .int .i64 0, .string ⟨#[]⟩] 62))
    have BB := Li (BB.out.alloc BB.out.size (.cells #[.bool false, .int .i64 0, .string ⟨#[]⟩] 62))
    have m8 := G6.out.lt
    refine hK.out _ _ (Li ⟨R0.out, I0.out, S0.out⟩) (fun hHeld => ?_)
    clear hK KK
    try simp only [pnz]
    generalize v2.alloc (.cells #[.bool false, .int .i64 0, .string ⟨#[]⟩] 62) = v8 at R0 I0 S0 T0 P0 G6 m8 hHeld BB ⊢
    refine rd2 4 9 (fun KK hK => ?_) (fun KK hK => ?_)
    ·
     go_simp
     go_at_call 90
     refine (divided_any t sep _ (HGV.out.up BB.out) HTZ.out).mono ?_
     rintro e v4 ⟨rfl, hb8⟩
     rw [HD1.out, HD2.out]
     have G6 := Li (G6.out.up hb8)
     have R0 := Li (R0.out.up hb8)
     have I0 := Li (I0.out.up hb8)
     have S0 := Li (S0.out.up hb8)
     have T0 := Li (T0.out.up hb8)
     have P0 := Li (P0.out.up hb8)
     have BB := Li (below_step BB.out BB.out.size hb8)
     clear hb8
     go_wp2_with fail
     refine hK.out _ _ (Li ⟨R0.out, I0.out, S0.out⟩) (fun hHeld => ?_)
     clear hK KK
     try simp only [pnz]
     refine htk 5 ?_
     refine htk 6 ?_
     refine htk 7 ?_
     refine rd1 9 fun KK hK => ?_
     go_simp
     have n9 := T0.out.lt
     have d89 := G6.out.lt
     have G7 := Li (CB.new v4 62 [.bool false, .int .i64 0, .string ⟨#[]⟩])
     have R0 := Li (R0.out.alloc (.cells #[.bool false, .int .i64 0, .string ⟨#[]⟩] 62))
     have I0 := Li (I0.out.alloc (.cells #[.bool false, .int .i64 0, .string ⟨#[]⟩] 62))
     have S0 := Li (S0.out.alloc (.cells #[.bool false, .int .i64 0, .string ⟨#[]⟩] 62))
     have T0 := Li (T0.out.alloc (.cells #[.bool false, .int .i64 0, .string ⟨#[]⟩] 62))
     have P0 := Li (P0.out.alloc (.cells #[.bool false, .int .i64 0, .string ⟨#[]⟩] 62))
     have G6 := Li (G6.out.alloc (.cells #[.bool false, .int .i64 0, .string ⟨#[]⟩] 62))
     have BB := Li (BB.out.alloc BB.out.size (.cells #[.bool false, .int .i64 0, .string ⟨#[]⟩] 62))
     have m9 := G7.out.lt
     refine hK.out _ _ (Li ⟨R0.out, I0.out, S0.out⟩) (fun hHeld => ?_)
     clear hK KK
     try simp only [pnz]
     generalize v4.alloc (.cells #[.bool false, .int .i64 0, .string ⟨#[]⟩] 62) = v9 at R0 I0 S0 T0 P0 G7 m9 hHeld BB G6 ⊢
     refine rd1 10 fun KK hK => ?_
     refine step_store_cb rfl 62 (.tmp 6) (.tmp 14) rfl v2.heap.size [.bool d1.b, .int .i64 d1.n, .string d1.s] rfl rfl 62 [.bool false, .int .i64 0, .string ⟨#[]⟩] 3 G6.out sizeVa rfl rfl (one_va _ _ _) ?_
     intro s10 hc10 hg10 hz10
     have R0 := Li (R0.out.grown hg10 (by intro h; injection h with h; omega))
     have I0 := Li (I0.out.grown hg10 (by intro h; injection h with h; omega))
     have S0 := Li (S0.out.grown hg10 (by intro h; injection h with h; omega))
     have T0 := Li (T0.out.grown hg10 (by intro h; injection h with h; omega))
     have P0 := Li (P0.out.grown hg10 (by intro h; injection h with h; omega))
     have G7 := Li (G7.out.grown hg10 (by intro h; injection h with h; omega))
     have G6 := Li hc10
     have BB := Li (below_grown BB.out hg10 BB.out.size (by omega))
     refine hK.out _ _ (Li ⟨R0.out, I0.out, S0.out⟩) (fun hHeld => ?_)
     clear hK KK
     try simp only [pnz]
     refine rd1 11 fun KK hK => ?_
     refine step_store_cb rfl 62 (.tmp 7) (.tmp 15) rfl v4.heap.size [.bool d2.b, .int .i64 d2.n, .string d2.s] rfl rfl 62 [.bool false, .int .i64 0, .string ⟨#[]⟩] 3 G7.out sizeVa rfl rfl (one_va _ _ _) ?_
     intro s11 hc11 hg11 hz11
     have R0 := Li (R0.out.grown hg11 (by intro h; injection h with h; omega))
     have I0 := Li (I0.out.grown hg11 (by intro h; injection h with h; omega))
     have S0 := Li (S0.out.grown hg11 (by intro h; injection h with h; omega))
     have T0 := Li (T0.out.grown hg11 (by intro h; injection h with h; omega))
     have P0 := Li (P0.out.grown hg11 (by intro h; injection h with h; omega))
     have G6 := Li (G6.out.grown hg11 (by intro h; injection h with h; omega))
     have G7 := Li hc11
     have BB := Li (below_grown BB.out hg11 BB.out.size (by omega))
     refine hK.out _ _ (Li ⟨R0.out, I0.out, S0.out⟩) (fun hHeld => ?_)
     clear hK KK
     try simp only [pnz]
     refine wpAnyH_done (by kernel_rfl) ?_ _
     go_wp2_with fail
     go_meet
     exact ⟨_, _, rfl, rfl, by omega, by omega, G6, G7, R0, I0, P0, T0, BB⟩
    ·
     go_simp
     have n9 := T0.out.lt
     have d89 := G6.out.lt
     have G7 := Li (CB.new v8 62 [.bool false, .int .i64 0, .string ⟨#[]⟩])
     have R0 := Li (R0.out.alloc (.cells #[.bool false, .int .i64 0, .string ⟨#[]⟩] 62))
     have I0 := Li (I0.out.alloc (.cells #[.bool false, .int .i64 0, .string ⟨#[]⟩] 62))
     have S0 := Li (S0.out.alloc (.cells #[.bool false, .int .i64 0, .string ⟨#[]⟩] 62))
     have T0 := Li (T0.out.alloc (.cells #[.bool false, .int .i64 0, .string ⟨#[]⟩] 62))
     have P0 := Li (P0.out.alloc (.cells #[.bool false, .int .i64 0, .string ⟨#[]⟩] 62))
     have G6 := Li (G6.out.alloc (.cells #[.bool false, .int .i64 0, .string ⟨#[]⟩] 62))
     have BB := Li (BB.out.alloc BB.out.size (.cells #[.bool false, .int .i64 0, .string ⟨#[]⟩] 62))
     have m9 := G7.out.lt
     refine hK.out _ _ (Li ⟨R0.out, I0.out, S0.out⟩) (fun hHeld => ?_)
     clear hK KK
     try simp only [pnz]
     generalize v8.alloc (.cells #[.bool false, .int .i64 0, .string ⟨#[]⟩] 62) = v9 at R0 I0 S0 T0 P0 G7 m9 hHeld BB G6 ⊢
     refine rd1 4 fun KK hK => ?_
     go_simp
     go_at_call 90
     refine (divided_any t sep _ (HGV.out.up BB.out) HTZ.out).mono ?_
     rintro e v4 ⟨rfl, hb8⟩
     rw [HD1.out, HD2.out]
     have G6 := Li (G6.out.up hb8)
     have G7 := Li (G7.out.up hb8)
     have R0 := Li (R0.out.up hb8)
     have I0 := Li (I0.out.up hb8)
     have S0 := Li (S0.out.up hb8)
     have T0 := Li (T0.out.up hb8)
     have P0 := Li (P0.out.up hb8)
     have BB := Li (below_step BB.out BB.out.size hb8)
     clear hb8
     go_wp2_with fail
     refine hK.out _ _ (Li ⟨R0.out, I0.out, S0.out⟩) (fun hHeld => ?_)
     clear hK KK
     try simp only [pnz]
     refine htk 5 ?_
     refine htk 6 ?_
     refine htk 7 ?_
     refine rd1 10 fun KK hK => ?_
     refine step_store_cb rfl 62 (.tmp 6) (.tmp 14) rfl v2.heap.size [.bool d1.b, .int .i64 d1.n, .string d1.s] rfl rfl 62 [.bool false, .int .i64 0, .string ⟨#[]⟩] 3 G6.out sizeVa rfl rfl (one_va _ _ _) ?_
     intro s10 hc10 hg10 hz10
     have R0 := Li (R0.out.grown hg10 (by intro h; injection h with h; omega))
     have I0 := Li (I0.out.grown hg10 (by intro h; injection h with h; omega))
     have S0 := Li (S0.out.grown hg10 (by intro h; injection h with h; omega))
     have T0 := Li (T0.out.grown hg10 (by intro h; injection h with h; omega))
     have P0 := Li (P0.out.grown hg10 (by intro h; injection h with h; omega))
     have G7 := Li (G7.out.grown hg10 (by intro h; injection h with h; omega))
     have G6 := Li hc10
     have BB := Li (below_grown BB.out hg10 BB.out.size (by omega))
     refine hK.out _ _ (Li ⟨R0.out, I0.out, S0.out⟩) (fun hHeld => ?_)
     clear hK KK
     try simp only [pnz]
     refine rd1 11 fun KK hK => ?_
     refine step_store_cb rfl 62 (.tmp 7) (.tmp 15) rfl v8.heap.size [.bool d2.b, .int .i64 d2.n, .string d2.s] rfl rfl 62 [.bool false, .int .i64 0, .string ⟨#[]⟩] 3 G7.out sizeVa rfl rfl (one_va _ _ _) ?_
     intro s11 hc11 hg11 hz11
     have R0 := Li (R0.out.grown hg11 (by intro h; injection h with h; omega))
     have I0 := Li (I0.out.grown hg11 (by intro h; injection h with h; omega))
     have S0 := Li (S0.out.grown hg11 (by intro h; injection h with h; omega))
     have T0 := Li (T0.out.grown hg11 (by intro h; injection h with h; omega))
     have P0 := Li (P0.out.grown hg11 (by intro h; injection h with h; omega))
     have G6 := Li (G6.out.grown hg11 (by intro h; injection h with h; omega))
     have G7 := Li hc11
     have BB := Li (below_grown BB.out hg11 BB.out.size (by omega))
     refine hK.out _ _ (Li ⟨R0.out, I0.out, S0.out⟩) (fun hHeld => ?_)
     clear hK KK
     try simp only [pnz]
     refine wpAnyH_done (by kernel_rfl) ?_ _
     go_wp2_with fail
     go_meet
     exact ⟨_, _, rfl, rfl, by omega, by omega, G6, G7, R0, I0, P0, T0, BB⟩
   ·
    go_simp
    have n9 := T0.out.lt
    have G7 := Li (CB.new v2 62 [.bool false, .int .i64 0, .string ⟨#[]⟩])
    have R0 := Li (R0.out.alloc (.cells #[.bool false, .int .i64 0, .string ⟨#[]⟩] 62))
    have I0 := Li (I0.out.alloc (.cells #[.bool false, .int .i64 0, .string ⟨#[]⟩] 62))
    have S0 := Li (S0.out.alloc (.cells #[.bool false, .int .i64 0, .string ⟨#[]⟩] 62))
    have T0 := Li (T0.out.alloc (.cells #[.bool false, .int .i64 0, .string ⟨#[]⟩] 62))
    have P0 := Li (P0.out.alloc (.cells #[.bool false, .int .i64 0, .string ⟨#[]⟩] 62))
    have BB := Li (BB.out.alloc BB.out.size (.cells #[.bool false, .int .i64 0, .string ⟨#[]⟩] 62))
    have m9 := G7.out.lt
    refine hK.out _ _ (Li ⟨R0.out, I0.out, S0.out⟩) (fun hHeld => ?_)
    clear hK KK
    try simp only [pnz]
    generalize v2.alloc (.cells #[.bool false, .int .i64 0, .string ⟨#[]⟩] 62) = v9 at R0 I0 S0 T0 P0 G7 m9 hHeld BB ⊢
    refine rd2 4 8 (fun KK hK => ?_) (fun KK hK => ?_)
    ·
     go_simp
     go_at_call 90
     refine (divided_any t sep _ (HGV.out.up BB.out) HTZ.out).mono ?_
     rintro e v4 ⟨rfl, hb8⟩
     rw [HD1.out, HD2.out]
     have G7 := Li (G7.out.up hb8)
     have R0 := Li (R0.out.up hb8)
     have I0 := Li (I0.out.up hb8)
     have S0 := Li (S0.out.up hb8)
     have T0 := Li (T0.out.up hb8)
     have P0 := Li (P0.out.up hb8)
     have BB := Li (below_step BB.out BB.out.size hb8)
     clear hb8
     go_wp2_with fail
     refine hK.out _ _ (Li ⟨R0.out, I0.out, S0.out⟩) (fun hHeld => ?_)
     clear hK KK
     try simp only [pnz]
     refine htk 5 ?_
     refine htk 6 ?_
     refine htk 7 ?_
     refine rd1 8 fun KK hK => ?_
     go_simp
     have n8 := T0.out.lt
     have d98 := G7.out.lt
     have G6 := Li (CB.new v4 62 [.bool false, .int .i64 0, .string ⟨#[]⟩])
     have R0 := Li (R0.out.alloc (.cells #[.bool false, .int .i64 0, .string ⟨#[]⟩] 62))
     have I0 := Li (I0.out.alloc (.cells #[.bool false, .int .i64 0, .string ⟨#[]⟩] 62))
     have S0 := Li (S0.out.alloc (.cells #[.bool false, .int .i64 0, .string ⟨#[]⟩] 62))
     have T0 := Li (T0.out.alloc (.cells #[.bool false, .int .i64 0, .string ⟨#[]⟩] 62))
     have P0 := Li (P0.out.alloc (.cells #[.bool false, .int .i64 0, .string ⟨#[]⟩] 62))
     have G7 := Li (G7.out.alloc (.cells #[.bool false, .int .i64 0, .string ⟨#[]⟩] 62))
     have BB := Li (BB.out.alloc BB.out.size (.cells #[.bool false, .int .i64 0, .string ⟨#[]⟩] 62))
     have m8 := G6.out.lt
     refine hK.out _ _ (Li ⟨R0.out, I0.out, S0.out⟩) (fun hHeld => ?_)
     clear hK KK
     try simp only [pnz]
     generalize v4.alloc (.cells #[.bool false, .int .i64 0, .string ⟨#[]⟩] 62) = v8 at R0 I0 S0 T0 P0 G6 m8 hHeld BB G7 ⊢
     refine rd1 10 fun KK hK => ?_
     refine step_store_cb rfl 62 (.tmp 6) (.tmp 14) rfl v4.heap.size [.bool d1.b, .int .i64 d1.n, .string d1.s] rfl rfl 62 [.bool false, .int .i64 0, .string ⟨#[]⟩] 3 G6.out sizeVa rfl rfl (one_va _ _ _) ?_
     intro s10 hc10 hg10 hz10
     have R0 := Li (R0.out.grown hg10 (by intro h; injection h with h; omega))
     have I0 := Li (I0.out.grown hg10 (by intro h; injection h with h; omega))
     have S0 := Li (S0.out.grown hg10 (by intro h; injection h with h; omega))
     have T0 := Li (T0.out.grown hg10 (by intro h; injection h with h; omega))
     have P0 := Li (P0.out.grown hg10 (by intro h; injection h with h; omega))
     have G7 := Li (G7.out.grown hg10 (by intro h; injection h with h; omega))
     have G6 := Li hc10
     have BB := Li (below_grown BB.out hg10 BB.out.size (by omega))
     refine hK.out _ _ (Li ⟨R0.out, I0.out, S0.out⟩) (fun hHeld => ?_)
     clear hK KK
     try simp only [pnz]
     refine rd1 11 fun KK hK => ?_
     refine step_store_cb rfl 62 (.tmp 7) (.tmp 15) rfl v2.heap.size [.bool d2.b, .int .i64 d2.n, .string d2.s] rfl rfl 62 [.bool false, .int .i64 0, .string ⟨#[]⟩] 3 G7.out sizeVa rfl rfl (one_va _ _ _) ?_
     intro s11 hc11 hg11 hz11
     have R0 := Li (R0.out.grown hg11 (by intro h; injection h with h; omega))
     have I0 := Li (I0.out.grown hg11 (by intro h; injection h with h; omega))
     have S0 := Li (S0.out.grown hg11 (by intro h; injection h with h; omega))
     have T0 := Li (T0.out.grown hg11 (by intro h; injection h with h; omega))
     have P0 := Li (P0.out.grown hg11 (by intro h; injection h with h; omega))
     have G6 := Li (G6.out.grown hg11 (by intro h; injection h with h; omega))
     have G7 := Li hc11
     have BB := Li (below_grown BB.out hg11 BB.out.size (by omega))
     refine hK.out _ _ (Li ⟨R0.out, I0.out, S0.out⟩) (fun hHeld => ?_)
     clear hK KK
     try simp only [pnz]
     refine wpAnyH_done (by kernel_rfl) ?_ _
     go_wp2_with fail
     go_meet
     exact ⟨_, _, rfl, rfl, by omega, by omega, G6, G7, R0, I0, P0, T0, BB⟩
    ·
     go_simp
     have n8 := T0.out.lt
     have d98 := G7.out.lt
     have G6 := Li (CB.new v9 62 [.bool false, .int .i64 0, .string ⟨#[]⟩])
     have R0 := Li (R0.out.alloc (.cells #[.bool false, .int .i64 0, .string ⟨#[]⟩] 62))
     have I0 := Li (I0.out.alloc (.cells #[.bool false, .int .i64 0, .string ⟨#[]⟩] 62))
     have S0 := Li (S0.out.alloc (.cells #[.bool false, .int .i64 0, .string ⟨#[]⟩] 62))
     have T0 := Li (T0.out.alloc (.cells #[.bool false, .int .i64 0, .string ⟨#[]⟩] 62))
     have P0 := Li (P0.out.alloc (.cells #[.bool false, .int .i64 0, .string ⟨#[]⟩] 62))
     have G7 := Li (G7.out.alloc (.cells #[.bool false, .int .i64 0, .string ⟨#[]⟩] 62))
     have BB := Li (BB.out.alloc BB.out.size (.cells #[.bool false, .int .i64 0, .string ⟨#[]⟩] 62))
     have m8 := G6.out.lt
     refine hK.out _ _ (Li ⟨R0.out, I0.out, S0.out⟩) (fun hHeld => ?_)
     clear hK KK
     try simp only [pnz]
     generalize v9.alloc (.cells #[.bool false, .int .i64 0, .string ⟨#[]⟩] 62) = v8 at R0 I0 S0 T0 P0 G6 m8 hHeld BB G7 ⊢
     refine rd1 4 fun KK hK => ?_
     go_simp
     go_at_call 90
     refine (divided_any t sep _ (HGV.out.up BB.out) HTZ.out).mono ?_
     rintro e v4 ⟨rfl, hb8⟩
     rw [HD1.out, HD2.out]
     have G7 := Li (G7.out.up hb8)
     have G6 := Li (G6.out.up hb8)
     have R0 := Li (R0.out.up hb8)
     have I0 := Li (I0.out.up hb8)
     have S0 := Li (S0.out.up hb8)
     have T0 := Li (T0.out.up hb8)
     have P0 := Li (P0.out.up hb8)
     have BB := Li (below_step BB.out BB.out.size hb8)
     clear hb8
     go_wp2_with fail
     refine hK.out _ _ (Li ⟨R0.out, I0.out, S0.out⟩) (fun hHeld => ?_)
     clear hK KK
     try simp only [pnz]
     refine htk 5 ?_
     refine htk 6 ?_
     refine htk 7 ?_
     refine rd1 10 fun KK hK => ?_
     refine step_store_cb rfl 62 (.tmp 6) (.tmp 14) rfl v9.heap.size [.bool d1.b, .int .i64 d1.n, .string d1.s] rfl rfl 62 [.bool false, .int .i64 0, .string ⟨#[]⟩] 3 G6.out sizeVa rfl rfl (one_va _ _ _) ?_
     intro s10 hc10 hg10 hz10
     have R0 := Li (R0.out.grown hg10 (by intro h; injection h with h; omega))
     have I0 := Li (I0.out.grown hg10 (by intro h; injection h with h; omega))
     have S0 := Li (S0.out.grown hg10 (by intro h; injection h with h; omega))
     have T0 := Li (T0.out.grown hg10 (by intro h; injection h with h; omega))
     have P0 := Li (P0.out.grown hg10 (by intro h; injection h with h; omega))
     have G7 := Li (G7.out.grown hg10 (by intro h; injection h with h; omega))
     have G6 := Li hc10
     have BB := Li (below_grown BB.out hg10 BB.out.size (by omega))
     refine hK.out _ _ (Li ⟨R0.out, I0.out, S0.out⟩) (fun hHeld => ?_)
     clear hK KK
     try simp only [pnz]
     refine rd1 11 fun KK hK => ?_
     refine step_store_cb rfl 62 (.tmp 7) (.tmp 15) rfl v2.heap.size [.bool d2.b, .int .i64 d2.n, .string d2.s] rfl rfl 62 [.bool false, .int .i64 0, .string ⟨#[]⟩] 3 G7.out sizeVa rfl rfl (one_va _ _ _) ?_
     intro s11 hc11 hg11 hz11
     have R0 := Li (R0.out.grown hg11 (by intro h; injection h with h; omega))
     have I0 := Li (I0.out.grown hg11 (by intro h; injection h with h; omega))
     have S0 := Li (S0.out.grown hg11 (by intro h; injection h with h; omega))
     have T0 := Li (T0.out.grown hg11 (by intro h; injection h with h; omega))
     have P0 := Li (P0.out.grown hg11 (by intro h; injection h with h; omega))
     have G6 := Li (G6.out.grown hg11 (by intro h; injection h with h; omega))
     have G7 := Li hc11
     have BB := Li (below_grown BB.out hg11 BB.out.size (by omega))
     refine hK.out _ _ (Li ⟨R0.out, I0.out, S0.out⟩) (fun hHeld => ?_)
     clear hK KK
     try simp only [pnz]
     refine wpAnyH_done (by kernel_rfl) ?_ _
     go_wp2_with fail
     go_meet
     exact ⟨_, _, rfl, rfl, by omega, by omega, G6, G7, R0, I0, P0, T0, BB⟩
  ·
   go_simp
   have n8 := T0.out.lt
   have G6 := Li (CB.new X0 62 [.bool false, .int .i64 0, .string ⟨#[]⟩])
   have R0 := Li (R0.out.alloc (.cells #[.bool false, .int .i64 0, .string ⟨#[]⟩] 62))
   have I0 := Li (I0.out.alloc (.cells #[.bool false, .int .i64 0, .string ⟨#[]⟩] 62))
   have S0 := Li (S0.out.alloc (.cells #[.bool false, .int .i64 0, .string ⟨#[]⟩] 62))
   have T0 := Li (T0.out.alloc (.cells #[.bool false, .int .i64 0, .string ⟨#[]⟩] 62))
   have P0 := Li (P0.out.alloc (.cells #[.bool false, .int .i64 0, .string ⟨#[]⟩] 62))
   have BB := Li (BB.out.alloc BB.out.size (.cells #[.bool false, .int .i64 0, .string ⟨#[]⟩] 62))
   have m8 := G6.out.lt
   refine hK.out _ _ (Li ⟨R0.out, I0.out, S0.out⟩) (fun hHeld => ?_)
   clear hK KK
   try simp only [pnz]
   generalize X0.alloc (.cells #[.bool false, .int .i64 0, .string ⟨#[]⟩] 62) = v8 at R0 I0 S0 T0 P0 G6 m8 hHeld BB ⊢
   refine rd2 2 9 (fun KK hK => ?_) (fun KK hK => ?_)
   ·
    go_simp
    go_at_call 88
    refine (valueOf_any A n c r wh _ HN.out (HS.out.up BB.out) (by omega) hi).mono ?_
    rintro e v2 ⟨rfl, hb8⟩
    rw [HD.out]
    have G6 := Li (G6.out.up hb8)
    have R0 := Li (R0.out.up hb8)
    have I0 := Li (I0.out.up hb8)
    have S0 := Li (S0.out.up hb8)
    have T0 := Li (T0.out.up hb8)
    have P0 := Li (P0.out.up hb8)
    have BB := Li (below_step BB.out BB.out.size hb8)
    clear hb8
    go_wp2_with fail
    refine hK.out _ _ (Li ⟨R0.out, I0.out, S0.out⟩) (fun hHeld => ?_)
    clear hK KK
    try simp only [pnz]
    refine rd2 4 9 (fun KK hK => ?_) (fun KK hK => ?_)
    ·
     go_simp
     go_at_call 90
     refine (divided_any t sep _ (HGV.out.up BB.out) HTZ.out).mono ?_
     rintro e v4 ⟨rfl, hb8⟩
     rw [HD1.out, HD2.out]
     have G6 := Li (G6.out.up hb8)
     have R0 := Li (R0.out.up hb8)
     have I0 := Li (I0.out.up hb8)
     have S0 := Li (S0.out.up hb8)
     have T0 := Li (T0.out.up hb8)
     have P0 := Li (P0.out.up hb8)
     have BB := Li (below_step BB.out BB.out.size hb8)
     clear hb8
     go_wp2_with fail
     refine hK.out _ _ (Li ⟨R0.out, I0.out, S0.out⟩) (fun hHeld => ?_)
     clear hK KK
     try simp only [pnz]
     refine htk 5 ?_
     refine htk 6 ?_
     refine htk 7 ?_
     refine rd1 9 fun KK hK => ?_
     go_simp
     have n9 := T0.out.lt
     have d89 := G6.out.lt
     have G7 := Li (CB.new v4 62 [.bool false, .int .i64 0, .string ⟨#[]⟩])
     have R0 := Li (R0.out.alloc (.cells #[.bool false, .int .i64 0, .string ⟨#[]⟩] 62))
     have I0 := Li (I0.out.alloc (.cells #[.bool false, .int .i64 0, .string ⟨#[]⟩] 62))
     have S0 := Li (S0.out.alloc (.cells #[.bool false, .int .i64 0, .string ⟨#[]⟩] 62))
     have T0 := Li (T0.out.alloc (.cells #[.bool false, .int .i64 0, .string ⟨#[]⟩] 62))
     have P0 := Li (P0.out.alloc (.cells #[.bool false, .int .i64 0, .string ⟨#[]⟩] 62))
     have G6 := Li (G6.out.alloc (.cells #[.bool false, .int .i64 0, .string ⟨#[]⟩] 62))
     have BB := Li (BB.out.alloc BB.out.size (.cells #[.bool false, .int .i64 0, .string ⟨#[]⟩] 62))
     have m9 := G7.out.lt
     refine hK.out _ _ (Li ⟨R0.out, I0.out, S0.out⟩) (fun hHeld => ?_)
     clear hK KK
     try simp only [pnz]
     generalize v4.alloc (.cells #[.bool false, .int .i64 0, .string ⟨#[]⟩] 62) = v9 at R0 I0 S0 T0 P0 G7 m9 hHeld BB G6 ⊢
     refine rd1 10 fun KK hK => ?_
     refine step_store_cb rfl 62 (.tmp 6) (.tmp 14) rfl X0.heap.size [.bool d1.b, .int .i64 d1.n, .string d1.s] rfl rfl 62 [.bool false, .int .i64 0, .string ⟨#[]⟩] 3 G6.out sizeVa rfl rfl (one_va _ _ _) ?_
     intro s10 hc10 hg10 hz10
     have R0 := Li (R0.out.grown hg10 (by intro h; injection h with h; omega))
     have I0 := Li (I0.out.grown hg10 (by intro h; injection h with h; omega))
     have S0 := Li (S0.out.grown hg10 (by intro h; injection h with h; omega))
     have T0 := Li (T0.out.grown hg10 (by intro h; injection h with h; omega))
     have P0 := Li (P0.out.grown hg10 (by intro h; injection h with h; omega))
     have G7 := Li (G7.out.grown hg10 (by intro h; injection h with h; omega))
     have G6 := Li hc10
     have BB := Li (below_grown BB.out hg10 BB.out.size (by omega))
     refine hK.out _ _ (Li ⟨R0.out, I0.out, S0.out⟩) (fun hHeld => ?_)
     clear hK KK
     try simp only [pnz]
     refine rd1 11 fun KK hK => ?_
     refine step_store_cb rfl 62 (.tmp 7) (.tmp 15) rfl v4.heap.size [.bool d2.b, .int .i64 d2.n, .string d2.s] rfl rfl 62 [.bool false, .int .i64 0, .string ⟨#[]⟩] 3 G7.out sizeVa rfl rfl (one_va _ _ _) ?_
     intro s11 hc11 hg11 hz11
     have R0 := Li (R0.out.grown hg11 (by intro h; injection h with h; omega))
     have I0 := Li (I0.out.grown hg11 (by intro h; injection h with h; omega))
     have S0 := Li (S0.out.grown hg11 (by intro h; injection h with h; omega))
     have T0 := Li (T0.out.grown hg11 (by intro h; injection h with h; omega))
     have P0 := Li (P0.out.grown hg11 (by intro h; injection h with h; omega))
     have G6 := Li (G6.out.grown hg11 (by intro h; injection h with h; omega))
     have G7 := Li hc11
     have BB := Li (below_grown BB.out hg11 BB.out.size (by omega))
     refine hK.out _ _ (Li ⟨R0.out, I0.out, S0.out⟩) (fun hHeld => ?_)
     clear hK KK
     try simp only [pnz]
     refine wpAnyH_done (by kernel_rfl) ?_ _
     go_wp2_with fail
     go_meet
     exact ⟨_, _, rfl, rfl, by omega, by omega, G6, G7, R0, I0, P0, T0, BB⟩
    ·
     go_simp
     have n9 := T0.out.lt
     have d89 := G6.out.lt
     have G7 := Li (CB.new v2 62 [.bool false, .int .i64 0, .string ⟨#[]⟩])
     have R0 := Li (R0.out.alloc (.cells #[.bool false, .int .i64 0, .string ⟨#[]⟩] 62))
     have I0 := Li (I0.out.alloc (.cells #[.bool false, .int .i64 0, .string ⟨#[]⟩] 62))
     have S0 := Li (S0.out.alloc (.cells #[.bool false, .int .i64 0, .string ⟨#[]⟩] 62))
     have T0 := Li (T0.out.alloc (.cells #[.bool false, .int .i64 0, .string ⟨#[]⟩] 62))
     have P0 := Li (P0.out.alloc (.cells #[.bool false, .int .i64 0, .string ⟨#[]⟩] 62))
     have G6 := Li (G6.out.alloc (.cells #[.bool false, .int .i64 0, .string ⟨#[]⟩] 62))
     have BB := Li (BB.out.alloc BB.out.size (.cells #[.bool false, .int .i64 0, .string ⟨#[]⟩] 62))
     have m9 := G7.out.lt
     refine hK.out _ _ (Li ⟨R0.out, I0.out, S0.out⟩) (fun hHeld => ?_)
     clear hK KK
     try simp only [pnz]
     generalize v2.alloc (.cells #[.bool false, .int .i64 0, .string ⟨#[]⟩] 62) = v9 at R0 I0 S0 T0 P0 G7 m9 hHeld BB G6 ⊢
     refine rd1 4 fun KK hK => ?_
     go_simp
     go_at_call 90
     refine (divided_any t sep _ (HGV.out.up BB.out) HTZ.out).mono ?_
     rintro e v4 ⟨rfl, hb8⟩
     rw [HD1.out, HD2.out]
     have G6 := Li (G6.out.up hb8)
     have G7 := Li (G7.out.up hb8)
     have R0 := Li (R0.out.up hb8)
     have I0 := Li (I0.out.up hb8)
     have S0 := Li (S0.out.up hb8)
     have T0 := Li (T0.out.up hb8)
     have P0 := Li (P0.out.up hb8)
     have BB := Li (below_step BB.out BB.out.size hb8)
     clear hb8
     go_wp2_with fail
     refine hK.out _ _ (Li ⟨R0.out, I0.out, S0.out⟩) (fun hHeld => ?_)
     clear hK KK
     try simp only [pnz]
     refine htk 5 ?_
     refine htk 6 ?_
     refine htk 7 ?_
     refine rd1 10 fun KK hK => ?_
     refine step_store_cb rfl 62 (.tmp 6) (.tmp 14) rfl X0.heap.size [.bool d1.b, .int .i64 d1.n, .string d1.s] rfl rfl 62 [.bool false, .int .i64 0, .string ⟨#[]⟩] 3 G6.out sizeVa rfl rfl (one_va _ _ _) ?_
     intro s10 hc10 hg10 hz10
     have R0 := Li (R0.out.grown hg10 (by intro h; injection h with h; omega))
     have I0 := Li (I0.out.grown hg10 (by intro h; injection h with h; omega))
     have S0 := Li (S0.out.grown hg10 (by intro h; injection h with h; omega))
     have T0 := Li (T0.out.grown hg10 (by intro h; injection h with h; omega))
     have P0 := Li (P0.out.grown hg10 (by intro h; injection h with h; omega))
     have G7 := Li (G7.out.grown hg10 (by intro h; injection h with h; omega))
     have G6 := Li hc10
     have BB := Li (below_grown BB.out hg10 BB.out.size (by omega))
     refine hK.out _ _ (Li ⟨R0.out, I0.out, S0.out⟩) (fun hHeld => ?_)
     clear hK KK
     try simp only [pnz]
     refine rd1 11 fun KK hK => ?_
     refine step_store_cb rfl 62 (.tmp 7) (.tmp 15) rfl v2.heap.size [.bool d2.b, .int .i64 d2.n, .string d2.s] rfl rfl 62 [.bool false, .int .i64 0, .string ⟨#[]⟩] 3 G7.out sizeVa rfl rfl (one_va _ _ _) ?_
     intro s11 hc11 hg11 hz11
     have R0 := Li (R0.out.grown hg11 (by intro h; injection h with h; omega))
     have I0 := Li (I0.out.grown hg11 (by intro h; injection h with h; omega))
     have S0 := Li (S0.out.grown hg11 (by intro h; injection h with h; omega))
     have T0 := Li (T0.out.grown hg11 (by intro h; injection h with h; omega))
     have P0 := Li (P0.out.grown hg11 (by intro h; injection h with h; omega))
     have G6 := Li (G6.out.grown hg11 (by intro h; injection h with h; omega))
     have G7 := Li hc11
     have BB := Li (below_grown BB.out hg11 BB.out.size (by omega))
     refine hK.out _ _ (Li ⟨R0.out, I0.out, S0.out⟩) (fun hHeld => ?_)
     clear hK KK
     try simp only [pnz]
     refine wpAnyH_done (by kernel_rfl) ?_ _
     go_wp2_with fail
     go_meet
     exact ⟨_, _, rfl, rfl, by omega, by omega, G6, G7, R0, I0, P0, T0, BB⟩
   ·
    go_simp
    have n9 := T0.out.lt
    have d89 := G6.out.lt
    have G7 := Li (CB.new v8 62 [.bool false, .int .i64 0, .string ⟨#[]⟩])
    have R0 := Li (R0.out.alloc (.cells #[.bool false, .int .i64 0, .string ⟨#[]⟩] 62))
    have I0 := Li (I0.out.alloc (.cells #[.bool false, .int .i64 0, .string ⟨#[]⟩] 62))
    have S0 := Li (S0.out.alloc (.cells #[.bool false, .int .i64 0, .string ⟨#[]⟩] 62))
    have T0 := Li (T0.out.alloc (.cells #[.bool false, .int .i64 0, .string ⟨#[]⟩] 62))
    have P0 := Li (P0.out.alloc (.cells #[.bool false, .int .i64 0, .string ⟨#[]⟩] 62))
    have G6 := Li (G6.out.alloc (.cells #[.bool false, .int .i64 0, .string ⟨#[]⟩] 62))
    have BB := Li (BB.out.alloc BB.out.size (.cells #[.bool false, .int .i64 0, .string ⟨#[]⟩] 62))
    have m9 := G7.out.lt
    refine hK.out _ _ (Li ⟨R0.out, I0.out, S0.out⟩) (fun hHeld => ?_)
    clear hK KK
    try simp only [pnz]
    generalize v8.alloc (.cells #[.bool false, .int .i64 0, .string ⟨#[]⟩] 62) = v9 at R0 I0 S0 T0 P0 G7 m9 hHeld BB G6 ⊢
    refine rd1 2 fun KK hK => ?_
    go_simp
    go_at_call 88
    refine (valueOf_any A n c r wh _ HN.out (HS.out.up BB.out) (by omega) hi).mono ?_
    rintro e v2 ⟨rfl, hb8⟩
    rw [HD.out]
    have G6 := Li (G6.out.up hb8)
    have G7 := Li (G7.out.up hb8)
    have R0 := Li (R0.out.up hb8)
    have I0 := Li (I0.out.up hb8)
    have S0 := Li (S0.out.up hb8)
    have T0 := Li (T0.out.up hb8)
    have P0 := Li (P0.out.up hb8)
    have BB := Li (below_step BB.out BB.out.size hb8)
    clear hb8
    go_wp2_with fail
    refine hK.out _ _ (Li ⟨R0.out, I0.out, S0.out⟩) (fun hHeld => ?_)
    clear hK KK
    try simp only [pnz]
    refine rd1 4 fun KK hK => ?_
    go_simp
    go_at_call 90
    refine (divided_any t sep _ (HGV.out.up BB.out) HTZ.out).mono ?_
    rintro e v4 ⟨rfl, hb8⟩
    rw [HD1.out, HD2.out]
    have G6 := Li (G6.out.up hb8)
    have G7 := Li (G7.out.up hb8)
    have R0 := Li (R0.out.up hb8)
    have I0 := Li (I0.out.up hb8)
    have S0 := Li (S0.out.up hb8)
    have T0 := Li (T0.out.up hb8)
    have P0 := Li (P0.out.up hb8)
    have BB := Li (below_step BB.out BB.out.size hb8)
    clear hb8
    go_wp2_with fail
    refine hK.out _ _ (Li ⟨R0.out, I0.out, S0.out⟩) (fun hHeld => ?_)
    clear hK KK
    try simp only [pnz]
    refine htk 5 ?_
    refine htk 6 ?_
    refine htk 7 ?_
    refine rd1 10 fun KK hK => ?_
    refine step_store_cb rfl 62 (.tmp 6) (.tmp 14) rfl X0.heap.size [.bool d1.b, .int .i64 d1.n, .string d1.s] rfl rfl 62 [.bool false, .int .i64 0, .string ⟨#[]⟩] 3 G6.out sizeVa rfl rfl (one_va _ _ _) ?_
    intro s10 hc10 hg10 hz10
    have R0 := Li (R0.out.grown hg10 (by intro h; injection h with h; omega))
    have I0 := Li (I0.out.grown hg10 (by intro h; injection h with h; omega))
    have S0 := Li (S0.out.grown hg10 (by intro h; injection h with h; omega))
    have T0 := Li (T0.out.grown hg10 (by intro h; injection h with h; omega))
    have P0 := Li (P0.out.grown hg10 (by intro h; injection h with h; omega))
    have G7 := Li (G7.out.grown hg10 (by intro h; injection h with h; omega))
    have G6 := Li hc10
    have BB := Li (below_grown BB.out hg10 BB.out.size (by omega))
    refine hK.out _ _ (Li ⟨R0.out, I0.out, S0.out⟩) (fun hHeld => ?_)
    clear hK KK
    try simp only [pnz]
    refine rd1 11 fun KK hK => ?_
    refine step_store_cb rfl 62 (.tmp 7) (.tmp 15) rfl v8.heap.size [.bool d2.b, .int .i64 d2.n, .string d2.s] rfl rfl 62 [.bool false, .int .i64 0, .string ⟨#[]⟩] 3 G7.out sizeVa rfl rfl (one_va _ _ _) ?_
    intro s11 hc11 hg11 hz11
    have R0 := Li (R0.out.grown hg11 (by intro h; injection h with h; omega))
    have I0 := Li (I0.out.grown hg11 (by intro h; injection h with h; omega))
    have S0 := Li (S0.out.grown hg11 (by intro h; injection h with h; omega))
    have T0 := Li (T0.out.grown hg11 (by intro h; injection h with h; omega))
    have P0 := Li (P0.out.grown hg11 (by intro h; injection h with h; omega))
    have G6 := Li (G6.out.grown hg11 (by intro h; injection h with h; omega))
    have G7 := Li hc11
    have BB := Li (below_grown BB.out hg11 BB.out.size (by omega))
    refine hK.out _ _ (Li ⟨R0.out, I0.out, S0.out⟩) (fun hHeld => ?_)
    clear hK KK
    try simp only [pnz]
    refine wpAnyH_done (by kernel_rfl) ?_ _
    go_wp2_with fail
    go_meet
    exact ⟨_, _, rfl, rfl, by omega, by omega, G6, G7, R0, I0, P0, T0, BB⟩
  ·
   go_simp
   have n9 := T0.out.lt
   have G7 := Li (CB.new X0 62 [.bool false, .int .i64 0, .string ⟨#[]⟩])
   have R0 := Li (R0.out.alloc (.cells #[.bool false, .int .i64 0, .string ⟨#[]⟩] 62))
   have I0 := Li (I0.out.alloc (.cells #[.bool false, .int .i64 0, .string ⟨#[]⟩] 62))
   have S0 := Li (S0.out.alloc (.cells #[.bool false, .int .i64 0, .string ⟨#[]⟩] 62))
   have T0 := Li (T0.out.alloc (.cells #[.bool false, .int .i64 0, .string ⟨#[]⟩] 62))
   have P0 := Li (P0.out.alloc (.cells #[.bool false, .int .i64 0, .string ⟨#[]⟩] 62))
   have BB := Li (BB.out.alloc BB.out.size (.cells #[.bool false, .int .i64 0, .string ⟨#[]⟩] 62))
   have m9 := G7.out.lt
   refine hK.out _ _ (Li ⟨R0.out, I0.out, S0.out⟩) (fun hHeld => ?_)
   clear hK KK
   try simp only [pnz]
   generalize X0.alloc (.cells #[.bool false, .int .i64 0, .string ⟨#[]⟩] 62) = v9 at R0 I0 S0 T0 P0 G7 m9 hHeld BB ⊢
   refine rd2 2 8 (fun KK hK => ?_) (fun KK hK => ?_)
   ·
    go_simp
    go_at_call 88
    refine (valueOf_any A n c r wh _ HN.out (HS.out.up BB.out) (by omega) hi).mono ?_
    rintro e v2 ⟨rfl, hb8⟩
    rw [HD.out]
    have G7 := Li (G7.out.up hb8)
    have R0 := Li (R0.out.up hb8)
    have I0 := Li (I0.out.up hb8)
    have S0 := Li (S0.out.up hb8)
    have T0 := Li (T0.out.up hb8)
    have P0 := Li (P0.out.up hb8)
    have BB := Li (below_step BB.out BB.out.size hb8)
    clear hb8
    go_wp2_with fail
    refine hK.out _ _ (Li ⟨R0.out, I0.out, S0.out⟩) (fun hHeld => ?_)
    clear hK KK
    try simp only [pnz]
    refine rd2 4 8 (fun KK hK => ?_) (fun KK hK => ?_)
    ·
     go_simp
     go_at_call 90
     refine (divided_any t sep _ (HGV.out.up BB.out) HTZ.out).mono ?_
     rintro e v4 ⟨rfl, hb8⟩
     rw [HD1.out, HD2.out]
     have G7 := Li (G7.out.up hb8)
     have R0 := Li (R0.out.up hb8)
     have I0 := Li (I0.out.up hb8)
     have S0 := Li (S0.out.up hb8)
     have T0 := Li (T0.out.up hb8)
     have P0 := Li (P0.out.up hb8)
     have BB := Li (below_step BB.out BB.out.size hb8)
     clear hb8
     go_wp2_with fail
     refine hK.out _ _ (Li ⟨R0.out, I0.out, S0.out⟩) (fun hHeld => ?_)
     clear hK KK
     try simp only [pnz]
     refine htk 5 ?_
     refine htk 6 ?_
     refine htk 7 ?_
     refine rd1 8 fun KK hK => ?_
     go_simp
     have n8 := T0.out.lt
     have d98 := G7.out.lt
     have G6 := Li (CB.new v4 62 [.bool false, .int .i64 0, .string ⟨#[]⟩])
     have R0 := Li (R0.out.alloc (.cells #[.bool false, .int .i64 0, .string ⟨#[]⟩] 62))
     have I0 := Li (I0.out.alloc (.cells #[.bool false, .int .i64 0, .string ⟨#[]⟩] 62))
     have S0 := Li (S0.out.alloc (.cells #[.bool false, .int .i64 0, .string ⟨#[]⟩] 62))
     have T0 := Li (T0.out.alloc (.cells #[.bool false, .int .i64 0, .string ⟨#[]⟩] 62))
     have P0 := Li (P0.out.alloc (.cells #[.bool false, .int .i64 0, .string ⟨#[]⟩] 62))
     have G7 := Li (G7.out.alloc (.cells #[.bool false, .int .i64 0, .string ⟨#[]⟩] 62))
     have BB := Li (BB.out.alloc BB.out.size (.cells #[.bool false, .int .i64 0, .string ⟨#[]⟩] 62))
     have m8 := G6.out.lt
     refine hK.out _ _ (Li ⟨R0.out, I0.out, S0.out⟩) (fun hHeld => ?_)
     clear hK KK
     try simp only [pnz]
     generalize v4.alloc (.cells #[.bool false, .int .i64 0, .string ⟨#[]⟩] 62) = v8 at R0 I0 S0 T0 P0 G6 m8 hHeld BB G7 ⊢
     refine rd1 10 fun KK hK => ?_
     refine step_store_cb rfl 62 (.tmp 6) (.tmp 14) rfl v4.heap.size [.bool d1.b, .int .i64 d1.n, .string d1.s] rfl rfl 62 [.bool false, .int .i64 0, .string ⟨#[]⟩] 3 G6.out sizeVa rfl rfl (one_va _ _ _) ?_
     intro s10 hc10 hg10 hz10
     have R0 := Li (R0.out.grown hg10 (by intro h; injection h with h; omega))
     have I0 := Li (I0.out.grown hg10 (by intro h; injection h with h; omega))
     have S0 := Li (S0.out.grown hg10 (by intro h; injection h with h; omega))
     have T0 := Li (T0.out.grown hg10 (by intro h; injection h with h; omega))
     have P0 := Li (P0.out.grown hg10 (by intro h; injection h with h; omega))
     have G7 := Li (G7.out.grown hg10 (by intro h; injection h with h; omega))
     have G6 := Li hc10
     have BB := Li (below_grown BB.out hg10 BB.out.size (by omega))
     refine hK.out _ _ (Li ⟨R0.out, I0.out, S0.out⟩) (fun hHeld => ?_)
     clear hK KK
     try simp only [pnz]
     refine rd1 11 fun KK hK => ?_
     refine step_store_cb rfl 62 (.tmp 7) (.tmp 15) rfl X0.heap.size [.bool d2.b, .int .i64 d2.n, .string d2.s] rfl rfl 62 [.bool false, .int .i64 0, .string ⟨#[]⟩] 3 G7.out sizeVa rfl rfl (one_va _ _ _) ?_
     intro s11 hc11 hg11 hz11
     have R0 := Li (R0.out.grown hg11 (by intro h; injection h with h; omega))
     have I0 := Li (I0.out.grown hg11 (by intro h; injection h with h; omega))
     have S0 := Li (S0.out.grown hg11 (by intro h; injection h with h; omega))
     have T0 := Li (T0.out.grown hg11 (by intro h; injection h with h; omega))
     have P0 := Li (P0.out.grown hg11 (by intro h; injection h with h; omega))
     have G6 := Li (G6.out.grown hg11 (by intro h; injection h with h; omega))
     have G7 := Li hc11
     have BB := Li (below_grown BB.out hg11 BB.out.size (by omega))
     refine hK.out _ _ (Li ⟨R0.out, I0.out, S0.out⟩) (fun hHeld => ?_)
     clear hK KK
     try simp only [pnz]
     refine wpAnyH_done (by kernel_rfl) ?_ _
     go_wp2_with fail
     go_meet
     exact ⟨_, _, rfl, rfl, by omega, by omega, G6, G7, R0, I0, P0, T0, BB⟩
    ·
     go_simp
     have n8 := T0.out.lt
     have d98 := G7.out.lt
     have G6 := Li (CB.new v2 62 [.bool false, .int .i64 0, .string ⟨#[]⟩])
     have R0 := Li (R0.out.alloc (.cells #[.bool false, .int .i64 0, .string ⟨#[]⟩] 62))
     have I0 := Li (I0.out.alloc (.cells #[.bool false, .int .i64 0, .string ⟨#[]⟩] 62))
     have S0 := Li (S0.out.alloc (.cells #[.bool false, .int .i64 0, .string ⟨#[]⟩] 62))
     have T0 := Li (T0.out.alloc (.cells #[.bool false, .int .i64 0, .string ⟨#[]⟩] 62))
     have P0 := Li (P0.out.alloc (.cells #[.bool false, .int .i64 0, .string ⟨#[]⟩] 62))
     have G7 := Li (G7.out.alloc (.cells #[.bool false, .int .i64 0, .string ⟨#[]⟩] 62))
     have BB := Li (BB.out.alloc BB.out.size (.cells #[.bool false, .int .i64 0, .string ⟨#[]⟩] 62))
     have m8 := G6.out.lt
     refine hK.out _ _ (Li ⟨R0.out, I0.out, S0.out⟩) (fun hHeld => ?_)
     clear hK KK
     try simp only [pnz]
     generalize v2.alloc (.cells #[.bool false, .int .i64 0, .string ⟨#[]⟩] 62) = v8 at R0 I0 S0 T0 P0 G6 m8 hHeld BB G7 ⊢
     refine rd1 4 fun KK hK => ?_
     go_simp
     go_at_call 90
     refine (divided_any t sep _ (HGV.out.up BB.out) HTZ.out).mono ?_
     rintro e v4 ⟨rfl, hb8⟩
     rw [HD1.out, HD2.out]
     have G7 := Li (G7.out.up hb8)
     have G6 := Li (G6.out.up hb8)
     have R0 := Li (R0.out.up hb8)
     have I0 := Li (I0.out.up hb8)
     have S0 := Li (S0.out.up hb8)
     have T0 := Li (T0.out.up hb8)
     have P0 := Li (P0.out.up hb8)
     have BB := Li (below_step BB.out BB.out.size hb8)
     clear hb8
     go_wp2_with fail
     refine hK.out _ _ (Li ⟨R0.out, I0.out, S0.out⟩) (fun hHeld => ?_)
     clear hK KK
     try simp only [pnz]
     refine htk 5 ?_
     refine htk 6 ?_
     refine htk 7 ?_
     refine rd1 10 fun KK hK => ?_
     refine step_store_cb rfl 62 (.tmp 6) (.tmp 14) rfl v2.heap.size [.bool d1.b, .int .i64 d1.n, .string d1.s] rfl rfl 62 [.bool false, .int .i64 0, .string ⟨#[]⟩] 3 G6.out sizeVa rfl rfl (one_va _ _ _) ?_
     intro s10 hc10 hg10 hz10
     have R0 := Li (R0.out.grown hg10 (by intro h; injection h with h; omega))
     have I0 := Li (I0.out.grown hg10 (by intro h; injection h with h; omega))
     have S0 := Li (S0.out.grown hg10 (by intro h; injection h with h; omega))
     have T0 := Li (T0.out.grown hg10 (by intro h; injection h with h; omega))
     have P0 := Li (P0.out.grown hg10 (by intro h; injection h with h; omega))
     have G7 := Li (G7.out.grown hg10 (by intro h; injection h with h; omega))
     have G6 := Li hc10
     have BB := Li (below_grown BB.out hg10 BB.out.size (by omega))
     refine hK.out _ _ (Li ⟨R0.out, I0.out, S0.out⟩) (fun hHeld => ?_)
     clear hK KK
     try simp only [pnz]
     refine rd1 11 fun KK hK => ?_
     refine step_store_cb rfl 62 (.tmp 7) (.tmp 15) rfl X0.heap.size [.bool d2.b, .int .i64 d2.n, .string d2.s] rfl rfl 62 [.bool false, .int .i64 0, .string ⟨#[]⟩] 3 G7.out sizeVa rfl rfl (one_va _ _ _) ?_
     intro s11 hc11 hg11 hz11
     have R0 := Li (R0.out.grown hg11 (by intro h; injection h with h; omega))
     have I0 := Li (I0.out.grown hg11 (by intro h; injection h with h; omega))
     have S0 := Li (S0.out.grown hg11 (by intro h; injection h with h; omega))
     have T0 := Li (T0.out.grown hg11 (by intro h; injection h with h; omega))
     have P0 := Li (P0.out.grown hg11 (by intro h; injection h with h; omega))
     have G6 := Li (G6.out.grown hg11 (by intro h; injection h with h; omega))
     have G7 := Li hc11
     have BB := Li (below_grown BB.out hg11 BB.out.size (by omega))
     refine hK.out _ _ (Li ⟨R0.out, I0.out, S0.out⟩) (fun hHeld => ?_)
     clear hK KK
     try simp only [pnz]
     refine wpAnyH_done (by kernel_rfl) ?_ _
     go_wp2_with fail
     go_meet
     exact ⟨_, _, rfl, rfl, by omega, by omega, G6, G7, R0, I0, P0, T0, BB⟩
   ·
    go_simp
    have n8 := T0.out.lt
    have d98 := G7.out.lt
    have G6 := Li (CB.new v9 62 [.bool false, .int .i64 0, .string ⟨#[]⟩])
    have R0 := Li (R0.out.alloc (.cells #[.bool false, .int .i64 0, .string ⟨#[]⟩] 62))
    have I0 := Li (I0.out.alloc (.cells #[.bool false, .int .i64 0, .string ⟨#[]⟩] 62))
    have S0 := Li (S0.out.alloc (.cells #[.bool false, .int .i64 0, .string ⟨#[]⟩] 62))
    have T0 := Li (T0.out.alloc (.cells #[.bool false, .int .i64 0, .string ⟨#[]⟩] 62))
    have P0 := Li (P0.out.alloc (.cells #[.bool false, .int .i64 0, .string ⟨#[]⟩] 62))
    have G7 := Li (G7.out.alloc (.cells #[.bool false, .int .i64 0, .string ⟨#[]⟩] 62))
    have BB := Li (BB.out.alloc BB.out.size (.cells #[.bool false, .int .i64 0, .string ⟨#[]⟩] 62))
    have m8 := G6.out.lt
    refine hK.out _ _ (Li ⟨R0.out, I0.out, S0.out⟩) (fun hHeld => ?_)
    clear hK KK
    try simp only [pnz]
    generalize v9.alloc (.cells #[.bool false, .int .i64 0, .string ⟨#[]⟩] 62) = v8 at R0 I0 S0 T0 P0 G6 m8 hHeld BB G7 ⊢
    refine rd1 2 fun KK hK => ?_
    go_simp
    go_at_call 88
    refine (valueOf_any A n c r wh _ HN.out (HS.out.up BB.out) (by omega) hi).mono ?_
    rintro e v2 ⟨rfl, hb8⟩
    rw [HD.out]
    have G7 := Li (G7.out.up hb8)
    have G6 := Li (G6.out.up hb8)
    have R0 := Li (R0.out.up hb8)
    have I0 := Li (I0.out.up hb8)
    have S0 := Li (S0.out.up hb8)
    have T0 := Li (T0.out.up hb8)
    have P0 := Li (P0.out.up hb8)
    have BB := Li (below_step BB.out BB.out.size hb8)
    clear hb8
    go_wp2_with fail
    refine hK.out _ _ (Li ⟨R0.out, I0.out, S0.out⟩) (fun hHeld => ?_)
    clear hK KK
    try simp only [pnz]
    refine rd1 4 fun KK hK => ?_
    go_simp
    go_at_call 90
    refine (divided_any t sep _ (HGV.out.up BB.out) HTZ.out).mono ?_
    rintro e v4 ⟨rfl, hb8⟩
    rw [HD1.out, HD2.out]
    have G7 := Li (G7.out.up hb8)
    have G6 := Li (G6.out.up hb8)
    have R0 := Li (R0.out.up hb8)
    have I0 := Li (I0.out.up hb8)
    have S0 := Li (S0.out.up hb8)
    have T0 := Li (T0.out.up hb8)
    have P0 := Li (P0.out.up hb8)
    have BB := Li (below_step BB.out BB.out.size hb8)
    clear hb8
    go_wp2_with fail
    refine hK.out _ _ (Li ⟨R0.out, I0.out, S0.out⟩) (fun hHeld => ?_)
    clear hK KK
    try simp only [pnz]
    refine htk 5 ?_
    refine htk 6 ?_
    refine htk 7 ?_
    refine rd1 10 fun KK hK => ?_
    refine step_store_cb rfl 62 (.tmp 6) (.tmp 14) rfl v9.heap.size [.bool d1.b, .int .i64 d1.n, .string d1.s] rfl rfl 62 [.bool false, .int .i64 0, .string ⟨#[]⟩] 3 G6.out sizeVa rfl rfl (one_va _ _ _) ?_
    intro s10 hc10 hg10 hz10
    have R0 := Li (R0.out.grown hg10 (by intro h; injection h with h; omega))
    have I0 := Li (I0.out.grown hg10 (by intro h; injection h with h; omega))
    have S0 := Li (S0.out.grown hg10 (by intro h; injection h with h; omega))
    have T0 := Li (T0.out.grown hg10 (by intro h; injection h with h; omega))
    have P0 := Li (P0.out.grown hg10 (by intro h; injection h with h; omega))
    have G7 := Li (G7.out.grown hg10 (by intro h; injection h with h; omega))
    have G6 := Li hc10
    have BB := Li (below_grown BB.out hg10 BB.out.size (by omega))
    refine hK.out _ _ (Li ⟨R0.out, I0.out, S0.out⟩) (fun hHeld => ?_)
    clear hK KK
    try simp only [pnz]
    refine rd1 11 fun KK hK => ?_
    refine step_store_cb rfl 62 (.tmp 7) (.tmp 15) rfl X0.heap.size [.bool d2.b, .int .i64 d2.n, .string d2.s] rfl rfl 62 [.bool false, .int .i64 0, .string ⟨#[]⟩] 3 G7.out sizeVa rfl rfl (one_va _ _ _) ?_
    intro s11 hc11 hg11 hz11
    have R0 := Li (R0.out.grown hg11 (by intro h; injection h with h; omega))
    have I0 := Li (I0.out.grown hg11 (by intro h; injection h with h; omega))
    have S0 := Li (S0.out.grown hg11 (by intro h; injection h with h; omega))
    have T0 := Li (T0.out.grown hg11 (by intro h; injection h with h; omega))
    have P0 := Li (P0.out.grown hg11 (by intro h; injection h with h; omega))
    have G6 := Li (G6.out.grown hg11 (by intro h; injection h with h; omega))
    have G7 := Li hc11
    have BB := Li (below_grown BB.out hg11 BB.out.size (by omega))
    refine hK.out _ _ (Li ⟨R0.out, I0.out, S0.out⟩) (fun hHeld => ?_)
    clear hK KK
    try simp only [pnz]
    refine wpAnyH_done (by kernel_rfl) ?_ _
    go_wp2_with fail
    go_meet
    exact ⟨_, _, rfl, rfl, by omega, by omega, G6, G7, R0, I0, P0, T0, BB⟩
 case rest =>
  clear R0 I0 S0 P0 T0 BB
  obtain ⟨g6, g7, rfl, rfl, n6, n7, G6, G7, R0, I0, P0, T0, BB⟩ := hcut
  generalize wc = W1 at *
  go_upto_region 2 with fail
  have R0 := Li R0.out.dr
  have I0 := Li I0.out.dr
  have P0 := Li P0.out.dr
  have G6 := Li G6.out.dr
  have G7 := Li G7.out.dr
  have T0 := Li T0.out.dr
  have BB := Li BB.out.drew
  refine wp_region_held_drew (S := fun w' => Hid (CB w' w.heap.size 30 [.slice A n c] ∧ CB w' g1 3 [.int .i64 wh] ∧ CB w' g3 46 [.int .i64 p0, .int .i64 p1] ∧ CB w' g6 62 [.bool d1.b, .int .i64 d1.n, .string d1.s] ∧ CB w' g7 62 [.bool d2.b, .int .i64 d2.n, .string d2.s])) (by kernel_rfl) (Li ⟨R0.out, I0.out, P0.out, G6.out, G7.out⟩) (fun hHeld => ?_)
  revert hHeld R0 I0 P0 G6 G7 T0 BB
  generalize W1.drew = X0
  intro R0 I0 P0 G6 G7 T0 BB hHeld
  refine htf 0 (fun _ h => And.intro (h.out.1.cell 0 rfl) (And.intro (h.out.1.lt) (And.intro (h.out.2.1.cell 0 rfl) (And.intro (h.out.2.1.lt) (And.intro (h.out.2.2.1.c2) (And.intro (h.out.2.2.1.lt) (And.intro (h.out.2.2.2.1.c3) (And.intro (h.out.2.2.2.1.lt) (And.intro (h.out.2.2.2.2.c3) (h.out.2.2.2.2.lt)))))))))) ?_
  refine htf 1 (fun _ h => And.intro (h.out.1.cell 0 rfl) (And.intro (h.out.1.lt) (And.intro (h.out.2.1.cell 0 rfl) (And.intro (h.out.2.1.lt) (And.intro (h.out.2.2.1.c2) (And.intro (h.out.2.2.1.lt) (And.intro (h.out.2.2.2.1.c3) (And.intro (h.out.2.2.2.1.lt) (And.intro (h.out.2.2.2.2.c3) (h.out.2.2.2.2.lt)))))))))) ?_
  refine htk 4 ?_
  refine htf 5 (fun _ h => And.intro (h.out.1.cell 0 rfl) (And.intro (h.out.1.lt) (And.intro (h.out.2.1.cell 0 rfl) (And.intro (h.out.2.1.lt) (And.intro (h.out.2.2.1.c2) (And.intro (h.out.2.2.1.lt) (And.intro (h.out.2.2.2.1.c3) (And.intro (h.out.2.2.2.1.lt) (And.intro (h.out.2.2.2.2.c3) (h.out.2.2.2.2.lt)))))))))) ?_
  refine htf 6 (fun _ h => And.intro (h.out.1.cell 0 rfl) (And.intro (h.out.1.lt) (And.intro (h.out.2.1.cell 0 rfl) (And.intro (h.out.2.1.lt) (And.intro (h.out.2.2.1.c2) (And.intro (h.out.2.2.1.lt) (And.intro (h.out.2.2.2.1.c3) (And.intro (h.out.2.2.2.1.lt) (And.intro (h.out.2.2.2.2.c3) (h.out.2.2.2.2.lt)))))))))) ?_
  refine htk 8 ?_
  refine htf 9 (fun _ h => And.intro (h.out.1.cell 0 rfl) (And.intro (h.out.1.lt) (And.intro (h.out.2.1.cell 0 rfl) (And.intro (h.out.2.1.lt) (And.intro (h.out.2.2.1.c2) (And.intro (h.out.2.2.1.lt) (And.intro (h.out.2.2.2.1.c3) (And.intro (h.out.2.2.2.1.lt) (And.intro (h.out.2.2.2.2.c3) (h.out.2.2.2.2.lt)))))))))) ?_
  refine htf 10 (fun _ h => And.intro (h.out.1.cell 0 rfl) (And.intro (h.out.1.lt) (And.intro (h.out.2.1.cell 0 rfl) (And.intro (h.out.2.1.lt) (And.intro (h.out.2.2.1.c2) (And.intro (h.out.2.2.1.lt) (And.intro (h.out.2.2.2.1.c3) (And.intro (h.out.2.2.2.1.lt) (And.intro (h.out.2.2.2.2.c3) (h.out.2.2.2.2.lt)))))))))) ?_
  refine rd1 2 fun KK hK => ?_
  go_simp
  go_at_call 86
  refine (null_any _).mono ?_
  rintro e v2 ⟨rfl, hb8⟩
  have R0 := Li (R0.out.up hb8)
  have I0 := Li (I0.out.up hb8)
  have P0 := Li (P0.out.up hb8)
  have G6 := Li (G6.out.up hb8)
  have G7 := Li (G7.out.up hb8)
  have T0 := Li (T0.out.up hb8)
  have BB := Li (below_step BB.out BB.out.size hb8)
  clear hb8
  go_wp2_with fail
  refine hK.out _ _ (Li ⟨R0.out, I0.out, P0.out, G6.out, G7.out⟩) (fun hHeld => ?_)
  clear hK KK
  try simp only [pnz]
  refine rd1 3 fun KK hK => ?_
  go_simp
  go_at_call 85
  refine (withC_any A n c r wh ⟨true, 0, ⟨#[]⟩⟩ _ HN.out (HS.out.up BB.out) (by omega) hc hcm hi).mono ?_
  rintro e v3 ⟨ho3, hb8⟩
  obtain ⟨A3, c3, rfl, hs3, hc3, hm3⟩ := ho3.c
  have C3 := Li hs3
  clear ho3 hs3
  have R0 := Li (R0.out.up hb8)
  have I0 := Li (I0.out.up hb8)
  have P0 := Li (P0.out.up hb8)
  have G6 := Li (G6.out.up hb8)
  have G7 := Li (G7.out.up hb8)
  have T0 := Li (T0.out.up hb8)
  have BB := Li (below_step BB.out BB.out.size hb8)
  clear hb8
  go_wp2_with fail
  refine hK.out _ _ (Li ⟨R0.out, I0.out, P0.out, G6.out, G7.out⟩) (fun hHeld => ?_)
  clear hK KK
  try simp only [pnz]
  refine rd1 7 fun KK hK => ?_
  go_simp
  go_at_call 85
  refine (withC_any A3 (setL r wh ⟨true, 0, ⟨#[]⟩⟩).length c3 (setL r wh ⟨true, 0, ⟨#[]⟩⟩) p0 d1 _ rfl C3.out (by have := HLN.out; have := set_len r wh ⟨true, 0, ⟨#[]⟩⟩; omega) hc3 hm3 (inc_set hi)).mono ?_
  rintro e v7 ⟨ho7, hb8⟩
  obtain ⟨A7, c7, rfl, hs7, hc7, hm7⟩ := ho7.c
  have C7 := Li hs7
  clear ho7 hs7
  have C3 := Li (C3.out.up hb8)
  have R0 := Li (R0.out.up hb8)
  have I0 := Li (I0.out.up hb8)
  have P0 := Li (P0.out.up hb8)
  have G6 := Li (G6.out.up hb8)
  have G7 := Li (G7.out.up hb8)
  have T0 := Li (T0.out.up hb8)
  have BB := Li (below_step BB.out BB.out.size hb8)
  clear hb8
  go_wp2_with fail
  refine hK.out _ _ (Li ⟨R0.out, I0.out, P0.out, G6.out, G7.out⟩) (fun hHeld => ?_)
  clear hK KK
  try simp only [pnz]
  refine rd1 11 fun KK hK => ?_
  go_simp
  go_at_call 85
  refine (withC_any A7 (setL (setL r wh ⟨true, 0, ⟨#[]⟩⟩) p0 d1).length c7 (setL (setL r wh ⟨true, 0, ⟨#[]⟩⟩) p0 d1) p1 d2 _ rfl C7.out (by have := HLN.out; have := set_len r wh ⟨true, 0, ⟨#[]⟩⟩; have := set_len (setL r wh ⟨true, 0, ⟨#[]⟩⟩) p0 d1; omega) hc7 hm7 (inc_set (inc_set hi))).mono ?_
  rintro e v11 ⟨ho11, hb8⟩
  obtain ⟨A11, c11, rfl, ho11⟩ := ho11
  have HO := Li (ho11.low (b := w.heap.size) BB.out.size)
  clear ho11
  have C3 := Li (C3.out.up hb8)
  have C7 := Li (C7.out.up hb8)
  have R0 := Li (R0.out.up hb8)
  have I0 := Li (I0.out.up hb8)
  have P0 := Li (P0.out.up hb8)
  have G6 := Li (G6.out.up hb8)
  have G7 := Li (G7.out.up hb8)
  have T0 := Li (T0.out.up hb8)
  have BB := Li (below_step BB.out BB.out.size hb8)
  clear hb8
  go_wp2_with fail
  refine hK.out _ _ (Li ⟨R0.out, I0.out, P0.out, G6.out, G7.out⟩) (fun hHeld => ?_)
  clear hK KK
  try simp only [pnz]
  refine rd1 12 fun KK hK => ?_
  refine step_store_cb rfl 30 (.tmp 5) (.tmp 27) rfl (w.heap.size + 1) [.slice A11 (setL (setL (setL r wh ⟨true, 0, ⟨#[]⟩⟩) p0 d1) p1 d2).length c11] rfl rfl 30 [.slice none 0 0] 1 T0.out sizeRw rfl rfl (one_rw _ _ _) ?_
  intro s12 hc12 hg12 hz12
  have R0 := Li (R0.out.grown hg12 (by intro h; injection h with h; omega))
  have I0 := Li (I0.out.grown hg12 (by intro h; injection h with h; omega))
  have P0 := Li (P0.out.grown hg12 (by intro h; injection h with h; omega))
  have G6 := Li (G6.out.grown hg12 (by intro h; injection h with h; omega))
  have G7 := Li (G7.out.grown hg12 (by intro h; injection h with h; omega))
  have HO := Li (HO.out.kept hg12 (.inr (HO.out.ne T0.out (by decide)).symm))
  have T0 := Li hc12
  have BB := Li (below_grown BB.out hg12 BB.out.size (by omega))
  refine hK.out _ _ (Li ⟨R0.out, I0.out, P0.out, G6.out, G7.out⟩) (fun hHeld => ?_)
  clear hK KK
  try simp only [pnz]
  refine wpAnyH_done (by kernel_rfl) ?_ _
  go_wp2_with fail
  refine bodyPost_ret (res_cell1 Tryz.results89 rfl T0.out Tryz.underlying30 sizeRw rfl) rfl ⟨?_, BB.out⟩
  rw [HE.out]
  exact ⟨A11, c11, rfl, HO.out⟩
end Go.Proofs.YtfeemipnalgjnaaGreat
