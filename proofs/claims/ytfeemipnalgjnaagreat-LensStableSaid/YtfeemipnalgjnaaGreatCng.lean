/-
 connecting's closure, and the functions that make closures, by contracts.
-/
import Derived.Test.YtfeemipnalgjnaaGreatHd
import Derived.Test.YtfeemipnalgjnaaGreatDiv
namespace Go.Proofs.YtfeemipnalgjnaaGreat
open Go.RowKit

set_option maxHeartbeats 8000000 in
set_option maxRecDepth 20000 in
theorem connecting1_any (A : Option Addr) (n c : Nat) (r : List Ce) (p0 p1 wh : Int) (kd id wi : Int) (nm ot : ByteArray) (ty pa : Int) (sep : ByteArray) (g1 g2 g3 gc : Nat) (w : World) (hn : n = r.length) (hs : Ces w w.heap.size A r) (hl : n ≤ 1000) (hc : n ≤ c) (hcm : c ≤ 9223372036854775807) (hi : Inc r) (hz : ∀ d ∈ r, d.v.s.size ≤ 1000) (hsz : sep.size ≤ 1000000) (h1 : CB w g1 99 [.func (.func 67) #[] #[.pointer (some ⟨gc, 0, none⟩)]]) (h2 : CB w g2 46 [.int .i64 p0, .int .i64 p1]) (h3 : CB w g3 3 [.int .i64 wh]) (h4 : CB w gc 24 [.int .i64 kd, .int .i64 id, .int .i64 wi, .string nm, .string ot, .int .i64 ty, .int .i64 pa, .string sep]) :
  Calls Tryz.prog 91 #[.agg #[.slice A n c], .pointer (some ⟨g1, 0, none⟩), .pointer (some ⟨g2, 0, none⟩), .pointer (some ⟨g3, 0, none⟩)] w fun e w' => RetO w w' (coP undP r p0 p1 wh sep) e ∧ Below w.heap.size w w' := by
 have HN := Li hn
 have HS := Li hs
 have R0 := Li ((CB.new w 30 [.slice A n c]).alloc (.cells #[.slice none 0 0] 30))
 have T0 := Li (CB.new1 w (.cells #[.slice A n c] 30) 30 [.slice none 0 0])
 have BB := Li (al2 w (.cells #[.slice A n c] 30) (.cells #[.slice none 0 0] 30))
 have F0 := Li ((h1.alloc (.cells #[.slice A n c] 30)).alloc (.cells #[.slice none 0 0] 30))
 have lF0 := h1.lt
 have P0 := Li ((h2.alloc (.cells #[.slice A n c] 30)).alloc (.cells #[.slice none 0 0] 30))
 have lP0 := h2.lt
 have I0 := Li ((h3.alloc (.cells #[.slice A n c] 30)).alloc (.cells #[.slice none 0 0] 30))
 have lI0 := h3.lt
 have C0 := Li ((h4.alloc (.cells #[.slice A n c] 30)).alloc (.cells #[.slice none 0 0] 30))
 have lC0 := h4.lt
 have HLN := Li (show r.length ≤ 1000 by omega)
 have HSZ := Li hsz
 have hta := vsz hi hz p0
 have htb := vsz hi hz p1
 obtain ⟨a, ha⟩ : ∃ a, getL r p0 = a := ⟨_, rfl⟩
 obtain ⟨b, hb⟩ : ∃ b, getL r p1 = b := ⟨_, rfl⟩
 rw [ha] at hta
 rw [hb] at htb
 have HTA := Li hta
 have HTB := Li htb
 have HDA := Li ha
 have HDB := Li hb
 obtain ⟨d, hd⟩ : ∃ d, undP a b sep = d := ⟨_, rfl⟩
 have HDD := Li hd
 have HE := Li (show coP undP r p0 p1 wh sep = setL (setL (setL r p0 ⟨true, 0, ⟨#[]⟩⟩) p1 ⟨true, 0, ⟨#[]⟩⟩) wh d by unfold coP; rw [ha, hb, hd]; rfl)
 clear hs hn h1 h2 h3 h4 hta htb ha hb hd hz hsz
 go_enter Tryz.func91, Tryz.ntmps91
 go_upto_region 1 with fail
 generalize (w.alloc (.cells #[.slice A n c] 30)).alloc (.cells #[.slice none 0 0] 30) = W0 at *
 go_cut [6] from 7 to 16 (fun u wx => ∃ g6 : Nat, u = .pointer (some ⟨g6, 0, none⟩) ∧ w.heap.size + 1 < g6 ∧ Hid (CB wx g6 62 [.bool d.b, .int .i64 d.n, .string d.s]) ∧ Hid (CB wx w.heap.size 30 [.slice A n c]) ∧ Hid (CB wx g3 3 [.int .i64 wh]) ∧ Hid (CB wx g2 46 [.int .i64 p0, .int .i64 p1]) ∧ Hid (CB wx (w.heap.size + 1) 30 [.slice none 0 0]) ∧ Hid (Below w.heap.size w wx))
 case first =>
  have R0 := Li R0.out.dr
  have F0 := Li F0.out.dr
  have P0 := Li P0.out.dr
  have T0 := Li T0.out.dr
  have I0 := Li I0.out.dr
  have C0 := Li C0.out.dr
  have BB := Li BB.out.drew
  refine wp_region_held_drew (S := fun w' => Hid (CB w' w.heap.size 30 [.slice A n c] ∧ CB w' g1 99 [.func (.func 67) #[] #[.pointer (some ⟨gc, 0, none⟩)]] ∧ CB w' g2 46 [.int .i64 p0, .int .i64 p1])) (by kernel_rfl) (Li ⟨R0.out, F0.out, P0.out⟩) (fun hHeld => ?_)
  revert hHeld R0 F0 P0 T0 I0 C0 BB
  generalize W0.drew = X0
  intro R0 F0 P0 T0 I0 C0 BB hHeld
  refine htf 0 (fun _ h => And.intro (h.out.1.cell 0 rfl) (And.intro (h.out.1.lt) (And.intro (h.out.2.1.cell 0 rfl) (And.intro (h.out.2.1.lt) (And.intro (h.out.2.2.c2) (h.out.2.2.lt)))))) ?_
  refine htf 1 (fun _ h => And.intro (h.out.1.cell 0 rfl) (And.intro (h.out.1.lt) (And.intro (h.out.2.1.cell 0 rfl) (And.intro (h.out.2.1.lt) (And.intro (h.out.2.2.c2) (h.out.2.2.lt)))))) ?_
  refine htk 2 ?_
  refine htf 3 (fun _ h => And.intro (h.out.1.cell 0 rfl) (And.intro (h.out.1.lt) (And.intro (h.out.2.1.cell 0 rfl) (And.intro (h.out.2.1.lt) (And.intro (h.out.2.2.c2) (h.out.2.2.lt)))))) ?_
  refine htf 5 (fun _ h => And.intro (h.out.1.cell 0 rfl) (And.intro (h.out.1.lt) (And.intro (h.out.2.1.cell 0 rfl) (And.intro (h.out.2.1.lt) (And.intro (h.out.2.2.c2) (h.out.2.2.lt)))))) ?_
  refine htk 6 ?_
  refine htf 7 (fun _ h => And.intro (h.out.1.cell 0 rfl) (And.intro (h.out.1.lt) (And.intro (h.out.2.1.cell 0 rfl) (And.intro (h.out.2.1.lt) (And.intro (h.out.2.2.c2) (h.out.2.2.lt)))))) ?_
  refine rd2 4 10 (fun KK hK => ?_) (fun KK hK => ?_)
  ·
   go_simp
   go_at_call 88
   refine (valueOf_any A n c r p0 _ HN.out (HS.out.up BB.out) (by omega) hi).mono ?_
   rintro e v4 ⟨rfl, hb8⟩
   rw [HDA.out]
   have R0 := Li (R0.out.up hb8)
   have F0 := Li (F0.out.up hb8)
   have P0 := Li (P0.out.up hb8)
   have T0 := Li (T0.out.up hb8)
   have I0 := Li (I0.out.up hb8)
   have C0 := Li (C0.out.up hb8)
   have BB := Li (below_step BB.out BB.out.size hb8)
   clear hb8
   go_wp2_with fail
   refine hK.out _ _ (Li ⟨R0.out, F0.out, P0.out⟩) (fun hHeld => ?_)
   clear hK KK
   try simp only [pnz]
   refine rd2 8 10 (fun KK hK => ?_) (fun KK hK => ?_)
   ·
    go_simp
    go_at_call 88
    refine (valueOf_any A n c r p1 _ HN.out (HS.out.up BB.out) (by omega) hi).mono ?_
    rintro e v8 ⟨rfl, hb8⟩
    rw [HDB.out]
    have R0 := Li (R0.out.up hb8)
    have F0 := Li (F0.out.up hb8)
    have P0 := Li (P0.out.up hb8)
    have T0 := Li (T0.out.up hb8)
    have I0 := Li (I0.out.up hb8)
    have C0 := Li (C0.out.up hb8)
    have BB := Li (below_step BB.out BB.out.size hb8)
    clear hb8
    go_wp2_with fail
    refine hK.out _ _ (Li ⟨R0.out, F0.out, P0.out⟩) (fun hHeld => ?_)
    clear hK KK
    try simp only [pnz]
    refine rd2 9 10 (fun KK hK => ?_) (fun KK hK => ?_)
    ·
     go_simp
     go_at_call 67
     refine (lensOf1_any a b kd id wi nm ot ty pa sep gc _ (by have := HTA.out; omega) (by have := HTB.out; omega) HSZ.out C0.out).mono ?_
     rintro e v9 ⟨rfl, hb8⟩
     rw [HDD.out]
     have R0 := Li (R0.out.up hb8)
     have F0 := Li (F0.out.up hb8)
     have P0 := Li (P0.out.up hb8)
     have T0 := Li (T0.out.up hb8)
     have I0 := Li (I0.out.up hb8)
     have C0 := Li (C0.out.up hb8)
     have BB := Li (below_step BB.out BB.out.size hb8)
     clear hb8
     go_wp2_with fail
     refine hK.out _ _ (Li ⟨R0.out, F0.out, P0.out⟩) (fun hHeld => ?_)
     clear hK KK
     try simp only [pnz]
     refine rd1 10 fun KK hK => ?_
     go_simp
     have n10 := T0.out.lt
     have G6 := Li (CB.new v9 62 [.bool false, .int .i64 0, .string ⟨#[]⟩])
     have R0 := Li (R0.out.alloc (.cells #[.bool false, .int .i64 0, .string ⟨#[]⟩] 62))
     have F0 := Li (F0.out.alloc (.cells #[.bool false, .int .i64 0, .string ⟨#[]⟩] 62))
     have P0 := Li (P0.out.alloc (.cells #[.bool false, .int .i64 0, .string ⟨#[]⟩] 62))
     have T0 := Li (T0.out.alloc (.cells #[.bool false, .int .i64 0, .string ⟨#[]⟩] 62))
     have I0 := Li (I0.out.alloc (.cells #[.bool false, .int .i64 0, .string ⟨#[]⟩] 62))
     have C0 := Li (C0.out.alloc (.cells #[.bool false, .int .i64 0, .string ⟨#[]⟩] 62))
     have BB := Li (BB.out.alloc BB.out.size (.cells #[.bool false, .int .i64 0, .string ⟨#[]⟩] 62))
     have m10 := G6.out.lt
     refine hK.out _ _ (Li ⟨R0.out, F0.out, P0.out⟩) (fun hHeld => ?_)
     clear hK KK
     try simp only [pnz]
     generalize v9.alloc (.cells #[.bool false, .int .i64 0, .string ⟨#[]⟩] 62) = v10 at R0 F0 P0 T0 I0 C0 G6 m10 hHeld BB ⊢
     refine rd1 11 fun KK hK => ?_
     refine step_store_cb rfl 62 (.tmp 6) (.tmp 16) rfl v9.heap.size [.bool d.b, .int .i64 d.n, .string d.s] rfl rfl 62 [.bool false, .int .i64 0, .string ⟨#[]⟩] 3 G6.out sizeVa rfl rfl (one_va _ _ _) ?_
     intro s11 hc11 hg11 hz11
     have R0 := Li (R0.out.grown hg11 (by intro h; injection h with h; omega))
     have F0 := Li (F0.out.grown hg11 (by intro h; injection h with h; omega))
     have P0 := Li (P0.out.grown hg11 (by intro h; injection h with h; omega))
     have T0 := Li (T0.out.grown hg11 (by intro h; injection h with h; omega))
     have I0 := Li (I0.out.grown hg11 (by intro h; injection h with h; omega))
     have C0 := Li (C0.out.grown hg11 (by intro h; injection h with h; omega))
     have G6 := Li hc11
     have BB := Li (below_grown BB.out hg11 BB.out.size (by omega))
     refine hK.out _ _ (Li ⟨R0.out, F0.out, P0.out⟩) (fun hHeld => ?_)
     clear hK KK
     try simp only [pnz]
     refine wpAnyH_done (by kernel_rfl) ?_ _
     go_wp2_with fail
     go_meet
     exact ⟨_, rfl, by omega, G6, R0, I0, P0, T0, BB⟩
    ·
     go_simp
     have n10 := T0.out.lt
     have G6 := Li (CB.new v8 62 [.bool false, .int .i64 0, .string ⟨#[]⟩])
     have R0 := Li (R0.out.alloc (.cells #[.bool false, .int .i64 0, .string ⟨#[]⟩] 62))
     have F0 := Li (F0.out.alloc (.cells #[.bool false, .int .i64 0, .string ⟨#[]⟩] 62))
     have P0 := Li (P0.out.alloc (.cells #[.bool false, .int .i64 0, .string ⟨#[]⟩] 62))
     have T0 := Li (T0.out.alloc (.cells #[.bool false, .int .i64 0, .string ⟨#[]⟩] 62))
     have I0 := Li (I0.out.alloc (.cells #[.bool false, .int .i64 0, .string ⟨#[]⟩] 62))
     have C0 := Li (C0.out.alloc (.cells #[.bool false, .int .i64 0, .string ⟨#[]⟩] 62))
     have BB := Li (BB.out.alloc BB.out.size (.cells #[.bool false, .int .i64 0, .string ⟨#[]⟩] 62))
     have m10 := G6.out.lt
     refine hK.out _ _ (Li ⟨R0.out, F0.out, P0.out⟩) (fun hHeld => ?_)
     clear hK KK
     try simp only [pnz]
     generalize v8.alloc (.cells #[.bool false, .int .i64 0, .string ⟨#[]⟩] 62) = v10 at R0 F0 P0 T0 I0 C0 G6 m10 hHeld BB ⊢
     refine rd1 9 fun KK hK => ?_
     go_simp
     go_at_call 67
     refine (lensOf1_any a b kd id wi nm ot ty pa sep gc _ (by have := HTA.out; omega) (by have := HTB.out; omega) HSZ.out C0.out).mono ?_
     rintro e v9 ⟨rfl, hb8⟩
     rw [HDD.out]
     have G6 := Li (G6.out.up hb8)
     have R0 := Li (R0.out.up hb8)
     have F0 := Li (F0.out.up hb8)
     have P0 := Li (P0.out.up hb8)
     have T0 := Li (T0.out.up hb8)
     have I0 := Li (I0.out.up hb8)
     have C0 := Li (C0.out.up hb8)
     have BB := Li (below_step BB.out BB.out.size hb8)
     clear hb8
     go_wp2_with fail
     refine hK.out _ _ (Li ⟨R0.out, F0.out, P0.out⟩) (fun hHeld => ?_)
     clear hK KK
     try simp only [pnz]
     refine rd1 11 fun KK hK => ?_
     refine step_store_cb rfl 62 (.tmp 6) (.tmp 16) rfl v8.heap.size [.bool d.b, .int .i64 d.n, .string d.s] rfl rfl 62 [.bool false, .int .i64 0, .string ⟨#[]⟩] 3 G6.out sizeVa rfl rfl (one_va _ _ _) ?_
     intro s11 hc11 hg11 hz11
     have R0 := Li (R0.out.grown hg11 (by intro h; injection h with h; omega))
     have F0 := Li (F0.out.grown hg11 (by intro h; injection h with h; omega))
     have P0 := Li (P0.out.grown hg11 (by intro h; injection h with h; omega))
     have T0 := Li (T0.out.grown hg11 (by intro h; injection h with h; omega))
     have I0 := Li (I0.out.grown hg11 (by intro h; injection h with h; omega))
     have C0 := Li (C0.out.grown hg11 (by intro h; injection h with h; omega))
     have G6 := Li hc11
     have BB := Li (below_grown BB.out hg11 BB.out.size (by omega))
     refine hK.out _ _ (Li ⟨R0.out, F0.out, P0.out⟩) (fun hHeld => ?_)
     clear hK KK
     try simp only [pnz]
     refine wpAnyH_done (by kernel_rfl) ?_ _
     go_wp2_with fail
     go_meet
     exact ⟨_, rfl, by omega, G6, R0, I0, P0, T0, BB⟩
   ·
    go_simp
    have n10 := T0.out.lt
    have G6 := Li (CB.new v4 62 [.bool false, .int .i64 0, .string ⟨#[]⟩])
    have R0 := Li (R0.out.alloc (.cells #[.bool false, .int .i64 0, .string ⟨#[]⟩] 62))
    have F0 := Li (F0.out.alloc (.cells #[.bool false, .int .i64 0, .string ⟨#[]⟩] 62))
    have P0 := Li (P0.out.alloc (.cells #[.bool false, .int .i64 0, .string ⟨#[]⟩] 62))
    have T0 := Li (T0.out.alloc (.cells #[.bool false, .int .i64 0, .string ⟨#[]⟩] 62))
    have I0 := Li (I0.out.alloc (.cells #[.bool false, .int .i64 0, .string ⟨#[]⟩] 62))
    have C0 := Li (C0.out.alloc (.cells #[.bool false, .int .i64 0, .string ⟨#[]⟩] 62))
    have BB := Li (BB.out.alloc BB.out.size (.cells #[.bool false, .int .i64 0, .string ⟨#[]⟩] 62))
    have m10 := G6.out.lt
    refine hK.out _ _ (Li ⟨R0.out, F0.out, P0.out⟩) (fun hHeld => ?_)
    clear hK KK
    try simp only [pnz]
    generalize v4.alloc (.cells #[.bool false, .int .i64 0, .string ⟨#[]⟩] 62) = v10 at R0 F0 P0 T0 I0 C0 G6 m10 hHeld BB ⊢
    refine rd1 8 fun KK hK => ?_
    go_simp
    go_at_call 88
    refine (valueOf_any A n c r p1 _ HN.out (HS.out.up BB.out) (by omega) hi).mono ?_
    rintro e v8 ⟨rfl, hb8⟩
    rw [HDB.out]
    have G6 := Li (G6.out.up hb8)
    have R0 := Li (R0.out.up hb8)
    have F0 := Li (F0.out.up hb8)
    have P0 := Li (P0.out.up hb8)
    have T0 := Li (T0.out.up hb8)
    have I0 := Li (I0.out.up hb8)
    have C0 := Li (C0.out.up hb8)
    have BB := Li (below_step BB.out BB.out.size hb8)
    clear hb8
    go_wp2_with fail
    refine hK.out _ _ (Li ⟨R0.out, F0.out, P0.out⟩) (fun hHeld => ?_)
    clear hK KK
    try simp only [pnz]
    refine rd1 9 fun KK hK => ?_
    go_simp
    go_at_call 67
    refine (lensOf1_any a b kd id wi nm ot ty pa sep gc _ (by have := HTA.out; omega) (by have := HTB.out; omega) HSZ.out C0.out).mono ?_
    rintro e v9 ⟨rfl, hb8⟩
    rw [HDD.out]
    have G6 := Li (G6.out.up hb8)
    have R0 := Li (R0.out.up hb8)
    have F0 := Li (F0.out.up hb8)
    have P0 := Li (P0.out.up hb8)
    have T0 := Li (T0.out.up hb8)
    have I0 := Li (I0.out.up hb8)
    have C0 := Li (C0.out.up hb8)
    have BB := Li (below_step BB.out BB.out.size hb8)
    clear hb8
    go_wp2_with fail
    refine hK.out _ _ (Li ⟨R0.out, F0.out, P0.out⟩) (fun hHeld => ?_)
    clear hK KK
    try simp only [pnz]
    refine rd1 11 fun KK hK => ?_
    refine step_store_cb rfl 62 (.tmp 6) (.tmp 16) rfl v4.heap.size [.bool d.b, .int .i64 d.n, .string d.s] rfl rfl 62 [.bool false, .int .i64 0, .string ⟨#[]⟩] 3 G6.out sizeVa rfl rfl (one_va _ _ _) ?_
    intro s11 hc11 hg11 hz11
    have R0 := Li (R0.out.grown hg11 (by intro h; injection h with h; omega))
    have F0 := Li (F0.out.grown hg11 (by intro h; injection h with h; omega))
    have P0 := Li (P0.out.grown hg11 (by intro h; injection h with h; omega))
    have T0 := Li (T0.out.grown hg11 (by intro h; injection h with h; omega))
    have I0 := Li (I0.out.grown hg11 (by intro h; injection h with h; omega))
    have C0 := Li (C0.out.grown hg11 (by intro h; injection h with h; omega))
    have G6 := Li hc11
    have BB := Li (below_grown BB.out hg11 BB.out.size (by omega))
    refine hK.out _ _ (Li ⟨R0.out, F0.out, P0.out⟩) (fun hHeld => ?_)
    clear hK KK
    try simp only [pnz]
    refine wpAnyH_done (by kernel_rfl) ?_ _
    go_wp2_with fail
    go_meet
    exact ⟨_, rfl, by omega, G6, R0, I0, P0, T0, BB⟩
  ·
   go_simp
   have n10 := T0.out.lt
   have G6 := Li (CB.new X0 62 [.bool false, .int .i64 0, .string ⟨#[]⟩])
   have R0 := Li (R0.out.alloc (.cells #[.bool false, .int .i64 0, .string ⟨#[]⟩] 62))
   have F0 := Li (F0.out.alloc (.cells #[.bool false, .int .i64 0, .string ⟨#[]⟩] 62))
   have P0 := Li (P0.out.alloc (.cells #[.bool false, .int .i64 0, .string ⟨#[]⟩] 62))
   have T0 := Li (T0.out.alloc (.cells #[.bool false, .int .i64 0, .string ⟨#[]⟩] 62))
   have I0 := Li (I0.out.alloc (.cells #[.bool false, .int .i64 0, .string ⟨#[]⟩] 62))
   have C0 := Li (C0.out.alloc (.cells #[.bool false, .int .i64 0, .string ⟨#[]⟩] 62))
   have BB := Li (BB.out.alloc BB.out.size (.cells #[.bool false, .int .i64 0, .string ⟨#[]⟩] 62))
   have m10 := G6.out.lt
   refine hK.out _ _ (Li ⟨R0.out, F0.out, P0.out⟩) (fun hHeld => ?_)
   clear hK KK
   try simp only [pnz]
   generalize X0.alloc (.cells #[.bool false, .int .i64 0, .string ⟨#[]⟩] 62) = v10 at R0 F0 P0 T0 I0 C0 G6 m10 hHeld BB ⊢
   refine rd1 4 fun KK hK => ?_
   go_simp
   go_at_call 88
   refine (valueOf_any A n c r p0 _ HN.out (HS.out.up BB.out) (by omega) hi).mono ?_
   rintro e v4 ⟨rfl, hb8⟩
   rw [HDA.out]
   have G6 := Li (G6.out.up hb8)
   have R0 := Li (R0.out.up hb8)
   have F0 := Li (F0.out.up hb8)
   have P0 := Li (P0.out.up hb8)
   have T0 := Li (T0.out.up hb8)
   have I0 := Li (I0.out.up hb8)
   have C0 := Li (C0.out.up hb8)
   have BB := Li (below_step BB.out BB.out.size hb8)
   clear hb8
   go_wp2_with fail
   refine hK.out _ _ (Li ⟨R0.out, F0.out, P0.out⟩) (fun hHeld => ?_)
   clear hK KK
   try simp only [pnz]
   refine rd1 8 fun KK hK => ?_
   go_simp
   go_at_call 88
   refine (valueOf_any A n c r p1 _ HN.out (HS.out.up BB.out) (by omega) hi).mono ?_
   rintro e v8 ⟨rfl, hb8⟩
   rw [HDB.out]
   have G6 := Li (G6.out.up hb8)
   have R0 := Li (R0.out.up hb8)
   have F0 := Li (F0.out.up hb8)
   have P0 := Li (P0.out.up hb8)
   have T0 := Li (T0.out.up hb8)
   have I0 := Li (I0.out.up hb8)
   have C0 := Li (C0.out.up hb8)
   have BB := Li (below_step BB.out BB.out.size hb8)
   clear hb8
   go_wp2_with fail
   refine hK.out _ _ (Li ⟨R0.out, F0.out, P0.out⟩) (fun hHeld => ?_)
   clear hK KK
   try simp only [pnz]
   refine rd1 9 fun KK hK => ?_
   go_simp
   go_at_call 67
   refine (lensOf1_any a b kd id wi nm ot ty pa sep gc _ (by have := HTA.out; omega) (by have := HTB.out; omega) HSZ.out C0.out).mono ?_
   rintro e v9 ⟨rfl, hb8⟩
   rw [HDD.out]
   have G6 := Li (G6.out.up hb8)
   have R0 := Li (R0.out.up hb8)
   have F0 := Li (F0.out.up hb8)
   have P0 := Li (P0.out.up hb8)
   have T0 := Li (T0.out.up hb8)
   have I0 := Li (I0.out.up hb8)
   have C0 := Li (C0.out.up hb8)
   have BB := Li (below_step BB.out BB.out.size hb8)
   clear hb8
   go_wp2_with fail
   refine hK.out _ _ (Li ⟨R0.out, F0.out, P0.out⟩) (fun hHeld => ?_)
   clear hK KK
   try simp only [pnz]
   refine rd1 11 fun KK hK => ?_
   refine step_store_cb rfl 62 (.tmp 6) (.tmp 16) rfl X0.heap.size [.bool d.b, .int .i64 d.n, .string d.s] rfl rfl 62 [.bool false, .int .i64 0, .string ⟨#[]⟩] 3 G6.out sizeVa rfl rfl (one_va _ _ _) ?_
   intro s11 hc11 hg11 hz11
   have R0 := Li (R0.out.grown hg11 (by intro h; injection h with h; omega))
   have F0 := Li (F0.out.grown hg11 (by intro h; injection h with h; omega))
   have P0 := Li (P0.out.grown hg11 (by intro h; injection h with h; omega))
   have T0 := Li (T0.out.grown hg11 (by intro h; injection h with h; omega))
   have I0 := Li (I0.out.grown hg11 (by intro h; injection h with h; omega))
   have C0 := Li (C0.out.grown hg11 (by intro h; injection h with h; omega))
   have G6 := Li hc11
   have BB := Li (below_grown BB.out hg11 BB.out.size (by omega))
   refine hK.out _ _ (Li ⟨R0.out, F0.out, P0.out⟩) (fun hHeld => ?_)
   clear hK KK
   try simp only [pnz]
   refine wpAnyH_done (by kernel_rfl) ?_ _
   go_wp2_with fail
   go_meet
   exact ⟨_, rfl, by omega, G6, R0, I0, P0, T0, BB⟩
 case rest =>
  clear R0 I0 F0 C0 P0 T0 BB
  obtain ⟨g6, rfl, n6, G6, R0, I0, P0, T0, BB⟩ := hcut
  generalize wc = W1 at *
  go_upto_region 2 with fail
  have R0 := Li R0.out.dr
  have I0 := Li I0.out.dr
  have P0 := Li P0.out.dr
  have G6 := Li G6.out.dr
  have T0 := Li T0.out.dr
  have BB := Li BB.out.drew
  refine wp_region_held_drew (S := fun w' => Hid (CB w' w.heap.size 30 [.slice A n c] ∧ CB w' g3 3 [.int .i64 wh] ∧ CB w' g2 46 [.int .i64 p0, .int .i64 p1] ∧ CB w' g6 62 [.bool d.b, .int .i64 d.n, .string d.s])) (by kernel_rfl) (Li ⟨R0.out, I0.out, P0.out, G6.out⟩) (fun hHeld => ?_)
  revert hHeld R0 I0 P0 G6 T0 BB
  generalize W1.drew = X0
  intro R0 I0 P0 G6 T0 BB hHeld
  refine htf 0 (fun _ h => And.intro (h.out.1.cell 0 rfl) (And.intro (h.out.1.lt) (And.intro (h.out.2.1.cell 0 rfl) (And.intro (h.out.2.1.lt) (And.intro (h.out.2.2.1.c2) (And.intro (h.out.2.2.1.lt) (And.intro (h.out.2.2.2.c3) (h.out.2.2.2.lt)))))))) ?_
  refine htk 1 ?_
  refine htf 2 (fun _ h => And.intro (h.out.1.cell 0 rfl) (And.intro (h.out.1.lt) (And.intro (h.out.2.1.cell 0 rfl) (And.intro (h.out.2.1.lt) (And.intro (h.out.2.2.1.c2) (And.intro (h.out.2.2.1.lt) (And.intro (h.out.2.2.2.c3) (h.out.2.2.2.lt)))))))) ?_
  refine htk 5 ?_
  refine htf 6 (fun _ h => And.intro (h.out.1.cell 0 rfl) (And.intro (h.out.1.lt) (And.intro (h.out.2.1.cell 0 rfl) (And.intro (h.out.2.1.lt) (And.intro (h.out.2.2.1.c2) (And.intro (h.out.2.2.1.lt) (And.intro (h.out.2.2.2.c3) (h.out.2.2.2.lt)))))))) ?_
  refine htf 9 (fun _ h => And.intro (h.out.1.cell 0 rfl) (And.intro (h.out.1.lt) (And.intro (h.out.2.1.cell 0 rfl) (And.intro (h.out.2.1.lt) (And.intro (h.out.2.2.1.c2) (And.intro (h.out.2.2.1.lt) (And.intro (h.out.2.2.2.c3) (h.out.2.2.2.lt)))))))) ?_
  refine htf 10 (fun _ h => And.intro (h.out.1.cell 0 rfl) (And.intro (h.out.1.lt) (And.intro (h.out.2.1.cell 0 rfl) (And.intro (h.out.2.1.lt) (And.intro (h.out.2.2.1.c2) (And.intro (h.out.2.2.1.lt) (And.intro (h.out.2.2.2.c3) (h.out.2.2.2.lt)))))))) ?_
  refine rd1 3 fun KK hK => ?_
  go_simp
  go_at_call 86
  refine (null_any _).mono ?_
  rintro e v3 ⟨rfl, hb8⟩
  have R0 := Li (R0.out.up hb8)
  have I0 := Li (I0.out.up hb8)
  have P0 := Li (P0.out.up hb8)
  have G6 := Li (G6.out.up hb8)
  have T0 := Li (T0.out.up hb8)
  have BB := Li (below_step BB.out BB.out.size hb8)
  clear hb8
  go_wp2_with fail
  refine hK.out _ _ (Li ⟨R0.out, I0.out, P0.out, G6.out⟩) (fun hHeld => ?_)
  clear hK KK
  try simp only [pnz]
  refine rd1 4 fun KK hK => ?_
  go_simp
  go_at_call 85
  refine (withC_any A n c r p0 ⟨true, 0, ⟨#[]⟩⟩ _ HN.out (HS.out.up BB.out) (by omega) hc hcm hi).mono ?_
  rintro e v4 ⟨ho4, hb8⟩
  obtain ⟨A4, c4, rfl, hs4, hc4, hm4⟩ := ho4.c
  have C4 := Li hs4
  clear ho4 hs4
  have R0 := Li (R0.out.up hb8)
  have I0 := Li (I0.out.up hb8)
  have P0 := Li (P0.out.up hb8)
  have G6 := Li (G6.out.up hb8)
  have T0 := Li (T0.out.up hb8)
  have BB := Li (below_step BB.out BB.out.size hb8)
  clear hb8
  go_wp2_with fail
  refine hK.out _ _ (Li ⟨R0.out, I0.out, P0.out, G6.out⟩) (fun hHeld => ?_)
  clear hK KK
  try simp only [pnz]
  refine rd1 7 fun KK hK => ?_
  go_simp
  go_at_call 86
  refine (null_any _).mono ?_
  rintro e v7 ⟨rfl, hb8⟩
  have C4 := Li (C4.out.up hb8)
  have R0 := Li (R0.out.up hb8)
  have I0 := Li (I0.out.up hb8)
  have P0 := Li (P0.out.up hb8)
  have G6 := Li (G6.out.up hb8)
  have T0 := Li (T0.out.up hb8)
  have BB := Li (below_step BB.out BB.out.size hb8)
  clear hb8
  go_wp2_with fail
  refine hK.out _ _ (Li ⟨R0.out, I0.out, P0.out, G6.out⟩) (fun hHeld => ?_)
  clear hK KK
  try simp only [pnz]
  refine rd1 8 fun KK hK => ?_
  go_simp
  go_at_call 85
  refine (withC_any A4 (setL r p0 ⟨true, 0, ⟨#[]⟩⟩).length c4 (setL r p0 ⟨true, 0, ⟨#[]⟩⟩) p1 ⟨true, 0, ⟨#[]⟩⟩ _ rfl C4.out (by have := HLN.out; have := set_len r p0 ⟨true, 0, ⟨#[]⟩⟩; omega) hc4 hm4 (inc_set hi)).mono ?_
  rintro e v8 ⟨ho8, hb8⟩
  obtain ⟨A8, c8, rfl, hs8, hc8, hm8⟩ := ho8.c
  have C8 := Li hs8
  clear ho8 hs8
  have C4 := Li (C4.out.up hb8)
  have R0 := Li (R0.out.up hb8)
  have I0 := Li (I0.out.up hb8)
  have P0 := Li (P0.out.up hb8)
  have G6 := Li (G6.out.up hb8)
  have T0 := Li (T0.out.up hb8)
  have BB := Li (below_step BB.out BB.out.size hb8)
  clear hb8
  go_wp2_with fail
  refine hK.out _ _ (Li ⟨R0.out, I0.out, P0.out, G6.out⟩) (fun hHeld => ?_)
  clear hK KK
  try simp only [pnz]
  refine rd1 11 fun KK hK => ?_
  go_simp
  go_at_call 85
  refine (withC_any A8 (setL (setL r p0 ⟨true, 0, ⟨#[]⟩⟩) p1 ⟨true, 0, ⟨#[]⟩⟩).length c8 (setL (setL r p0 ⟨true, 0, ⟨#[]⟩⟩) p1 ⟨true, 0, ⟨#[]⟩⟩) wh d _ rfl C8.out (by have := HLN.out; have := set_len r p0 ⟨true, 0, ⟨#[]⟩⟩; have := set_len (setL r p0 ⟨true, 0, ⟨#[]⟩⟩) p1 ⟨true, 0, ⟨#[]⟩⟩; omega) hc8 hm8 (inc_set (inc_set hi))).mono ?_
  rintro e v11 ⟨ho11, hb8⟩
  obtain ⟨A11, c11, rfl, ho11⟩ := ho11
  have HO := Li (ho11.low (b := w.heap.size) BB.out.size)
  clear ho11
  have C4 := Li (C4.out.up hb8)
  have C8 := Li (C8.out.up hb8)
  have R0 := Li (R0.out.up hb8)
  have I0 := Li (I0.out.up hb8)
  have P0 := Li (P0.out.up hb8)
  have G6 := Li (G6.out.up hb8)
  have T0 := Li (T0.out.up hb8)
  have BB := Li (below_step BB.out BB.out.size hb8)
  clear hb8
  go_wp2_with fail
  refine hK.out _ _ (Li ⟨R0.out, I0.out, P0.out, G6.out⟩) (fun hHeld => ?_)
  clear hK KK
  try simp only [pnz]
  refine rd1 12 fun KK hK => ?_
  refine step_store_cb rfl 30 (.tmp 5) (.tmp 28) rfl (w.heap.size + 1) [.slice A11 (setL (setL (setL r p0 ⟨true, 0, ⟨#[]⟩⟩) p1 ⟨true, 0, ⟨#[]⟩⟩) wh d).length c11] rfl rfl 30 [.slice none 0 0] 1 T0.out sizeRw rfl rfl (one_rw _ _ _) ?_
  intro s12 hc12 hg12 hz12
  have R0 := Li (R0.out.grown hg12 (by intro h; injection h with h; omega))
  have I0 := Li (I0.out.grown hg12 (by intro h; injection h with h; omega))
  have P0 := Li (P0.out.grown hg12 (by intro h; injection h with h; omega))
  have G6 := Li (G6.out.grown hg12 (by intro h; injection h with h; omega))
  have HO := Li (HO.out.kept hg12 (.inr (HO.out.ne T0.out (by decide)).symm))
  have T0 := Li hc12
  have BB := Li (below_grown BB.out hg12 BB.out.size (by omega))
  refine hK.out _ _ (Li ⟨R0.out, I0.out, P0.out, G6.out⟩) (fun hHeld => ?_)
  clear hK KK
  try simp only [pnz]
  refine wpAnyH_done (by kernel_rfl) ?_ _
  go_wp2_with fail
  refine bodyPost_ret (res_cell1 Tryz.results91 rfl T0.out Tryz.underlying30 sizeRw rfl) rfl ⟨?_, BB.out⟩
  rw [HE.out]
  exact ⟨A11, c11, rfl, HO.out⟩

set_option maxHeartbeats 8000000 in
set_option maxRecDepth 20000 in
theorem connecting2_any (A : Option Addr) (n c : Nat) (r : List Ce) (p0 p1 wh : Int) (kd id wi : Int) (nm ot : ByteArray) (ty pa : Int) (sep : ByteArray) (g1 g2 g3 gc : Nat) (w : World) (hn : n = r.length) (hs : Ces w w.heap.size A r) (hl : n ≤ 1000) (hc : n ≤ c) (hcm : c ≤ 9223372036854775807) (hi : Inc r) (hz : ∀ d ∈ r, d.v.s.size ≤ 1000) (hsz : sep.size ≤ 1000000) (h1 : CB w g1 99 [.func (.func 69) #[] #[.pointer (some ⟨gc, 0, none⟩)]]) (h2 : CB w g2 46 [.int .i64 p0, .int .i64 p1]) (h3 : CB w g3 3 [.int .i64 wh]) (h4 : CB w gc 24 [.int .i64 kd, .int .i64 id, .int .i64 wi, .string nm, .string ot, .int .i64 ty, .int .i64 pa, .string sep]) :
  Calls Tryz.prog 91 #[.agg #[.slice A n c], .pointer (some ⟨g1, 0, none⟩), .pointer (some ⟨g2, 0, none⟩), .pointer (some ⟨g3, 0, none⟩)] w fun e w' => RetO w w' (coP conL r p0 p1 wh sep) e ∧ Below w.heap.size w w' := by
 have HN := Li hn
 have HS := Li hs
 have R0 := Li ((CB.new w 30 [.slice A n c]).alloc (.cells #[.slice none 0 0] 30))
 have T0 := Li (CB.new1 w (.cells #[.slice A n c] 30) 30 [.slice none 0 0])
 have BB := Li (al2 w (.cells #[.slice A n c] 30) (.cells #[.slice none 0 0] 30))
 have F0 := Li ((h1.alloc (.cells #[.slice A n c] 30)).alloc (.cells #[.slice none 0 0] 30))
 have lF0 := h1.lt
 have P0 := Li ((h2.alloc (.cells #[.slice A n c] 30)).alloc (.cells #[.slice none 0 0] 30))
 have lP0 := h2.lt
 have I0 := Li ((h3.alloc (.cells #[.slice A n c] 30)).alloc (.cells #[.slice none 0 0] 30))
 have lI0 := h3.lt
 have C0 := Li ((h4.alloc (.cells #[.slice A n c] 30)).alloc (.cells #[.slice none 0 0] 30))
 have lC0 := h4.lt
 have HLN := Li (show r.length ≤ 1000 by omega)
 have HSZ := Li hsz
 have hta := vsz hi hz p0
 have htb := vsz hi hz p1
 obtain ⟨a, ha⟩ : ∃ a, getL r p0 = a := ⟨_, rfl⟩
 obtain ⟨b, hb⟩ : ∃ b, getL r p1 = b := ⟨_, rfl⟩
 rw [ha] at hta
 rw [hb] at htb
 have HTA := Li hta
 have HTB := Li htb
 have HDA := Li ha
 have HDB := Li hb
 obtain ⟨d, hd⟩ : ∃ d, conL a b sep = d := ⟨_, rfl⟩
 have HDD := Li hd
 have HE := Li (show coP conL r p0 p1 wh sep = setL (setL (setL r p0 ⟨true, 0, ⟨#[]⟩⟩) p1 ⟨true, 0, ⟨#[]⟩⟩) wh d by unfold coP; rw [ha, hb, hd]; rfl)
 clear hs hn h1 h2 h3 h4 hta htb ha hb hd hz hsz
 go_enter Tryz.func91, Tryz.ntmps91
 go_upto_region 1 with fail
 generalize (w.alloc (.cells #[.slice A n c] 30)).alloc (.cells #[.slice none 0 0] 30) = W0 at *
 go_cut [6] from 7 to 16 (fun u wx => ∃ g6 : Nat, u = .pointer (some ⟨g6, 0, none⟩) ∧ w.heap.size + 1 < g6 ∧ Hid (CB wx g6 62 [.bool d.b, .int .i64 d.n, .string d.s]) ∧ Hid (CB wx w.heap.size 30 [.slice A n c]) ∧ Hid (CB wx g3 3 [.int .i64 wh]) ∧ Hid (CB wx g2 46 [.int .i64 p0, .int .i64 p1]) ∧ Hid (CB wx (w.heap.size + 1) 30 [.slice none 0 0]) ∧ Hid (Below w.heap.size w wx))
 case first =>
  have R0 := Li R0.out.dr
  have F0 := Li F0.out.dr
  have P0 := Li P0.out.dr
  have T0 := Li T0.out.dr
  have I0 := Li I0.out.dr
  have C0 := Li C0.out.dr
  have BB := Li BB.out.drew
  refine wp_region_held_drew (S := fun w' => Hid (CB w' w.heap.size 30 [.slice A n c] ∧ CB w' g1 99 [.func (.func 69) #[] #[.pointer (some ⟨gc, 0, none⟩)]] ∧ CB w' g2 46 [.int .i64 p0, .int .i64 p1])) (by kernel_rfl) (Li ⟨R0.out, F0.out, P0.out⟩) (fun hHeld => ?_)
  revert hHeld R0 F0 P0 T0 I0 C0 BB
  generalize W0.drew = X0
  intro R0 F0 P0 T0 I0 C0 BB hHeld
  refine htf 0 (fun _ h => And.intro (h.out.1.cell 0 rfl) (And.intro (h.out.1.lt) (And.intro (h.out.2.1.cell 0 rfl) (And.intro (h.out.2.1.lt) (And.intro (h.out.2.2.c2) (h.out.2.2.lt)))))) ?_
  refine htf 1 (fun _ h => And.intro (h.out.1.cell 0 rfl) (And.intro (h.out.1.lt) (And.intro (h.out.2.1.cell 0 rfl) (And.intro (h.out.2.1.lt) (And.intro (h.out.2.2.c2) (h.out.2.2.lt)))))) ?_
  refine htk 2 ?_
  refine htf 3 (fun _ h => And.intro (h.out.1.cell 0 rfl) (And.intro (h.out.1.lt) (And.intro (h.out.2.1.cell 0 rfl) (And.intro (h.out.2.1.lt) (And.intro (h.out.2.2.c2) (h.out.2.2.lt)))))) ?_
  refine htf 5 (fun _ h => And.intro (h.out.1.cell 0 rfl) (And.intro (h.out.1.lt) (And.intro (h.out.2.1.cell 0 rfl) (And.intro (h.out.2.1.lt) (And.intro (h.out.2.2.c2) (h.out.2.2.lt)))))) ?_
  refine htk 6 ?_
  refine htf 7 (fun _ h => And.intro (h.out.1.cell 0 rfl) (And.intro (h.out.1.lt) (And.intro (h.out.2.1.cell 0 rfl) (And.intro (h.out.2.1.lt) (And.intro (h.out.2.2.c2) (h.out.2.2.lt)))))) ?_
  refine rd2 4 10 (fun KK hK => ?_) (fun KK hK => ?_)
  ·
   go_simp
   go_at_call 88
   refine (valueOf_any A n c r p0 _ HN.out (HS.out.up BB.out) (by omega) hi).mono ?_
   rintro e v4 ⟨rfl, hb8⟩
   rw [HDA.out]
   have R0 := Li (R0.out.up hb8)
   have F0 := Li (F0.out.up hb8)
   have P0 := Li (P0.out.up hb8)
   have T0 := Li (T0.out.up hb8)
   have I0 := Li (I0.out.up hb8)
   have C0 := Li (C0.out.up hb8)
   have BB := Li (below_step BB.out BB.out.size hb8)
   clear hb8
   go_wp2_with fail
   refine hK.out _ _ (Li ⟨R0.out, F0.out, P0.out⟩) (fun hHeld => ?_)
   clear hK KK
   try simp only [pnz]
   refine rd2 8 10 (fun KK hK => ?_) (fun KK hK => ?_)
   ·
    go_simp
    go_at_call 88
    refine (valueOf_any A n c r p1 _ HN.out (HS.out.up BB.out) (by omega) hi).mono ?_
    rintro e v8 ⟨rfl, hb8⟩
    rw [HDB.out]
    have R0 := Li (R0.out.up hb8)
    have F0 := Li (F0.out.up hb8)
    have P0 := Li (P0.out.up hb8)
    have T0 := Li (T0.out.up hb8)
    have I0 := Li (I0.out.up hb8)
    have C0 := Li (C0.out.up hb8)
    have BB := Li (below_step BB.out BB.out.size hb8)
    clear hb8
    go_wp2_with fail
    refine hK.out _ _ (Li ⟨R0.out, F0.out, P0.out⟩) (fun hHeld => ?_)
    clear hK KK
    try simp only [pnz]
    refine rd2 9 10 (fun KK hK => ?_) (fun KK hK => ?_)
    ·
     go_simp
     go_at_call 69
     refine (lensOf2_any a b kd id wi nm ot ty pa sep gc _ (by have := HTA.out; omega) (by have := HTB.out; omega) HSZ.out C0.out).mono ?_
     rintro e v9 ⟨rfl, hb8⟩
     rw [HDD.out]
     have R0 := Li (R0.out.up hb8)
     have F0 := Li (F0.out.up hb8)
     have P0 := Li (P0.out.up hb8)
     have T0 := Li (T0.out.up hb8)
     have I0 := Li (I0.out.up hb8)
     have C0 := Li (C0.out.up hb8)
     have BB := Li (below_step BB.out BB.out.size hb8)
     clear hb8
     go_wp2_with fail
     refine hK.out _ _ (Li ⟨R0.out, F0.out, P0.out⟩) (fun hHeld => ?_)
     clear hK KK
     try simp only [pnz]
     refine rd1 10 fun KK hK => ?_
     go_simp
     have n10 := T0.out.lt
     have G6 := Li (CB.new v9 62 [.bool false, .int .i64 0, .string ⟨#[]⟩])
     have R0 := Li (R0.out.alloc (.cells #[.bool false, .int .i64 0, .string ⟨#[]⟩] 62))
     have F0 := Li (F0.out.alloc (.cells #[.bool false, .int .i64 0, .string ⟨#[]⟩] 62))
     have P0 := Li (P0.out.alloc (.cells #[.bool false, .int .i64 0, .string ⟨#[]⟩] 62))
     have T0 := Li (T0.out.alloc (.cells #[.bool false, .int .i64 0, .string ⟨#[]⟩] 62))
     have I0 := Li (I0.out.alloc (.cells #[.bool false, .int .i64 0, .string ⟨#[]⟩] 62))
     have C0 := Li (C0.out.alloc (.cells #[.bool false, .int .i64 0, .string ⟨#[]⟩] 62))
     have BB := Li (BB.out.alloc BB.out.size (.cells #[.bool false, .int .i64 0, .string ⟨#[]⟩] 62))
     have m10 := G6.out.lt
     refine hK.out _ _ (Li ⟨R0.out, F0.out, P0.out⟩) (fun hHeld => ?_)
     clear hK KK
     try simp only [pnz]
     generalize v9.alloc (.cells #[.bool false, .int .i64 0, .string ⟨#[]⟩] 62) = v10 at R0 F0 P0 T0 I0 C0 G6 m10 hHeld BB ⊢
     refine rd1 11 fun KK hK => ?_
     refine step_store_cb rfl 62 (.tmp 6) (.tmp 16) rfl v9.heap.size [.bool d.b, .int .i64 d.n, .string d.s] rfl rfl 62 [.bool false, .int .i64 0, .string ⟨#[]⟩] 3 G6.out sizeVa rfl rfl (one_va _ _ _) ?_
     intro s11 hc11 hg11 hz11
     have R0 := Li (R0.out.grown hg11 (by intro h; injection h with h; omega))
     have F0 := Li (F0.out.grown hg11 (by intro h; injection h with h; omega))
     have P0 := Li (P0.out.grown hg11 (by intro h; injection h with h; omega))
     have T0 := Li (T0.out.grown hg11 (by intro h; injection h with h; omega))
     have I0 := Li (I0.out.grown hg11 (by intro h; injection h with h; omega))
     have C0 := Li (C0.out.grown hg11 (by intro h; injection h with h; omega))
     have G6 := Li hc11
     have BB := Li (below_grown BB.out hg11 BB.out.size (by omega))
     refine hK.out _ _ (Li ⟨R0.out, F0.out, P0.out⟩) (fun hHeld => ?_)
     clear hK KK
     try simp only [pnz]
     refine wpAnyH_done (by kernel_rfl) ?_ _
     go_wp2_with fail
     go_meet
     exact ⟨_, rfl, by omega, G6, R0, I0, P0, T0, BB⟩
    ·
     go_simp
     have n10 := T0.out.lt
     have G6 := Li (CB.new v8 62 [.bool false, .int .i64 0, .string ⟨#[]⟩])
     have R0 := Li (R0.out.alloc (.cells #[.bool false, .int .i64 0, .string ⟨#[]⟩] 62))
     have F0 := Li (F0.out.alloc (.cells #[.bool false, .int .i64 0, .string ⟨#[]⟩] 62))
     have P0 := Li (P0.out.alloc (.cells #[.bool false, .int .i64 0, .string ⟨#[]⟩] 62))
     have T0 := Li (T0.out.alloc (.cells #[.bool false, .int .i64 0, .string ⟨#[]⟩] 62))
     have I0 := Li (I0.out.alloc (.cells #[.bool false, .int .i64 0, .string ⟨#[]⟩] 62))
     have C0 := Li (C0.out.alloc (.cells #[.bool false, .int .i64 0, .string ⟨#[]⟩] 62))
     have BB := Li (BB.out.alloc BB.out.size (.cells #[.bool false, .int .i64 0, .string ⟨#[]⟩] 62))
     have m10 := G6.out.lt
     refine hK.out _ _ (Li ⟨R0.out, F0.out, P0.out⟩) (fun hHeld => ?_)
     clear hK KK
     try simp only [pnz]
     generalize v8.alloc (.cells #[.bool false, .int .i64 0, .string ⟨#[]⟩] 62) = v10 at R0 F0 P0 T0 I0 C0 G6 m10 hHeld BB ⊢
     refine rd1 9 fun KK hK => ?_
     go_simp
     go_at_call 69
     refine (lensOf2_any a b kd id wi nm ot ty pa sep gc _ (by have := HTA.out; omega) (by have := HTB.out; omega) HSZ.out C0.out).mono ?_
     rintro e v9 ⟨rfl, hb8⟩
     rw [HDD.out]
     have G6 := Li (G6.out.up hb8)
     have R0 := Li (R0.out.up hb8)
     have F0 := Li (F0.out.up hb8)
     have P0 := Li (P0.out.up hb8)
     have T0 := Li (T0.out.up hb8)
     have I0 := Li (I0.out.up hb8)
     have C0 := Li (C0.out.up hb8)
     have BB := Li (below_step BB.out BB.out.size hb8)
     clear hb8
     go_wp2_with fail
     refine hK.out _ _ (Li ⟨R0.out, F0.out, P0.out⟩) (fun hHeld => ?_)
     clear hK KK
     try simp only [pnz]
     refine rd1 11 fun KK hK => ?_
     refine step_store_cb rfl 62 (.tmp 6) (.tmp 16) rfl v8.heap.size [.bool d.b, .int .i64 d.n, .string d.s] rfl rfl 62 [.bool false, .int .i64 0, .string ⟨#[]⟩] 3 G6.out sizeVa rfl rfl (one_va _ _ _) ?_
     intro s11 hc11 hg11 hz11
     have R0 := Li (R0.out.grown hg11 (by intro h; injection h with h; omega))
     have F0 := Li (F0.out.grown hg11 (by intro h; injection h with h; omega))
     have P0 := Li (P0.out.grown hg11 (by intro h; injection h with h; omega))
     have T0 := Li (T0.out.grown hg11 (by intro h; injection h with h; omega))
     have I0 := Li (I0.out.grown hg11 (by intro h; injection h with h; omega))
     have C0 := Li (C0.out.grown hg11 (by intro h; injection h with h; omega))
     have G6 := Li hc11
     have BB := Li (below_grown BB.out hg11 BB.out.size (by omega))
     refine hK.out _ _ (Li ⟨R0.out, F0.out, P0.out⟩) (fun hHeld => ?_)
     clear hK KK
     try simp only [pnz]
     refine wpAnyH_done (by kernel_rfl) ?_ _
     go_wp2_with fail
     go_meet
     exact ⟨_, rfl, by omega, G6, R0, I0, P0, T0, BB⟩
   ·
    go_simp
    have n10 := T0.out.lt
    have G6 := Li (CB.new v4 62 [.bool false, .int .i64 0, .string ⟨#[]⟩])
    have R0 := Li (R0.out.alloc (.cells #[.bool false, .int .i64 0, .string ⟨#[]⟩] 62))
    have F0 := Li (F0.out.alloc (.cells #[.bool false, .int .i64 0, .string ⟨#[]⟩] 62))
    have P0 := Li (P0.out.alloc (.cells #[.bool false, .int .i64 0, .string ⟨#[]⟩] 62))
    have T0 := Li (T0.out.alloc (.cells #[.bool false, .int .i64 0, .string ⟨#[]⟩] 62))
    have I0 := Li (I0.out.alloc (.cells #[.bool false, .int .i64 0, .string ⟨#[]⟩] 62))
    have C0 := Li (C0.out.alloc (.cells #[.bool false, .int .i64 0, .string ⟨#[]⟩] 62))
    have BB := Li (BB.out.alloc BB.out.size (.cells #[.bool false, .int .i64 0, .string ⟨#[]⟩] 62))
    have m10 := G6.out.lt
    refine hK.out _ _ (Li ⟨R0.out, F0.out, P0.out⟩) (fun hHeld => ?_)
    clear hK KK
    try simp only [pnz]
    generalize v4.alloc (.cells #[.bool false, .int .i64 0, .string ⟨#[]⟩] 62) = v10 at R0 F0 P0 T0 I0 C0 G6 m10 hHeld BB ⊢
    refine rd1 8 fun KK hK => ?_
    go_simp
    go_at_call 88
    refine (valueOf_any A n c r p1 _ HN.out (HS.out.up BB.out) (by omega) hi).mono ?_
    rintro e v8 ⟨rfl, hb8⟩
    rw [HDB.out]
    have G6 := Li (G6.out.up hb8)
    have R0 := Li (R0.out.up hb8)
    have F0 := Li (F0.out.up hb8)
    have P0 := Li (P0.out.up hb8)
    have T0 := Li (T0.out.up hb8)
    have I0 := Li (I0.out.up hb8)
    have C0 := Li (C0.out.up hb8)
    have BB := Li (below_step BB.out BB.out.size hb8)
    clear hb8
    go_wp2_with fail
    refine hK.out _ _ (Li ⟨R0.out, F0.out, P0.out⟩) (fun hHeld => ?_)
    clear hK KK
    try simp only [pnz]
    refine rd1 9 fun KK hK => ?_
    go_simp
    go_at_call 69
    refine (lensOf2_any a b kd id wi nm ot ty pa sep gc _ (by have := HTA.out; omega) (by have := HTB.out; omega) HSZ.out C0.out).mono ?_
    rintro e v9 ⟨rfl, hb8⟩
    rw [HDD.out]
    have G6 := Li (G6.out.up hb8)
    have R0 := Li (R0.out.up hb8)
    have F0 := Li (F0.out.up hb8)
    have P0 := Li (P0.out.up hb8)
    have T0 := Li (T0.out.up hb8)
    have I0 := Li (I0.out.up hb8)
    have C0 := Li (C0.out.up hb8)
    have BB := Li (below_step BB.out BB.out.size hb8)
    clear hb8
    go_wp2_with fail
    refine hK.out _ _ (Li ⟨R0.out, F0.out, P0.out⟩) (fun hHeld => ?_)
    clear hK KK
    try simp only [pnz]
    refine rd1 11 fun KK hK => ?_
    refine step_store_cb rfl 62 (.tmp 6) (.tmp 16) rfl v4.heap.size [.bool d.b, .int .i64 d.n, .string d.s] rfl rfl 62 [.bool false, .int .i64 0, .string ⟨#[]⟩] 3 G6.out sizeVa rfl rfl (one_va _ _ _) ?_
    intro s11 hc11 hg11 hz11
    have R0 := Li (R0.out.grown hg11 (by intro h; injection h with h; omega))
    have F0 := Li (F0.out.grown hg11 (by intro h; injection h with h; omega))
    have P0 := Li (P0.out.grown hg11 (by intro h; injection h with h; omega))
    have T0 := Li (T0.out.grown hg11 (by intro h; injection h with h; omega))
    have I0 := Li (I0.out.grown hg11 (by intro h; injection h with h; omega))
    have C0 := Li (C0.out.grown hg11 (by intro h; injection h with h; omega))
    have G6 := Li hc11
    have BB := Li (below_grown BB.out hg11 BB.out.size (by omega))
    refine hK.out _ _ (Li ⟨R0.out, F0.out, P0.out⟩) (fun hHeld => ?_)
    clear hK KK
    try simp only [pnz]
    refine wpAnyH_done (by kernel_rfl) ?_ _
    go_wp2_with fail
    go_meet
    exact ⟨_, rfl, by omega, G6, R0, I0, P0, T0, BB⟩
  ·
   go_simp
   have n10 := T0.out.lt
   have G6 := Li (CB.new X0 62 [.bool false, .int .i64 0, .string ⟨#[]⟩])
   have R0 := Li (R0.out.alloc (.cells #[.bool false, .int .i64 0, .string ⟨#[]⟩] 62))
   have F0 := Li (F0.out.alloc (.cells #[.bool false, .int .i64 0, .string ⟨#[]⟩] 62))
   have P0 := Li (P0.out.alloc (.cells #[.bool false, .int .i64 0, .string ⟨#[]⟩] 62))
   have T0 := Li (T0.out.alloc (.cells #[.bool false, .int .i64 0, .string ⟨#[]⟩] 62))
   have I0 := Li (I0.out.alloc (.cells #[.bool false, .int .i64 0, .string ⟨#[]⟩] 62))
   have C0 := Li (C0.out.alloc (.cells #[.bool false, .int .i64 0, .string ⟨#[]⟩] 62))
   have BB := Li (BB.out.alloc BB.out.size (.cells #[.bool false, .int .i64 0, .string ⟨#[]⟩] 62))
   have m10 := G6.out.lt
   refine hK.out _ _ (Li ⟨R0.out, F0.out, P0.out⟩) (fun hHeld => ?_)
   clear hK KK
   try simp only [pnz]
   generalize X0.alloc (.cells #[.bool false, .int .i64 0, .string ⟨#[]⟩] 62) = v10 at R0 F0 P0 T0 I0 C0 G6 m10 hHeld BB ⊢
   refine rd1 4 fun KK hK => ?_
   go_simp
   go_at_call 88
   refine (valueOf_any A n c r p0 _ HN.out (HS.out.up BB.out) (by omega) hi).mono ?_
   rintro e v4 ⟨rfl, hb8⟩
   rw [HDA.out]
   have G6 := Li (G6.out.up hb8)
   have R0 := Li (R0.out.up hb8)
   have F0 := Li (F0.out.up hb8)
   have P0 := Li (P0.out.up hb8)
   have T0 := Li (T0.out.up hb8)
   have I0 := Li (I0.out.up hb8)
   have C0 := Li (C0.out.up hb8)
   have BB := Li (below_step BB.out BB.out.size hb8)
   clear hb8
   go_wp2_with fail
   refine hK.out _ _ (Li ⟨R0.out, F0.out, P0.out⟩) (fun hHeld => ?_)
   clear hK KK
   try simp only [pnz]
   refine rd1 8 fun KK hK => ?_
   go_simp
   go_at_call 88
   refine (valueOf_any A n c r p1 _ HN.out (HS.out.up BB.out) (by omega) hi).mono ?_
   rintro e v8 ⟨rfl, hb8⟩
   rw [HDB.out]
   have G6 := Li (G6.out.up hb8)
   have R0 := Li (R0.out.up hb8)
   have F0 := Li (F0.out.up hb8)
   have P0 := Li (P0.out.up hb8)
   have T0 := Li (T0.out.up hb8)
   have I0 := Li (I0.out.up hb8)
   have C0 := Li (C0.out.up hb8)
   have BB := Li (below_step BB.out BB.out.size hb8)
   clear hb8
   go_wp2_with fail
   refine hK.out _ _ (Li ⟨R0.out, F0.out, P0.out⟩) (fun hHeld => ?_)
   clear hK KK
   try simp only [pnz]
   refine rd1 9 fun KK hK => ?_
   go_simp
   go_at_call 69
   refine (lensOf2_any a b kd id wi nm ot ty pa sep gc _ (by have := HTA.out; omega) (by have := HTB.out; omega) HSZ.out C0.out).mono ?_
   rintro e v9 ⟨rfl, hb8⟩
   rw [HDD.out]
   have G6 := Li (G6.out.up hb8)
   have R0 := Li (R0.out.up hb8)
   have F0 := Li (F0.out.up hb8)
   have P0 := Li (P0.out.up hb8)
   have T0 := Li (T0.out.up hb8)
   have I0 := Li (I0.out.up hb8)
   have C0 := Li (C0.out.up hb8)
   have BB := Li (below_step BB.out BB.out.size hb8)
   clear hb8
   go_wp2_with fail
   refine hK.out _ _ (Li ⟨R0.out, F0.out, P0.out⟩) (fun hHeld => ?_)
   clear hK KK
   try simp only [pnz]
   refine rd1 11 fun KK hK => ?_
   refine step_store_cb rfl 62 (.tmp 6) (.tmp 16) rfl X0.heap.size [.bool d.b, .int .i64 d.n, .string d.s] rfl rfl 62 [.bool false, .int .i64 0, .string ⟨#[]⟩] 3 G6.out sizeVa rfl rfl (one_va _ _ _) ?_
   intro s11 hc11 hg11 hz11
   have R0 := Li (R0.out.grown hg11 (by intro h; injection h with h; omega))
   have F0 := Li (F0.out.grown hg11 (by intro h; injection h with h; omega))
   have P0 := Li (P0.out.grown hg11 (by intro h; injection h with h; omega))
   have T0 := Li (T0.out.grown hg11 (by intro h; injection h with h; omega))
   have I0 := Li (I0.out.grown hg11 (by intro h; injection h with h; omega))
   have C0 := Li (C0.out.grown hg11 (by intro h; injection h with h; omega))
   have G6 := Li hc11
   have BB := Li (below_grown BB.out hg11 BB.out.size (by omega))
   refine hK.out _ _ (Li ⟨R0.out, F0.out, P0.out⟩) (fun hHeld => ?_)
   clear hK KK
   try simp only [pnz]
   refine wpAnyH_done (by kernel_rfl) ?_ _
   go_wp2_with fail
   go_meet
   exact ⟨_, rfl, by omega, G6, R0, I0, P0, T0, BB⟩
 case rest =>
  clear R0 I0 F0 C0 P0 T0 BB
  obtain ⟨g6, rfl, n6, G6, R0, I0, P0, T0, BB⟩ := hcut
  generalize wc = W1 at *
  go_upto_region 2 with fail
  have R0 := Li R0.out.dr
  have I0 := Li I0.out.dr
  have P0 := Li P0.out.dr
  have G6 := Li G6.out.dr
  have T0 := Li T0.out.dr
  have BB := Li BB.out.drew
  refine wp_region_held_drew (S := fun w' => Hid (CB w' w.heap.size 30 [.slice A n c] ∧ CB w' g3 3 [.int .i64 wh] ∧ CB w' g2 46 [.int .i64 p0, .int .i64 p1] ∧ CB w' g6 62 [.bool d.b, .int .i64 d.n, .string d.s])) (by kernel_rfl) (Li ⟨R0.out, I0.out, P0.out, G6.out⟩) (fun hHeld => ?_)
  revert hHeld R0 I0 P0 G6 T0 BB
  generalize W1.drew = X0
  intro R0 I0 P0 G6 T0 BB hHeld
  refine htf 0 (fun _ h => And.intro (h.out.1.cell 0 rfl) (And.intro (h.out.1.lt) (And.intro (h.out.2.1.cell 0 rfl) (And.intro (h.out.2.1.lt) (And.intro (h.out.2.2.1.c2) (And.intro (h.out.2.2.1.lt) (And.intro (h.out.2.2.2.c3) (h.out.2.2.2.lt)))))))) ?_
  refine htk 1 ?_
  refine htf 2 (fun _ h => And.intro (h.out.1.cell 0 rfl) (And.intro (h.out.1.lt) (And.intro (h.out.2.1.cell 0 rfl) (And.intro (h.out.2.1.lt) (And.intro (h.out.2.2.1.c2) (And.intro (h.out.2.2.1.lt) (And.intro (h.out.2.2.2.c3) (h.out.2.2.2.lt)))))))) ?_
  refine htk 5 ?_
  refine htf 6 (fun _ h => And.intro (h.out.1.cell 0 rfl) (And.intro (h.out.1.lt) (And.intro (h.out.2.1.cell 0 rfl) (And.intro (h.out.2.1.lt) (And.intro (h.out.2.2.1.c2) (And.intro (h.out.2.2.1.lt) (And.intro (h.out.2.2.2.c3) (h.out.2.2.2.lt)))))))) ?_
  refine htf 9 (fun _ h => And.intro (h.out.1.cell 0 rfl) (And.intro (h.out.1.lt) (And.intro (h.out.2.1.cell 0 rfl) (And.intro (h.out.2.1.lt) (And.intro (h.out.2.2.1.c2) (And.intro (h.out.2.2.1.lt) (And.intro (h.out.2.2.2.c3) (h.out.2.2.2.lt)))))))) ?_
  refine htf 10 (fun _ h => And.intro (h.out.1.cell 0 rfl) (And.intro (h.out.1.lt) (And.intro (h.out.2.1.cell 0 rfl) (And.intro (h.out.2.1.lt) (And.intro (h.out.2.2.1.c2) (And.intro (h.out.2.2.1.lt) (And.intro (h.out.2.2.2.c3) (h.out.2.2.2.lt)))))))) ?_
  refine rd1 3 fun KK hK => ?_
  go_simp
  go_at_call 86
  refine (null_any _).mono ?_
  rintro e v3 ⟨rfl, hb8⟩
  have R0 := Li (R0.out.up hb8)
  have I0 := Li (I0.out.up hb8)
  have P0 := Li (P0.out.up hb8)
  have G6 := Li (G6.out.up hb8)
  have T0 := Li (T0.out.up hb8)
  have BB := Li (below_step BB.out BB.out.size hb8)
  clear hb8
  go_wp2_with fail
  refine hK.out _ _ (Li ⟨R0.out, I0.out, P0.out, G6.out⟩) (fun hHeld => ?_)
  clear hK KK
  try simp only [pnz]
  refine rd1 4 fun KK hK => ?_
  go_simp
  go_at_call 85
  refine (withC_any A n c r p0 ⟨true, 0, ⟨#[]⟩⟩ _ HN.out (HS.out.up BB.out) (by omega) hc hcm hi).mono ?_
  rintro e v4 ⟨ho4, hb8⟩
  obtain ⟨A4, c4, rfl, hs4, hc4, hm4⟩ := ho4.c
  have C4 := Li hs4
  clear ho4 hs4
  have R0 := Li (R0.out.up hb8)
  have I0 := Li (I0.out.up hb8)
  have P0 := Li (P0.out.up hb8)
  have G6 := Li (G6.out.up hb8)
  have T0 := Li (T0.out.up hb8)
  have BB := Li (below_step BB.out BB.out.size hb8)
  clear hb8
  go_wp2_with fail
  refine hK.out _ _ (Li ⟨R0.out, I0.out, P0.out, G6.out⟩) (fun hHeld => ?_)
  clear hK KK
  try simp only [pnz]
  refine rd1 7 fun KK hK => ?_
  go_simp
  go_at_call 86
  refine (null_any _).mono ?_
  rintro e v7 ⟨rfl, hb8⟩
  have C4 := Li (C4.out.up hb8)
  have R0 := Li (R0.out.up hb8)
  have I0 := Li (I0.out.up hb8)
  have P0 := Li (P0.out.up hb8)
  have G6 := Li (G6.out.up hb8)
  have T0 := Li (T0.out.up hb8)
  have BB := Li (below_step BB.out BB.out.size hb8)
  clear hb8
  go_wp2_with fail
  refine hK.out _ _ (Li ⟨R0.out, I0.out, P0.out, G6.out⟩) (fun hHeld => ?_)
  clear hK KK
  try simp only [pnz]
  refine rd1 8 fun KK hK => ?_
  go_simp
  go_at_call 85
  refine (withC_any A4 (setL r p0 ⟨true, 0, ⟨#[]⟩⟩).length c4 (setL r p0 ⟨true, 0, ⟨#[]⟩⟩) p1 ⟨true, 0, ⟨#[]⟩⟩ _ rfl C4.out (by have := HLN.out; have := set_len r p0 ⟨true, 0, ⟨#[]⟩⟩; omega) hc4 hm4 (inc_set hi)).mono ?_
  rintro e v8 ⟨ho8, hb8⟩
  obtain ⟨A8, c8, rfl, hs8, hc8, hm8⟩ := ho8.c
  have C8 := Li hs8
  clear ho8 hs8
  have C4 := Li (C4.out.up hb8)
  have R0 := Li (R0.out.up hb8)
  have I0 := Li (I0.out.up hb8)
  have P0 := Li (P0.out.up hb8)
  have G6 := Li (G6.out.up hb8)
  have T0 := Li (T0.out.up hb8)
  have BB := Li (below_step BB.out BB.out.size hb8)
  clear hb8
  go_wp2_with fail
  refine hK.out _ _ (Li ⟨R0.out, I0.out, P0.out, G6.out⟩) (fun hHeld => ?_)
  clear hK KK
  try simp only [pnz]
  refine rd1 11 fun KK hK => ?_
  go_simp
  go_at_call 85
  refine (withC_any A8 (setL (setL r p0 ⟨true, 0, ⟨#[]⟩⟩) p1 ⟨true, 0, ⟨#[]⟩⟩).length c8 (setL (setL r p0 ⟨true, 0, ⟨#[]⟩⟩) p1 ⟨true, 0, ⟨#[]⟩⟩) wh d _ rfl C8.out (by have := HLN.out; have := set_len r p0 ⟨true, 0, ⟨#[]⟩⟩; have := set_len (setL r p0 ⟨true, 0, ⟨#[]⟩⟩) p1 ⟨true, 0, ⟨#[]⟩⟩; omega) hc8 hm8 (inc_set (inc_set hi))).mono ?_
  rintro e v11 ⟨ho11, hb8⟩
  obtain ⟨A11, c11, rfl, ho11⟩ := ho11
  have HO := Li (ho11.low (b := w.heap.size) BB.out.size)
  clear ho11
  have C4 := Li (C4.out.up hb8)
  have C8 := Li (C8.out.up hb8)
  have R0 := Li (R0.out.up hb8)
  have I0 := Li (I0.out.up hb8)
  have P0 := Li (P0.out.up hb8)
  have G6 := Li (G6.out.up hb8)
  have T0 := Li (T0.out.up hb8)
  have BB := Li (below_step BB.out BB.out.size hb8)
  clear hb8
  go_wp2_with fail
  refine hK.out _ _ (Li ⟨R0.out, I0.out, P0.out, G6.out⟩) (fun hHeld => ?_)
  clear hK KK
  try simp only [pnz]
  refine rd1 12 fun KK hK => ?_
  refine step_store_cb rfl 30 (.tmp 5) (.tmp 28) rfl (w.heap.size + 1) [.slice A11 (setL (setL (setL r p0 ⟨true, 0, ⟨#[]⟩⟩) p1 ⟨true, 0, ⟨#[]⟩⟩) wh d).length c11] rfl rfl 30 [.slice none 0 0] 1 T0.out sizeRw rfl rfl (one_rw _ _ _) ?_
  intro s12 hc12 hg12 hz12
  have R0 := Li (R0.out.grown hg12 (by intro h; injection h with h; omega))
  have I0 := Li (I0.out.grown hg12 (by intro h; injection h with h; omega))
  have P0 := Li (P0.out.grown hg12 (by intro h; injection h with h; omega))
  have G6 := Li (G6.out.grown hg12 (by intro h; injection h with h; omega))
  have HO := Li (HO.out.kept hg12 (.inr (HO.out.ne T0.out (by decide)).symm))
  have T0 := Li hc12
  have BB := Li (below_grown BB.out hg12 BB.out.size (by omega))
  refine hK.out _ _ (Li ⟨R0.out, I0.out, P0.out, G6.out⟩) (fun hHeld => ?_)
  clear hK KK
  try simp only [pnz]
  refine wpAnyH_done (by kernel_rfl) ?_ _
  go_wp2_with fail
  refine bodyPost_ret (res_cell1 Tryz.results91 rfl T0.out Tryz.underlying30 sizeRw rfl) rfl ⟨?_, BB.out⟩
  rw [HE.out]
  exact ⟨A11, c11, rfl, HO.out⟩

set_option maxRecDepth 20000 in
theorem dropping_any (i : Int) (w : World) : Calls Tryz.prog 63 #[.int .i64 i] w fun e w' => e = .returned (.func (.func 84) #[] #[.pointer (some ⟨w.heap.size, 0, none⟩)]) ∧ w' = w.alloc (.cells #[.int .i64 i] 3) := by
 go_enter Tryz.func63, Tryz.ntmps63
 go_wp2
 go_ret
 exact ⟨rfl, rfl⟩

set_option maxRecDepth 20000 in
theorem narrowing_any (i : Int) (w : World) : Calls Tryz.prog 64 #[.int .i64 i] w fun e w' => e = .returned (.func (.func 87) #[] #[.pointer (some ⟨w.heap.size, 0, none⟩)]) ∧ w' = w.alloc (.cells #[.int .i64 i] 3) := by
 go_enter Tryz.func64, Tryz.ntmps64
 go_wp2
 go_ret
 exact ⟨rfl, rfl⟩

set_option maxRecDepth 20000 in
theorem dividing_any (wh p0 p1 : Int) (sep : ByteArray) (w : World) : Calls Tryz.prog 65 #[.int .i64 wh, .agg #[.int .i64 p0, .int .i64 p1], .string sep] w fun e w' => e = .returned (.func (.func 89) #[] #[.pointer (some ⟨w.heap.size, 0, none⟩), .pointer (some ⟨w.heap.size + 1 + 1, 0, none⟩), .pointer (some ⟨w.heap.size + 1, 0, none⟩)]) ∧ w' = ((w.alloc (.cells #[.int .i64 wh] 3)).alloc (.cells #[.int .i64 p0, .int .i64 p1] 46)).alloc (.cells #[.string sep] 9) := by
 go_enter Tryz.func65, Tryz.ntmps65
 go_wp2
 go_ret
 exact ⟨rfl, rfl⟩
set_option maxRecDepth 20000 in
theorem connecting_any (p0 p1 wh : Int) (k gc : Nat) (w : World) : Calls Tryz.prog 66 #[.agg #[.int .i64 p0, .int .i64 p1], .int .i64 wh, .func (.func k) #[] #[.pointer (some ⟨gc, 0, none⟩)]] w fun e w' => e = .returned (.func (.func 91) #[] #[.pointer (some ⟨w.heap.size + 1 + 1, 0, none⟩), .pointer (some ⟨w.heap.size, 0, none⟩), .pointer (some ⟨w.heap.size + 1, 0, none⟩)]) ∧ w' = ((w.alloc (.cells #[.int .i64 p0, .int .i64 p1] 46)).alloc (.cells #[.int .i64 wh] 3)).alloc (.cells #[.func (.func k) #[] #[.pointer (some ⟨gc, 0, none⟩)]] 99) := by
 go_enter Tryz.func66, Tryz.ntmps66
 go_wp2
 go_ret
 exact ⟨rfl, rfl⟩
end Go.Proofs.YtfeemipnalgjnaaGreat
