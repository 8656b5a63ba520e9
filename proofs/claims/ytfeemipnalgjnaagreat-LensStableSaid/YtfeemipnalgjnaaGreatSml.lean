/-
 The law's own small and made, by contracts.
-/
import Derived.Test.YtfeemipnalgjnaaGreatHd
import Derived.Test.YtfeemipnalgjnaaGreatDvd
import Derived.Test.YtfeemipnalgjnaaGreatGG
namespace Go.Proofs.YtfeemipnalgjnaaGreat
open Go.RowKit

set_option maxHeartbeats 4000000 in
set_option maxRecDepth 20000 in
theorem small_any (A : Option Addr) (n c : Nat) (_l : List Ch) (ch : Ch) (V : Option Addr) (m cv : Nat) (raw : List Va) (w : World) (hm : m = raw.length) (hv : Vas w w.heap.size V raw) (hml : m ≤ 9223372036854775807) :
  Calls Tryz.prog 11 #[.agg #[.slice A n c, .int .i64 ch.kind, .int .i64 ch.id, .int .i64 ch.wi, .string ch.nm, .string ch.ot, .int .i64 ch.ty, .int .i64 ch.pa, .string ch.sep, .slice V m cv]] w fun e w' => (∃ b : Bool, e = .returned (.bool b)) ∧ Below w.heap.size w w' := by
 have HM := Li hm
 have HV := Li hv
 have C0 := Li (CB.new w 27 [.slice A n c, .int .i64 ch.kind, .int .i64 ch.id, .int .i64 ch.wi, .string ch.nm, .string ch.ot, .int .i64 ch.ty, .int .i64 ch.pa, .string ch.sep, .slice V m cv])
 have B0 := Li (al1 w (.cells #[.slice A n c, .int .i64 ch.kind, .int .i64 ch.id, .int .i64 ch.wi, .string ch.nm, .string ch.ot, .int .i64 ch.ty, .int .i64 ch.pa, .string ch.sep, .slice V m cv] 27))
 clear hm hv
 go_enter Tryz.func11, Tryz.ntmps11
 go_wp2
 go_loopw [3] (fun j wr => ∃ k : Nat, k ≤ m ∧ j = .int .i64 k ∧ Hid (CB wr w.heap.size 27 [.slice A n c, .int .i64 ch.kind, .int .i64 ch.id, .int .i64 ch.wi, .string ch.nm, .string ch.ot, .int .i64 ch.ty, .int .i64 ch.pa, .string ch.sep, .slice V m cv]) ∧ Hid (Below w.heap.size w wr)) (fun j _ => m - (intOf j).toNat)
 case atStart => exact ⟨0, by omega, rfl, C0, B0⟩
 case round =>
  obtain ⟨k, hk, rfl, C1, B1⟩ := hrel
  have c0 := C1.out.cell 0 rfl
  have c8 := C1.out.cell 8 rfl
  have c9 := C1.out.cell 9 rfl
  have zC := C1.out.lt
  by_cases hlt : k < m
  ·
   have i1 : (k : Int) < (m : Int) := by omega
   have i0 : (0 : Int) ≤ (k : Int) := by omega
   obtain ⟨u, hu⟩ : ∃ u, raw[k]? = some u := ⟨_, List.getElem?_eq_getElem (by rw [← HM.out]; exact hlt)⟩
   obtain ⟨b, off, rfl, hb, v0, v1, v2⟩ := (show Vas wr w.heap.size V raw from RowAt.below HV.out B1.out).one hu
   have zb : b < wr.heap.size := Nat.lt_of_lt_of_le hb B1.out.size
   clear hu
   by_cases hs : (u.s.size : Int) > 1000
   ·
    go_wp2
    go_ret
    exact ⟨⟨_, rfl⟩, B1.out⟩
   ·
    go_wp2
    go_roundw
    case rel => exact ⟨k + 1, by omega, by go_num, C1, B1⟩
    case measure => simp [intOf]; omega
  ·
   have i1 : ¬ (k : Int) < (m : Int) := by omega
   by_cases g1 : (n : Int) ≤ 200
   ·
    by_cases g2 : (m : Int) ≤ 200
    ·
     by_cases g3 : (ch.sep.size : Int) ≤ 1000
     ·
      go_wp2
      go_ret
      exact ⟨by first | rfl | simp, B1.out⟩
     ·
      go_wp2
      go_ret
      exact ⟨by first | rfl | simp, B1.out⟩
    ·
     go_wp2
     go_ret
     exact ⟨by first | rfl | simp, B1.out⟩
   ·
    go_wp2
    go_ret
    exact ⟨by first | rfl | simp, B1.out⟩

theorem sizeCh : (Tryz.prog.info? 24).map (·.size) = some 8 := by kernel_rfl
/-- the schema that a law's case leads to -/
def sOf (l : List Ch) : Sc := (aftP (madeR l 20)).1
set_option maxHeartbeats 4000000 in
set_option maxRecDepth 20000 in
theorem made_any (A : Option Addr) (n c : Nat) (l : List Ch) (ch : Ch) (V : Option Addr) (m cv : Nat) (_raw : List Va) (w : World) (hn : n = l.length) (hs : Chs w w.heap.size A l) (hl : n ≤ 9223372036854775807) (hrw : ∀ d ∈ l, RW d) (hC : RW ch) :
  Calls Tryz.prog 12 #[.agg #[.slice A n c, .int .i64 ch.kind, .int .i64 ch.id, .int .i64 ch.wi, .string ch.nm, .string ch.ot, .int .i64 ch.ty, .int .i64 ch.pa, .string ch.sep, .slice V m cv]] w fun e w' => (∃ A' m' c', e = .returned (.tuple #[.agg #[.slice A' m' c', .int .i64 (sOf l).next], (chgR (sOf l) ch).val]) ∧ m' = (sOf l).fs.length ∧ Own 58 4 w' w.heap.size (.slice A' m' c') ((sOf l).fs.map Fd.cells)) ∧ Below w.heap.size w w' := by
 have HN := Li hn
 have HS := Li hs
 have HR := Li hrw
 have HC := Li hC
 obtain ⟨M, hM⟩ : ∃ M, madeR l 20 = M := ⟨_, rfl⟩
 have hML : M.length ≤ 20 := by
  rw [← hM]
  have := made_len (l := l.take 20) (s := Sc.new)
  rw [List.length_take] at this
  unfold madeR
  omega
 obtain ⟨_, h2, _, h4, _⟩ := numbers (l := l) (n := 20) (k := 0)
 have hMW := made_rw ok_new (fun c hc => hrw c (List.mem_of_mem_take hc)) (l := l.take 20)
 rw [show madeG Sc.new (l.take 20) = M from hM] at hMW
 unfold sOf
 rw [hM] at h2 h4 ⊢
 obtain ⟨⟨⟨fs, x⟩, iL, eL⟩, hqL⟩ : ∃ r, aftP M = r := ⟨_, rfl⟩
 rw [hqL] at h2 h4 ⊢
 obtain rfl : eL = 0 := h2
 obtain ⟨cd, hcd⟩ : ∃ cd, chgR ⟨fs, x⟩ ch = cd := ⟨_, rfl⟩
 rw [hcd]
 have HCD := Li (show chgR ⟨fs, x⟩ ⟨ch.kind, ch.id, ch.wi, ch.nm, ch.ot, ch.ty, ch.pa, ch.sep⟩ = cd from hcd)
 have HM := Li hM
 have HW := Li hMW
 have HQL := Li hqL
 have HX1 := Li (show x ≤ 1073741824 from h4.big.2)
 have hfl : fs.length ≤ 64 := h4.big.1
 have hMl : M.length ≤ 1000000 := by omega
 clear hn hs hrw hC hM hMW hqL h4 hcd
 have C0 := Li (((CB.new w 27 [.slice A n c, .int .i64 ch.kind, .int .i64 ch.id, .int .i64 ch.wi, .string ch.nm, .string ch.ot, .int .i64 ch.ty, .int .i64 ch.pa, .string ch.sep, .slice V m cv]).alloc (.cells #[.slice none 0 0, .int .i64 0] 35)).alloc (.cells #[.int .i64 0, .int .i64 0, .int .i64 0, .string ⟨#[]⟩, .string ⟨#[]⟩, .int .i64 0, .int .i64 0, .string ⟨#[]⟩] 24))
 have P20 := Li ((CB.new1 w (.cells #[.slice A n c, .int .i64 ch.kind, .int .i64 ch.id, .int .i64 ch.wi, .string ch.nm, .string ch.ot, .int .i64 ch.ty, .int .i64 ch.pa, .string ch.sep, .slice V m cv] 27) 35 [.slice none 0 0, .int .i64 0]).alloc (.cells #[.int .i64 0, .int .i64 0, .int .i64 0, .string ⟨#[]⟩, .string ⟨#[]⟩, .int .i64 0, .int .i64 0, .string ⟨#[]⟩] 24))
 have P30 := Li (CB.new2 w (.cells #[.slice A n c, .int .i64 ch.kind, .int .i64 ch.id, .int .i64 ch.wi, .string ch.nm, .string ch.ot, .int .i64 ch.ty, .int .i64 ch.pa, .string ch.sep, .slice V m cv] 27) (.cells #[.slice none 0 0, .int .i64 0] 35) 24 [.int .i64 0, .int .i64 0, .int .i64 0, .string ⟨#[]⟩, .string ⟨#[]⟩, .int .i64 0, .int .i64 0, .string ⟨#[]⟩])
 have B0 := Li (al3 w (.cells #[.slice A n c, .int .i64 ch.kind, .int .i64 ch.id, .int .i64 ch.wi, .string ch.nm, .string ch.ot, .int .i64 ch.ty, .int .i64 ch.pa, .string ch.sep, .slice V m cv] 27) (.cells #[.slice none 0 0, .int .i64 0] 35) (.cells #[.int .i64 0, .int .i64 0, .int .i64 0, .string ⟨#[]⟩, .string ⟨#[]⟩, .int .i64 0, .int .i64 0, .string ⟨#[]⟩] 24))
 go_enter Tryz.func12, Tryz.ntmps12
 have c00 := C0.out.cell 0 rfl
 go_upto_region 2 with (first | (go_at_call 22; refine (RMade_any A n c 20 l _ HN.out (HS.out.up B0.out) hl (by decide) HR.out).mono ?_; rintro e w2 ⟨⟨A2, c2, rfl, ho2⟩, hb2⟩; rw [HM.out] at ho2; rw [HM.out]; have B2 := Li (below_step B0.out B0.out.size hb2); have C2 := Li (C0.out.up hb2); have P22 := Li (P20.out.up hb2); have P32 := Li (P30.out.up hb2); have O2 := Li (ho2.low (b := w.heap.size) B0.out.size); clear hb2 ho2) | (go_at_call 25; refine (RAfter_any A2 M.length c2 M _ rfl (show Chs w2 w2.heap.size A2 M from O2.out.row.2.2.2) hMl HW.out).mono ?_; rintro e w3 ⟨⟨A3, n3, c3, rfl, hn3, ho3⟩, hb3⟩; rw [HQL.out] at hn3 ho3; rw [HQL.out]; have HN3 : Hid (n3 = fs.length) := hn3; have B3 := Li (below_step B2.out B2.out.size hb3); have C3 := Li (C2.out.up hb3); have P23 := Li (P22.out.up hb3); have P33 := Li (P32.out.up hb3); have O33 := Li (ho3.low (b := w.heap.size) B2.out.size); clear hb3 ho3 hn3))
 have S4 := Li (CB.new w3 35 [.slice A3 n3 c3, .int .i64 x])
 have C1 := Li (C3.out.alloc (.cells #[.slice A3 n3 c3, .int .i64 x] 35))
 have P2 := Li (P23.out.alloc (.cells #[.slice A3 n3 c3, .int .i64 x] 35))
 have P3 := Li (P33.out.alloc (.cells #[.slice A3 n3 c3, .int .i64 x] 35))
 have O3 := Li (O33.out.alloc (.cells #[.slice A3 n3 c3, .int .i64 x] 35))
 have BB := Li (B3.out.alloc B3.out.size (.cells #[.slice A3 n3 c3, .int .i64 x] 35))
 have HN3L : Hid (n3 ≤ 9223372036854775807) := by show _ ≤ _; have := HN3.out; omega
 have zz : w.heap.size + 1 + 1 < w3.heap.size := P33.out.lt
 clear C0 C2 C3 P20 P22 P23 P30 P32 P33 O2 O33 B0 B2 B3 c00
 have zP2 := P2.out.lt
 have zP3 := P3.out.lt
 generalize w3.alloc (.cells #[.slice A3 n3 c3, .int .i64 x] 35) = W0 at *
 generalize w3.heap.size = g4 at *
 have C1 := Li C1.out.dr
 have S4 := Li S4.out.dr
 have P2 := Li P2.out.dr
 have P3 := Li P3.out.dr
 have O3 := Li O3.out.dr
 have BB := Li BB.out.drew
 refine wp_region_held_drew (S := fun w' => Hid (CB w' w.heap.size 27 [.slice A n c, .int .i64 ch.kind, .int .i64 ch.id, .int .i64 ch.wi, .string ch.nm, .string ch.ot, .int .i64 ch.ty, .int .i64 ch.pa, .string ch.sep, .slice V m cv] ∧ CB w' g4 35 [.slice A3 n3 c3, .int .i64 x])) (by kernel_rfl) (Li ⟨C1.out, S4.out⟩) (fun hHeld => ?_)
 revert hHeld C1 S4 P2 P3 O3 BB
 generalize W0.drew = X0
 intro C1 S4 P2 P3 O3 BB hHeld
 refine htf 0 (fun _ h => And.intro (h.out.1.c10) (And.intro (h.out.1.lt) (And.intro (h.out.2.c2) (h.out.2.lt)))) ?_
 refine htf 1 (fun _ h => And.intro (h.out.1.c10) (And.intro (h.out.1.lt) (And.intro (h.out.2.c2) (h.out.2.lt)))) ?_
 refine htk 2 ?_
 refine htf 3 (fun _ h => And.intro (h.out.1.c10) (And.intro (h.out.1.lt) (And.intro (h.out.2.c2) (h.out.2.lt)))) ?_
 refine rd1 4 fun KK hK => ?_
 go_simp
 go_at_call 31
 refine (RChange_any A3 n3 c3 x fs ch.kind ch.id ch.wi ch.nm ch.ot ch.ty ch.pa ch.sep _ HN3.out O3.out.row.2.2.2 HN3L.out HX1.out HC.out.nm HC.out.ot HC.out.sep HC.out.kind HC.out.id HC.out.wi HC.out.ty HC.out.pa).mono ?_
 rintro e v4 ⟨rfl, hb8⟩
 rw [HCD.out]
 have C1 := Li (C1.out.up hb8)
 have S4 := Li (S4.out.up hb8)
 have P2 := Li (P2.out.up hb8)
 have P3 := Li (P3.out.up hb8)
 have O3 := Li (O3.out.up hb8)
 have BB := Li (below_step BB.out BB.out.size hb8)
 clear hb8
 go_wp2_with fail
 refine hK.out _ _ (Li ⟨C1.out, S4.out⟩) (fun hHeld => ?_)
 clear hK KK
 try simp only [pnz]
 refine rd1 5 fun KK hK => ?_
 refine step_store_cb rfl 35 (.tmp 2) (.tmp 15) rfl (w.heap.size + 1) [.slice A3 n3 c3, .int .i64 x] rfl rfl 35 [.slice none 0 0, .int .i64 0] 2 P2.out sizeS rfl rfl (one_s _ _ _ _) ?_
 intro s5 hc5 hg5 hz5
 have C1 := Li (C1.out.grown hg5 (by intro h; injection h with h; omega))
 have S4 := Li (S4.out.grown hg5 (by intro h; injection h with h; omega))
 have P3 := Li (P3.out.grown hg5 (by intro h; injection h with h; omega))
 have O3 := Li (O3.out.kept hg5 (.inr (O3.out.ne P2.out (by decide)).symm))
 have P2 := Li hc5
 have BB := Li (below_grown BB.out hg5 BB.out.size (by omega))
 refine hK.out _ _ (Li ⟨C1.out, S4.out⟩) (fun hHeld => ?_)
 clear hK KK
 try simp only [pnz]
 refine rd1 6 fun KK hK => ?_
 refine step_store_cb rfl 24 (.tmp 3) (.tmp 19) rfl (w.heap.size + 1 + 1) [.int .i64 cd.kind, .int .i64 cd.id, .int .i64 cd.wi, .string cd.nm, .string cd.ot, .int .i64 cd.ty, .int .i64 cd.pa, .string cd.sep] rfl rfl 24 [.int .i64 0, .int .i64 0, .int .i64 0, .string ⟨#[]⟩, .string ⟨#[]⟩, .int .i64 0, .int .i64 0, .string ⟨#[]⟩] 8 P3.out sizeCh rfl rfl (one_c _ _ _ _ _ _ _ _) ?_
 intro s6 hc6 hg6 hz6
 have C1 := Li (C1.out.grown hg6 (by intro h; injection h with h; omega))
 have S4 := Li (S4.out.grown hg6 (by intro h; injection h with h; omega))
 have P2 := Li (P2.out.grown hg6 (by intro h; injection h with h; omega))
 have O3 := Li (O3.out.kept hg6 (.inr (O3.out.ne P3.out (by decide)).symm))
 have P3 := Li hc6
 have BB := Li (below_grown BB.out hg6 BB.out.size (by omega))
 refine hK.out _ _ (Li ⟨C1.out, S4.out⟩) (fun hHeld => ?_)
 clear hK KK
 try simp only [pnz]
 refine wpAnyH_done (by kernel_rfl) ?_ _
 go_wp2_with fail
 refine bodyPost_ret (res_cells2 Tryz.results12 rfl rfl P2.out P3.out Tryz.underlying35 sizeS rfl Tryz.underlying24 sizeCh rfl) rfl ⟨⟨A3, n3, c3, rfl, HN3.out, O3.out⟩, BB.out⟩
end Go.Proofs.YtfeemipnalgjnaaGreat
