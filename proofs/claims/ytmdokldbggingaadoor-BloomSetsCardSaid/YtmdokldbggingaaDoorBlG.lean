/-
  The laws' build once more, for up to a thousand keys (BloomSets).
-/
import Derived.Test.YtmdokldbggingaaDoorBlB
namespace Go.Proofs.YtmdokldbggingaaDoor
open Go.RowKit

set_option maxHeartbeats 8000000 in
set_option maxRecDepth 40000 in
theorem build_big (A : Option Addr) (nk ck n k : Nat) (ks : List Ky) (w : World) (hnk : nk = ks.length) (hks : KsAt w w.heap.size A ks) (hn : n < 256) (hk : k < 256) (G : Glob w) (hl60 : ks.length ≤ 1000) (hl300 : ∀ k ∈ ks, k.l.length ≤ 300) :
    Calls Tryd.prog 21 #[.agg #[.slice A nk ck, .int .u8 n, .int .u8 k]] w fun e w' => RetA w w' (kOf k : Int) (nOf n) (bldK k n ks) e ∧ Below w.heap.size w w' := by
  have HG := Li G
  have HKS := Li hks
  have HNK := Li hnk
  have B2 := Li (al2 w (.cells #[.slice A nk ck, .int .u8 n, .int .u8 k] 39) (.cells #[.int .i64 0, .slice none 0 0] 24))
  have P2 := Li ((CB.new w 39 [.slice A nk ck, .int .u8 n, .int .u8 k]).alloc (.cells #[.int .i64 0, .slice none 0 0] 24))
  have R2 := Li (CB.new1 w (.cells #[.slice A nk ck, .int .u8 n, .int .u8 k] 39) 24 [.int .i64 0, .slice none 0 0])
  have hnk60 : nk ≤ 1000 := by omega
  clear G hks hnk hl60
  go_enter Tryd.func21, Tryd.ntmps21
  go_wp2_with (go_at_call 38; refine (Of_is n k (kOf k) (nOf n) _ hn hk rfl rfl).mono ?_; rintro e w3 ⟨⟨A0, c0, rfl, ho3⟩, hb3⟩; have B3 := Li (below_step B2.out B2.out.size hb3); have P3 := Li (P2.out.up hb3); have R3 := Li (R2.out.up hb3); have hz3 : w.heap.size + 1 + 1 ≤ w3.heap.size := (by have := hb3.size; simpa using this); have O3 := Li (owns_low ho3 (b' := w.heap.size + 1 + 1) (by simp only [asz]; omega)); clear hb3 ho3 B2 P2 R2)
  have b4 := al1 w3 (.cells #[.int .i64 (kOf k), .slice A0 (nOf n) c0] 24)
  have PP := Li (show SB w w.heap.size A nk ck n k ks (w3.alloc (.cells #[.int .i64 (kOf k), .slice A0 (nOf n) c0] 24)) from ⟨P3.out.up b4, HKS.out.up (below_step B3.out B3.out.size b4), HG.out.up (below_step B3.out B3.out.size b4), below_step B3.out B3.out.size b4⟩)
  have R4 := Li (R3.out.up b4)
  have N4 := Li (CB.new w3 24 [.int .i64 (kOf k), .slice A0 (nOf n) c0])
  have O4 := Li (show Owns (w3.alloc (.cells #[.int .i64 (kOf k), .slice A0 (nOf n) c0] 24)) (w.heap.size + 1 + 1) (.slice A0 (nOf n) c0) (bldK k n (ks.take 0)) from owns_upB O3.out b4)
  have hp4 : w.heap.size + 1 + 1 ≤ w3.heap.size := hz3
  clear b4 P3 R3 O3 B3 hz3
  generalize hW : w3.alloc (.cells #[.int .i64 (kOf k), .slice A0 (nOf n) c0] 24) = w4 at *
  generalize w3.heap.size = p4 at *
  clear hW
  go_loopw [4] (fun i wr => ∃ (j : Nat) (A1 : Option Addr) (c1 : Nat), j ≤ nk ∧ i = .int .i64 j ∧ Hid (SB w w.heap.size A nk ck n k ks wr) ∧ Hid (CB wr (w.heap.size + 1) 24 [.int .i64 0, .slice none 0 0]) ∧ Hid (CB wr p4 24 [.int .i64 (kOf k), .slice A1 (nOf n) c1]) ∧ Hid (Owns wr (w.heap.size + 1 + 1) (.slice A1 (nOf n) c1) (bldK k n (ks.take j)))) (fun i _ => nk - (intOf i).toNat)
  case atStart => exact ⟨0, A0, c0, by omega, rfl, PP, R4, N4, O4⟩
  case round =>
    clear PP R4 N4 O4
    obtain ⟨j, A1, c1, hj, rfl, PP, R4, N4, O4⟩ := hrel
    have p0 := PP.out.b.c3
    have zp := PP.out.b.lt
    by_cases hlt : j < nk
    · have j1 : (j : Int) < (nk : Int) := by omega
      have j0 : (0 : Int) ≤ (j : Int) := by omega
      have hjl : j < ks.length := by rw [← HNK.out]; exact hlt
      obtain ⟨x, hx0⟩ : ∃ x, ks[j]? = some x := ⟨_, List.getElem?_eq_getElem hjl⟩
      have hx := List.mem_of_getElem? hx0
      have hx3 := hl300 x hx
      have HX := Li hx0
      obtain ⟨b, off, hA, _⟩ := PP.out.k.row (by omega)
      subst hA
      go_upto_region 5 with fail
      clear p0 zp
      replace PP := Li (PP.out.up (bd wr))
      replace R4 := Li R4.out.dr
      replace N4 := Li N4.out.dr
      replace O4 := Li (show Owns wr.drew _ _ _ from O4.out)
      have hp4' : p4 < wr.drew.heap.size := N4.out.lt
      refine wp_region_held_drew (S := fun X => Hid (SB w w.heap.size (some ⟨b, off, none⟩) nk ck n k ks X)) (by kernel_rfl) PP (fun hHeld => ?_)
      revert hHeld PP R4 N4 O4 hp4'
      generalize wr.drew = X4
      intro PP R4 N4 O4 hp4' hHeld
      obtain ⟨n0, n1⟩ := N4.out.c2
      refine htk 1 ?_
      refine htf 2 (fun _ h => And.intro h.out.b.c3 h.out.b.lt) ?_
      refine htk 3 ?_
      refine htk 4 ?_
      refine htf 5 (fun _ h => kcell h.out.k hx0) ?_
      refine rd1 0 fun KK hK => ?_
      go_simp
      
      refine hK.out _ _ (PP) (fun hHeld => ?_)
      clear hK KK
      try simp only [pnz]
      refine rd1 6 fun KK hK => ?_
      go_simp
      go_at_call 16
      refine Calls.mono (Add_any (kOf k : Int) A1 (nOf n) c1 (bldK k n (ks.take j)) x.A x.c x.l X4 (bldK_len k n _).symm O4.out.shows.2.2 (by have := (nOf_le n).2; omega) (by omega) (PP.out.k.key x hx) PP.out.g) ?_
      rintro e w6 ⟨⟨A6, c6, rfl, ho⟩, hb⟩
      replace R4 := Li (R4.out.up hb)
      replace N4 := Li (N4.out.up hb)
      have zX : w.heap.size + 1 + 1 ≤ X4.heap.size := by omega
      replace PP := Li (PP.out.up hb)
      have O6 := Li (owns_low ho (b' := w.heap.size + 1 + 1) zX)
      clear hb ho
      go_wp2_with fail
      refine hK.out _ _ (PP) (fun hHeld => ?_)
      clear hK KK
      try simp only [pnz]
      refine rd1 7 fun KK hK => ?_
      refine step_store_cb rfl 24 (.tmp 3) (.tmp 23) rfl p4 [.int .i64 (kOf k), .slice A6 (nOf n) c6] rfl rfl 24 [.int .i64 (kOf k), .slice A1 (nOf n) c1] 2 N4.out infoB rfl rfl oneB ?_
      intro s8 hc hg hz
      have hneO : (Value.slice A6 (nOf n) c6).ownBlock ≠ some p4 := fun e => owns_ne O6.out N4.out (by decide) e.symm
      replace N4 := Li hc
      have O8 := Li (owns_kept O6.out hg (.inr hneO))
      have R8 := Li (R4.out.grown hg (by intro h; injection h with h; omega))
      have hbs := below_grownM PP.out.d hg PP.out.d.size (by omega)
      replace PP := Li (show SB w w.heap.size (some ⟨b, off, none⟩) nk ck n k ks s8 from ⟨PP.out.b.grown hg (by intro h; injection h with h; omega), (HKS.out.below hbs).more hbs.size, HG.out.up hbs, hbs⟩)
      clear hc hg hz hbs
      refine hK.out _ _ (PP) (fun hHeld => ?_)
      clear hK KK
      try simp only [pnz]
      refine wpAnyH_done (by kernel_rfl) ?_ _
      go_wp2_with fail
      go_roundw
      case rel => exact ⟨j + 1, A6, c6, by omega, by go_num, PP, R8, N4, Li (by rw [bldK_snoc HX.out]; exact O8.out)⟩
      case measure => simp [intOf]; omega
    · have j1 : ¬ (j : Int) < (nk : Int) := by omega
      have HF := Li (show Owns wr (w.heap.size + 1 + 1) (.slice A1 (nOf n) c1) (bldK k n ks) by
        have h := O4.out
        rwa [List.take_of_length_le (by rw [← HNK.out]; omega)] at h)
      obtain ⟨n0, n1⟩ := N4.out.c2
      have zn := N4.out.lt
      obtain ⟨r0, r1⟩ := R4.out.c2
      have rf0 := R4.out.frozen 0
      have rf1 := R4.out.frozen 1
      have zr := R4.out.lt
      go_wp2
      have g1 := grown_setM wr (w.heap.size + 1) 0 (.int .i64 (kOf k))
      have g2 := grown_setM (wr.setCell ⟨w.heap.size + 1, 0, none⟩ (.int .i64 (kOf k))) (w.heap.size + 1) 1 (.slice A1 (nOf n) c1)
      have hneO : (Value.slice A1 (nOf n) c1).ownBlock ≠ some (w.heap.size + 1) := fun e => owns_ne HF.out R4.out (by decide) e.symm
      have N2 : CB ((wr.setCell ⟨w.heap.size + 1, 0, none⟩ (.int .i64 (kOf k))).setCell ⟨w.heap.size + 1, 1, none⟩ (.slice A1 (nOf n) c1)) (w.heap.size + 1) 24 [.int .i64 (kOf k), .slice A1 (nOf n) c1] := (R4.out.set_ 0 (.int .i64 (kOf k))).set_ 1 _
      have O2 := owns_kept (owns_kept HF.out g1 (.inr hneO)) g2 (.inr hneO)
      have Bz := PP.out.d
      have B2 := below_grownM (below_grownM Bz g1 Bz.size (by omega)) g2 (by have := Bz.size; simpa [World.setCell] using this) (by omega)
      generalize (wr.setCell ⟨w.heap.size + 1, 0, none⟩ (.int .i64 (kOf k))).setCell ⟨w.heap.size + 1, 1, none⟩ (.slice A1 (nOf n) c1) = W2 at *
      obtain ⟨T0, T1⟩ := N2.c2
      exact bodyPost_ret (v := .agg #[.int .i64 (kOf k), .slice A1 (nOf n) c1]) (by simp [results, Tryd.results21, go_sem, T0, T1]) rfl ⟨⟨_, _, rfl, owns_low O2 (by omega)⟩, B2⟩
end Go.Proofs.YtmdokldbggingaaDoor
