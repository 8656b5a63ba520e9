/-
  ChachaInvertsRounds: the walk.
-/
import Derived.Test.YtbpphdmkfjdhnaaDoorKN
import Derived.Test.YtbpphdmkfjdhnaaDoorHand
import Derived.Lib.MinMax
import Derived.Test.YtbpphdmkfjdhnaaDoorInitR
import Derived.Test.YtbpphdmkfjdhnaaDoorBackQ
import Derived.StillTailTactics
import Derived.LoopTactic
import Derived.Outline
namespace Go.Proofs.YtbpphdmkfjdhnaaDoor
open Go.RowKit

attribute [local go_sem] wd_add wd_addw wd_xor wd_or wd_not wd_mod wd_wrap wd_sub wd_subw
/-- what the walk holds besides s: the initial state, the block -/
structure SV (w wr : World) (base gf gb : Nat) (first : List UInt32) (tl : List Value) (blk : List UInt8) : Prop where
  ff : WR wr gf 23 first tl
  bb : BT wr gb 30 blk
  bel : Below w.heap.size w wr
  low : gf < base ∧ gb < base ∧ w.heap.size ≤ base
  top : base ≤ wr.heap.size
section
variable {w wr w' : World} {base gf gb : Nat} {first : List UInt32} {tl : List Value} {blk : List UInt8}
theorem SV.drew (h : SV w wr base gf gb first tl blk) : SV w wr.drew base gf gb first tl blk := ⟨h.ff, h.bb, h.bel.drew, h.low, h.top⟩
theorem SV.up (h : SV w wr base gf gb first tl blk) (hb : Below base wr w') : SV w w' base gf gb first tl blk :=
  ⟨h.ff.below hb h.low.1, h.bb.below hb h.low.2.1, h.bel.trans (hb.mono h.low.2.2), h.low, Nat.le_trans h.top hb.size⟩
theorem SV.grown (h : SV w wr base gf gb first tl blk) {g : Nat} (hg : wr.grownBy w' (some g)) (hge : base ≤ g) : SV w w' base gf gb first tl blk :=
  h.up ((Below.refl base wr).grown hg h.top (fun k hk => by injection hk with hk; omega))
end
theorem take_at (l : List UInt32) (k : Nat) (hk : k < l.length) : l.take k ++ [at_ l k] = l.take (k + 1) := by
  rw [List.take_add_one, List.getElem?_eq_getElem hk]
  simp [at_, hk]
theorem rounds_last (v : List UInt32) (k : Nat) (hk : k < 10) : rounds v (10 - k) = quarters (rounds v (9 - k)) 8 := by
  rw [show 10 - k = (9 - k) + 1 by omega]
  rfl
theorem byte_ix (k r : Nat) (hk : k < 16) (hr : r < 4) : IntKind.i64.wrap (4 * (k : Int)) = 4 * (k : Int) ∧ IntKind.i64.wrap (4 * (k : Int) + (r : Int)) = 4 * (k : Int) + (r : Int) ∧ 0 ≤ 4 * (k : Int) + (r : Int) ∧ (4 * (k : Int) + (r : Int)).toNat = 4 * k + r ∧ 4 * (k : Int) + (r : Int) < 64 ∧ IntKind.i64.wrap ((r : Int) - 1) = (r : Int) - 1 := by
  refine ⟨IntWalk.i64_in _ ⟨by omega, by omega⟩, IntWalk.i64_in _ ⟨by omega, by omega⟩, by omega, by omega, by omega, IntWalk.i64_in _ ⟨by omega, by omega⟩⟩
theorem quarters_0 (u : List UInt32) : quarters u 0 = u := rfl
theorem rounds_0 (u : List UInt32) : rounds u 0 = u := rfl
attribute [local irreducible] q4 quarters rounds part4 low8 backed
set_option maxHeartbeats 1500000 in
set_option maxRecDepth 20000 in
theorem walkRnd (R : Option Addr) (cr : Nat) (raw : List UInt8) (n : Nat) (w : World) (hr : Shows w w.heap.size R raw) (_hrc : raw.length ≤ cr) (hrl0 : cr ≤ 140737488351232) (hn : n < 4294967296) (G : GlobQ w) :
    Calls Tryd.prog 8 #[.slice R raw.length cr, .int .u32 n] w fun e w' => e = .returned (.bool true) ∧ Below w.heap.size w w' := by
  have HR := Lib.hid hr
  have HG := Lib.hid G
  have hrl : raw.length ≤ 140737488351232 := by omega
  obtain ⟨nn, hnn⟩ : ∃ nn : UInt32, (n : Int) = wd nn := ⟨UInt32.ofNat n, (wd_of n hn).symm⟩
  rw [hnn]
  clear G hr hn hnn
  go_enter Tryd.func8, Tryd.ntmps8
  go_wp2_with (first
    | (go_at_call 10; refine (sane_any _ HG.out).mono ?_; rintro e w1 ⟨rfl, hb1⟩; have HB1 := Lib.hid hb1; clear hb1)
    | (go_at_call 11; refine (made_any R cr raw w1 (HR.out.up HB1.out) hrl).mono ?_; rintro e w2 ⟨key, nonce, hkl, hnl, rfl, hb2⟩; have HKN := Lib.hid (And.intro hkl hnl); have HB2 : Hid (Below w.heap.size w w2) := Lib.hid (HB1.out.trans (hb2.mono HB1.out.size)); clear hkl hnl hb2)
    | ((with_reducible show wpList _ _ _ _ _ _); refine wpList_store_all rfl 26 (.tmp 6) (.tmp 22) rfl w2.heap.size (cb key) rfl rfl 26 (cb (List.replicate 32 0)).toArray 32 (old32 rfl) info26 (by simp [cb]) (by rw [cb_len, HKN.out.1]) (cb_one _) ?_; intro w3 hb3 hg3 hz3; have H3 := Lib.hid (And.intro hb3 (And.intro hg3 hz3)); clear hb3 hg3 hz3)
    | ((with_reducible show wpList _ _ _ _ _ _); refine wpList_store_all rfl 27 (.tmp 7) (.tmp 23) rfl (w2.heap.size + 1) (cb nonce) rfl rfl 27 (cb (List.replicate 12 0)).toArray 12 (old12 rfl H3.out.2.1) info27 (by simp [cb]) (by rw [cb_len, HKN.out.2]) (cb_one _) ?_; intro w4 hb4 hg4 hz4; have HS : Hid (SN w w4 w2.heap.size (w2.heap.size + 1) key nonce) := Lib.hid (sn_of HB2.out H3.out.1 H3.out.2.1 H3.out.2.2 hb4 hg4 HKN.out.1 HKN.out.2 HG.out); clear hb4 hg4 hz4)
    | ((with_reducible show wpList _ _ _ _ _ _); refine wpList_load_all rfl 26 (.tmp 6) rfl w2.heap.size rfl 26 (cb key) 5 32 HS.out.kk Tryd.underlying26 info26 (by rw [cb_len, HKN.out.1]) ?_)
    | ((with_reducible show wpList _ _ _ _ _ _); refine wpList_load_all rfl 27 (.tmp 7) rfl (w2.heap.size + 1) rfl 27 (cb nonce) 5 12 HS.out.nn Tryd.underlying27 info27 (by rw [cb_len, HKN.out.2]) ?_)
    | (go_at_call 19; refine (initialR_at key nonce nn w4 HKN.out.1 HKN.out.2).mono ?_; rintro e w5 ⟨gf, cf, tl, rfl, hf5, hgf5, hb5⟩; have HF5 := Lib.hid (And.intro hf5 hgf5); have HS5 := Lib.hid (HS.out.up hb5); clear hf5 hgf5 hb5)
    | ((with_reducible show wpList _ _ _ _ _ _); refine wpList_load_all rfl 26 (.tmp 6) rfl w2.heap.size rfl 26 (cb key) 5 32 HS5.out.kk Tryd.underlying26 info26 (by rw [cb_len, HKN.out.1]) ?_)
    | ((with_reducible show wpList _ _ _ _ _ _); refine wpList_load_all rfl 27 (.tmp 7) rfl (w2.heap.size + 1) rfl 27 (cb nonce) 5 12 HS5.out.nn Tryd.underlying27 info27 (by rw [cb_len, HKN.out.2]) ?_)
    | (go_at_call 12; refine (BlockP_any key nonce nn w5 HKN.out.1 HKN.out.2 HS5.out.glob).mono ?_; rintro e w6 ⟨rfl, hb6⟩; have HB6 := Lib.hid hb6; clear hb6)
    | ((with_reducible show wpList _ _ _ _ _ _); refine wpList_store_all rfl 30 (.tmp 9) (.tmp 31) rfl w6.heap.size (cb (blockOf (initS key nonce nn))) rfl rfl 30 (cb (List.replicate 64 0)).toArray 64 (bt_new (w := w6) (n := 64) rfl rfl) info30 (by simp [cb]) (by rw [cb_len, blockOf_len]) (cb_one _) ?_; intro w8 hb8 hg8 hz8; have H8 := Lib.hid (new_fill hb8 hg8); have H8s : Hid (w6.heap.size < w8.heap.size) := Lib.hid (BT.lt hb8); clear hb8 hg8 hz8))
  have hsv : Hid (SV w (w8.alloc (.cells #[] 23)) w8.heap.size gf w6.heap.size (initS key nonce nn) tl (blockOf (initS key nonce nn))) := by
    have b58 : Below w5.heap.size w5 w8 := HB6.out.trans (H8.out.2.mono HB6.out.size)
    have b8 : Below w.heap.size w w8 := HS5.out.bel.trans (b58.mono HS5.out.low)
    exact ⟨(HF5.out.1.up b58).alloc _, H8.out.1.alloc _, b8.alloc b8.size _, ⟨Nat.lt_of_lt_of_le HF5.out.1.lt b58.size, H8s.out, b8.size⟩, by simp⟩
  have ho : Hid (Owns32 (w8.alloc (.cells #[] 23)) w8.heap.size (.slice (some ⟨w8.heap.size, 0, none⟩) 0 0) []) := owns32_empty w8 #[] rfl
  have HI : Hid ((initS key nonce nn).length = 16) := initS_len _ _ _
  have HBL : Hid ((blockOf (initS key nonce nn)).length = 64) := blockOf_len _
  have HBk : Hid (blockOf (initS key nonce nn) = sumBytes (initS key nonce nn) (rounds (initS key nonce nn) 10)) := Lib.hid rfl
  clear H3 HB1 HB2 HS HS5 HF5 HB6 H8 H8s
  generalize blockOf (initS key nonce nn) = blk at *
  generalize initS key nonce nn = s0 at *
  generalize w8.heap.size = base at *
  generalize w6.heap.size = gb at *
  generalize w2.heap.size + 1 = gn at *
  generalize w2.heap.size = gk at *
  have HRL : Hid ((rounds s0 10).length = 16) := by show _ = _; rw [rounds_len, HI.out]
  go_loopw [10, 11, 12, 13] (fun u i _ _ wr => ∃ (k : Nat) (v : Value), k ≤ 16 ∧ i = .int .i64 k ∧ u = v ∧ Hid (Owns32 wr base v ((rounds s0 10).take k)) ∧ Hid (SV w wr base gf gb s0 tl blk)) (fun _ i _ _ _ => 16 - (intOf i).toNat)
  case atStart => exact ⟨0, _, by omega, rfl, rfl, ho, hsv⟩
  case round =>
    clear ho hsv
    obtain ⟨k, v, hk, rfl, rfl, ho, hsv⟩ := hrel
    obtain ⟨wo, hwo⟩ : ∃ wo : World, wo = wr := ⟨_, rfl⟩
    subst hwo
    by_cases hlt : k < 16
    · have i1 : (k : Int) < 16 := by omega
      obtain ⟨X, hX⟩ : ∃ X, X = at_ (rounds s0 10) k + at_ s0 k := ⟨_, rfl⟩
      have HX := Lib.hid hX
      clear hX
      go_wp2
      go_loopw [12, 13] (fun x j wr => ∃ m : Nat, m ≤ 4 ∧ j = .int .i64 ((m : Int) - 1) ∧ x = .int .u32 (wd (part4 X (4 - m))) ∧ Hid (wr = wo)) (fun _ j _ => (intOf j + 1).toNat)
      case atStart => exact ⟨4, by omega, rfl, by rw [part4_0]; rfl, rfl⟩
      case round =>
        obtain ⟨m, hm, rfl, rfl, hw⟩ := hrel
        obtain ⟨wi, hwi⟩ : ∃ wi : World, wi = wr := ⟨_, rfl⟩
        subst hwi
        have hs2 : Hid (SV w wi base gf gb s0 tl blk) := by have := hw.out; rw [this]; exact hsv
        have hs3 := hs2
        by_cases hm0 : m = 0
        case neg =>
          obtain ⟨r, rfl⟩ : ∃ r, m = r + 1 := ⟨m - 1, by omega⟩
          have hr4 : r < 4 := by omega
          rw [show ((r + 1 : Nat) : Int) - 1 = (r : Int) by omega]
          obtain ⟨e1, e2, e3, e4, e5, e6⟩ := byte_ix k r hlt hr4
          have c1 := hs2.out.bb.cellw (4 * k + r) (by rw [HBL.out]; omega)
          rw [show byte blk (4 * k + r) = low8 (8 * (3 - (4 - (r + 1)))) X by rw [HBk.out, byte_sum _ _ _ _ hlt hr4, ← HX.out, show 3 - (4 - (r + 1)) = r by omega]] at c1
          have hp4 := part4_step X (4 - (r + 1)) (by omega)
          rw [show 4 - (r + 1) + 1 = 4 - r by omega] at hp4
          have HP4 := Lib.hid hp4
          clear hp4 hm hm0
          generalize u8w (low8 (8 * (3 - (4 - (r + 1)))) X) = bb at *
          generalize part4 X (4 - (r + 1)) = pp at *
          have e7 : wd pp * 256 % 4294967296 = wd (shl 8 pp) := wd_shl' 8 _
          go_wp2
          go_roundw
          case rel => exact ⟨r, by omega, rfl, by rw [HP4.out], hw⟩
          case measure => simp [intOf]
        case pos =>
          subst hm0
          have g1 : ¬ (0 : Int) ≤ ((0 : Nat) : Int) - 1 := by omega
          have hwe := hw.out
          rw [show 4 - 0 = 4 from rfl, part4_4]
          have c2 := hs2.out.ff.cell k (by rw [HI.out]; exact hlt)
          have ho2 := ho
          rw [← hwe] at ho2
          have HE : Hid (X - at_ s0 k = at_ (rounds s0 10) k) := by show _ = _; rw [HX.out, UInt32.add_sub_cancel]
          clear hw hwe hs2
          go_wp2_with (at_builtin; (with_reducible show wpList _ _ _ _ _ _); refine wpList_one32 (wr := wi) rfl (.tmp 51) (.tmp 58) rfl base _ ((rounds s0 10).take k) (X - at_ s0 k) rfl rfl (Or.inl rfl) ho2 ?_ ?_ ?_; (rw [List.length_take]; omega); exact hs3.out.top; intro v3 w3 ho3 hb3)
          go_roundw
          case rel => exact ⟨k + 1, v3, by omega, by go_num, rfl, by rw [← take_at _ _ (by rw [HRL.out]; exact hlt), ← HE.out]; exact ho3, hs3.out.up (hb3.out _ _ (Below.refl _ _) (Nat.le_refl _))⟩
          case measure => simp [intOf]; omega
    · have hk16 : k = 16 := by omega
      subst hk16
      rw [List.take_of_length_le (by rw [HRL.out]; exact Nat.le_refl _)] at ho
      obtain ⟨g, cap, tl2, rfl, hgb, hwr⟩ := Owns32.shape ho.out (by rw [HRL.out]; decide)
      rw [HRL.out]
      have HWR := Lib.hid (And.intro hgb hwr)
      clear hgb hwr ho HBk HBL
      go_wp2_with (go_at_call 20; refine (quartersR_any wo).mono ?_; rintro e w9 ⟨rfl, hq9, hb9⟩; have HQ9 := Lib.hid hq9; have HW9 : Hid (WR w9 g 23 (rounds s0 (10 - 0)) tl2) := Lib.hid (HWR.out.2.up hb9); have hs9 := Lib.hid (hsv.out.up (hb9.mono hsv.out.top)); have HNE : Hid (base ≤ g ∧ g < wo.heap.size) := And.intro HWR.out.1 HWR.out.2.lt; clear hq9 hb9 HWR hsv)
      generalize wo.heap.size = gq at *
      go_loopw [15, 16] (fun u _ wr => ∃ k : Nat, k ≤ 10 ∧ u = .int .i64 k ∧ Hid (WR wr g 23 (rounds s0 (10 - k)) tl2) ∧ Hid (QT wr gq) ∧ Hid (SV w wr base gf gb s0 tl blk)) (fun u _ _ => 10 - (intOf u).toNat)
      case atStart => exact ⟨0, by omega, rfl, HW9, HQ9, hs9⟩
      case round =>
        clear HW9 HQ9 hs9
        obtain ⟨k, hk, rfl, hw, hq, hsv⟩ := hrel
        obtain ⟨wo2, hwo2⟩ : ∃ wo2 : World, wo2 = wr := ⟨_, rfl⟩
        subst hwo2
        by_cases hlt : k < 10
        · have i1 : (k : Int) < 10 := by omega
          rw [rounds_last _ _ hlt] at hw
          obtain ⟨u, hu⟩ : ∃ u, u = rounds s0 (9 - k) := ⟨_, rfl⟩
          rw [← hu] at hw
          have HU : Hid (u = rounds s0 (9 - k) ∧ u.length = 16) := by show _ ∧ _; rw [hu, rounds_len, HI.out]; exact ⟨rfl, rfl⟩
          clear hu
          go_wp2
          go_loopw [16] (fun i wr => ∃ m : Nat, m ≤ 8 ∧ i = .int .i64 ((m : Int) - 1) ∧ Hid (WR wr g 23 (quarters u m) tl2) ∧ Hid (QT wr gq) ∧ Hid (SV w wr base gf gb s0 tl blk)) (fun i _ => (intOf i + 1).toNat)
          case atStart => exact ⟨8, by omega, rfl, hw, hq, hsv⟩
          case round =>
            clear hw hq hsv
            obtain ⟨m, hm, rfl, hw, hq, hsv⟩ := hrel
            obtain ⟨wi, hwi⟩ : ∃ wi : World, wi = wr := ⟨_, rfl⟩
            subst hwi
            by_cases hm0 : m = 0
            · subst hm0
              have g1 : ¬ (0 : Int) ≤ ((0 : Nat) : Int) - 1 := by omega
              go_wp2
              go_roundw
              case rel => exact ⟨k + 1, by omega, by go_num, by rw [show 10 - (k + 1) = 9 - k by omega, ← HU.out.1, ← quarters_0 u]; exact hw, hq, hsv⟩
              case measure => simp [intOf]; omega
            · obtain ⟨r, rfl⟩ : ∃ r, m = r + 1 := ⟨m - 1, by omega⟩
              have hr8 : r < 8 := by omega
              rw [show ((r + 1 : Nat) : Int) - 1 = (r : Int) by omega]
              have i2 : (r : Int) < 8 := by omega
              have e1 : IntKind.i64.wrap ((r : Int) - 1) = (r : Int) - 1 := IntWalk.i64_in _ ⟨by omega, by omega⟩
              have c0 : wi.cell? ⟨gq, r * 4, none⟩ = some (.int .i64 (pick (q4 r) 0)) := hq.out.cell r 0 hr8 (by decide)
              have c1 := hq.out.cell r 1 hr8 (by decide)
              have c2 := hq.out.cell r 2 hr8 (by decide)
              have c3 := hq.out.cell r 3 hr8 (by decide)
              go_wp2_with (go_at_call 21; (refine (backR_any g cap (pick (q4 r) 0) (pick (q4 r) 1) (pick (q4 r) 2) (pick (q4 r) 3) 23 (quarters u (r + 1)) tl2 wi hw.out (by rw [quarters_len, HU.out.2]) ((q4_ok r hr8).2 0 (by decide)) ((q4_ok r hr8).2 1 (by decide)) ((q4_ok r hr8).2 2 (by decide)) ((q4_ok r hr8).2 3 (by decide))).mono ?_); rintro e w7 ⟨rfl, hw7, hg7⟩; rw [back_step u r HU.out.2 hr8] at hw7; have HW7 := Lib.hid (And.intro hw7 hg7); clear hw7 hg7)
              go_roundw
              case rel => exact ⟨r, by omega, rfl, HW7.out.1, hq.out.grown HW7.out.2 (by have := HNE.out; simp; omega), hsv.out.grown HW7.out.2 HNE.out.1⟩
              case measure => simp [intOf]
        · have hk10 : k = 10 := by omega
          rw [hk10] at hw
          have hw0 : Hid (WR wo2 g 23 s0 tl2) := by rw [← rounds_0 s0]; exact hw
          clear hw hk10
          go_wp2
          go_loopw [17] (fun u wr => ∃ k : Nat, k ≤ 16 ∧ u = .int .i64 k ∧ Hid (WR wr g 23 s0 tl2) ∧ Hid (SV w wr base gf gb s0 tl blk)) (fun u _ => 16 - (intOf u).toNat)
          case atStart => exact ⟨0, by omega, rfl, hw0, hsv⟩
          case round =>
            clear hw0 hsv
            obtain ⟨k, hk, rfl, hw, hsv⟩ := hrel
            obtain ⟨wi, hwi⟩ : ∃ wi : World, wi = wr := ⟨_, rfl⟩
            subst hwi
            by_cases hlt : k < 16
            · have i1 : (k : Int) < 16 := by omega
              have c1 := hw.out.cell k (by rw [HI.out]; exact hlt)
              have c2 := hsv.out.ff.cell k (by rw [HI.out]; exact hlt)
              go_wp2
              go_still_tail 8, (by kernel_rfl)
              change wpList _ _ _ _ _ wi.drew
              go_wp2
              go_roundw
              case rel => exact ⟨k + 1, by omega, by go_num, hw.out.drew, hsv.out.drew⟩
              case measure => simp [intOf]; omega
            · have i1 : ¬ (k : Int) < 16 := by omega
              go_wp2
              go_ret
              exact ⟨rfl, hsv.out.bel⟩
end Go.Proofs.YtbpphdmkfjdhnaaDoor
