/-
  ChachaBlocks: the walk.
-/
import Derived.Test.YtbpphdmkfjdhnaaDoorKN
import Derived.Test.YtbpphdmkfjdhnaaDoorHand
import Derived.Lib.MinMax
import Derived.StillTailTactics
import Derived.LoopTactic
namespace Go.Proofs.YtbpphdmkfjdhnaaDoor
open Go.RowKit

/-- make([]byte, n), in a region that draws its order. -/
theorem wp_make_bytes {P : Program} (w : World) {o : Oper} {a : Act} {K : Act → World → Prop} {Q : Exit → Act → World → Prop} (l c : Operand) (t : TypeId) (hop : o.op = Op.makeSlice t l c) (h1 : P.underlying t = some (.slice 5))
    (h2 : (P.info? 5).map (fun i => (i.zero, i.size, i.bytes)) = some (some (.int .u8 0), 1, 1)) (kl kc : IntKind) (L : Int) (n : Nat) (hl : a.eval l = .int kl L) (hc : a.eval c = .int kc L) (hL : L = (n : Int)) (hm : n ≤ 281474976710656)
    (hK : ∀ w', Hid (BT w' w.heap.size 5 (List.replicate n 0)) → Hid (Below w.heap.size w w') → K (a.put o.dst (.slice (some ⟨w.heap.size, 0, none⟩) n n)) w') : o.wp P a w K Q := by
  obtain ⟨i, hi, hz, hs, hb⟩ := info_parts h2
  have hr := run_make (P := P) w t 5 i (.int .u8 0) h1 hi hz kl kc (n : Int) (n : Int) (by omega) (by omega) (by rw [hb]; omega) (by omega)
  simp only [Int.toNat_natCast] at hr
  subst hL
  unfold Oper.wp
  simp [execOp, hop, hl, hc, hr, Result.andThen]
  refine hK _ ?_ ((Below.refl _ _).alloc (Nat.le_refl _) _)
  show BT _ _ _ _
  unfold BT
  rw [heap_alloc_new]
  congr 2
  apply Array.ext'
  rw [hs, Nat.mul_one, show Value.cells (.int .u8 0) = #[.int .u8 0] from rfl, toList_madeCells_one, cb_zeros]
theorem at64 (k : Nat) (hk : k < 321) : ∃ d z : Nat, Hid (d = k / 64) ∧ Hid (z = k % 64) ∧ z < 64 ∧ (k : Int).tdiv 64 = (d : Int) ∧ (k : Int).tmod 64 = (z : Int) ∧ IntKind.i64.wrap (d : Int) = (d : Int) ∧ IntKind.i64.wrap (z : Int) = (z : Int) ∧ IntKind.u32.wrap (d : Int) = (d : Int) ∧ (d : Int) % 4294967296 = (d : Int) ∧ (z : Int) < 64 ∧ wd (UInt32.ofNat d) = (d : Int) := by
  refine ⟨k / 64, k % 64, rfl, rfl, by omega, by rw [Int.tdiv_eq_ediv_of_nonneg (by omega)]; omega, by rw [Int.tmod_eq_emod_of_nonneg (by omega)]; omega, IntWalk.i64_in _ ⟨by omega, by omega⟩, IntWalk.i64_in _ ⟨by omega, by omega⟩, by rw [IntKind.wrap_u32]; omega, by omega, by omega, wd_of _ (by omega)⟩
set_option maxHeartbeats 4000000 in
set_option maxRecDepth 20000 in
theorem walkBlk (R : Option Addr) (cr : Nat) (raw : List UInt8) (n : Nat) (w : World) (hr : Shows w w.heap.size R raw) (_hrc : raw.length ≤ cr) (hrl0 : cr ≤ 140737488351232) (hn : n < 65536) (G : GlobQ w) :
    Calls Tryd.prog 6 #[.slice R raw.length cr, .int .u16 n] w fun e w' => e = .returned (.bool true) ∧ Below w.heap.size w w' := by
  have HR := Lib.hid hr
  have HG := Lib.hid G
  have hrl : raw.length ≤ 140737488351232 := by omega
  obtain ⟨L, hL, e1, e2⟩ : ∃ L : Nat, L < 321 ∧ (n : Int).tmod 321 = (L : Int) ∧ IntKind.i64.wrap (n : Int) = (n : Int) := ⟨n % 321, by omega, by rw [Int.tmod_eq_emod_of_nonneg (by omega)]; omega, IntWalk.i64_in _ ⟨by omega, by omega⟩⟩
  have e3 : IntKind.i64.wrap (L : Int) = (L : Int) := IntWalk.i64_in _ ⟨by omega, by omega⟩
  clear G hr hn
  go_enter Tryd.func6, Tryd.ntmps6
  go_wp2_with (first
    | (go_at_call 10; refine (sane_any _ HG.out).mono ?_; rintro e w1 ⟨rfl, hb1⟩; have HB1 := Lib.hid hb1; clear hb1)
    | (go_at_call 11; refine (made_any R cr raw w1 (HR.out.up HB1.out) hrl).mono ?_; rintro e w2 ⟨key, nonce, hkl, hnl, rfl, hb2⟩; have HKN := Lib.hid (And.intro hkl hnl); have HB2 : Hid (Below w.heap.size w w2) := Lib.hid (HB1.out.trans (hb2.mono HB1.out.size)); clear hkl hnl hb2)
    | ((with_reducible show wpList _ _ _ _ _ _); refine wpList_store_all rfl 26 (.tmp 6) (.tmp 15) rfl w2.heap.size (cb key) rfl rfl 26 (cb (List.replicate 32 0)).toArray 32 (old32 rfl) info26 (by simp [cb]) (by rw [cb_len, HKN.out.1]) (cb_one _) ?_; intro w3 hb3 hg3 hz3; have H3 := Lib.hid (And.intro hb3 (And.intro hg3 hz3)); clear hb3 hg3 hz3)
    | ((with_reducible show wpList _ _ _ _ _ _); refine wpList_store_all rfl 27 (.tmp 7) (.tmp 16) rfl (w2.heap.size + 1) (cb nonce) rfl rfl 27 (cb (List.replicate 12 0)).toArray 12 (old12 rfl H3.out.2.1) info27 (by simp [cb]) (by rw [cb_len, HKN.out.2]) (cb_one _) ?_; intro w4 hb4 hg4 hz4; have HS : Hid (SN w w4 w2.heap.size (w2.heap.size + 1) key nonce) := Lib.hid (sn_of HB2.out H3.out.1 H3.out.2.1 H3.out.2.2 hb4 hg4 HKN.out.1 HKN.out.2 HG.out); clear hb4 hg4 hz4))
  have hs0 := Lib.hid HS.out.drew
  clear H3 HB1 HB2
  generalize w2.heap.size + 1 = gn at *
  generalize w2.heap.size = gk at *
  refine wp_region_held_drew (S := fun w' => Hid (SN w w' gk gn key nonce)) (by kernel_rfl) hs0 (fun hHeld => ?_)
  refine hand_take (i := 0) rfl (by kernel_rfl) (by kernel_rfl) (by kernel_rfl) (fun _ _ _ h => h) (yieldsIf_load_mid (by rfl) _ _ rfl gk 0 rfl (cb key) _ (fun _ h => h.out.kk.rangeQ) Tryd.underlying26 rfl (by rw [info26, cb_len, HKN.out.1])) (by assumption) ?_
  try simp only [Act.put, List.setIfInBounds_toArray, List.set_cons_zero, List.set_cons_succ]
  refine hand_take (i := 1) rfl (by kernel_rfl) (by kernel_rfl) (by kernel_rfl) (fun _ _ _ h => h) (yieldsIf_load_mid (by rfl) _ _ rfl gn 0 rfl (cb nonce) _ (fun _ h => h.out.nn.rangeQ) Tryd.underlying27 rfl (by rw [info27, cb_len, HKN.out.2])) (by assumption) ?_
  try simp only [Act.put, List.setIfInBounds_toArray, List.set_cons_zero, List.set_cons_succ]
  refine hand_take (i := 2) (v := ?_) rfl (by kernel_rfl) (by kernel_rfl) (by kernel_rfl) (fun _ _ _ h => h) (Or.inl ⟨by rfl, ?_⟩) (by assumption) ?_
  rotate_left
  · intro w hSw
    clear hSw
    go_simp
    try with_reducible rfl
  try simp only [Act.put, List.setIfInBounds_toArray, List.set_cons_zero, List.set_cons_succ]
  refine hand_take (i := 3) (v := ?_) rfl (by kernel_rfl) (by kernel_rfl) (by kernel_rfl) (fun _ _ _ h => h) (Or.inl ⟨by rfl, ?_⟩) (by assumption) ?_
  rotate_left
  · intro w hSw
    clear hSw
    go_simp
    try with_reducible rfl
  try simp only [Act.put, List.setIfInBounds_toArray, List.set_cons_zero, List.set_cons_succ]
  refine hand_take (i := 4) (v := ?_) rfl (by kernel_rfl) (by kernel_rfl) (by kernel_rfl) (fun _ _ _ h => h) (Or.inl ⟨by rfl, ?_⟩) (by assumption) ?_
  rotate_left
  · intro w hSw
    clear hSw
    go_simp
    try with_reducible rfl
  try simp only [Act.put, List.setIfInBounds_toArray, List.set_cons_zero, List.set_cons_succ]
  refine wpAnyH_ready (rs := [5]) (by kernel_rfl) (by simp) ?_
  refine hand_cons rfl (fun KK hK => ?_) AllReadyH.nil
  rw [if_pos (by rfl)]
  refine wp_make_bytes _ (.tmp 21) (.tmp 21) 22 rfl Tryd.underlying22 info5 .i64 .i64 L L rfl rfl rfl (by omega) ?_
  intro w5 hz5 hb5
  have hs5 := Lib.hid (hHeld.out.up hb5.out)
  clear hb5 hHeld
  refine hK.out _ _ (hs5) (fun hHeld => ?_)
  clear hK KK
  try simp only [Act.put, List.setIfInBounds_toArray, List.set_cons_zero, List.set_cons_succ]
  refine wpAnyH_ready (rs := [6]) (by kernel_rfl) (by simp) ?_
  refine hand_cons rfl (fun KK hK => ?_) AllReadyH.nil
  go_simp
  go_at_call 15
  refine (XorP_is key nonce (some ⟨_, 0, none⟩) L L (List.replicate L 0) (xorOf key nonce (List.replicate L 0)) _ HKN.out.1 HKN.out.2 (by simp) (hz5.out.shows hz5.out.lt) (by simp; omega) rfl hHeld.out.glob).mono ?_
  rintro e w6 ⟨c6, rfl, hx6, _, hb6⟩
  have hs6 := Lib.hid (hHeld.out.up hb6)
  have HX6 := Lib.hid hx6
  clear hb6 hx6 hHeld
  go_wp2_with fail
  refine hK.out _ _ (hs6) (fun hHeld => ?_)
  clear hK KK
  try simp only [Act.put, List.setIfInBounds_toArray, List.set_cons_zero, List.set_cons_succ]
  refine hand_take (i := 7) (v := ?_) rfl (by kernel_rfl) (by kernel_rfl) (by kernel_rfl) (fun _ _ _ h => h) (Or.inl ⟨by rfl, ?_⟩) (by assumption) ?_
  rotate_left
  · intro w hSw
    clear hSw
    go_simp
    try with_reducible rfl
  try simp only [Act.put, List.setIfInBounds_toArray, List.set_cons_zero, List.set_cons_succ]
  refine wpAnyH_done (by kernel_rfl) ?_ _
  clear hHeld hs0 hs5 hz5
  go_wp2
  have HC : Hid (∀ k, k < L → byte (xorOf key nonce (List.replicate L 0)) k = keyAt key nonce k) := fun k hk => by
    have := xorOf_zeros key nonce L k hk
    unfold byte
    rw [List.getD_eq_getElem?_getD, this]
    rfl
  have HXL : Hid ((xorOf key nonce (List.replicate L 0)).length = L) := by show _ = _; rw [xorOf_len, List.length_replicate]
  generalize xorOf key nonce (List.replicate L 0) = X at *
  go_loopw [9, 10] (fun i _ wr => ∃ k : Nat, k ≤ L ∧ i = .int .i64 k ∧ Hid (SN w wr gk gn key nonce) ∧ Hid (BT wr c6 5 X)) (fun i _ _ => L - (intOf i).toNat)
  case atStart => exact ⟨0, by omega, rfl, hs6, HX6⟩
  case round =>
    clear hs6 HX6
    obtain ⟨k, hk, rfl, hs, hx⟩ := hrel
    obtain ⟨wo, hwo⟩ : ∃ wo : World, wo = wr := ⟨_, rfl⟩
    subst hwo
    by_cases hlt : k < L
    · have i1 : (k : Int) < (L : Int) := by omega
      obtain ⟨d, z, hd, hz, hz64, t1, t2, t3, t4, t5, t6, t7, t8⟩ := at64 k (by omega)
      have T8 := Lib.hid t8
      clear t8
      go_wp2_with (first
        | ((with_reducible show wpList _ _ _ _ _ _); refine wpList_load_all rfl 26 (.tmp 6) rfl gk rfl 26 (cb key) 5 32 hs.out.kk Tryd.underlying26 info26 (by rw [cb_len, HKN.out.1]) ?_)
        | ((with_reducible show wpList _ _ _ _ _ _); refine wpList_load_all rfl 27 (.tmp 7) rfl gn rfl 27 (cb nonce) 5 12 hs.out.nn Tryd.underlying27 info27 (by rw [cb_len, HKN.out.2]) ?_)
        | (go_at_call 12; refine (BlockP_is key nonce (UInt32.ofNat d) d (ctr key nonce d) wo HKN.out.1 HKN.out.2 T8.out rfl hs.out.glob).mono ?_; rintro e w7 ⟨rfl, hb7⟩; have HB7 := Lib.hid hb7; clear hb7)
        | ((with_reducible show wpList _ _ _ _ _ _); refine wpList_store_all rfl 30 (.tmp 10) (.tmp 41) rfl w7.heap.size (cb (ctr key nonce d)) rfl rfl 30 (cb (List.replicate 64 0)).toArray 64 (bt_new (w := w7) (n := 64) rfl rfl) info30 (by simp [cb]) (by rw [cb_len]; exact blockOf_len _) (cb_one _) ?_; intro w8 hb8 hg8 hz8; have H8 := Lib.hid (new_fill hb8 hg8); clear hb8 hg8 hz8))
      have b78 : Below wo.heap.size wo w8 := HB7.out.trans (H8.out.2.mono HB7.out.size)
      have hs8 := Lib.hid (hs.out.up b78)
      have hx8 := Lib.hid (hx.out.up b78)
      have e : byte X k = byte (ctr key nonce d) z := by rw [HC.out k hlt]; unfold keyAt; rw [hd.out, hz.out]
      have cx := hx8.out.cell k (by rw [HXL.out]; exact hlt)
      have cz := H8.out.1.cell z (by rw [show (ctr key nonce d).length = 64 from blockOf_len _]; exact hz64)
      rw [e] at cx
      clear e b78 HB7
      go_still_tail 8, (by kernel_rfl)
      change wpList _ _ _ _ _ w8.drew
      go_wp2
      go_roundw
      case rel => exact ⟨k + 1, by omega, by go_num, hs8.out.drew, hx8.out⟩
      case measure => simp [intOf]; omega
    · have i1 : ¬ (k : Int) < (L : Int) := by omega
      go_wp2
      go_ret
      exact ⟨rfl, hs.out.bel⟩
end Go.Proofs.YtbpphdmkfjdhnaaDoor
