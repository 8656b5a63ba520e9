/-
  ChachaPrefixes: the walk.
-/
import Derived.Test.YtbpphdmkfjdhnaaDoorKN
import Derived.Test.YtbpphdmkfjdhnaaDoorHand
import Derived.Lib.MinMax
namespace Go.Proofs.YtbpphdmkfjdhnaaDoor
open Go.RowKit

theorem part_of (x : List UInt8) (n : Nat) (hn : n < 65536) (hx : x.length ≤ 300) : ∃ p : Nat, p ≤ x.length ∧ (n : Int).tmod ((x.length : Int) + 1) = (p : Int) ∧ IntKind.i64.wrap ((x.length : Int) + 1) = (x.length : Int) + 1 ∧ IntKind.i64.wrap (p : Int) = (p : Int) ∧ ¬ ((x.length : Int) + 1 = 0) ∧ IntKind.i64.wrap (n : Int) = (n : Int) := by
  refine ⟨n % (x.length + 1), ?_, ?_, IntWalk.i64_in _ ⟨by omega, by omega⟩, ?_, by omega, IntWalk.i64_in _ ⟨by omega, by omega⟩⟩
  · have := Nat.mod_lt n (show x.length + 1 > 0 by omega)
    omega
  · rw [Int.tmod_eq_emod_of_nonneg (by omega)]
    norm_cast
  · have := Nat.mod_lt n (show x.length + 1 > 0 by omega)
    exact IntWalk.i64_in _ ⟨by omega, by omega⟩
set_option maxHeartbeats 4000000 in
set_option maxRecDepth 20000 in
theorem walkPre (R : Option Addr) (cr : Nat) (raw : List UInt8) (A : Option Addr) (ca : Nat) (b : List UInt8) (n : Nat) (w : World) (hr : Shows w w.heap.size R raw) (_hrc : raw.length ≤ cr) (hrl0 : cr ≤ 140737488351232) (hb : Shows w w.heap.size A b) (hbc : b.length ≤ ca) (_hbl : ca ≤ 140737488351232) (hn : n < 65536) (G : GlobQ w) :
    Calls Tryd.prog 5 #[.slice R raw.length cr, .slice A b.length ca, .int .u16 n] w fun e w' => e = .returned (.bool true) ∧ Below w.heap.size w w' := by
  have HR := Lib.hid hr
  have HA := Lib.hid hb
  have HG := Lib.hid G
  have hrl : raw.length ≤ 140737488351232 := by omega
  obtain ⟨x, hx, hxl, hxb⟩ := cut_of b 300
  have m1 : min (b.length : Int) 300 = (x.length : Int) := by omega
  have u1 : (x.length : Int) ≤ (ca : Int) := by omega
  have HL : Hid (x.length ≤ 300 ∧ x.length ≤ ca) := by show _ ∧ _; omega
  have HA2 : Hid (Shows w w.heap.size A x) := by show Shows _ _ _ _; rw [hx.out]; exact HA.out.first
  obtain ⟨p, hp, e1, e2, e3, e4, e5⟩ := part_of x n hn (by omega)
  obtain ⟨y, hy, hyl, hyb⟩ := cut_of x p
  have hyp : y.length = p := by omega
  rw [← hyp] at e1 e3
  have u2 : (y.length : Int) ≤ (ca : Int) := by omega
  have u3 : (y.length : Int) ≤ (x.length : Int) := by omega
  have HY : Hid (y = x.take y.length) := by show _ = _; rw [hyp]; exact hy.out
  have HA3 : Hid (Shows w w.heap.size A y) := by show Shows _ _ _ _; rw [hy.out]; exact HA2.out.first
  have HLY := Lib.hid hyb
  clear G hr hb hx hxl hxb hbc _hbl hy hyl hyb hyp hp
  go_enter Tryd.func5, Tryd.ntmps5
  go_wp2_with (first
    | (go_at_call 10; refine (sane_any _ HG.out).mono ?_; rintro e w1 ⟨rfl, hb1⟩; have HB1 := Lib.hid hb1; clear hb1)
    | (go_at_call 11; refine (made_any R cr raw w1 (HR.out.up HB1.out) hrl).mono ?_; rintro e w2 ⟨key, nonce, hkl, hnl, rfl, hb2⟩; have HKN := Lib.hid (And.intro hkl hnl); have HB2 : Hid (Below w.heap.size w w2) := Lib.hid (HB1.out.trans (hb2.mono HB1.out.size)); clear hkl hnl hb2)
    | ((with_reducible show wpList _ _ _ _ _ _); refine wpList_store_all rfl 26 (.tmp 8) (.tmp 18) rfl w2.heap.size (cb key) rfl rfl 26 (cb (List.replicate 32 0)).toArray 32 (old32 rfl) info26 (by simp [cb]) (by rw [cb_len, HKN.out.1]) (cb_one _) ?_; intro w3 hb3 hg3 hz3; have H3 := Lib.hid (And.intro hb3 (And.intro hg3 hz3)); clear hb3 hg3 hz3)
    | ((with_reducible show wpList _ _ _ _ _ _); refine wpList_store_all rfl 27 (.tmp 9) (.tmp 19) rfl (w2.heap.size + 1) (cb nonce) rfl rfl 27 (cb (List.replicate 12 0)).toArray 12 (old12 rfl H3.out.2.1) info27 (by simp [cb]) (by rw [cb_len, HKN.out.2]) (cb_one _) ?_; intro w4 hb4 hg4 hz4; have HS : Hid (SN w w4 w2.heap.size (w2.heap.size + 1) key nonce) := Lib.hid (sn_of HB2.out H3.out.1 H3.out.2.1 H3.out.2.2 hb4 hg4 HKN.out.1 HKN.out.2 HG.out); clear hb4 hg4 hz4)
    | ((with_reducible show wpList _ _ _ _ _ _); refine wpList_load_all rfl 26 (.tmp 8) rfl w2.heap.size rfl 26 (cb key) 5 32 HS.out.kk Tryd.underlying26 info26 (by rw [cb_len, HKN.out.1]) ?_)
    | ((with_reducible show wpList _ _ _ _ _ _); refine wpList_load_all rfl 27 (.tmp 9) rfl (w2.heap.size + 1) rfl 27 (cb nonce) 5 12 HS.out.nn Tryd.underlying27 info27 (by rw [cb_len, HKN.out.2]) ?_)
    | (go_at_call 15; refine (XorP_any key nonce A ca x w4 HKN.out.1 HKN.out.2 (HA2.out.up HS.out.bel) (by have := HL.out; omega) HS.out.glob).mono ?_; rintro e w5 ⟨c5, rfl, hx5, _, hb5⟩; have HS5 := Lib.hid (HS.out.up hb5); have HX5 := Lib.hid hx5; clear hb5 hx5))
  have hs0 := Lib.hid HS5.out.drew
  clear H3 HB1 HB2 m1 u1 e1 e2 e3 e4 e5
  generalize w2.heap.size + 1 = gn at *
  generalize w2.heap.size = gk at *
  refine wp_region_held_drew (S := fun w' => Hid (SN w w' gk gn key nonce)) (by kernel_rfl) hs0 (fun hHeld => ?_)
  refine hand_take (i := 0) rfl (by kernel_rfl) (by kernel_rfl) (by kernel_rfl) (fun _ _ _ h => h) (yieldsIf_load_mid (by rfl) _ _ rfl gk 0 rfl (cb key) _ (fun _ h => h.out.kk.rangeQ) Tryd.underlying26 rfl (by rw [info26, cb_len, HKN.out.1])) (by assumption) ?_
  try simp only [Act.put, List.setIfInBounds_toArray, List.set_cons_zero, List.set_cons_succ]
  refine hand_take (i := 1) rfl (by kernel_rfl) (by kernel_rfl) (by kernel_rfl) (fun _ _ _ h => h) (yieldsIf_load_mid (by rfl) _ _ rfl gn 0 rfl (cb nonce) _ (fun _ h => h.out.nn.rangeQ) Tryd.underlying27 rfl (by rw [info27, cb_len, HKN.out.2])) (by assumption) ?_
  try simp only [Act.put, List.setIfInBounds_toArray, List.set_cons_zero, List.set_cons_succ]
  refine hand_take (i := 2) (v := ?_) rfl (by kernel_rfl) (by kernel_rfl) (by kernel_rfl) (fun _ _ _ h => h) (Or.inl ⟨by rfl, ?_⟩) (by assumption) ?_
  rotate_left
  · intro w hSw
    clear hSw
    go_simp
    try with_reducible rfl
  try simp only [Act.put, List.setIfInBounds_toArray, List.set_cons_zero, List.set_cons_succ]
  refine hand_take (i := 3) (v := ?_) rfl (by kernel_rfl) (by kernel_rfl) (by kernel_rfl) (fun _ _ _ h => h) (Or.inl ⟨by rfl, ?_⟩) (by assumption) ?_
  rotate_left
  · intro w hSw
    clear hSw
    go_simp
    try with_reducible rfl
  try simp only [Act.put, List.setIfInBounds_toArray, List.set_cons_zero, List.set_cons_succ]
  refine hand_take (i := 4) (v := ?_) rfl (by kernel_rfl) (by kernel_rfl) (by kernel_rfl) (fun _ _ _ h => h) (Or.inl ⟨by rfl, ?_⟩) (by assumption) ?_
  rotate_left
  · intro w hSw
    clear hSw
    go_simp
    try with_reducible rfl
  try simp only [Act.put, List.setIfInBounds_toArray, List.set_cons_zero, List.set_cons_succ]
  refine wpAnyH_ready (rs := [5]) (by kernel_rfl) (by simp) ?_
  refine hand_cons rfl (fun KK hK => ?_) AllReadyH.nil
  go_simp
  go_at_call 15
  refine (XorP_is key nonce A y.length ca y (xorOf key nonce y) _ HKN.out.1 HKN.out.2 rfl (HA3.out.up hHeld.out.bel) (by have := HL.out; have := HLY.out; omega) rfl hHeld.out.glob).mono ?_
  rintro e w6 ⟨c6, rfl, hx6, _, hb6⟩
  have hs6 := Lib.hid (hHeld.out.up hb6)
  have HX6 := Lib.hid hx6
  have HX5b := Lib.hid ((show BT w5.drew c5 5 (xorOf key nonce x) from HX5.out.drew).up hb6)
  clear hb6 hx6 hHeld
  go_wp2_with fail
  refine hK.out _ _ (hs6) (fun hHeld => ?_)
  clear hK KK
  try simp only [Act.put, List.setIfInBounds_toArray, List.set_cons_zero, List.set_cons_succ]
  refine hand_take (i := 6) (v := ?_) rfl (by kernel_rfl) (by kernel_rfl) (by kernel_rfl) (fun _ _ _ h => h) (Or.inl ⟨by rfl, ?_⟩) (by assumption) ?_
  rotate_left
  · intro w hSw
    clear hSw
    go_simp
    try with_reducible rfl
  try simp only [Act.put, List.setIfInBounds_toArray, List.set_cons_zero, List.set_cons_succ]
  refine wpAnyH_done (by kernel_rfl) ?_ _
  have HXY : Hid (Shows w6 w6.heap.size (some ⟨c5, 0, none⟩) (xorOf key nonce y)) := by
    have h : xorOf key nonce y = (xorOf key nonce x).take y.length := by rw [← xorOf_take, ← HY.out]
    show Shows _ _ _ _
    rw [h]
    exact (HX5b.out.shows HX5b.out.lt).first
  go_wp2_with (go_at_call 14; refine (Same_same (some ⟨c5, 0, none⟩) y.length x.length (some ⟨c6, 0, none⟩) y.length y.length (xorOf key nonce y) w6 (xorOf_len _ _ _).symm (xorOf_len _ _ _).symm HXY.out (HX6.out.shows HX6.out.lt)).mono ?_; rintro e w7 ⟨rfl, rfl⟩)
  go_ret
  exact ⟨rfl, hs6.out.bel⟩
end Go.Proofs.YtbpphdmkfjdhnaaDoor
