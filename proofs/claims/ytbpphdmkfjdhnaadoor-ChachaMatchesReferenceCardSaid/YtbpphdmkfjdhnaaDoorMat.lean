/-
  ChachaMatchesReference: the walk.
-/
import Derived.Test.YtbpphdmkfjdhnaaDoorKN
import Derived.Test.YtbpphdmkfjdhnaaDoorHand
import Derived.Lib.MinMax
import Derived.Test.YtbpphdmkfjdhnaaDoorXorR
import Derived.Test.YtbpphdmkfjdhnaaDoorDeriveR
import Derived.Test.YtbpphdmkfjdhnaaDoorEqK
import Derived.Test.YtbpphdmkfjdhnaaDoorEqB
namespace Go.Proofs.YtbpphdmkfjdhnaaDoor
open Go.RowKit

/-- what the walk has before its last statement: the key, the nonce, the bytes -/
structure SMm (w wr : World) (gk gn : Nat) (key nonce : List UInt8) (B : Option Addr) (y : List UInt8) : Prop where
  sn : SN w wr gk gn key nonce
  sb : Shows wr wr.heap.size B y
  gb : Glob wr
section
variable {w wr w' : World} {gk gn : Nat} {key nonce : List UInt8} {B : Option Addr} {y : List UInt8}
theorem SMm.up (s : SMm w wr gk gn key nonce B y) (hb : Below wr.heap.size wr w') : SMm w w' gk gn key nonce B y := ⟨s.sn.up hb, s.sb.up hb, s.gb.up hb⟩
theorem SMm.drew (s : SMm w wr gk gn key nonce B y) : SMm w wr.drew gk gn key nonce B y := ⟨s.sn.drew, s.sb, ⟨s.gb.iv, s.gb.order, s.gb.size⟩⟩
end
attribute [local irreducible] digestOf blockOf xorOf initS
attribute [local go_sem] eqGuard_k eqGuard_b
set_option maxHeartbeats 1500000 in
set_option maxRecDepth 20000 in
theorem walkMat (R : Option Addr) (cr : Nat) (raw : List UInt8) (B : Option Addr) (cb_ : Nat) (b : List UInt8) (n : Nat) (w : World) (hr : Shows w w.heap.size R raw) (_hrc : raw.length ≤ cr) (hrl0 : cr ≤ 140737488351232) (hb : Shows w w.heap.size B b) (hbc : b.length ≤ cb_) (_hbl : cb_ ≤ 140737488351232) (hn : n < 4294967296) (GG : Glob w ∧ GlobQ w) :
    Calls Tryd.prog 3 #[.slice R raw.length cr, .slice B b.length cb_, .int .u32 (n : Int)] w fun e w' => e = .returned (.bool true) ∧ Below w.heap.size w w' := by
  have HR := Lib.hid hr
  have HG := Lib.hid GG.2
  have HGB := Lib.hid GG.1
  have hrl : raw.length ≤ 140737488351232 := by omega
  obtain ⟨y, hy, hyl, hyb⟩ := cut_of b 300
  have m2 : min (b.length : Int) 300 = (y.length : Int) := by omega
  have u2 : (y.length : Int) ≤ (cb_ : Int) := by omega
  have HL : Hid (y.length ≤ 300) := by show _ ≤ _; omega
  have HBy : Hid (Shows w w.heap.size B y) := by show Shows _ _ _ _; rw [hy.out]; exact hb.first
  obtain ⟨sv, hsv⟩ : ∃ sv : ByteArray, sv = ⟨y.toArray⟩ := ⟨_, rfl⟩
  have HSV : Hid (sv = ⟨y.toArray⟩ ∧ sv.data.toList = y) := by show _ ∧ _; rw [hsv]; exact ⟨rfl, rfl⟩
  have HNN : Hid (wd (UInt32.ofNat n) = (n : Int)) := by
    show wd _ = _
    unfold wd
    rw [UInt32.toNat_ofNat']
    omega
  clear GG hr hb hy hyl hyb hbc _hbl hsv hn
  go_enter Tryd.func3, Tryd.ntmps3
  go_wp2_with (first
    | (go_at_call 10; refine (sane_any _ HG.out).mono ?_; rintro e w1 ⟨rfl, hb1⟩; have HB1 := Lib.hid hb1; clear hb1)
    | (go_at_call 11; refine (made_any R cr raw w1 (HR.out.up HB1.out) hrl).mono ?_; rintro e w2 ⟨key, nonce, hkl, hnl, rfl, hb2⟩; have HKN := Lib.hid (And.intro hkl hnl); have HB2 : Hid (Below w.heap.size w w2) := Lib.hid (HB1.out.trans (hb2.mono HB1.out.size)); clear hkl hnl hb2)
    | ((with_reducible show wpList _ _ _ _ _ _); refine wpList_store_all rfl 26 (.tmp 8) (.tmp 15) rfl w2.heap.size (cb key) rfl rfl 26 (cb (List.replicate 32 0)).toArray 32 (old32 rfl) info26 (by simp [cb]) (by rw [cb_len, HKN.out.1]) (cb_one _) ?_; intro w3 hb3 hg3 hz3; have H3 := Lib.hid (And.intro hb3 (And.intro hg3 hz3)); clear hb3 hg3 hz3)
    | ((with_reducible show wpList _ _ _ _ _ _); refine wpList_store_all rfl 27 (.tmp 9) (.tmp 16) rfl (w2.heap.size + 1) (cb nonce) rfl rfl 27 (cb (List.replicate 12 0)).toArray 12 (old12 rfl H3.out.2.1) info27 (by simp [cb]) (by rw [cb_len, HKN.out.2]) (cb_one _) ?_; intro w4 hb4 hg4 hz4; have HS : Hid (SN w w4 w2.heap.size (w2.heap.size + 1) key nonce) := Lib.hid (sn_of HB2.out H3.out.1 H3.out.2.1 H3.out.2.2 hb4 hg4 HKN.out.1 HKN.out.2 HG.out); clear hb4 hg4 hz4))
  have hs0 : Hid (SMm w w4.drew w2.heap.size (w2.heap.size + 1) key nonce B y) := Lib.hid ((SMm.mk HS.out (HBy.out.up HS.out.bel) (HGB.out.up HS.out.bel)).drew)
  have HCV : Hid (∀ W : World, Shows W W.heap.size B y → (convert 22 9 (.slice B y.length cb_)).run Tryd.prog W = .ok (.string sv) W) := fun W h => by rw [HSV.out.1]; exact run_string_shows (P := Tryd.prog) W 22 9 Tryd.underlying22 Tryd.underlying5 Tryd.underlying9 (c := cb_) rfl h
  have HDE : Hid (∀ W, Glob W → Calls Tryd.prog 17 #[.agg (cb key).toArray, .string sv] W fun e w' => e = .returned (.agg (cb (digestOf key y)).toArray) ∧ Below W.heap.size W w') := fun W G => deriveP_any key y sv W HKN.out.1 HSV.out.2 (by have := HL.out; omega) G
  have HDR : Hid (∀ W, Calls Tryd.prog 18 #[.agg (cb key).toArray, .string sv] W fun e w' => e = .returned (.agg (cb (digestOf key y)).toArray) ∧ Below W.heap.size W w') := fun W => deriveR_any key y sv W HKN.out.1 HSV.out.2 (by have := HL.out; omega)
  have HDL : Hid ((digestOf key y).length = 32) := digestOf_len _ _
  obtain ⟨bl, hbl⟩ : ∃ bl, bl = blockOf (initS key nonce (UInt32.ofNat n)) := ⟨_, rfl⟩
  have HBL : Hid (blockOf (initS key nonce (UInt32.ofNat n)) = bl ∧ bl.length = 64) := by show _ ∧ _; rw [hbl]; exact ⟨rfl, blockOf_len _⟩
  obtain ⟨X, hX⟩ : ∃ X, X = xorOf key nonce y := ⟨_, rfl⟩
  have HX : Hid (xorOf key nonce y = X ∧ X.length = y.length) := by show _ ∧ _; rw [hX]; exact ⟨rfl, xorOf_len _ _ _⟩
  clear H3 HB1 HB2 m2 u2 HS hbl hX
  generalize digestOf key y = D at *
  generalize w2.heap.size + 1 = gn at *
  generalize w2.heap.size = gk at *
  have q1 := eqlB_same bl HBL.out.2
  have q2 := eqlK_same D HDL.out
  refine wp_region_held_drew (S := fun w' => Hid (SMm w w' gk gn key nonce B y)) (by kernel_rfl) hs0 (fun hHeld => ?_)
  refine hand_take (i := 0) (v := ?_) rfl (by kernel_rfl) (by kernel_rfl) (by kernel_rfl) (fun _ _ _ h => h) (Or.inl ⟨by rfl, ?_⟩) (by assumption) ?_
  rotate_left
  · intro w hSw
    clear hSw
    go_simp
    try with_reducible rfl
  try simp only [Act.put, List.setIfInBounds_toArray, List.set_cons_zero, List.set_cons_succ]
  refine hand_take (i := 1) (v := ?_) rfl (by kernel_rfl) (by kernel_rfl) (by kernel_rfl) (fun _ _ _ h => h) (Or.inl ⟨by rfl, ?_⟩) (by assumption) ?_
  rotate_left
  · intro w hSw
    clear hSw
    go_simp
    try with_reducible rfl
  try simp only [Act.put, List.setIfInBounds_toArray, List.set_cons_zero, List.set_cons_succ]
  refine hand_take (i := 2) rfl (by kernel_rfl) (by kernel_rfl) (by kernel_rfl) (fun _ _ _ h => h) (yieldsIf_load_mid (by rfl) _ _ rfl gk 0 rfl (cb key) _ (fun _ h => h.out.sn.kk.rangeQ) Tryd.underlying26 rfl (by rw [info26, cb_len, HKN.out.1])) (by assumption) ?_
  try simp only [Act.put, List.setIfInBounds_toArray, List.set_cons_zero, List.set_cons_succ]
  refine hand_take (i := 3) rfl (by kernel_rfl) (by kernel_rfl) (by kernel_rfl) (fun _ _ _ h => h) (yieldsIf_load_mid (by rfl) _ _ rfl gn 0 rfl (cb nonce) _ (fun _ h => h.out.sn.nn.rangeQ) Tryd.underlying27 rfl (by rw [info27, cb_len, HKN.out.2])) (by assumption) ?_
  try simp only [Act.put, List.setIfInBounds_toArray, List.set_cons_zero, List.set_cons_succ]
  refine hand_take (i := 4) (v := ?_) rfl (by kernel_rfl) (by kernel_rfl) (by kernel_rfl) (fun _ _ _ h => h) (Or.inl ⟨by rfl, ?_⟩) (by assumption) ?_
  rotate_left
  · intro w hSw
    clear hSw
    go_simp
    try with_reducible rfl
  try simp only [Act.put, List.setIfInBounds_toArray, List.set_cons_zero, List.set_cons_succ]
  refine hand_take (i := 6) rfl (by kernel_rfl) (by kernel_rfl) (by kernel_rfl) (fun _ _ _ h => h) (yieldsIf_load_mid (by rfl) _ _ rfl gk 0 rfl (cb key) _ (fun _ h => h.out.sn.kk.rangeQ) Tryd.underlying26 rfl (by rw [info26, cb_len, HKN.out.1])) (by assumption) ?_
  try simp only [Act.put, List.setIfInBounds_toArray, List.set_cons_zero, List.set_cons_succ]
  refine hand_take (i := 7) rfl (by kernel_rfl) (by kernel_rfl) (by kernel_rfl) (fun _ _ _ h => h) (yieldsIf_load_mid (by rfl) _ _ rfl gn 0 rfl (cb nonce) _ (fun _ h => h.out.sn.nn.rangeQ) Tryd.underlying27 rfl (by rw [info27, cb_len, HKN.out.2])) (by assumption) ?_
  try simp only [Act.put, List.setIfInBounds_toArray, List.set_cons_zero, List.set_cons_succ]
  refine hand_take (i := 8) (v := ?_) rfl (by kernel_rfl) (by kernel_rfl) (by kernel_rfl) (fun _ _ _ h => h) (Or.inl ⟨by rfl, ?_⟩) (by assumption) ?_
  rotate_left
  · intro w hSw
    clear hSw
    go_simp
    try with_reducible rfl
  try simp only [Act.put, List.setIfInBounds_toArray, List.set_cons_zero, List.set_cons_succ]
  refine wpAnyH_ready (rs := [5]) (by kernel_rfl) (by simp) ?_
  refine hand_cons rfl (fun KK hK => ?_) AllReadyH.nil
  go_simp
  go_at_call 12
  refine (BlockP_is key nonce (UInt32.ofNat n) n bl _ HKN.out.1 HKN.out.2 HNN.out HBL.out.1 hHeld.out.sn.glob).mono ?_
  rintro e w5 ⟨rfl, hb5⟩
  have hs5 := Lib.hid (hHeld.out.up hb5)
  clear hb5 hHeld
  go_wp2_with fail
  refine hK.out _ _ (hs5) (fun hHeld => ?_)
  clear hK KK
  try simp only [Act.put, List.setIfInBounds_toArray, List.set_cons_zero, List.set_cons_succ]
  refine wpAnyH_ready (rs := [9]) (by kernel_rfl) (by simp) ?_
  refine hand_cons rfl (fun KK hK => ?_) AllReadyH.nil
  go_simp
  go_at_call 13
  refine (blockR_is key nonce (UInt32.ofNat n) n bl _ HKN.out.1 HKN.out.2 HNN.out HBL.out.1).mono ?_
  rintro e w6 ⟨rfl, hb6⟩
  have hs6 := Lib.hid (hHeld.out.up hb6)
  clear hb6 hHeld
  go_wp2_with fail
  refine hK.out _ _ (hs6) (fun hHeld => ?_)
  clear hK KK
  try simp only [Act.put, List.setIfInBounds_toArray, List.set_cons_zero, List.set_cons_succ]
  refine hand_take (i := 10) (v := ?_) rfl (by kernel_rfl) (by kernel_rfl) (by kernel_rfl) (fun _ _ _ h => h) (Or.inl ⟨by rfl, ?_⟩) (by assumption) ?_
  rotate_left
  · intro w hSw
    clear hSw
    go_simp
    try with_reducible rfl
  try simp only [Act.put, List.setIfInBounds_toArray, List.set_cons_zero, List.set_cons_succ]
  refine hand_take (i := 11) (v := ?_) rfl (by kernel_rfl) (by kernel_rfl) (by kernel_rfl) (fun _ _ _ h => h) (Or.inl ⟨by rfl, ?_⟩) (by assumption) ?_
  rotate_left
  · intro w hSw
    clear hSw
    go_simp
    try with_reducible rfl
  try simp only [Act.put, List.setIfInBounds_toArray, List.set_cons_zero, List.set_cons_succ]
  refine hand_take (i := 12) (v := ?_) rfl (by kernel_rfl) (by kernel_rfl) (by kernel_rfl) (fun _ _ _ h => h) (Or.inl ⟨by rfl, ?_⟩) (by assumption) ?_
  rotate_left
  · intro w hSw
    clear hSw
    go_simp
    try with_reducible rfl
  try simp only [Act.put, List.setIfInBounds_toArray, List.set_cons_zero, List.set_cons_succ]
  refine hand_take (i := 13) rfl (by kernel_rfl) (by kernel_rfl) (by kernel_rfl) (fun _ _ _ h => h) (yieldsIf_load_mid (by rfl) _ _ rfl gk 0 rfl (cb key) _ (fun _ h => h.out.sn.kk.rangeQ) Tryd.underlying26 rfl (by rw [info26, cb_len, HKN.out.1])) (by assumption) ?_
  try simp only [Act.put, List.setIfInBounds_toArray, List.set_cons_zero, List.set_cons_succ]
  refine hand_take (i := 14) rfl (by kernel_rfl) (by kernel_rfl) (by kernel_rfl) (fun _ _ _ h => h) (yieldsIf_load_mid (by rfl) _ _ rfl gn 0 rfl (cb nonce) _ (fun _ h => h.out.sn.nn.rangeQ) Tryd.underlying27 rfl (by rw [info27, cb_len, HKN.out.2])) (by assumption) ?_
  try simp only [Act.put, List.setIfInBounds_toArray, List.set_cons_zero, List.set_cons_succ]
  refine hand_take (i := 15) (v := ?_) rfl (by kernel_rfl) (by kernel_rfl) (by kernel_rfl) (fun _ _ _ h => h) (Or.inl ⟨by rfl, ?_⟩) (by assumption) ?_
  rotate_left
  · intro w hSw
    clear hSw
    go_simp
    try with_reducible rfl
  try simp only [Act.put, List.setIfInBounds_toArray, List.set_cons_zero, List.set_cons_succ]
  refine hand_take (i := 17) rfl (by kernel_rfl) (by kernel_rfl) (by kernel_rfl) (fun _ _ _ h => h) (yieldsIf_load_mid (by rfl) _ _ rfl gk 0 rfl (cb key) _ (fun _ h => h.out.sn.kk.rangeQ) Tryd.underlying26 rfl (by rw [info26, cb_len, HKN.out.1])) (by assumption) ?_
  try simp only [Act.put, List.setIfInBounds_toArray, List.set_cons_zero, List.set_cons_succ]
  refine hand_take (i := 18) rfl (by kernel_rfl) (by kernel_rfl) (by kernel_rfl) (fun _ _ _ h => h) (yieldsIf_load_mid (by rfl) _ _ rfl gn 0 rfl (cb nonce) _ (fun _ h => h.out.sn.nn.rangeQ) Tryd.underlying27 rfl (by rw [info27, cb_len, HKN.out.2])) (by assumption) ?_
  try simp only [Act.put, List.setIfInBounds_toArray, List.set_cons_zero, List.set_cons_succ]
  refine hand_take (i := 19) (v := ?_) rfl (by kernel_rfl) (by kernel_rfl) (by kernel_rfl) (fun _ _ _ h => h) (Or.inl ⟨by rfl, ?_⟩) (by assumption) ?_
  rotate_left
  · intro w hSw
    clear hSw
    go_simp
    try with_reducible rfl
  try simp only [Act.put, List.setIfInBounds_toArray, List.set_cons_zero, List.set_cons_succ]
  refine wpAnyH_ready (rs := [16]) (by kernel_rfl) (by simp) ?_
  refine hand_cons rfl (fun KK hK => ?_) AllReadyH.nil
  go_simp
  go_at_call 15
  refine (XorP_is key nonce B y.length cb_ y X _ HKN.out.1 HKN.out.2 rfl hHeld.out.sb (by have := HL.out; omega) HX.out.1 hHeld.out.sn.glob).mono ?_
  rintro e w7 ⟨c7, rfl, hx7, _, hb7⟩
  have hs7 := Lib.hid (hHeld.out.up hb7)
  have HX7 := Lib.hid hx7
  clear hb7 hHeld hx7
  go_wp2_with fail
  refine hK.out _ _ (hs7) (fun hHeld => ?_)
  clear hK KK
  try simp only [Act.put, List.setIfInBounds_toArray, List.set_cons_zero, List.set_cons_succ]
  refine wpAnyH_ready (rs := [20]) (by kernel_rfl) (by simp) ?_
  refine hand_cons rfl (fun KK hK => ?_) AllReadyH.nil
  go_simp
  go_at_call 16
  refine (XorR_any key nonce B cb_ y _ HKN.out.1 HKN.out.2 hHeld.out.sb (by have := HL.out; omega)).mono ?_
  rintro e w8 ⟨A8, c8, rfl, hx8, hb8⟩
  have hs8 := Lib.hid (hHeld.out.up hb8)
  rw [HX.out.1] at hx8
  have HX8 := Lib.hid (And.intro (HX7.out.up hb8) hx8)
  clear hb8 hHeld hx8
  go_wp2_with fail
  refine hK.out _ _ (hs8) (fun hHeld => ?_)
  clear hK KK
  try simp only [Act.put, List.setIfInBounds_toArray, List.set_cons_zero, List.set_cons_succ]
  refine wpAnyH_ready (rs := [21]) (by kernel_rfl) (by simp) ?_
  refine hand_cons rfl (fun KK hK => ?_) AllReadyH.nil
  go_simp
  go_at_call 14
  refine (Same_same (some ⟨c7, 0, none⟩) y.length y.length A8 y.length c8 X _ HX.out.2.symm HX.out.2.symm (HX8.out.1.shows HX8.out.1.lt) HX8.out.2).mono ?_
  rintro e w12 ⟨rfl, rfl⟩
  go_wp2_with fail
  refine hK.out _ _ (hHeld) (fun hHeld => ?_)
  clear hK KK
  try simp only [Act.put, List.setIfInBounds_toArray, List.set_cons_zero, List.set_cons_succ]
  refine hand_take (i := 22) (v := ?_) rfl (by kernel_rfl) (by kernel_rfl) (by kernel_rfl) (fun _ _ _ h => h) (Or.inl ⟨by rfl, ?_⟩) (by assumption) ?_
  rotate_left
  · intro w hSw
    clear hSw
    go_simp
    try with_reducible rfl
  try simp only [Act.put, List.setIfInBounds_toArray, List.set_cons_zero, List.set_cons_succ]
  refine hand_take (i := 23) (v := ?_) rfl (by kernel_rfl) (by kernel_rfl) (by kernel_rfl) (fun _ _ _ h => h) (Or.inl ⟨by rfl, ?_⟩) (by assumption) ?_
  rotate_left
  · intro w hSw
    clear hSw
    go_simp
    try with_reducible rfl
  try simp only [Act.put, List.setIfInBounds_toArray, List.set_cons_zero, List.set_cons_succ]
  refine hand_take (i := 24) rfl (by kernel_rfl) (by kernel_rfl) (by kernel_rfl) (fun _ _ _ h => h) (yieldsIf_load_mid (by rfl) _ _ rfl gk 0 rfl (cb key) _ (fun _ h => h.out.sn.kk.rangeQ) Tryd.underlying26 rfl (by rw [info26, cb_len, HKN.out.1])) (by assumption) ?_
  try simp only [Act.put, List.setIfInBounds_toArray, List.set_cons_zero, List.set_cons_succ]
  refine hand_take (i := 25) (v := ?_) rfl (by kernel_rfl) (by kernel_rfl) (by kernel_rfl) (fun _ _ _ h => h) (Or.inl ⟨by rfl, ?_⟩) (by assumption) ?_
  rotate_left
  · intro w hSw
    clear hSw
    go_simp
    try with_reducible rfl
  try simp only [Act.put, List.setIfInBounds_toArray, List.set_cons_zero, List.set_cons_succ]
  refine hand_take (i := 26) (v := ?_) rfl (by kernel_rfl) (by kernel_rfl) (by kernel_rfl) (fun _ _ _ h => h) (Or.inl ⟨by rfl, ?_⟩) (by assumption) ?_
  rotate_left
  · intro w hSw
    have hcv := HCV.out w hSw.out.sb
    clear hSw
    go_simp
    try with_reducible rfl
  try simp only [Act.put, List.setIfInBounds_toArray, List.set_cons_zero, List.set_cons_succ]
  refine hand_take (i := 28) rfl (by kernel_rfl) (by kernel_rfl) (by kernel_rfl) (fun _ _ _ h => h) (yieldsIf_load_mid (by rfl) _ _ rfl gk 0 rfl (cb key) _ (fun _ h => h.out.sn.kk.rangeQ) Tryd.underlying26 rfl (by rw [info26, cb_len, HKN.out.1])) (by assumption) ?_
  try simp only [Act.put, List.setIfInBounds_toArray, List.set_cons_zero, List.set_cons_succ]
  refine hand_take (i := 29) (v := ?_) rfl (by kernel_rfl) (by kernel_rfl) (by kernel_rfl) (fun _ _ _ h => h) (Or.inl ⟨by rfl, ?_⟩) (by assumption) ?_
  rotate_left
  · intro w hSw
    clear hSw
    go_simp
    try with_reducible rfl
  try simp only [Act.put, List.setIfInBounds_toArray, List.set_cons_zero, List.set_cons_succ]
  refine hand_take (i := 30) (v := ?_) rfl (by kernel_rfl) (by kernel_rfl) (by kernel_rfl) (fun _ _ _ h => h) (Or.inl ⟨by rfl, ?_⟩) (by assumption) ?_
  rotate_left
  · intro w hSw
    have hcv := HCV.out w hSw.out.sb
    clear hSw
    go_simp
    try with_reducible rfl
  try simp only [Act.put, List.setIfInBounds_toArray, List.set_cons_zero, List.set_cons_succ]
  refine wpAnyH_ready (rs := [27]) (by kernel_rfl) (by simp) ?_
  refine hand_cons rfl (fun KK hK => ?_) AllReadyH.nil
  go_simp
  go_at_call 17
  refine (HDE.out _ hHeld.out.gb).mono ?_
  rintro e w9 ⟨rfl, hb9⟩
  have hs9 := Lib.hid (hHeld.out.up hb9)
  clear hb9 hHeld
  go_wp2_with fail
  refine hK.out _ _ (hs9) (fun hHeld => ?_)
  clear hK KK
  try simp only [Act.put, List.setIfInBounds_toArray, List.set_cons_zero, List.set_cons_succ]
  refine wpAnyH_ready (rs := [31]) (by kernel_rfl) (by simp) ?_
  refine hand_cons rfl (fun KK hK => ?_) AllReadyH.nil
  go_simp
  go_at_call 18
  refine (HDR.out _).mono ?_
  rintro e w10 ⟨rfl, hb10⟩
  have hs10 := Lib.hid (hHeld.out.up hb10)
  clear hb10 hHeld
  go_wp2_with fail
  refine hK.out _ _ (hs10) (fun hHeld => ?_)
  clear hK KK
  try simp only [Act.put, List.setIfInBounds_toArray, List.set_cons_zero, List.set_cons_succ]
  refine hand_take (i := 32) (v := ?_) rfl (by kernel_rfl) (by kernel_rfl) (by kernel_rfl) (fun _ _ _ h => h) (Or.inl ⟨by rfl, ?_⟩) (by assumption) ?_
  rotate_left
  · intro w hSw
    clear hSw
    go_simp
    try with_reducible rfl
  try simp only [Act.put, List.setIfInBounds_toArray, List.set_cons_zero, List.set_cons_succ]
  refine hand_take (i := 33) (v := ?_) rfl (by kernel_rfl) (by kernel_rfl) (by kernel_rfl) (fun _ _ _ h => h) (Or.inl ⟨by rfl, ?_⟩) (by assumption) ?_
  rotate_left
  · intro w hSw
    clear hSw
    go_simp
    try with_reducible rfl
  try simp only [Act.put, List.setIfInBounds_toArray, List.set_cons_zero, List.set_cons_succ]
  refine hand_take (i := 34) (v := ?_) rfl (by kernel_rfl) (by kernel_rfl) (by kernel_rfl) (fun _ _ _ h => h) (Or.inl ⟨by rfl, ?_⟩) (by assumption) ?_
  rotate_left
  · intro w hSw
    clear hSw
    go_simp
    try with_reducible rfl
  try simp only [Act.put, List.setIfInBounds_toArray, List.set_cons_zero, List.set_cons_succ]
  refine wpAnyH_done (by kernel_rfl) ?_ _
  go_wp2
  go_ret
  exact ⟨rfl, hs10.out.sn.bel⟩
end Go.Proofs.YtbpphdmkfjdhnaaDoor
