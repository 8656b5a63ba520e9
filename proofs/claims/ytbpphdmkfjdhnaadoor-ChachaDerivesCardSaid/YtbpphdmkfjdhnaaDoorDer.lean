/-
  ChachaDerives: the walk.
-/
import Derived.Test.YtbpphdmkfjdhnaaDoorKN
import Derived.Test.YtbpphdmkfjdhnaaDoorHand
import Derived.Lib.MinMax
import Derived.Test.YtbpphdmkfjdhnaaDoorDeriveP
import Derived.Test.YtbpphdmkfjdhnaaDoorEqK
namespace Go.Proofs.YtbpphdmkfjdhnaaDoor
open Go.RowKit

/-- what the walk has before its last statement: the key, the nonce, the derived key -/
structure SDk (w wr : World) (gk gn gd : Nat) (key nonce D : List UInt8) : Prop where
  sn : SN w wr gk gn key nonce
  dd : BT wr gd 26 D
  gb : Glob wr
section
variable {w wr w' : World} {gk gn gd : Nat} {key nonce D : List UInt8}
theorem SDk.up (s : SDk w wr gk gn gd key nonce D) (hb : Below wr.heap.size wr w') : SDk w w' gk gn gd key nonce D := ⟨s.sn.up hb, s.dd.up hb, s.gb.up hb⟩
theorem SDk.drew (s : SDk w wr gk gn gd key nonce D) : SDk w wr.drew gk gn gd key nonce D := ⟨s.sn.drew, s.dd.drew, ⟨s.gb.iv, s.gb.order, s.gb.size⟩⟩
end
attribute [local irreducible] digestOf
attribute [local go_sem] eqGuard_k
set_option maxHeartbeats 1500000 in
set_option maxRecDepth 20000 in
theorem walkDer (R : Option Addr) (cr : Nat) (raw : List UInt8) (A : Option Addr) (ca : Nat) (a : List UInt8) (B : Option Addr) (cb_ : Nat) (b : List UInt8) (w : World) (hr : Shows w w.heap.size R raw) (_hrc : raw.length ≤ cr) (hrl0 : cr ≤ 140737488351232) (ha : Shows w w.heap.size A a) (hac : a.length ≤ ca) (_hal : ca ≤ 140737488351232) (hb : Shows w w.heap.size B b) (hbc : b.length ≤ cb_) (_hbl : cb_ ≤ 140737488351232) (GG : Glob w ∧ GlobQ w) :
    Calls Tryd.prog 9 #[.slice R raw.length cr, .slice A a.length ca, .slice B b.length cb_] w fun e w' => e = .returned (.bool true) ∧ Below w.heap.size w w' := by
  have HR := Lib.hid hr
  have HG := Lib.hid GG.2
  have HGB := Lib.hid GG.1
  have hrl : raw.length ≤ 140737488351232 := by omega
  obtain ⟨x, hx, hxl, hxb⟩ := cut_of a 40
  obtain ⟨y, hy, hyl, hyb⟩ := cut_of b 200
  have m1 : min (a.length : Int) 40 = (x.length : Int) := by omega
  have m2 : min (b.length : Int) 200 = (y.length : Int) := by omega
  have u1 : (x.length : Int) ≤ (ca : Int) := by omega
  have u2 : (y.length : Int) ≤ (cb_ : Int) := by omega
  have HL : Hid (x.length ≤ 40 ∧ y.length ≤ 200) := by show _ ∧ _; omega
  have HAx : Hid (Shows w w.heap.size A x) := by show Shows _ _ _ _; rw [hx.out]; exact ha.first
  have HBy : Hid (Shows w w.heap.size B y) := by show Shows _ _ _ _; rw [hy.out]; exact hb.first
  obtain ⟨sv, hsv⟩ : ∃ sv : ByteArray, sv = ⟨x.toArray⟩ := ⟨_, rfl⟩
  have HSV : Hid (sv = ⟨x.toArray⟩ ∧ sv.data.toList = x) := by show _ ∧ _; rw [hsv]; exact ⟨rfl, rfl⟩
  clear GG hr ha hb hx hxl hxb hy hyl hyb hac _hal hbc _hbl hsv
  go_enter Tryd.func9, Tryd.ntmps9
  go_wp2_with (first
    | (go_at_call 10; refine (sane_any _ HG.out).mono ?_; rintro e w1 ⟨rfl, hb1⟩; have HB1 := Lib.hid hb1; clear hb1)
    | (go_at_call 11; refine (made_any R cr raw w1 (HR.out.up HB1.out) hrl).mono ?_; rintro e w2 ⟨key, nonce, hkl, hnl, rfl, hb2⟩; have HKN := Lib.hid (And.intro hkl hnl); have HB2 : Hid (Below w.heap.size w w2) := Lib.hid (HB1.out.trans (hb2.mono HB1.out.size)); clear hkl hnl hb2)
    | ((with_reducible show wpList _ _ _ _ _ _); refine wpList_store_all rfl 26 (.tmp 8) (.tmp 18) rfl w2.heap.size (cb key) rfl rfl 26 (cb (List.replicate 32 0)).toArray 32 (old32 rfl) info26 (by simp [cb]) (by rw [cb_len, HKN.out.1]) (cb_one _) ?_; intro w3 hb3 hg3 hz3; have H3 := Lib.hid (And.intro hb3 (And.intro hg3 hz3)); clear hb3 hg3 hz3)
    | ((with_reducible show wpList _ _ _ _ _ _); refine wpList_store_all rfl 27 (.tmp 9) (.tmp 19) rfl (w2.heap.size + 1) (cb nonce) rfl rfl 27 (cb (List.replicate 12 0)).toArray 12 (old12 rfl H3.out.2.1) info27 (by simp [cb]) (by rw [cb_len, HKN.out.2]) (cb_one _) ?_; intro w4 hb4 hg4 hz4; have HS : Hid (SN w w4 w2.heap.size (w2.heap.size + 1) key nonce) := Lib.hid (sn_of HB2.out H3.out.1 H3.out.2.1 H3.out.2.2 hb4 hg4 HKN.out.1 HKN.out.2 HG.out); clear hb4 hg4 hz4; have hconv : (convert 22 9 (.slice A x.length ca)).run Tryd.prog w4 = .ok (.string sv) w4 := (by rw [HSV.out.1]; exact run_string_shows (P := Tryd.prog) w4 22 9 Tryd.underlying22 Tryd.underlying5 Tryd.underlying9 (c := ca) rfl (HAx.out.up HS.out.bel)))
    | ((with_reducible show wpList _ _ _ _ _ _); refine wpList_load_all rfl 26 (.tmp 8) rfl w2.heap.size rfl 26 (cb key) 5 32 HS.out.kk Tryd.underlying26 info26 (by rw [cb_len, HKN.out.1]) ?_)
    | (go_at_call 17; refine (deriveP_any key x sv w4 HKN.out.1 HSV.out.2 (by have := HL.out; omega) (HGB.out.up HS.out.bel)).mono ?_; rintro e w5 ⟨rfl, hb5⟩; have HS5 := Lib.hid (HS.out.up hb5); clear hb5)
    | ((with_reducible show wpList _ _ _ _ _ _); refine wpList_store_all rfl 26 (.tmp 12) (.tmp 33) rfl w5.heap.size (cb (digestOf key x)) rfl rfl 26 (cb (List.replicate 32 0)).toArray 32 (bt_new (w := w5) (n := 32) rfl rfl) info26 (by simp [cb]) (by rw [cb_len, digestOf_len]) (cb_one _) ?_; intro w6 hb6 hg6 hz6; have H6 := Lib.hid (new_fill hb6 hg6); have HS6 : Hid (SDk w w6 w2.heap.size (w2.heap.size + 1) w5.heap.size key nonce (digestOf key x)) := ⟨HS5.out.up H6.out.2, H6.out.1, HGB.out.up ((HS5.out.up H6.out.2).bel)⟩; clear hb6 hg6 hz6)
    | ((with_reducible show wpList _ _ _ _ _ _); refine wpList_load_all rfl 26 (.tmp 12) rfl w5.heap.size rfl 26 (cb (digestOf key x)) 5 32 HS6.out.dd Tryd.underlying26 info26 (by rw [cb_len, digestOf_len]) ?_)
    | ((with_reducible show wpList _ _ _ _ _ _); refine wpList_load_all rfl 27 (.tmp 9) rfl (w2.heap.size + 1) rfl 27 (cb nonce) 5 12 HS6.out.sn.nn Tryd.underlying27 info27 (by rw [cb_len, HKN.out.2]) ?_)
    | (go_at_call 15; refine (XorP_any (digestOf key x) nonce B cb_ y w6 (digestOf_len _ _) HKN.out.2 (HBy.out.up HS6.out.sn.bel) (by have := HL.out; omega) HS6.out.sn.glob).mono ?_; rintro e w7 ⟨c7, rfl, hx7, _, hb7⟩; have HS7 := Lib.hid (HS6.out.up hb7); have HX7 := Lib.hid hx7; clear hb7 hx7))
  have hs0 := Lib.hid HS7.out.drew
  have HX8 : Hid (BT w7.drew c7 5 (xorOf (digestOf key x) nonce y)) := HX7
  have HDL : Hid ((digestOf key x).length = 32) := digestOf_len _ _
  have HDE : Hid (∀ W, Glob W → Calls Tryd.prog 17 #[.agg (cb key).toArray, .string sv] W fun e w' => e = .returned (.agg (cb (digestOf key x)).toArray) ∧ Below W.heap.size W w') := fun W G => deriveP_any key x sv W HKN.out.1 HSV.out.2 (by have := HL.out; omega) G
  clear H3 HB1 HB2 m1 m2 u1 u2 H6 HS5 HS6 HS hconv HS7 HX7
  generalize digestOf key x = D at *
  generalize w5.heap.size = gd at *
  generalize w2.heap.size + 1 = gn at *
  generalize w2.heap.size = gk at *
  have q1 := eqlK_same D HDL.out
  refine wp_region_held_drew (S := fun w' => Hid (SDk w w' gk gn gd key nonce D)) (by kernel_rfl) hs0 (fun hHeld => ?_)
  refine hand_take (i := 0) (v := ?_) rfl (by kernel_rfl) (by kernel_rfl) (by kernel_rfl) (fun _ _ _ h => h) (Or.inl ⟨by rfl, ?_⟩) (by assumption) ?_
  rotate_left
  · intro w hSw
    clear hSw
    go_simp
    try with_reducible rfl
  try simp only [Act.put, List.setIfInBounds_toArray, List.set_cons_zero, List.set_cons_succ]
  refine hand_take (i := 1) (v := ?_) rfl (by kernel_rfl) (by kernel_rfl) (by kernel_rfl) (fun _ _ _ h => h) (Or.inl ⟨by rfl, ?_⟩) (by assumption) ?_
  rotate_left
  · intro w hSw
    clear hSw
    go_simp
    try with_reducible rfl
  try simp only [Act.put, List.setIfInBounds_toArray, List.set_cons_zero, List.set_cons_succ]
  refine hand_take (i := 2) rfl (by kernel_rfl) (by kernel_rfl) (by kernel_rfl) (fun _ _ _ h => h) (yieldsIf_load_mid (by rfl) _ _ rfl gk 0 rfl (cb key) _ (fun _ h => h.out.sn.kk.rangeQ) Tryd.underlying26 rfl (by rw [info26, cb_len, HKN.out.1])) (by assumption) ?_
  try simp only [Act.put, List.setIfInBounds_toArray, List.set_cons_zero, List.set_cons_succ]
  refine hand_take (i := 3) (v := ?_) rfl (by kernel_rfl) (by kernel_rfl) (by kernel_rfl) (fun _ _ _ h => h) (Or.inl ⟨by rfl, ?_⟩) (by assumption) ?_
  rotate_left
  · intro w hSw
    clear hSw
    go_simp
    try with_reducible rfl
  try simp only [Act.put, List.setIfInBounds_toArray, List.set_cons_zero, List.set_cons_succ]
  refine hand_take (i := 5) rfl (by kernel_rfl) (by kernel_rfl) (by kernel_rfl) (fun _ _ _ h => h) (yieldsIf_load_mid (by rfl) _ _ rfl gd 0 rfl (cb D) _ (fun _ h => h.out.dd.rangeQ) Tryd.underlying26 rfl (by rw [info26, cb_len, HDL.out])) (by assumption) ?_
  try simp only [Act.put, List.setIfInBounds_toArray, List.set_cons_zero, List.set_cons_succ]
  refine wpAnyH_ready (rs := [4]) (by kernel_rfl) (by simp) ?_
  refine hand_cons rfl (fun KK hK => ?_) AllReadyH.nil
  go_simp
  go_at_call 17
  refine (HDE.out _ hHeld.out.gb).mono ?_
  rintro e w9 ⟨rfl, hb9⟩
  have hs9 := Lib.hid (hHeld.out.up hb9)
  have HX9 := Lib.hid (HX8.out.up hb9)
  clear hb9 hHeld
  go_wp2_with fail
  refine hK.out _ _ (hs9) (fun hHeld => ?_)
  clear hK KK
  try simp only [Act.put, List.setIfInBounds_toArray, List.set_cons_zero, List.set_cons_succ]
  refine hand_take (i := 6) (v := ?_) rfl (by kernel_rfl) (by kernel_rfl) (by kernel_rfl) (fun _ _ _ h => h) (Or.inl ⟨by rfl, ?_⟩) (by assumption) ?_
  rotate_left
  · intro w hSw
    clear hSw
    go_simp
    try with_reducible rfl
  try simp only [Act.put, List.setIfInBounds_toArray, List.set_cons_zero, List.set_cons_succ]
  refine hand_take (i := 7) (v := ?_) rfl (by kernel_rfl) (by kernel_rfl) (by kernel_rfl) (fun _ _ _ h => h) (Or.inl ⟨by rfl, ?_⟩) (by assumption) ?_
  rotate_left
  · intro w hSw
    clear hSw
    go_simp
    try with_reducible rfl
  try simp only [Act.put, List.setIfInBounds_toArray, List.set_cons_zero, List.set_cons_succ]
  refine hand_take (i := 8) (v := ?_) rfl (by kernel_rfl) (by kernel_rfl) (by kernel_rfl) (fun _ _ _ h => h) (Or.inl ⟨by rfl, ?_⟩) (by assumption) ?_
  rotate_left
  · intro w hSw
    clear hSw
    go_simp
    try with_reducible rfl
  try simp only [Act.put, List.setIfInBounds_toArray, List.set_cons_zero, List.set_cons_succ]
  refine hand_take (i := 9) rfl (by kernel_rfl) (by kernel_rfl) (by kernel_rfl) (fun _ _ _ h => h) (yieldsIf_load_mid (by rfl) _ _ rfl gk 0 rfl (cb key) _ (fun _ h => h.out.sn.kk.rangeQ) Tryd.underlying26 rfl (by rw [info26, cb_len, HKN.out.1])) (by assumption) ?_
  try simp only [Act.put, List.setIfInBounds_toArray, List.set_cons_zero, List.set_cons_succ]
  refine hand_take (i := 10) (v := ?_) rfl (by kernel_rfl) (by kernel_rfl) (by kernel_rfl) (fun _ _ _ h => h) (Or.inl ⟨by rfl, ?_⟩) (by assumption) ?_
  rotate_left
  · intro w hSw
    clear hSw
    go_simp
    try with_reducible rfl
  try simp only [Act.put, List.setIfInBounds_toArray, List.set_cons_zero, List.set_cons_succ]
  refine hand_take (i := 12) rfl (by kernel_rfl) (by kernel_rfl) (by kernel_rfl) (fun _ _ _ h => h) (yieldsIf_load_mid (by rfl) _ _ rfl gn 0 rfl (cb nonce) _ (fun _ h => h.out.sn.nn.rangeQ) Tryd.underlying27 rfl (by rw [info27, cb_len, HKN.out.2])) (by assumption) ?_
  try simp only [Act.put, List.setIfInBounds_toArray, List.set_cons_zero, List.set_cons_succ]
  refine hand_take (i := 13) (v := ?_) rfl (by kernel_rfl) (by kernel_rfl) (by kernel_rfl) (fun _ _ _ h => h) (Or.inl ⟨by rfl, ?_⟩) (by assumption) ?_
  rotate_left
  · intro w hSw
    clear hSw
    go_simp
    try with_reducible rfl
  try simp only [Act.put, List.setIfInBounds_toArray, List.set_cons_zero, List.set_cons_succ]
  refine hand_take (i := 15) (v := ?_) rfl (by kernel_rfl) (by kernel_rfl) (by kernel_rfl) (fun _ _ _ h => h) (Or.inl ⟨by rfl, ?_⟩) (by assumption) ?_
  rotate_left
  · intro w hSw
    clear hSw
    go_simp
    try with_reducible rfl
  try simp only [Act.put, List.setIfInBounds_toArray, List.set_cons_zero, List.set_cons_succ]
  refine wpAnyH_ready (rs := [11]) (by kernel_rfl) (by simp) ?_
  refine hand_cons rfl (fun KK hK => ?_) AllReadyH.nil
  go_simp
  go_at_call 17
  refine (HDE.out _ hHeld.out.gb).mono ?_
  rintro e w10 ⟨rfl, hb10⟩
  have hs10 := Lib.hid (hHeld.out.up hb10)
  have HX10 := Lib.hid (HX9.out.up hb10)
  clear hb10 hHeld
  go_wp2_with fail
  refine hK.out _ _ (hs10) (fun hHeld => ?_)
  clear hK KK
  try simp only [Act.put, List.setIfInBounds_toArray, List.set_cons_zero, List.set_cons_succ]
  refine wpAnyH_ready (rs := [14]) (by kernel_rfl) (by simp) ?_
  refine hand_cons rfl (fun KK hK => ?_) AllReadyH.nil
  go_simp
  go_at_call 15
  refine (XorP_is D nonce (some ⟨c7, 0, none⟩) y.length y.length (xorOf D nonce y) y _ HDL.out HKN.out.2 (xorOf_len _ _ _).symm (HX10.out.shows HX10.out.lt) (by rw [xorOf_len]; have := HL.out; omega) (xorOf_twice _ _ _) hHeld.out.sn.glob).mono ?_
  rintro e w11 ⟨c11, rfl, hx11, _, hb11⟩
  have hs11 := Lib.hid (hHeld.out.up hb11)
  have HX11 := Lib.hid hx11
  clear hb11 hx11 hHeld
  go_wp2_with fail
  refine hK.out _ _ (hs11) (fun hHeld => ?_)
  clear hK KK
  try simp only [Act.put, List.setIfInBounds_toArray, List.set_cons_zero, List.set_cons_succ]
  refine wpAnyH_ready (rs := [16]) (by kernel_rfl) (by simp) ?_
  refine hand_cons rfl (fun KK hK => ?_) AllReadyH.nil
  go_simp
  go_at_call 14
  refine (Same_same (some ⟨c11, 0, none⟩) y.length y.length B y.length cb_ y _ rfl rfl (HX11.out.shows HX11.out.lt) (HBy.out.up hHeld.out.sn.bel)).mono ?_
  rintro e w12 ⟨rfl, rfl⟩
  go_wp2_with fail
  refine hK.out _ _ (hHeld) (fun hHeld => ?_)
  clear hK KK
  try simp only [Act.put, List.setIfInBounds_toArray, List.set_cons_zero, List.set_cons_succ]
  refine hand_take (i := 17) (v := ?_) rfl (by kernel_rfl) (by kernel_rfl) (by kernel_rfl) (fun _ _ _ h => h) (Or.inl ⟨by rfl, ?_⟩) (by assumption) ?_
  rotate_left
  · intro w hSw
    clear hSw
    go_simp
    try with_reducible rfl
  try simp only [Act.put, List.setIfInBounds_toArray, List.set_cons_zero, List.set_cons_succ]
  refine hand_take (i := 18) (v := ?_) rfl (by kernel_rfl) (by kernel_rfl) (by kernel_rfl) (fun _ _ _ h => h) (Or.inl ⟨by rfl, ?_⟩) (by assumption) ?_
  rotate_left
  · intro w hSw
    clear hSw
    go_simp
    try with_reducible rfl
  try simp only [Act.put, List.setIfInBounds_toArray, List.set_cons_zero, List.set_cons_succ]
  refine wpAnyH_done (by kernel_rfl) ?_ _
  go_wp2
  go_ret
  exact ⟨rfl, hs11.out.sn.bel⟩
end Go.Proofs.YtbpphdmkfjdhnaaDoor
