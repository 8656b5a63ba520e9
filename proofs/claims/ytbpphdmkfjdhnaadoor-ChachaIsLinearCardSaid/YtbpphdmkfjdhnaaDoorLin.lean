/-
  ChachaIsLinear: the walk.
-/
import Derived.Test.YtbpphdmkfjdhnaaDoorKN
import Derived.Test.YtbpphdmkfjdhnaaDoorHand
import Derived.Lib.MinMax
import Derived.StillTailTactics
import Derived.LoopTactic
namespace Go.Proofs.YtbpphdmkfjdhnaaDoor
open Go.RowKit

theorem run_min3 {P : Program} (w : World) (ts : Array TypeId) (t : TypeId) (k k' k'' : IntKind) (x y z : Int) : (Builtin.min_ ts t #[.int k x, .int k' y, .int k'' z]).run P w = .ok (.int k (min (min x y) z)) w := by
  rw [run_min_int3]
  congr 2
  omega
attribute [local go_sem high] run_min3
set_option maxHeartbeats 4000000 in
set_option maxRecDepth 20000 in
theorem walkLin (R : Option Addr) (cr : Nat) (raw : List UInt8) (A : Option Addr) (ca : Nat) (a : List UInt8) (B : Option Addr) (cb_ : Nat) (b : List UInt8) (w : World) (hr : Shows w w.heap.size R raw) (_hrc : raw.length ≤ cr) (hrl0 : cr ≤ 140737488351232) (ha : Shows w w.heap.size A a) (hac : a.length ≤ ca) (_hal : ca ≤ 140737488351232) (hb : Shows w w.heap.size B b) (hbc : b.length ≤ cb_) (_hbl : cb_ ≤ 140737488351232) (G : GlobQ w) :
    Calls Tryd.prog 7 #[.slice R raw.length cr, .slice A a.length ca, .slice B b.length cb_] w fun e w' => e = .returned (.bool true) ∧ Below w.heap.size w w' := by
  have HR := Lib.hid hr
  have HA := Lib.hid ha
  have HB := Lib.hid hb
  have HG := Lib.hid G
  have hrl : raw.length ≤ 140737488351232 := by omega
  obtain ⟨N, hN, m1⟩ : ∃ N : Nat, (N ≤ 200 ∧ N ≤ a.length ∧ N ≤ b.length) ∧ min (min (a.length : Int) (b.length : Int)) 200 = (N : Int) := ⟨min (min a.length b.length) 200, by omega, by omega⟩
  obtain ⟨x, hx, hxl, hxb⟩ := cut_of a N
  obtain ⟨y, hy, hyl, hyb⟩ := cut_of b N
  have u1 : (N : Int) ≤ (ca : Int) := by omega
  have u2 : (N : Int) ≤ (cb_ : Int) := by omega
  have HX : Hid (x.length = N) := by show _ = _; omega
  have HY : Hid (y.length = N) := by show _ = _; omega
  have HAx : Hid (Shows w w.heap.size A x) := by show Shows _ _ _ _; rw [hx.out]; exact HA.out.first
  have HBy : Hid (Shows w w.heap.size B y) := by show Shows _ _ _ _; rw [hy.out]; exact HB.out.first
  have HN := Lib.hid hN
  clear G hr ha hb hx hxl hxb hy hyl hyb hac _hal hbc _hbl hN HA HB
  go_enter Tryd.func7, Tryd.ntmps7
  go_wp2_with (first
    | (go_at_call 10; refine (sane_any _ HG.out).mono ?_; rintro e w1 ⟨rfl, hb1⟩; have HB1 := Lib.hid hb1; clear hb1)
    | (go_at_call 11; refine (made_any R cr raw w1 (HR.out.up HB1.out) hrl).mono ?_; rintro e w2 ⟨key, nonce, hkl, hnl, rfl, hb2⟩; have HKN := Lib.hid (And.intro hkl hnl); have HB2 : Hid (Below w.heap.size w w2) := Lib.hid (HB1.out.trans (hb2.mono HB1.out.size)); clear hkl hnl hb2)
    | ((with_reducible show wpList _ _ _ _ _ _); refine wpList_store_all rfl 26 (.tmp 8) (.tmp 18) rfl w2.heap.size (cb key) rfl rfl 26 (cb (List.replicate 32 0)).toArray 32 (old32 rfl) info26 (by simp [cb]) (by rw [cb_len, HKN.out.1]) (cb_one _) ?_; intro w3 hb3 hg3 hz3; have H3 := Lib.hid (And.intro hb3 (And.intro hg3 hz3)); clear hb3 hg3 hz3)
    | ((with_reducible show wpList _ _ _ _ _ _); refine wpList_store_all rfl 27 (.tmp 9) (.tmp 19) rfl (w2.heap.size + 1) (cb nonce) rfl rfl 27 (cb (List.replicate 12 0)).toArray 12 (old12 rfl H3.out.2.1) info27 (by simp [cb]) (by rw [cb_len, HKN.out.2]) (cb_one _) ?_; intro w4 hb4 hg4 hz4; have HS : Hid (SN w w4 w2.heap.size (w2.heap.size + 1) key nonce) := Lib.hid (sn_of HB2.out H3.out.1 H3.out.2.1 H3.out.2.2 hb4 hg4 HKN.out.1 HKN.out.2 HG.out); clear hb4 hg4 hz4))
  have hs0 := Lib.hid HS.out.drew
  clear H3 HB1 HB2
  generalize w2.heap.size + 1 = gn at *
  generalize w2.heap.size = gk at *
  refine wp_region_held_drew (S := fun w' => Hid (SN w w' gk gn key nonce)) (by kernel_rfl) hs0 (fun hHeld => ?_)
  refine hand_take (i := 0) rfl (by kernel_rfl) (by kernel_rfl) (by kernel_rfl) (fun _ _ _ h => h) (yieldsIf_load_mid (by rfl) _ _ rfl gk 0 rfl (cb key) _ (fun _ h => h.out.kk.rangeQ) Tryd.underlying26 rfl (by rw [info26, cb_len, HKN.out.1])) (by assumption) ?_
  try simp only [Act.put, List.setIfInBounds_toArray, List.set_cons_zero, List.set_cons_succ]
  refine hand_take (i := 1) rfl (by kernel_rfl) (by kernel_rfl) (by kernel_rfl) (fun _ _ _ h => h) (yieldsIf_load_mid (by rfl) _ _ rfl gn 0 rfl (cb nonce) _ (fun _ h => h.out.nn.rangeQ) Tryd.underlying27 rfl (by rw [info27, cb_len, HKN.out.2])) (by assumption) ?_
  try simp only [Act.put, List.setIfInBounds_toArray, List.set_cons_zero, List.set_cons_succ]
  refine hand_take (i := 2) (v := ?_) rfl (by kernel_rfl) (by kernel_rfl) (by kernel_rfl) (fun _ _ _ h => h) (Or.inl ⟨by rfl, ?_⟩) (by assumption) ?_
  rotate_left
  · intro w hSw
    clear hSw
    go_simp
    try with_reducible rfl
  try simp only [Act.put, List.setIfInBounds_toArray, List.set_cons_zero, List.set_cons_succ]
  refine hand_take (i := 3) (v := ?_) rfl (by kernel_rfl) (by kernel_rfl) (by kernel_rfl) (fun _ _ _ h => h) (Or.inl ⟨by rfl, ?_⟩) (by assumption) ?_
  rotate_left
  · intro w hSw
    clear hSw
    go_simp
    try with_reducible rfl
  try simp only [Act.put, List.setIfInBounds_toArray, List.set_cons_zero, List.set_cons_succ]
  refine hand_take (i := 4) (v := ?_) rfl (by kernel_rfl) (by kernel_rfl) (by kernel_rfl) (fun _ _ _ h => h) (Or.inl ⟨by rfl, ?_⟩) (by assumption) ?_
  rotate_left
  · intro w hSw
    clear hSw
    go_simp
    try with_reducible rfl
  try simp only [Act.put, List.setIfInBounds_toArray, List.set_cons_zero, List.set_cons_succ]
  refine wpAnyH_ready (rs := [5]) (by kernel_rfl) (by simp) ?_
  refine hand_cons rfl (fun KK hK => ?_) AllReadyH.nil
  go_simp
  go_at_call 15
  refine (XorP_is key nonce A N ca x (xorOf key nonce x) _ HKN.out.1 HKN.out.2 HX.out.symm (HAx.out.up hHeld.out.bel) (by rw [HX.out]; have := HN.out; omega) rfl hHeld.out.glob).mono ?_
  rintro e w5 ⟨c5, rfl, hx5, _, hb5⟩
  have hs5 := Lib.hid (hHeld.out.up hb5)
  have HX5 := Lib.hid hx5
  clear hb5 hx5 hHeld
  go_wp2_with fail
  refine hK.out _ _ (hs5) (fun hHeld => ?_)
  clear hK KK
  try simp only [Act.put, List.setIfInBounds_toArray, List.set_cons_zero, List.set_cons_succ]
  refine hand_take (i := 6) (v := ?_) rfl (by kernel_rfl) (by kernel_rfl) (by kernel_rfl) (fun _ _ _ h => h) (Or.inl ⟨by rfl, ?_⟩) (by assumption) ?_
  rotate_left
  · intro w hSw
    clear hSw
    go_simp
    try with_reducible rfl
  try simp only [Act.put, List.setIfInBounds_toArray, List.set_cons_zero, List.set_cons_succ]
  refine wpAnyH_done (by kernel_rfl) ?_ _
  clear hHeld hs0
  go_wp2
  have hs0 := Lib.hid hs5.out.drew
  have HX5c := Lib.hid (HX5.out.drew)
  refine wp_region_held_drew (S := fun w' => Hid (SN w w' gk gn key nonce)) (by kernel_rfl) hs0 (fun hHeld => ?_)
  refine hand_take (i := 0) rfl (by kernel_rfl) (by kernel_rfl) (by kernel_rfl) (fun _ _ _ h => h) (yieldsIf_load_mid (by rfl) _ _ rfl gk 0 rfl (cb key) _ (fun _ h => h.out.kk.rangeQ) Tryd.underlying26 rfl (by rw [info26, cb_len, HKN.out.1])) (by assumption) ?_
  try simp only [Act.put, List.setIfInBounds_toArray, List.set_cons_zero, List.set_cons_succ]
  refine hand_take (i := 1) rfl (by kernel_rfl) (by kernel_rfl) (by kernel_rfl) (fun _ _ _ h => h) (yieldsIf_load_mid (by rfl) _ _ rfl gn 0 rfl (cb nonce) _ (fun _ h => h.out.nn.rangeQ) Tryd.underlying27 rfl (by rw [info27, cb_len, HKN.out.2])) (by assumption) ?_
  try simp only [Act.put, List.setIfInBounds_toArray, List.set_cons_zero, List.set_cons_succ]
  refine hand_take (i := 2) (v := ?_) rfl (by kernel_rfl) (by kernel_rfl) (by kernel_rfl) (fun _ _ _ h => h) (Or.inl ⟨by rfl, ?_⟩) (by assumption) ?_
  rotate_left
  · intro w hSw
    clear hSw
    go_simp
    try with_reducible rfl
  try simp only [Act.put, List.setIfInBounds_toArray, List.set_cons_zero, List.set_cons_succ]
  refine hand_take (i := 3) (v := ?_) rfl (by kernel_rfl) (by kernel_rfl) (by kernel_rfl) (fun _ _ _ h => h) (Or.inl ⟨by rfl, ?_⟩) (by assumption) ?_
  rotate_left
  · intro w hSw
    clear hSw
    go_simp
    try with_reducible rfl
  try simp only [Act.put, List.setIfInBounds_toArray, List.set_cons_zero, List.set_cons_succ]
  refine hand_take (i := 4) (v := ?_) rfl (by kernel_rfl) (by kernel_rfl) (by kernel_rfl) (fun _ _ _ h => h) (Or.inl ⟨by rfl, ?_⟩) (by assumption) ?_
  rotate_left
  · intro w hSw
    clear hSw
    go_simp
    try with_reducible rfl
  try simp only [Act.put, List.setIfInBounds_toArray, List.set_cons_zero, List.set_cons_succ]
  refine wpAnyH_ready (rs := [5]) (by kernel_rfl) (by simp) ?_
  refine hand_cons rfl (fun KK hK => ?_) AllReadyH.nil
  go_simp
  go_at_call 15
  refine (XorP_is key nonce B N cb_ y (xorOf key nonce y) _ HKN.out.1 HKN.out.2 HY.out.symm (HBy.out.up hHeld.out.bel) (by rw [HY.out]; have := HN.out; omega) rfl hHeld.out.glob).mono ?_
  rintro e w6 ⟨c6, rfl, hx6, _, hb6⟩
  have hs6 := Lib.hid (hHeld.out.up hb6)
  have HX6 := Lib.hid hx6
  have HX5b := Lib.hid (HX5c.out.up hb6)
  clear hb6 hx6 hHeld
  go_wp2_with fail
  refine hK.out _ _ (hs6) (fun hHeld => ?_)
  clear hK KK
  try simp only [Act.put, List.setIfInBounds_toArray, List.set_cons_zero, List.set_cons_succ]
  refine hand_take (i := 6) (v := ?_) rfl (by kernel_rfl) (by kernel_rfl) (by kernel_rfl) (fun _ _ _ h => h) (Or.inl ⟨by rfl, ?_⟩) (by assumption) ?_
  rotate_left
  · intro w hSw
    clear hSw
    go_simp
    try with_reducible rfl
  try simp only [Act.put, List.setIfInBounds_toArray, List.set_cons_zero, List.set_cons_succ]
  refine wpAnyH_done (by kernel_rfl) ?_ _
  clear hHeld hs0
  go_wp2
  have HP : Hid (∀ k, k < N → ∃ p q : UInt8, x[k]? = some p ∧ y[k]? = some q ∧ (byte (xorOf key nonce x) k).toNat ^^^ (byte (xorOf key nonce y) k).toNat = p.toNat ^^^ q.toNat) := fun k hk => by
    have hxk : k < x.length := by rw [HX.out]; exact hk
    have hyk : k < y.length := by rw [HY.out]; exact hk
    obtain ⟨p, q, h1, h2, h3⟩ := xorOf_linear key nonce x y k x[k] y[k] (List.getElem?_eq_getElem hxk) (List.getElem?_eq_getElem hyk)
    refine ⟨x[k], y[k], List.getElem?_eq_getElem hxk, List.getElem?_eq_getElem hyk, ?_⟩
    unfold byte
    rw [List.getD_eq_getElem?_getD, List.getD_eq_getElem?_getD, h1, h2]
    show p.toNat ^^^ q.toNat = _
    rw [← UInt8.toNat_xor, h3, UInt8.toNat_xor]
  have HLX : Hid ((xorOf key nonce x).length = N ∧ (xorOf key nonce y).length = N) := by show _ ∧ _; rw [xorOf_len, xorOf_len, HX.out, HY.out]; exact ⟨rfl, rfl⟩
  generalize xorOf key nonce x = X at *
  generalize xorOf key nonce y = Y at *
  go_loopw [13] (fun i wr => ∃ k : Nat, k ≤ N ∧ i = .int .i64 k ∧ Hid (SN w wr gk gn key nonce) ∧ Hid (BT wr c5 5 X) ∧ Hid (BT wr c6 5 Y)) (fun i _ => N - (intOf i).toNat)
  case atStart => exact ⟨0, by omega, rfl, hs6, HX5b, HX6⟩
  case round =>
    clear hs6 HX5b HX6
    obtain ⟨k, hk, rfl, hs, hx, hy⟩ := hrel
    obtain ⟨wo, hwo⟩ : ∃ wo : World, wo = wr := ⟨_, rfl⟩
    subst hwo
    have hN2 : N ≤ 200 := HN.out.1
    by_cases hlt : k < N
    · have i1 : (k : Int) < (N : Int) := by omega
      obtain ⟨p, q, hp, hq, hpq⟩ := HP.out k hlt
      have c1 := hx.out.cell k (by rw [HLX.out.1]; exact hlt)
      have c2 := hy.out.cell k (by rw [HLX.out.2]; exact hlt)
      obtain ⟨ga, oa, rfl, hga, hca⟩ := (HAx.out.up hs.out.bel) (by rw [HX.out]; omega)
      obtain ⟨gb, ob, rfl, hgb, hcb⟩ := (HBy.out.up hs.out.bel) (by rw [HY.out]; omega)
      have c3 := hca k p hp
      have c4 := hcb k q hq
      have la : (k : Int) < (a.length : Int) := by have := HN.out; omega
      have lb : (k : Int) < (b.length : Int) := by have := HN.out; omega
      have hbx : bits BinOp.xor IntKind.u8 ((byte X k).toNat : Int) ((byte Y k).toNat : Int) = bits BinOp.xor IntKind.u8 (p.toNat : Int) (q.toNat : Int) := by rw [u8_xor, u8_xor, UInt8.toNat_xor, UInt8.toNat_xor, hpq]
      clear hca hcb hp hq hpq
      go_wp2
      go_still_tail 18, (by kernel_rfl)
      change wpList _ _ _ _ _ wo.drew
      go_wp2
      go_roundw
      case rel => exact ⟨k + 1, by omega, by go_num, hs.out.drew, hx.out, hy.out⟩
      case measure => simp [intOf]; omega
    · have i1 : ¬ (k : Int) < (N : Int) := by omega
      go_wp2
      go_ret
      exact ⟨rfl, hs.out.bel⟩
end Go.Proofs.YtbpphdmkfjdhnaaDoor
