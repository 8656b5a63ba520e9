/-
  The reference's guess of a day, by a contract.
-/
import Derived.Test.YteaaadccjnmacaaGreatDoorGueM
import Derived.Test.YteaaadccjnmacaaGreatDoorDateR
import Derived.Test.YteaaadccjnmacaaGreatDoorNumR
import Derived.Test.YteaaadccjnmacaaGreatDoorDateR
import Derived.Deep.QuietTactic
import Derived.BigQuiet
namespace Go.Proofs.YteaaadccjnmacaaGreatDoor
open Go.Lib Go.RowKit

/-- the first day of a year, before the first month too -/
def yS (y : Int) : Int := 365 * (y + 799) + lpY (y + 799) - 1011356
theorem yS_next (y : Int) : yS (y + 1) = yS y + (if lpB y = true then 366 else 365) := by
  have hs := lpY_lp (y + 799)
  rw [show y + 799 - 799 = y by omega] at hs
  unfold yS
  rw [show y + 1 + 799 = y + 799 + 1 by omega]
  cases hz : lpB y <;> rw [hz] at hs <;> simp at hs ⊢ <;> omega
theorem yS_1970 : yS 1970 = 0 := by decide
theorem yS_b (y : Int) (h0 : -2000 ≤ y) (h1 : y ≤ 6000) : -10000000 ≤ yS y ∧ yS y ≤ 10000000 := by
  unfold yS lpY
  omega
theorem yS_m (q : Nat) : yS ((q : Int) - 799) = mStart (12 * q) := by
  have ed : (12 * q) / 12 = q := by omega
  have em : (12 * q) % 12 = 0 := by omega
  unfold yS mStart
  rw [ed, em, show (q : Int) - 799 + 799 = (q : Int) by omega]
  simp [bef, befT]
/-- the days of the months before month i -/
def mB (y : Int) : Nat → Int
  | 0 => 0
  | i + 1 => mB y i + mdays y (i + 1)
theorem mB_m (q : Nat) : ∀ k, k ≤ 12 → mB ((q : Int) - 799) k = mStart (12 * q + k) - mStart (12 * q) := by
  intro k
  induction k with
  | zero => intro _; simp [mB]
  | succ k ih =>
    intro h
    have h1 := mStart_next q k (by omega)
    have h2 := ih (by omega)
    show mB _ k + mdays _ (k + 1) = mStart (12 * q + k + 1) - _
    omega
theorem mdays_b (y : Int) (k : Nat) (h : 1 ≤ k) (h2 : k ≤ 12) : 0 ≤ mdays y k ∧ mdays y k ≤ 31 := by
  obtain ⟨j, rfl⟩ : ∃ j, k = j + 1 := ⟨k - 1, by omega⟩
  unfold mdays
  rcases lt12 (show j < 12 by omega) with rfl | rfl | rfl | rfl | rfl | rfl | rfl | rfl | rfl | rfl | rfl | rfl <;> (split <;> simp [monT])
theorem mB_b (y : Int) : ∀ k, k ≤ 12 → 0 ≤ mB y k ∧ mB y k ≤ 31 * k := by
  intro k
  induction k with
  | zero => intro _; simp [mB]
  | succ k ih =>
    intro h
    have h1 := mdays_b y (k + 1) (by omega) h
    have h2 := ih (by omega)
    show 0 ≤ mB y k + mdays y (k + 1) ∧ mB y k + mdays y (k + 1) ≤ _
    omega
def gYear (l : List UInt8) : Int := gInt (l.take (l.length - 6))
def gMon (l : List UInt8) : Int := wrap64 (numW ((l.drop (l.length - 5)).take 2))
def gDom (l : List UInt8) : Int := wrap64 (numW (l.drop (l.length - 2)))
/-- the day that a notation suggests -/
def gDay (l : List UInt8) : Int :=
  if l.length < 10 ∨ 12 < l.length ∨ gYear l < -1000 ∨ 5000 < gYear l ∨ gMon l < 1 ∨ 12 < gMon l ∨ gDom l < 1 ∨ 31 < gDom l then 0
  else yS (gYear l) + mB (gYear l) (gMon l - 1).toNat + gDom l - 1
theorem num_digs {l : List UInt8} (h : digs l) (hv : valD 0 l < 9223372036854775808) : wrap64 (numW l) = (valD 0 l : Nat) := by
  rw [numW_digs h, wrap_i64]
  omega
theorem gDay_date (d : Int) (h0 : -1000000 ≤ d) (h1 : d ≤ 1000000) : gDay (dateL d) = d := by
  obtain ⟨p1, p2, p3, p4⟩ := date_parts d h0 h1
  obtain ⟨q1, q2, q3⟩ := monOf_at d h0 h1
  have hdl := date_len d h0 h1
  obtain ⟨Y, hY⟩ : ∃ Y, Y = (if ((monOf d / 12 : Nat) : Int) - 799 < 0 then [45] else []) ++ padL (((monOf d / 12 : Nat) : Int) - 799).natAbs 4 := ⟨_, rfl⟩
  obtain ⟨M, hM⟩ : ∃ M, M = padL (monOf d % 12 + 1) 2 := ⟨_, rfl⟩
  obtain ⟨D, hD⟩ : ∃ D, D = padL (d - mStart (monOf d) + 1).toNat 2 := ⟨_, rfl⟩
  have e : dateL d = Y ++ ([45] ++ M ++ [45] ++ D) := by unfold dateL; rw [hY, hM, hD]; simp
  have lM : M.length = 2 := by rw [hM]; exact padL_len _ _ (dd_len 1 _ (by omega))
  have lD : D.length = 2 := by rw [hD]; exact padL_len _ _ (dd_len 1 _ (by omega))
  have len : (dateL d).length = Y.length + 6 := by rw [e]; simp [lM, lD]
  have aY : gInt Y = ((monOf d / 12 : Nat) : Int) - 799 := by
    rw [hY]
    split
    · rw [List.cons_append, List.nil_append, gInt_neg (pad_digs _ _) (by rw [pad_val]; omega), pad_val]
      omega
    · rw [List.nil_append, gInt_digs (pad_digs _ _) (pad_ne _ _) (by rw [pad_val]; omega), pad_val]
      omega
  have aM : wrap64 (numW M) = ((monOf d % 12 + 1 : Nat) : Int) := by rw [hM, num_digs (pad_digs _ _) (by rw [pad_val]; omega), pad_val]
  have aD : wrap64 (numW D) = d - mStart (monOf d) + 1 := by
    rw [hD, num_digs (pad_digs _ _) (by rw [pad_val]; omega), pad_val]
    omega
  have tY : (dateL d).take ((dateL d).length - 6) = Y := by
    rw [len, e, show Y.length + 6 - 6 = Y.length by omega, List.take_left]
  have tM : ((dateL d).drop ((dateL d).length - 5)).take 2 = M := by
    rw [len, e, show Y.length + 6 - 5 = Y.length + 1 by omega, List.drop_append]
    simp only [List.drop_eq_nil_of_le (by omega : Y.length ≤ Y.length + 1), List.nil_append]
    rw [show Y.length + 1 - Y.length = 1 by omega]
    simp only [List.cons_append, List.nil_append, List.drop_succ_cons, List.drop_zero, List.append_assoc]
    rw [List.take_append_of_le_length (by omega), List.take_of_length_le (by omega)]
  have tD : (dateL d).drop ((dateL d).length - 2) = D := by
    rw [len, e, show Y ++ ([45] ++ M ++ [45] ++ D) = (Y ++ [45] ++ M ++ [45]) ++ D by simp, List.drop_left' (by simp; omega)]
  have gy : gYear (dateL d) = ((monOf d / 12 : Nat) : Int) - 799 := by unfold gYear; rw [tY, aY]
  have gm : gMon (dateL d) = ((monOf d % 12 + 1 : Nat) : Int) := by unfold gMon; rw [tM, aM]
  have gd : gDom (dateL d) = d - mStart (monOf d) + 1 := by unfold gDom; rw [tD, aD]
  have hmm : 12 * (monOf d / 12) + monOf d % 12 = monOf d := by omega
  have hb := mB_m (monOf d / 12) (monOf d % 12) (by omega)
  rw [hmm] at hb
  unfold gDay
  rw [if_neg (by rw [gy, gm, gd]; omega), gy, gm, gd, yS_m, show (((monOf d % 12 + 1 : Nat) : Int) - 1).toNat = monOf d % 12 by omega, hb]
  omega
end Go.Proofs.YteaaadccjnmacaaGreatDoor
namespace Go.Proofs.YteaaadccjnmacaaGreatDoor
open Go.RowKit Go.Lib

theorem ext_list (s : ByteArray) (a b : Nat) : (s.extract a b).data.toList = (s.data.toList.take b).drop a := by
  rw [Lib.extract_data]
  first | rfl | (rw [List.drop_take]) | (rw [List.take_drop]; congr 2; omega)
set_option maxHeartbeats 4000000 in
set_option maxRecDepth 20000 in
theorem RguessDay_any (s : ByteArray) (w : World) (hs : s.size ≤ 1000000) : Calls Tryz.prog 39 #[.string s] w fun e w' => e = .returned (.int .i64 (gDay s.data.toList)) ∧ Below w.heap.size w w' := by
  obtain ⟨l, hl⟩ : ∃ l, l = s.data.toList := ⟨_, rfl⟩
  have hln : l.length = s.size := by rw [hl]; rfl
  rw [← hl]
  by_cases ha : s.size < 10
  · have HG : Hid (gDay l = 0) := by show _ = _; unfold gDay; rw [if_pos (by omega)]
    have j1 : (s.size : Int) < 10 := by omega
    clear hl hln
    go_enter Tryz.func39, Tryz.ntmps39
    go_wp2
    go_ret
    exact ⟨by rw [HG.out]; rfl, Below.refl _ _⟩
  · by_cases hb : 12 < s.size
    · have HG : Hid (gDay l = 0) := by show _ = _; unfold gDay; rw [if_pos (by omega)]
      have j1 : ¬ (s.size : Int) < 10 := by omega
      have j2 : 12 < (s.size : Int) := by omega
      clear hl hln
      go_enter Tryz.func39, Tryz.ntmps39
      go_wp2
      go_ret
      exact ⟨by rw [HG.out]; rfl, Below.refl _ _⟩
    · obtain ⟨k, hk⟩ : ∃ k, s.size = k + 6 := ⟨s.size - 6, by omega⟩
      have hsz : (s.size : Int) = (k : Int) + 6 := by omega
      have hk1 : 4 ≤ k := by omega
      have hk2 : k ≤ 6 := by omega
      have HYc : Hid (∀ w1, Calls Tryz.prog 40 #[.string (s.extract 0 k)] w1 fun e w' => e = .returned (.int .i64 (gYear l)) ∧ w' = w1) := fun w1 => by
        have h := RguessInt_any (s.extract 0 k) w1 (by rw [ByteArray.size_extract]; omega)
        rw [ext_list, ← hl, List.drop_zero] at h
        unfold gYear
        rwa [show l.length - 6 = k by omega]
      have HMc : Hid (∀ w1, Calls Tryz.prog 62 #[.string (s.extract (k + 1) (k + 3))] w1 fun e w' => e = .returned (.int .u64 (numW ((l.drop (l.length - 5)).take 2))) ∧ w' = w1) := fun w1 => by
        have h := Rnumber_any (s.extract (k + 1) (k + 3)) w1 (by rw [ByteArray.size_extract]; omega)
        rw [ext_list, ← hl, List.drop_take] at h
        rwa [show l.length - 5 = k + 1 by omega, show 2 = k + 3 - (k + 1) by omega]
      have HDc : Hid (∀ w1, Calls Tryz.prog 62 #[.string (s.extract (k + 4) s.size)] w1 fun e w' => e = .returned (.int .u64 (numW (l.drop (l.length - 2)))) ∧ w' = w1) := fun w1 => by
        have h := Rnumber_any (s.extract (k + 4) s.size) w1 (by rw [ByteArray.size_extract]; omega)
        rw [ext_list, ← hl, List.take_of_length_le (by omega)] at h
        rwa [show l.length - 2 = k + 4 by omega]
      obtain ⟨xm, hxm⟩ : ∃ x, x = numW ((l.drop (l.length - 5)).take 2) := ⟨_, rfl⟩
      obtain ⟨xd, hxd⟩ : ∃ x, x = numW (l.drop (l.length - 2)) := ⟨_, rfl⟩
      obtain ⟨gy, hgy⟩ : ∃ x, x = gYear l := ⟨_, rfl⟩
      obtain ⟨gm, hgm⟩ : ∃ x, x = gMon l := ⟨_, rfl⟩
      obtain ⟨gd, hgd⟩ : ∃ x, x = gDom l := ⟨_, rfl⟩
      have HG : Hid (gDay l = if gy < -1000 ∨ 5000 < gy ∨ gm < 1 ∨ 12 < gm ∨ gd < 1 ∨ 31 < gd then 0 else yS gy + mB gy (gm - 1).toNat + gd - 1) := by
        show _ = _
        unfold gDay
        rw [← hgy, ← hgm, ← hgd]
        congr 1
        exact propext ⟨fun h => by omega, fun h => by omega⟩
      have hwm : wrap64 xm = gm := by rw [hgm, hxm]; rfl
      have hwd : wrap64 xd = gd := by rw [hgd, hxd]; rfl
      have bm : -9223372036854775808 ≤ gm ∧ gm ≤ 9223372036854775807 := by rw [← hwm, wrap_i64]; omega
      have bd : -9223372036854775808 ≤ gd ∧ gd ≤ 9223372036854775807 := by rw [← hwd, wrap_i64]; omega
      rw [← hgy] at HYc
      rw [← hxm] at HMc
      rw [← hxd] at HDc
      clear hl hln hxm hxd hgy hgm hgd
      have j1 : ¬ (k : Int) + 6 < 10 := by omega
      have j2 : ¬ 12 < (k : Int) + 6 := by omega
      have w1 : IntKind.i64.wrap ((k : Int) + 1) = (k : Int) + 1 := IntWalk.i64_in _ ⟨by omega, by omega⟩
      have w3 : IntKind.i64.wrap ((k : Int) + 3) = (k : Int) + 3 := IntWalk.i64_in _ ⟨by omega, by omega⟩
      have w4 : IntKind.i64.wrap ((k : Int) + 4) = (k : Int) + 4 := IntWalk.i64_in _ ⟨by omega, by omega⟩
      have w5 : IntKind.i64.wrap xm = gm := by rw [IntWalk.i64_left]; exact hwm
      have w6 : IntKind.i64.wrap xd = gd := by rw [IntWalk.i64_left]; exact hwd
      have i0 : (k : Int).toNat = k := by omega
      have i1 : ((k : Int) + 1).toNat = k + 1 := by omega
      have i3 : ((k : Int) + 3).toNat = k + 3 := by omega
      have i4 : ((k : Int) + 4).toNat = k + 4 := by omega
      have k1 : 0 ≤ (k : Int) + 1 := by omega
      have k3 : (k : Int) + 1 ≤ (k : Int) + 3 := by omega
      have k4 : 0 ≤ (k : Int) + 4 := by omega
      have k5 : (k : Int) ≤ (k : Int) + 6 := by omega
      have k6 : (k : Int) + 3 ≤ (k : Int) + 6 := by omega
      have k7 : (k : Int) + 4 ≤ (k : Int) + 6 := by omega
      have HK := Lib.hid hk
      clear hk ha hb
      go_enter Tryz.func39, Tryz.ntmps39
      go_wp2
      go_quiet ((first | ((with_reducible show Calls _ 40 _ _ _); exact Calls.quiet_of_same (HYc.out _)) | ((with_reducible show Calls _ _ #[.string (s.extract (k + 1) (k + 3))] _ _); exact Calls.quiet_of_same (HMc.out _)) | exact Calls.quiet_of_same (HDc.out _)))
      have HBq : Hid (Below w.heap.size w (w.drewN nq)) := below_dn (Below.refl _ _) nq
      generalize w.drewN nq = wq at *
      clear w1 w3 w4 w5 w6 i0 i1 i3 i4 k1 k3 k4 k5 k6 k7 hwm hwd j1 j2 hsz HYc HMc HDc
      by_cases hbad : gy < -1000 ∨ 5000 < gy ∨ gm < 1 ∨ 12 < gm ∨ gd < 1 ∨ 31 < gd
      · have HG0 : Hid (gDay l = 0) := by show _ = _; rw [HG.out, if_pos hbad]
        clear HG
        have hc6 : gy < -1000 ∨ (¬ gy < -1000 ∧ 5000 < gy) ∨ (¬ gy < -1000 ∧ ¬ 5000 < gy ∧ gm < 1) ∨ (¬ gy < -1000 ∧ ¬ 5000 < gy ∧ ¬ gm < 1 ∧ 12 < gm) ∨ (¬ gy < -1000 ∧ ¬ 5000 < gy ∧ ¬ gm < 1 ∧ ¬ 12 < gm ∧ gd < 1) ∨ (¬ gy < -1000 ∧ ¬ 5000 < gy ∧ ¬ gm < 1 ∧ ¬ 12 < gm ∧ ¬ gd < 1 ∧ 31 < gd) := by omega
        clear hbad
        rcases hc6 with a | ⟨a, b⟩ | ⟨a, b, c⟩ | ⟨a, b, c, d⟩ | ⟨a, b, c, d, e⟩ | ⟨a, b, c, d, e, f⟩
        all_goals (
          go_wp2
          go_ret
          exact ⟨by rw [HG0.out]; rfl, HBq.out⟩)
      · have hy0 : ¬ gy < -1000 := by omega
        have hy1 : ¬ 5000 < gy := by omega
        obtain ⟨m, hm⟩ : ∃ m : Nat, gm = (m : Int) := ⟨gm.toNat, by omega⟩
        subst hm
        have hm0 : ¬ (m : Int) < 1 := by omega
        have hm1 : ¬ 12 < (m : Int) := by omega
        have hm2 : 1 ≤ m := by omega
        have hm3 : m ≤ 12 := by omega
        have hd0 : ¬ gd < 1 := by omega
        have hd1 : ¬ 31 < gd := by omega
        have HGV : Hid (gDay l = yS gy + mB gy (m - 1) + gd - 1) := by show _ = _; rw [HG.out, if_neg hbad, show ((m : Int) - 1).toNat = m - 1 by omega]
        have hy1970 := yS_1970
        have hyb := yS_b gy (by omega) (by omega)
        have HLEN : Hid (∀ (y : Int) (w1 : World), -1000 ≤ y → y ≤ 5000 → Calls Tryz.prog 52 #[.int .i64 y] w1 fun e w' => e = .returned (.int .i64 (yS (y + 1) - yS y)) ∧ w' = w1) := fun y w1 h0 h1 => by
          have h := Rlength_any y w1 (by omega) (by omega)
          rwa [show yS (y + 1) - yS y = (if lpB y = true then 366 else 365) by have := yS_next y; omega]
        have HMON := Lib.hid (fun (i : Nat) (w1 : World) (h0 : 1 ≤ i) (h1 : i ≤ 12) => Rmonth_any gy i w1 (by omega) (by omega) h0 h1)
        have HYB := Lib.hid yS_b
        have H70 := Lib.hid hy1970
        clear hbad HG hy1970 bm bd hyb
        go_wp2
        go_loop [7, 8] (fun v i => ∃ y : Int, 1970 ≤ y ∧ (y ≤ gy ∨ y = 1970) ∧ i = .int .i64 y ∧ v = .int .i64 (yS y)) (fun _ i => (5001 - intOf i).toNat)
        case atStart => exact ⟨1970, by omega, .inr rfl, rfl, by rw [H70.out]⟩
        case round =>
          obtain ⟨y, y0, y1, rfl, rfl⟩ := hrel
          by_cases hlt : y < gy
          · have b1 := HYB.out y (by omega) (by omega)
            have b2 := HYB.out (y + 1) (by omega) (by omega)
            have HN : Hid (yS y + (yS (y + 1) - yS y) = yS (y + 1)) := by show _ = _; omega
            go_wp2_with (go_at_call 52; refine (HLEN.out _ _ (by omega) (by omega)).mono ?_; rintro e w' ⟨rfl, rfl⟩)
            go_round
            case rel => exact ⟨y + 1, by omega, by omega, by go_num, congrArg (Value.int .i64) HN.out⟩
            case measure => simp [intOf]; omega
          · obtain ⟨Y, hY⟩ : ∃ Y, Y = yS y := ⟨_, rfl⟩
            have HY1 : Hid (gy ≤ 1970 → Y = 0) := fun h => by rw [hY, show y = 1970 by omega]; exact H70.out
            have HY2 : Hid (1970 ≤ gy → Y = yS gy) := fun h => by rw [hY, show y = gy by omega]
            have hYb := HYB.out y (by omega) (by omega)
            rw [← hY] at hYb ⊢
            clear hY
            go_wp2
            go_loop [7, 9] (fun v i => ∃ z : Int, gy ≤ z ∧ (z ≤ 1970 ∨ z = gy) ∧ i = .int .i64 z ∧ v = .int .i64 (Y + yS gy - yS z)) (fun _ i => (1971 - intOf i).toNat)
            case atStart => exact ⟨gy, by omega, .inr rfl, rfl, by congr 1; omega⟩
            case round =>
              obtain ⟨z, z0, z1, rfl, rfl⟩ := hrel
              have c0 := HYB.out gy (by omega) (by omega)
              have c1 := HYB.out z (by omega) (by omega)
              by_cases hlz : z < 1970
              · have c2 := HYB.out (z + 1) (by omega) (by omega)
                have HN : Hid (Y + yS gy - yS z - (yS (z + 1) - yS z) = Y + yS gy - yS (z + 1)) := by show _ = _; omega
                go_wp2_with (go_at_call 52; refine (HLEN.out _ _ (by omega) (by omega)).mono ?_; rintro e w' ⟨rfl, rfl⟩)
                go_round
                case rel => exact ⟨z + 1, by omega, by omega, by go_num, congrArg (Value.int .i64) HN.out⟩
                case measure => simp [intOf]; omega
              · obtain ⟨V, hV⟩ : ∃ V, V = Y + yS gy - yS z := ⟨_, rfl⟩
                have HV : Hid (V = yS gy) := by
                  show V = yS gy
                  rw [hV]
                  rcases Int.le_total gy 1970 with h | h
                  · rw [HY1.out h, show z = 1970 by omega, H70.out]; omega
                  · rw [HY2.out h, show z = gy by omega]; omega
                have hVb : -20000000 ≤ V ∧ V ≤ 20000000 := by rw [HV.out]; omega
                rw [← hV]
                clear hV c0 c1 HY1 HY2 hYb
                go_wp2
                go_loopw [7, 10] (fun v i wr => ∃ j : Nat, 1 ≤ j ∧ j ≤ m ∧ i = .int .i64 (j : Int) ∧ v = .int .i64 (V + mB gy (j - 1)) ∧ Hid (Below w.heap.size w wr)) (fun _ i _ => (13 - intOf i).toNat)
                case atStart => exact ⟨1, by omega, by omega, rfl, by simp [mB], HBq.out⟩
                case round =>
                  obtain ⟨j, q0, q1, rfl, rfl, hbw⟩ := hrel
                  have e0 := mB_b gy (j - 1) (by omega)
                  by_cases hlj : j < m
                  · have e1 := mdays_b gy j q0 (by omega)
                    have HN : Hid (V + mB gy (j - 1) + mdays gy j = V + mB gy (j + 1 - 1)) := by
                      show _ = _
                      obtain ⟨i, rfl⟩ : ∃ i, j = i + 1 := ⟨j - 1, by omega⟩
                      show V + mB gy i + mdays gy (i + 1) = V + (mB gy i + mdays gy (i + 1))
                      omega
                    have g1 : (j : Int) < (m : Int) := by omega
                    go_wp2_with (go_at_call 53; refine (HMON.out j _ q0 (by omega)).mono ?_; rintro e w2 ⟨rfl, hb2⟩; have HB2 := Lib.hid (hbw.out.trans (hb2.mono hbw.out.size)); clear hb2)
                    go_roundw
                    case rel => exact ⟨j + 1, by omega, by omega, by go_num, congrArg (Value.int .i64) HN.out, HB2⟩
                    case measure => simp [intOf]; omega
                  · have hjm : j = m := by omega
                    subst hjm
                    have g1 : ¬ (j : Int) < (j : Int) := by omega
                    have HR : Hid (gDay l = V + mB gy (j - 1) + gd - 1) := by show _ = _; rw [HGV.out, HV.out]
                    generalize mB gy (j - 1) = mb at *
                    clear HGV
                    go_wp2
                    go_ret
                    exact ⟨by rw [HR.out]; rfl, hbw.out⟩
end Go.Proofs.YteaaadccjnmacaaGreatDoor
