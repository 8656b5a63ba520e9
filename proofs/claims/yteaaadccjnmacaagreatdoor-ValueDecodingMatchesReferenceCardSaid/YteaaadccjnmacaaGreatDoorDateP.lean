/-
  The program's padded and dateOf, by contracts.
-/
import Derived.Test.YteaaadccjnmacaaGreatDoorDayP
import Derived.Lib.ItoaNum
namespace Go.Proofs.YteaaadccjnmacaaGreatDoor
open Go.RowKit

def str (l : List UInt8) : ByteArray := ⟨l.toArray⟩
theorem str_data (l : List UInt8) : (str l).data.toList = l := by simp [str]
theorem str_app (a b : List UInt8) : str a ++ str b = str (a ++ b) := by
  have h := Lib.mk_data (str a ++ str b)
  rw [Joins.data_append, str_data, str_data] at h
  exact h.symm
theorem str_size (l : List UInt8) : (str l).size = l.length := by simp [str, ByteArray.size]
theorem str_of (s : ByteArray) : str s.data.toList = s := Lib.mk_data s
theorem str_inj {a b : List UInt8} (h : str a = str b) : a = b := by
  have := congrArg (fun s : ByteArray => s.data.toList) h
  simpa [str] using this
theorem dd_len : ∀ (k n : Nat), n < 10 ^ (k + 1) → (Lib.decDigits n).length ≤ k + 1
  | k, n, h => by
    rw [Lib.decDigits]
    split
    · simp
    · cases k with
      | zero => simp at h; omega
      | succ k =>
        have := dd_len k (n / 10) (by rw [Nat.pow_succ] at h; omega)
        simp
        omega
/-- a number in at least k digits -/
def padL (n k : Nat) : List UInt8 := Lib.repeatL [48] (k - (Lib.decDigits n).length) ++ Lib.decDigits n
theorem padL_len (n k : Nat) (h : (Lib.decDigits n).length ≤ k) : (padL n k).length = k := by
  unfold padL
  rw [List.length_append, Lib.repeatL_length]
  simp
  omega
theorem padded_any (n k : Nat) (w : World) (hG : Glob5 w) (hn : n ≤ 100000) (hk : (Lib.decDigits n).length ≤ k) (hk2 : k ≤ 100) :
    Calls Tryz.prog 50 #[.int .i64 (n : Int), .int .i64 (k : Int)] w fun e w' => e = .returned (.string (str (padL n k))) ∧ Below w.heap.size w w' := by
  obtain ⟨L, hL⟩ : ∃ L, L = (Lib.decDigits n).length := ⟨_, rfl⟩
  have HI : Hid (Calls Tryz.prog 68 #[.int .i64 (n : Int)] w fun e w' => e = .returned (.string (str (Lib.decDigits n))) ∧ Below w.heap.size w w') := by
    refine (Tryz.strconv_Itoa (n : Int) (by omega) (by omega) w hG.tab).mono ?_
    rintro e w' ⟨rfl, q, os, rfl⟩
    refine ⟨?_, below_gr w q os⟩
    unfold Lib.itoa str
    rw [if_neg (by omega), Int.toNat_natCast]
  have HR : Hid (∀ w1, Calls Tryz.prog 69 #[.string ⟨#[48]⟩, .int .i64 ((k : Int) - (L : Int))] w1 fun e w' => e = .returned (.string (str (Lib.repeatL [48] (k - L)))) ∧ Below w1.heap.size w1 w') := fun w1 => by
    have h := Tryz.strings_Repeat ⟨#[48]⟩ (k - L) w1 (by omega) (by show 1 * _ ≤ _; omega)
    have e : ((k - L : Nat) : Int) = (k : Int) - (L : Int) := by omega
    rw [e] at h
    exact h
  have hs : Hid ((str (Lib.decDigits n)).size = L) := by show _ = _; rw [str_size, hL]
  have HP : Hid (str (Lib.repeatL [48] (k - L)) ++ str (Lib.decDigits n) = str (padL n k)) := by show _ = _; rw [str_app]; unfold padL; rw [hL]
  rw [← hL] at hk
  have hs2 := hs.out
  have hs3 : ¬ 9223372036854775807 < (str (Lib.repeatL [48] (k - L))).size + L := by rw [str_size, Lib.repeatL_length]; simp; omega
  clear hG hL
  generalize str (padL n k) = s3 at *
  generalize str (Lib.decDigits n) = s1 at *
  generalize str (Lib.repeatL [48] (k - L)) = s2 at *
  go_enter Tryz.func50, Tryz.ntmps50
  go_wp2_with (first
    | (go_at_call 68; refine HI.out.mono ?_; rintro e w1 ⟨rfl, hb1⟩; have HB1 := Lib.hid hb1; clear hb1)
    | (go_at_call 69; refine (HR.out _).mono ?_; rintro e w2 ⟨rfl, hb2⟩; have HB2 := Lib.hid hb2; clear hb2))
  go_ret
  exact ⟨by rw [← HP.out]; rfl, HB1.out.trans (HB2.out.mono HB1.out.size)⟩
/-- the notation of a day -/
def dateL (d : Int) : List UInt8 :=
  (if ((monOf d / 12 : Nat) : Int) - 799 < 0 then [45] else []) ++ padL (((monOf d / 12 : Nat) : Int) - 799).natAbs 4 ++ [45] ++ padL (monOf d % 12 + 1) 2 ++ [45] ++ padL (d - mStart (monOf d) + 1).toNat 2
theorem date_parts (d : Int) (h0 : -1000000 ≤ d) (h1 : d ≤ 1000000) :
    -799 ≤ ((monOf d / 12 : Nat) : Int) - 799 ∧ ((monOf d / 12 : Nat) : Int) - 799 ≤ 4799 ∧ 1 ≤ d - mStart (monOf d) + 1 ∧ d - mStart (monOf d) + 1 ≤ 31 := by
  obtain ⟨k1, k2, k3⟩ := monOf_at d h0 h1
  have := (mStart_step (monOf d)).2
  omega
theorem Glob5.dr {w : World} (h : Glob5 w) : Glob5 w.drew := h.up ((Below.refl _ _).drew)
theorem cell_dr {w : World} {p : Addr} {v : Value} (h : w.cell? p = some v) : w.drew.cell? p = some v := h
def DY (B : Nat) (d : Int) (w : World) : Prop := w.cell? ⟨B, 0, none⟩ = some (.int .i64 d) ∧ Glob5 w
theorem DY.up {B : Nat} {d : Int} {w w' : World} (h : DY B d w) (hb : Below w.heap.size w w') : DY B d w' :=
  ⟨(hb.cell (p := ⟨B, 0, none⟩) (World.block_lt_of_cell? w _ h.1)).trans h.1, h.2.up hb⟩
theorem DY.dr {B : Nat} {d : Int} {w : World} (h : DY B d w) : DY B d w.drew := h.up ((Below.refl _ _).drew)
set_option maxHeartbeats 2000000 in
theorem dateOf_any (d : Int) (w : World) (hG : Glob5 w) (h0 : -1000000 ≤ d) (h1 : d ≤ 1000000) :
    Calls Tryz.prog 28 #[.int .i64 d] w fun e w' => e = .returned (.string (str (dateL d))) ∧ Below w.heap.size w w' := by
  obtain ⟨p1, p2, p3, p4⟩ := date_parts d h0 h1
  obtain ⟨-, -, q3⟩ := monOf_at d h0 h1
  obtain ⟨m, hm⟩ : ∃ m, m = monOf d := ⟨_, rfl⟩
  rw [← hm] at p1 p2 p3 p4 q3
  have hbd := mStart_bd m (by omega)
  obtain ⟨z, hz⟩ : ∃ z, z = mStart m := ⟨_, rfl⟩
  rw [← hz] at p3 p4 hbd
  obtain ⟨D, hD⟩ : ∃ D : Nat, (D : Int) = d - z + 1 := ⟨(d - z + 1).toNat, by omega⟩
  obtain ⟨Y, hY⟩ : ∃ Y : Nat, Y = (((m / 12 : Nat) : Int) - 799).natAbs := ⟨_, rfl⟩
  obtain ⟨sY, hsY⟩ : ∃ s, s = str (padL Y 4) := ⟨_, rfl⟩
  obtain ⟨sM, hsM⟩ : ∃ s, s = str (padL (m % 12 + 1) 2) := ⟨_, rfl⟩
  obtain ⟨sD, hsD⟩ : ∃ s, s = str (padL D 2) := ⟨_, rfl⟩
  have zY : sY.size = 4 := by rw [hsY, str_size, padL_len]; exact dd_len 3 Y (by omega)
  have zM : sM.size = 2 := by rw [hsM, str_size, padL_len]; exact dd_len 1 _ (by omega)
  have zD : sD.size = 2 := by rw [hsD, str_size, padL_len]; exact dd_len 1 _ (by omega)
  have HY : Hid (∀ w1 (y : Int), y = (Y : Int) → Glob5 w1 → Calls Tryz.prog 50 #[.int .i64 y, .int .i64 4] w1 fun e w' => e = .returned (.string sY) ∧ Below w1.heap.size w1 w') := fun w1 y hy h => by
    rw [hsY, hy]; exact padded_any Y 4 w1 h (by omega) (dd_len 3 Y (by omega)) (by omega)
  have HM : Hid (∀ w1, Glob5 w1 → Calls Tryz.prog 50 #[.int .i64 ((m : Int) % 12 + 1), .int .i64 2] w1 fun e w' => e = .returned (.string sM) ∧ Below w1.heap.size w1 w') := fun w1 h => by
    rw [hsM]; exact padded_any (m % 12 + 1) 2 w1 h (by omega) (dd_len 1 _ (by omega)) (by omega)
  have HD : Hid (∀ w1, Glob5 w1 → Calls Tryz.prog 50 #[.int .i64 (d - z + 1), .int .i64 2] w1 fun e w' => e = .returned (.string sD) ∧ Below w1.heap.size w1 w') := fun w1 h => by
    rw [hsD, ← hD]; exact padded_any D 2 w1 h (by omega) (dd_len 1 _ (by omega)) (by omega)
  have HS : Hid (∀ w1, Glob5 w1 → Calls Tryz.prog 49 #[.int .i64 (m : Int)] w1 fun e w' => e = .returned (.int .i64 z) ∧ w' = w1) := fun w1 h => by
    rw [hz]; exact monthStart_any m w1 h (by omega)
  have HF : Hid (∀ w1, Glob5 w1 → w1.cell? ⟨w.heap.size, 0, none⟩ = some (.int .i64 d) → Calls Tryz.prog 47 #[.int .i64 67188, .func (.func 48) #[] #[.pointer (some ⟨w.heap.size, 0, none⟩)]] w1 fun e w' => e = .returned (.int .i64 (m : Int)) ∧ Below w1.heap.size w1 w') := fun w1 h hc => by
    rw [hm]; exact search_any 67188 w.heap.size d w1 rfl h hc
  have HL : Hid (dateL d = (if ((m / 12 : Nat) : Int) - 799 < 0 then [45] else []) ++ padL Y 4 ++ [45] ++ padL (m % 12 + 1) 2 ++ [45] ++ padL D 2) := by
    show _ = _
    unfold dateL
    rw [← hm, ← hz, ← hY]
    have : (d - z + 1).toNat = D := by omega
    rw [this]
  have HsY := Lib.hid hsY
  have HsM := Lib.hid hsM
  have HsD := Lib.hid hsD
  have HG := Lib.hid hG
  have HG1 := Lib.hid (hG.up (val_al w (.cells #[.int .i64 d] 2)))
  have e12 : ((m / 12 : Nat) : Int) = (m : Int) / 12 := by omega
  rw [e12] at p1 p2 hY HL
  by_cases hneg : (m : Int) / 12 - 799 < 0
  · have hyy : Hid ((Y : Int) = 799 - (m : Int) / 12) := by show _ = _; omega
    have i1 : -799 + (m : Int) / 12 < 0 := by omega
    have t1 : (m : Int).tmod 12 = (m : Int) % 12 := Int.tmod_eq_emod_of_nonneg (by omega)
    have v1 : IntKind.i64.wrap ((m : Int) % 12) = (m : Int) % 12 := IntWalk.i64_in _ (by omega)
    have v2 : IntKind.i64.wrap ((m : Int) % 12 + 1) = (m : Int) % 12 + 1 := IntWalk.i64_in _ (by omega)
    have v3 : IntKind.i64.wrap (d - z) = d - z := IntWalk.i64_in _ (by omega)
    have v4 : IntKind.i64.wrap (d - z + 1) = d - z + 1 := IntWalk.i64_in _ (by omega)
    clear hG hsY hsM hsD hz hm hY hD p3 p4 hbd
    go_enter Tryz.func28, Tryz.ntmps28
    go_wp2_with ((with_reducible show Calls _ 47 _ _ _); refine (HF.out _ HG1.out (by simp)).mono ?_; rintro e w1 ⟨rfl, hb1⟩; have S1 : Hid (DY w.heap.size d w1) := (DY.up ⟨by simp, HG1.out⟩ hb1); have HB1 : Hid (Below w.heap.size w w1) := (val_al _ _).trans (hb1.mono (by simp)); have c1 := S1.out.1; clear hb1)
    clear HF
    have g1 : w1.cell? ⟨w.heap.size, 0, none⟩ = some (.int .i64 d) := c1
    clear c1
    go_region_held3 (fun w' => w'.cell? ⟨w.heap.size, 0, none⟩ = some (.int .i64 d))
      (first | exact g1 | exact g2 | exact g3 | exact g4)
      (first
        | ((with_reducible show Calls _ 50 #[_, .int .i64 4] _ _); refine (HY.out _ _ (by have := hyy.out; omega) (by first | exact S1.out.2 | exact S1.out.2.dr)).mono ?_; rintro e w2 ⟨rfl, hb2⟩; have S2 : Hid (DY w.heap.size d w2) := (by first | exact S1.out.up hb2 | exact S1.out.dr.up hb2); have HB2 : Hid (Below w.heap.size w w2) := (by first | exact HB1.out.trans (hb2.mono HB1.out.size) | exact HB1.out.drew.trans (hb2.mono HB1.out.size)); have g2 := S2.out.1; clear hb2)
        | ((with_reducible show Calls _ 50 #[.int .i64 ((m : Int) % 12 + 1), _] _ _); refine (HM.out _ (by first | exact S2.out.2 | exact S2.out.2.dr)).mono ?_; rintro e w3 ⟨rfl, hb3⟩; have S3 : Hid (DY w.heap.size d w3) := (by first | exact S2.out.up hb3 | exact S2.out.dr.up hb3); have HB3 : Hid (Below w.heap.size w w3) := (by first | exact HB2.out.trans (hb3.mono HB2.out.size) | exact HB2.out.drew.trans (hb3.mono HB2.out.size)); have g3 := S3.out.1; clear hb3)
        | (go_at_call 49; refine (HS.out _ (by first | exact S3.out.2 | exact S3.out.2.dr)).mono ?_; rintro e w' ⟨rfl, rfl⟩)
        | ((with_reducible show Calls _ 50 _ _ _); refine (HD.out _ (by first | exact S3.out.2 | exact S3.out.2.dr)).mono ?_; rintro e w4 ⟨rfl, hb4⟩; have S4 : Hid (DY w.heap.size d w4) := (by first | exact S3.out.up hb4 | exact S3.out.dr.up hb4); have HB4 : Hid (Below w.heap.size w w4) := (by first | exact HB3.out.trans (hb4.mono HB3.out.size) | exact HB3.out.drew.trans (hb4.mono HB3.out.size)); have g4 := S4.out.1; clear hb4))
    go_wp2_with fail
    go_ret
    refine ⟨?_, HB4.out⟩
    show Ending.returned (.string (str [45] ++ sY ++ str [45] ++ sM ++ str [45] ++ sD)) = _
    rw [HL.out, if_pos hneg, HsY.out, HsM.out, HsD.out, str_app, str_app, str_app, str_app, str_app]
  · have hyy : Hid ((Y : Int) = (m : Int) / 12 - 799) := by show _ = _; omega
    have i1 : ¬ -799 + (m : Int) / 12 < 0 := by omega
    have t1 : (m : Int).tmod 12 = (m : Int) % 12 := Int.tmod_eq_emod_of_nonneg (by omega)
    have v1 : IntKind.i64.wrap ((m : Int) % 12) = (m : Int) % 12 := IntWalk.i64_in _ (by omega)
    have v2 : IntKind.i64.wrap ((m : Int) % 12 + 1) = (m : Int) % 12 + 1 := IntWalk.i64_in _ (by omega)
    have v3 : IntKind.i64.wrap (d - z) = d - z := IntWalk.i64_in _ (by omega)
    have v4 : IntKind.i64.wrap (d - z + 1) = d - z + 1 := IntWalk.i64_in _ (by omega)
    clear hG hsY hsM hsD hz hm hY hD p3 p4 hbd
    go_enter Tryz.func28, Tryz.ntmps28
    go_wp2_with ((with_reducible show Calls _ 47 _ _ _); refine (HF.out _ HG1.out (by simp)).mono ?_; rintro e w1 ⟨rfl, hb1⟩; have S1 : Hid (DY w.heap.size d w1) := (DY.up ⟨by simp, HG1.out⟩ hb1); have HB1 : Hid (Below w.heap.size w w1) := (val_al _ _).trans (hb1.mono (by simp)); have c1 := S1.out.1; clear hb1)
    clear HF
    have g1 : w1.cell? ⟨w.heap.size, 0, none⟩ = some (.int .i64 d) := c1
    clear c1
    go_region_held3 (fun w' => w'.cell? ⟨w.heap.size, 0, none⟩ = some (.int .i64 d))
      (first | exact g1 | exact g2 | exact g3 | exact g4)
      (first
        | ((with_reducible show Calls _ 50 #[_, .int .i64 4] _ _); refine (HY.out _ _ (by have := hyy.out; omega) (by first | exact S1.out.2 | exact S1.out.2.dr)).mono ?_; rintro e w2 ⟨rfl, hb2⟩; have S2 : Hid (DY w.heap.size d w2) := (by first | exact S1.out.up hb2 | exact S1.out.dr.up hb2); have HB2 : Hid (Below w.heap.size w w2) := (by first | exact HB1.out.trans (hb2.mono HB1.out.size) | exact HB1.out.drew.trans (hb2.mono HB1.out.size)); have g2 := S2.out.1; clear hb2)
        | ((with_reducible show Calls _ 50 #[.int .i64 ((m : Int) % 12 + 1), _] _ _); refine (HM.out _ (by first | exact S2.out.2 | exact S2.out.2.dr)).mono ?_; rintro e w3 ⟨rfl, hb3⟩; have S3 : Hid (DY w.heap.size d w3) := (by first | exact S2.out.up hb3 | exact S2.out.dr.up hb3); have HB3 : Hid (Below w.heap.size w w3) := (by first | exact HB2.out.trans (hb3.mono HB2.out.size) | exact HB2.out.drew.trans (hb3.mono HB2.out.size)); have g3 := S3.out.1; clear hb3)
        | (go_at_call 49; refine (HS.out _ (by first | exact S3.out.2 | exact S3.out.2.dr)).mono ?_; rintro e w' ⟨rfl, rfl⟩)
        | ((with_reducible show Calls _ 50 _ _ _); refine (HD.out _ (by first | exact S3.out.2 | exact S3.out.2.dr)).mono ?_; rintro e w4 ⟨rfl, hb4⟩; have S4 : Hid (DY w.heap.size d w4) := (by first | exact S3.out.up hb4 | exact S3.out.dr.up hb4); have HB4 : Hid (Below w.heap.size w w4) := (by first | exact HB3.out.trans (hb4.mono HB3.out.size) | exact HB3.out.drew.trans (hb4.mono HB3.out.size)); have g4 := S4.out.1; clear hb4))
    go_wp2_with fail
    go_ret
    refine ⟨?_, HB4.out⟩
    show Ending.returned (.string (str [] ++ sY ++ str [45] ++ sM ++ str [45] ++ sD)) = _
    rw [HL.out, if_neg (by omega), HsY.out, HsM.out, HsD.out, str_app, str_app, str_app, str_app, str_app]
end Go.Proofs.YteaaadccjnmacaaGreatDoor
