/-
  strconv.ParseUint of two bytes at base 16 and 8 bits, by a contract.
-/
import Derived.Test.YteaaadccjnmacaaGreatDoorDayP
import Derived.Test.YteaaadccjnmacaaGreatDoorNumM
import Derived.Lib.ConvBytes
import Derived.Lib.AtoiAllMem
import Derived.Laws.BitsAllLaws
import Derived.Laws.Closers25b
namespace Go.Proofs.YteaaadccjnmacaaGreatDoor
open Go.RowKit

theorem lower_any (c : Int) (w : World) : Calls Tryz.prog 109 #[.int .u8 c] w fun e w' => e = .returned (.int .u8 (bits .or .u8 c 32)) ∧ w' = w := by
  go_enter Tryz.func109, Tryz.ntmps109
  go_wp2
  go_ret
  exact ⟨rfl, rfl⟩
def lowN (n : Nat) : Nat := n ||| 32
theorem low_is (n : Nat) (h : n < 256) : bits .or .u8 (n : Int) 32 = ((lowN n : Nat) : Int) := u8_or_nat n 32 h (by omega)
def clsN (n : Nat) : Bool :=
  if 48 ≤ n ∧ n ≤ 57 then true else if 97 ≤ n ∧ n ≤ 102 then lowN n == n else if 65 ≤ n ∧ n ≤ 70 then lowN n == n + 32
  else (decide (lowN n < 97) || decide (103 ≤ lowN n)) && decide (lowN n < 256)
set_option maxRecDepth 100000 in
theorem cls_all : ∀ n : Fin 256, clsN n.val = true := by decide
/-- what a byte is, as ParseUint sees it -/
theorem hex_cls (n : Nat) (h : n < 256) (v : Nat) (hv : v = (if 48 ≤ n ∧ n ≤ 57 then n - 48 else if 97 ≤ n ∧ n ≤ 102 then n - 87 else if 65 ≤ n ∧ n ≤ 70 then n - 55 else 16)) :
    (48 ≤ n ∧ n ≤ 57 ∧ v = n - 48) ∨ (¬ (48 ≤ n ∧ n ≤ 57) ∧ 97 ≤ lowN n ∧ lowN n ≤ 102 ∧ v = lowN n - 87) ∨ (¬ (48 ≤ n ∧ n ≤ 57) ∧ 103 ≤ lowN n ∧ lowN n ≤ 122 ∧ v = 16) ∨ (¬ (48 ≤ n ∧ n ≤ 57) ∧ lowN n < 97 ∧ v = 16) ∨ (¬ (48 ≤ n ∧ n ≤ 57) ∧ 122 < lowN n ∧ lowN n < 256 ∧ v = 16) := by
  have := cls_all ⟨n, h⟩
  unfold clsN at this
  simp only at this
  subst hv
  split at this
  · rename_i h1
    rw [if_pos h1]
    omega
  · rename_i h1
    rw [if_neg h1]
    split at this
    · rename_i h2
      rw [if_pos h2]
      have e : lowN n = n := by simpa using this
      omega
    · rename_i h2
      rw [if_neg h2]
      split at this
      · rename_i h3
        rw [if_pos h3]
        have e : lowN n = n + 32 := by simpa using this
        omega
      · rename_i h3
        rw [if_neg h3]
        simp at this
        omega
/-- what the inner ParseUint returns for two bytes -/
def uin (a b : UInt8) : Value := if hexV a < 16 ∧ hexV b < 16 then .tuple #[.int .u64 ((hexV a * 16 + hexV b : Nat) : Int), .nilIface] else .tuple #[.int .u64 0, .iface 114 (.int .i64 2)]

set_option maxRecDepth 100000 in
set_option maxHeartbeats 8000000 in
theorem uin_any (s : ByteArray) (a b : UInt8) (w : World) (hs : s.data.toList = [a, b]) : Calls Tryz.prog 96 #[.string s, .int .i64 16, .int .i64 8] w fun e w' => e = .returned (uin a b) ∧ Below w.heap.size w w' := by
  have hsz : s.size = 2 := by have := congrArg List.length hs; simpa using this
  have hszi : (s.size : Int) = 2 := by omega
  have hne : s ≠ ⟨#[]⟩ := fun h => by rw [h] at hsz; cases hsz
  have hemp : s.toList.isEmpty = false := by
    rw [← decide_eq_emptyBytes]
    exact decide_eq_false hne
  have hcv := Lib.run_convert_string_bytes (P := Tryz.prog) w 9 22 5 s (u := .string) Tryz.underlying9 Tryz.underlying22 Tryz.underlying5
  have hb0 := Lib.bytesWorld_cell w 5 s 0 (by omega)
  have hb1 := Lib.bytesWorld_cell w 5 s 1 (by omega)
  rw [hs] at hb0 hb1
  have HB := Lib.hid (Lib.bytesWorld_below w 5 s)
  obtain ⟨W1, hW1⟩ : ∃ W1, W1 = Lib.bytesWorld w 5 s := ⟨_, rfl⟩
  rw [← hW1] at hcv hb0 hb1 HB
  clear hW1
  simp only [List.getD, List.getElem?_cons_zero, List.getElem?_cons_succ, Option.getD_some] at hb0 hb1
  obtain ⟨X, hX⟩ : ∃ X, X = a.toNat := ⟨_, rfl⟩
  obtain ⟨Y, hY⟩ : ∃ Y, Y = b.toNat := ⟨_, rfl⟩
  have hX8 : X < 256 := by rw [hX]; exact a.toNat_lt
  have hY8 : Y < 256 := by rw [hY]; exact b.toNat_lt
  obtain ⟨va, hva⟩ : ∃ v, v = hexV a := ⟨_, rfl⟩
  obtain ⟨vb, hvb⟩ : ∃ v, v = hexV b := ⟨_, rfl⟩
  have cX := hex_cls X hX8 va (by rw [hva, hX]; rfl)
  have cY := hex_cls Y hY8 vb (by rw [hvb, hY]; rfl)
  have lX := low_is X hX8
  have lY := low_is Y hY8
  rw [← hX] at hb0
  rw [← hY] at hb1
  have HR : Hid (uin a b = if va < 16 ∧ vb < 16 then .tuple #[.int .u64 ((va * 16 + vb : Nat) : Int), .nilIface] else .tuple #[.int .u64 0, .iface 114 (.int .i64 2)]) := by show _ = _; unfold uin; rw [← hva, ← hvb]
  have e95 : X = 95 → lowN X = 127 := fun h => by rw [h]; rfl
  have f95 : Y = 95 → lowN Y = 127 := fun h => by rw [h]; rfl
  have HLX : Hid (∀ w1, Calls Tryz.prog 109 #[.int .u8 (X : Int)] w1 fun e w' => e = .returned (.int .u8 ((lowN X : Nat) : Int)) ∧ w' = w1) := fun w1 => by rw [← lX]; exact lower_any _ _
  have HLY : Hid (∀ w1, Calls Tryz.prog 109 #[.int .u8 (Y : Int)] w1 fun e w' => e = .returned (.int .u8 ((lowN Y : Nat) : Int)) ∧ w' = w1) := fun w1 => by rw [← lY]; exact lower_any _ _
  have b9X : lowN X < 256 := Nat.or_lt_two_pow (n := 8) hX8 (by omega)
  have b9Y : lowN Y < 256 := Nat.or_lt_two_pow (n := 8) hY8 (by omega)
  clear lX lY
  generalize lowN X = LX at *
  generalize lowN Y = LY at *
  clear hX hY hva hvb hs hne
  go_enter Tryz.func96, Tryz.ntmps96
  go_wp2_with fail
  go_loop [12, 13, 101] (fun vu vn vi => vu = .bool false ∧ ((vn = .int .u64 0 ∧ vi = .int .i64 0) ∨ (∃ A : Int, vn = .int .u64 A ∧ vi = .int .i64 1 ∧ Hid (A = (va : Int)) ∧ va < 16) ∨ (∃ A : Int, vn = .int .u64 A ∧ vi = .int .i64 2 ∧ Hid (A = ((va * 16 + vb : Nat) : Int)) ∧ va < 16 ∧ vb < 16)))
    (fun _ _ vi => 2 - (intOf vi).toNat)
  case atStart => exact ⟨rfl, .inl ⟨rfl, rfl⟩⟩
  case round =>
    obtain ⟨rfl, hrel⟩ := hrel
    rcases hrel with ⟨rfl, rfl⟩ | ⟨A, rfl, rfl, hA, h16⟩ | ⟨A, rfl, rfl, hA, h16, h17⟩
    · have hX9 : X = 95 → LX = 127 := e95
      rcases cX with ⟨d1, d2, hv⟩ | ⟨nd, l1, l2, hv⟩ | ⟨nd, l1, l2, hv⟩ | ⟨nd, l1, hv⟩ | ⟨nd, l1, l2, hv⟩
      · have i1 : 48 ≤ (X : Int) := by omega
        have i2 : (X : Int) ≤ 57 := by omega
        have i3 : ¬ (X : Int) = 95 := by omega
        have hv16 : va < 16 := by omega
        clear cY e95 f95 hX9 HR
        go_wp2_with fail
        go_round
        case rel => exact ⟨rfl, .inr (.inl ⟨_, rfl, rfl, by show _ = _; omega, hv16⟩)⟩
        case measure => simp [intOf]
      · have i0 : LX ≠ 127 := by omega
        have i3 : ¬ (X : Int) = 95 := fun h => i0 (hX9 (by omega))
        have i4 : 97 ≤ (LX : Int) := by omega
        have i5 : (LX : Int) ≤ 122 := by omega
        have i6 : ¬ 16 ≤ (LX : Int) - 97 + 10 := by omega
        have hv16 : va < 16 := by omega
        rcases (by omega : X < 48 ∨ (48 ≤ X ∧ 57 < X)) with q | ⟨q, q2⟩
        all_goals (
          first
            | (have i7 : ¬ 48 ≤ (X : Int) := by omega)
            | (have i7 : 48 ≤ (X : Int) := by omega
               have i8 : ¬ (X : Int) ≤ 57 := by omega)
          clear cY e95 f95 hX9 HR
          go_wp2_with (go_at_call 109; refine (HLX.out _).mono ?_; rintro e w' ⟨rfl, rfl⟩)
          go_round
          case rel => exact ⟨rfl, .inr (.inl ⟨_, rfl, rfl, by show _ = _; omega, hv16⟩)⟩
          case measure => simp [intOf])
      · have i0 : LX ≠ 127 := by omega
        have i3 : ¬ (X : Int) = 95 := fun h => i0 (hX9 (by omega))
        have i4 : 97 ≤ (LX : Int) := by omega
        have i5 : (LX : Int) ≤ 122 := by omega
        have i6 : 16 ≤ (LX : Int) - 97 + 10 := by omega
        have HV : Hid (uin a b = .tuple #[.int .u64 0, .iface 114 (.int .i64 2)]) := by show _ = _; rw [HR.out, if_neg (by omega)]
        rcases (by omega : X < 48 ∨ (48 ≤ X ∧ 57 < X)) with q | ⟨q, q2⟩
        all_goals (
          first
            | (have i7 : ¬ 48 ≤ (X : Int) := by omega)
            | (have i7 : 48 ≤ (X : Int) := by omega
               have i8 : ¬ (X : Int) ≤ 57 := by omega)
          clear cY e95 f95 hX9 HR
          go_wp2_with (go_at_call 109; refine (HLX.out _).mono ?_; rintro e w' ⟨rfl, rfl⟩)
          go_ret2
          exact ⟨by rw [HV.out]; rfl, HB.out⟩)
      · have i0 : LX ≠ 127 := by omega
        have i3 : ¬ (X : Int) = 95 := fun h => i0 (hX9 (by omega))
        have i4 : ¬ 97 ≤ (LX : Int) := by omega
        have HV : Hid (uin a b = .tuple #[.int .u64 0, .iface 114 (.int .i64 2)]) := by show _ = _; rw [HR.out, if_neg (by omega)]
        rcases (by omega : X < 48 ∨ (48 ≤ X ∧ 57 < X)) with q | ⟨q, q2⟩
        all_goals (
          first
            | (have i7 : ¬ 48 ≤ (X : Int) := by omega)
            | (have i7 : 48 ≤ (X : Int) := by omega
               have i8 : ¬ (X : Int) ≤ 57 := by omega)
          clear cY e95 f95 hX9 HR
          go_wp2_with (go_at_call 109; refine (HLX.out _).mono ?_; rintro e w' ⟨rfl, rfl⟩)
          go_ret2
          exact ⟨by rw [HV.out]; rfl, HB.out⟩)
      · have i4 : 97 ≤ (LX : Int) := by omega
        have i5 : ¬ (LX : Int) ≤ 122 := by omega
        have HV : Hid (uin a b = .tuple #[.int .u64 0, .iface 114 (.int .i64 2)]) := by show _ = _; rw [HR.out, if_neg (by omega)]
        rcases (by omega : X < 48 ∨ (48 ≤ X ∧ 57 < X)) with q | ⟨q, q2⟩
        all_goals (
          first
            | (have i7 : ¬ 48 ≤ (X : Int) := by omega)
            | (have i7 : 48 ≤ (X : Int) := by omega
               have i8 : ¬ (X : Int) ≤ 57 := by omega)
          have i3 : ((X : Int) == 95) = true ∨ ((X : Int) == 95) = false := by cases ((X : Int) == 95) <;> simp
          clear cY e95 f95 hX9 HR
          rcases i3 with i3 | i3
          all_goals (
            go_wp2_with (go_at_call 109; refine (HLX.out _).mono ?_; rintro e w' ⟨rfl, rfl⟩)
            go_ret2
            exact ⟨by rw [HV.out]; rfl, HB.out⟩))
    · have hX9 : Y = 95 → LY = 127 := f95
      rcases cY with ⟨d1, d2, hv⟩ | ⟨nd, l1, l2, hv⟩ | ⟨nd, l1, l2, hv⟩ | ⟨nd, l1, hv⟩ | ⟨nd, l1, l2, hv⟩
      · have i1 : 48 ≤ (Y : Int) := by omega
        have i2 : (Y : Int) ≤ 57 := by omega
        have i3 : ¬ (Y : Int) = 95 := by omega
        have hv16 : vb < 16 := by omega
        have w0 : 0 ≤ A := by have := hA.out; omega
        have w1 : A < 16 := by have := hA.out; omega
        have w2 : ¬ A * 16 + ((Y : Int) - 48) < A * 16 := by omega
        have w3 : ¬ 255 < A * 16 + ((Y : Int) - 48) := by omega
        clear cX e95 f95 hX9 HR
        go_wp2_with fail
        go_round
        case rel => exact ⟨rfl, .inr (.inr ⟨_, rfl, rfl, by show _ = _; have := hA.out; omega, h16, hv16⟩)⟩
        case measure => simp [intOf]
      · have i0 : LY ≠ 127 := by omega
        have i3 : ¬ (Y : Int) = 95 := fun h => i0 (hX9 (by omega))
        have i4 : 97 ≤ (LY : Int) := by omega
        have i5 : (LY : Int) ≤ 122 := by omega
        have i6 : ¬ 16 ≤ (LY : Int) - 97 + 10 := by omega
        have hv16 : vb < 16 := by omega
        have w0 : 0 ≤ A := by have := hA.out; omega
        have w1 : A < 16 := by have := hA.out; omega
        have w2 : ¬ A * 16 + ((LY : Int) - 97 + 10) < A * 16 := by omega
        have w3 : ¬ 255 < A * 16 + ((LY : Int) - 97 + 10) := by omega
        rcases (by omega : Y < 48 ∨ (48 ≤ Y ∧ 57 < Y)) with q | ⟨q, q2⟩
        all_goals (
          first
            | (have i7 : ¬ 48 ≤ (Y : Int) := by omega)
            | (have i7 : 48 ≤ (Y : Int) := by omega
               have i8 : ¬ (Y : Int) ≤ 57 := by omega)
          clear cX e95 f95 hX9 HR
          go_wp2_with (go_at_call 109; refine (HLY.out _).mono ?_; rintro e w' ⟨rfl, rfl⟩)
          go_round
          case rel => exact ⟨rfl, .inr (.inr ⟨_, rfl, rfl, by show _ = _; have := hA.out; omega, h16, hv16⟩)⟩
          case measure => simp [intOf])
      · have i0 : LY ≠ 127 := by omega
        have i3 : ¬ (Y : Int) = 95 := fun h => i0 (hX9 (by omega))
        have i4 : 97 ≤ (LY : Int) := by omega
        have i5 : (LY : Int) ≤ 122 := by omega
        have i6 : 16 ≤ (LY : Int) - 97 + 10 := by omega
        have HV : Hid (uin a b = .tuple #[.int .u64 0, .iface 114 (.int .i64 2)]) := by show _ = _; rw [HR.out, if_neg (by omega)]
        rcases (by omega : Y < 48 ∨ (48 ≤ Y ∧ 57 < Y)) with q | ⟨q, q2⟩
        all_goals (
          first
            | (have i7 : ¬ 48 ≤ (Y : Int) := by omega)
            | (have i7 : 48 ≤ (Y : Int) := by omega
               have i8 : ¬ (Y : Int) ≤ 57 := by omega)
          clear cX e95 f95 hX9 HR
          go_wp2_with (go_at_call 109; refine (HLY.out _).mono ?_; rintro e w' ⟨rfl, rfl⟩)
          go_ret2
          exact ⟨by rw [HV.out]; rfl, HB.out⟩)
      · have i0 : LY ≠ 127 := by omega
        have i3 : ¬ (Y : Int) = 95 := fun h => i0 (hX9 (by omega))
        have i4 : ¬ 97 ≤ (LY : Int) := by omega
        have HV : Hid (uin a b = .tuple #[.int .u64 0, .iface 114 (.int .i64 2)]) := by show _ = _; rw [HR.out, if_neg (by omega)]
        rcases (by omega : Y < 48 ∨ (48 ≤ Y ∧ 57 < Y)) with q | ⟨q, q2⟩
        all_goals (
          first
            | (have i7 : ¬ 48 ≤ (Y : Int) := by omega)
            | (have i7 : 48 ≤ (Y : Int) := by omega
               have i8 : ¬ (Y : Int) ≤ 57 := by omega)
          clear cX e95 f95 hX9 HR
          go_wp2_with (go_at_call 109; refine (HLY.out _).mono ?_; rintro e w' ⟨rfl, rfl⟩)
          go_ret2
          exact ⟨by rw [HV.out]; rfl, HB.out⟩)
      · have i4 : 97 ≤ (LY : Int) := by omega
        have i5 : ¬ (LY : Int) ≤ 122 := by omega
        have HV : Hid (uin a b = .tuple #[.int .u64 0, .iface 114 (.int .i64 2)]) := by show _ = _; rw [HR.out, if_neg (by omega)]
        rcases (by omega : Y < 48 ∨ (48 ≤ Y ∧ 57 < Y)) with q | ⟨q, q2⟩
        all_goals (
          first
            | (have i7 : ¬ 48 ≤ (Y : Int) := by omega)
            | (have i7 : 48 ≤ (Y : Int) := by omega
               have i8 : ¬ (Y : Int) ≤ 57 := by omega)
          have i3 : ((Y : Int) == 95) = true ∨ ((Y : Int) == 95) = false := by cases ((Y : Int) == 95) <;> simp
          clear cX e95 f95 hX9 HR
          rcases i3 with i3 | i3
          all_goals (
            go_wp2_with (go_at_call 109; refine (HLY.out _).mono ?_; rintro e w' ⟨rfl, rfl⟩)
            go_ret2
            exact ⟨by rw [HV.out]; rfl, HB.out⟩))
    · have HV : Hid (uin a b = .tuple #[.int .u64 ((va * 16 + vb : Nat) : Int), .nilIface]) := by show _ = _; rw [HR.out, if_pos ⟨h16, h17⟩]
      clear HR cX cY
      go_wp2_with fail
      go_ret2
      exact ⟨by rw [HV.out, ← hA.out]; rfl, HB.out⟩
end Go.Proofs.YteaaadccjnmacaaGreatDoor
