/-
  The reference's date, by a contract.
-/
import Derived.Test.YteaaadccjnmacaaGreatDoorMonM
namespace Go.Proofs.YteaaadccjnmacaaGreatDoor
open Go.RowKit

set_option maxHeartbeats 2000000 in
theorem Rdate_any (d : Int) (m : Nat) (w : World) (h0 : -1000000 ≤ d) (h1 : d ≤ 1000000) (hm : mStart m ≤ d) (hM : d < mStart (m + 1)) (hmm : m ≤ 80000) : Calls Tryz.prog 31 #[.int .i64 d] w fun e w' => e = .returned (.tuple #[.int .i64 (((m / 12 : Nat) : Int) - 799), .int .i64 ((m % 12 : Nat) + 1 : Int), .int .i64 (d - mStart m + 1)]) ∧ Below w.heap.size w w' := by
  have HLEN : Hid (∀ (q : Nat) (Y : Int), q ≤ 10000 → Y = (q : Int) - 799 → ∃ L : Int, L = mStart (12 * (q + 1)) - mStart (12 * q) ∧ 365 ≤ L ∧ L ≤ 366 ∧ ∀ (w1 : World), Calls Tryz.prog 52 #[.int .i64 Y] w1 fun e w' => e = .returned (.int .i64 L) ∧ w' = w1) := fun q Y hq hY => by
    subst hY
    have h := fun w1 => Rlength_any ((q : Int) - 799) w1 (by omega) (by omega)
    have hn := yStart_next q
    refine ⟨_, rfl, ?_, ?_, ?_⟩
    · rw [hn]; split <;> omega
    · rw [hn]; split <;> omega
    · intro w1
      rw [show mStart (12 * (q + 1)) - mStart (12 * q) = (if lpB ((q : Int) - 799) = true then 366 else 365) by omega]
      exact h w1
  have HMON : Hid (∀ (p k : Nat) (Y V : Int), p ≤ 6000 → k < 12 → Y = (p : Int) - 799 → V = (k : Int) + 1 → ∃ D : Int, D = mStart (12 * p + k + 1) - mStart (12 * p + k) ∧ 28 ≤ D ∧ D ≤ 31 ∧ ∀ (w1 : World), Calls Tryz.prog 53 #[.int .i64 Y, .int .i64 V] w1 fun e w' => e = .returned (.int .i64 D) ∧ Below w1.heap.size w1 w') := fun p k Y V hp hk hY hV => by
    subst hY
    subst hV
    have h := fun w1 => Rmonth_any ((p : Int) - 799) (k + 1) w1 (by omega) (by omega) (by omega) (by omega)
    have hn := mStart_next p k hk
    have hs := mStart_step (12 * p + k)
    refine ⟨_, rfl, by omega, by omega, fun w1 => ?_⟩
    rw [show mStart (12 * p + k + 1) - mStart (12 * p + k) = mdays ((p : Int) - 799) (k + 1) by omega]
    exact h w1
  have hmono := Lib.hid mStart_mono
  have hbot : Hid (mStart 0 = -1011356) := by show _ = _; decide
  go_enter Tryz.func31, Tryz.ntmps31
  go_wp2
  go_loop [0, 5] (fun z y => ∃ (q : Nat) (Y Z : Int), y = .int .i64 Y ∧ z = .int .i64 Z ∧ Hid (Y = (q : Int) - 799) ∧ q ≤ 2769 ∧ Hid (Z = d - mStart (12 * q)) ∧ -1000000 ≤ Z ∧ Z ≤ 1000366)
    (fun _ y => (intOf y + 799).toNat)
  case atStart => exact ⟨2769, 1970, d, rfl, rfl, rfl, Nat.le_refl _, (by show _ = _; rw [yStart_1970]; omega), by omega, by omega⟩
  case round =>
    obtain ⟨q, Y, Z, rfl, rfl, hY, hq, hZ, hz0, hz1⟩ := hrel
    have hYl : -799 ≤ Y ∧ Y ≤ 1970 := by have := hY.out; omega
    by_cases hneg : Z < 0
    · have hpos : 1 ≤ q := by
        rcases Nat.eq_zero_or_pos q with rfl | h
        · have a := hZ.out
          have b := hbot.out
          simp at a
          omega
        · exact h
      obtain ⟨p, rfl⟩ : ∃ p, q = p + 1 := ⟨q - 1, by omega⟩
      obtain ⟨L, hL, hl0, hl1, HC⟩ := HLEN.out p (Y - 1) (by omega) (by have := hY.out; omega)
      have HL := Lib.hid hL
      have HCC := Lib.hid HC
      clear hL HC
      go_wp2_with (go_at_call 52; refine (HCC.out _).mono ?_; rintro e w1 ⟨rfl, rfl⟩)
      go_round
      case rel => exact ⟨p, Y - 1, Z + L, rfl, rfl, (by show _ = _; have := hY.out; omega), by omega, (by show _ = _; have := hZ.out; have := HL.out; omega), by omega, by omega⟩
      case measure => have := hY.out; simp [intOf]; omega
    · go_wp2
      have hq0 : Z = d - mStart (12 * q) := hZ.out
      have hqd : Hid (mStart (12 * q) ≤ d) := by show _ ≤ _; omega
      clear hq0
      go_loop [0, 5] (fun z y => ∃ (p : Nat) (Y2 Z2 : Int), y = .int .i64 Y2 ∧ z = .int .i64 Z2 ∧ Hid (Y2 = (p : Int) - 799) ∧ p ≤ 6000 ∧ Hid (Z2 = d - mStart (12 * p)) ∧ 0 ≤ Z2 ∧ Z2 ≤ 1000366)
        (fun z _ => (intOf z).toNat)
      case atStart => exact ⟨q, Y, Z, rfl, rfl, hY, by omega, hZ, by omega, by omega⟩
      case round =>
        clear hYl hqd hZ hY hq hz0 hz1 hneg
        obtain ⟨p, Y2, Z2, rfl, rfl, hY2, hp, hZ2, hz20, hz21⟩ := hrel
        have hYl : -799 ≤ Y2 ∧ Y2 ≤ 10000 := by have := hY2.out; omega
        obtain ⟨L, hL, hl0, hl1, HC⟩ := HLEN.out p Y2 (by omega) hY2.out
        have HL := Lib.hid hL
        have HCC := Lib.hid HC
        clear hL HC
        by_cases hge : L ≤ Z2
        · go_wp2_with (go_at_call 52; refine (HCC.out _).mono ?_; rintro e w1 ⟨rfl, rfl⟩)
          go_round
          case rel =>
            have hlt : p < 5999 := by
              have a := hmono.out 0 (12 * p) (by omega)
              have b := hbot.out
              have c := hZ2.out
              omega
            exact ⟨p + 1, Y2 + 1, Z2 - L, rfl, rfl, (by show _ = _; have := hY2.out; omega), by omega, (by show _ = _; have := hZ2.out; have := HL.out; omega), by omega, by omega⟩
          case measure => simp [intOf]; omega
        · have hd2 : Hid (mStart (12 * p) ≤ d ∧ d < mStart (12 * (p + 1))) := by
            show _ ∧ _
            have a := hZ2.out
            have b := HL.out
            omega
          go_wp2_with (go_at_call 52; refine (HCC.out _).mono ?_; rintro e w1 ⟨rfl, rfl⟩)
          go_loopw [0, 6] (fun z v wr => ∃ (k : Nat) (V Z3 : Int), v = .int .i64 V ∧ z = .int .i64 Z3 ∧ Hid (V = (k : Int) + 1) ∧ k < 12 ∧ Hid (Z3 = d - mStart (12 * p + k)) ∧ 0 ≤ Z3 ∧ Z3 ≤ 1000366 ∧ Hid (Below w1.heap.size w1 wr))
            (fun z _ _ => (intOf z).toNat)
          case atStart => exact ⟨0, 1, Z2, rfl, rfl, rfl, by omega, hZ2, hz20, hz21, Below.refl _ _⟩
          case round =>
            clear HL HCC hl0 hl1 hge hZ2 hz20 hz21
            obtain ⟨k, V, Z3, rfl, rfl, hV, hk, hZ3, hz30, hz31, HB⟩ := hrel
            have hVl : 1 ≤ V ∧ V ≤ 12 := by have := hV.out; omega
            obtain ⟨D, hD, hD0, hD1, HC⟩ := HMON.out p k Y2 V hp hk hY2.out hV.out
            have HD := Lib.hid hD
            have HCC := Lib.hid HC
            clear hD HC
            by_cases hge : D ≤ Z3
            · go_wp2_with (go_at_call 53; refine (HCC.out _).mono ?_; rintro e w2 ⟨rfl, hb2⟩; have HB := Lib.hid (HB.out.trans (hb2.mono HB.out.size)); clear hb2)
              go_roundw
              case rel =>
                have hlt : k < 11 := by
                  have a := hZ3.out
                  have b := HD.out
                  have c := hd2.out.2
                  rcases (by omega : k < 11 ∨ k = 11) with h | h
                  · exact h
                  · subst h
                    rw [show 12 * (p + 1) = 12 * p + 11 + 1 by omega] at c
                    omega
                exact ⟨k + 1, V + 1, Z3 - D, rfl, rfl, (by show _ = _; have := hV.out; omega), by omega, (by show _ = _; have a := hZ3.out; have b := HD.out; rw [← Nat.add_assoc]; omega), by omega, by omega, HB⟩
              case measure => simp [intOf]; omega
            · have hmk : m = 12 * p + k := by
                have a := hZ3.out
                have b := HD.out
                rcases (by omega : m < 12 * p + k ∨ m = 12 * p + k ∨ 12 * p + k < m) with h | h | h
                · have c := hmono.out (m + 1) (12 * p + k) (by omega)
                  omega
                · exact h
                · have c := hmono.out (12 * p + k + 1) m (by omega)
                  omega
              go_wp2_with (go_at_call 53; refine (HCC.out _).mono ?_; rintro e w2 ⟨rfl, hb2⟩; have HB := Lib.hid (HB.out.trans (hb2.mono HB.out.size)); clear hb2)
              have e1 : ((m / 12 : Nat) : Int) - 799 = Y2 := by have := hY2.out; omega
              have e2 : ((m % 12 : Nat) : Int) + 1 = V := by have := hV.out; omega
              have e3 : d - mStart m = Z3 := by rw [hmk]; exact hZ3.out.symm
              rw [e1, e2, e3]
              clear e1 e2 e3
              refine bodyPost_ret (v := .tuple #[.int .i64 Y2, .int .i64 V, .int .i64 (Z3 + 1)]) (by simp [results, Tryz.results31, go_sem]) rfl ?_
              exact ⟨rfl, HB.out⟩
end Go.Proofs.YteaaadccjnmacaaGreatDoor
