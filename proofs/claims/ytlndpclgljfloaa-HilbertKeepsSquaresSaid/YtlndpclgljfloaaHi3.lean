/-
  The program's Index at other orders and points, and Point: by contracts.
-/
import Derived.Test.YtlndpclgljfloaaHi2
namespace Go.Proofs.Ytlndpclgljfloaa
open Go.RowKit

/-- what Index answers -/
def ixV (K : Int) (x y : Nat) : Nat := if isOB K && decide (x < 2 ^ K.toNat) && decide (y < 2 ^ K.toNat) then Hb.hI K.toNat x y else 0
def ixE (K : Int) (x y : Nat) : Int := if isOB K && decide (x < 2 ^ K.toNat) && decide (y < 2 ^ K.toNat) then 0 else 1
theorem ix_bad {K : Int} {x y : Nat} (h : (isOB K && decide (x < 2 ^ K.toNat) && decide (y < 2 ^ K.toNat)) = false) : ixV K x y = 0 ∧ ixE K x y = 1 := by
  unfold ixV ixE
  rw [h]
  exact ⟨rfl, rfl⟩
theorem ob_nat {K : Int} (h : isOB K = true) : ∃ k : Nat, K = (k : Int) ∧ 1 ≤ k ∧ k ≤ 16 := by
  have := of_decide_eq_true h
  exact ⟨K.toNat, by omega, by omega, by omega⟩
set_option maxHeartbeats 2000000 in
theorem Index_any (K : Int) (x y : Nat) (w : World) :
    Calls Try.prog 11 #[.int .i64 K, .int .u32 x, .int .u32 y] w fun e w' => e = .returned (.tuple #[.int .u64 (ixV K x y : Nat), .int .i64 (ixE K x y)]) ∧ Below w.heap.size w w' := by
  cases h0 : isOB K with
  | false =>
    obtain ⟨e1, e2⟩ := ix_bad (K := K) (x := x) (y := y) (by rw [h0]; rfl)
    have J0 := Li h0
    rw [e1, e2]
    clear h0 e1 e2
    go_enter Try.func11, Try.ntmps11
    go_wp2_with (go_at_call 26; refine (isOrder_any _ _).mono ?_; rintro e w1 ⟨rfl, hw1⟩; subst w1; rw [J0.out])
    go_ret2
    exact ⟨rfl, Below.refl _ _⟩
  | true =>
    obtain ⟨k, rfl, hk1, hk2⟩ := ob_nat h0
    have J0 := Li h0
    cases h1 : decide (x < 2 ^ k) with
    | false =>
      obtain ⟨e1, e2⟩ := ix_bad (K := (k : Int)) (x := x) (y := y) (by rw [Int.toNat_natCast, h1, Bool.and_false]; rfl)
      have J1 := Li h1
      rw [e1, e2]
      clear h0 h1 e1 e2
      go_enter Try.func11, Try.ntmps11
      go_wp2_with (first
        | (go_at_call 26; refine (isOrder_any _ _).mono ?_; rintro e w1 ⟨rfl, hw1⟩; subst w1; rw [J0.out])
        | (go_at_call 27; refine (isCoord_any x k _ (by omega)).mono ?_; rintro e w1 ⟨rfl, hw1⟩; subst w1; rw [J1.out]))
      go_ret2
      exact ⟨rfl, Below.refl _ _⟩
    | true =>
      have J1 := Li h1
      cases h2 : decide (y < 2 ^ k) with
      | false =>
        obtain ⟨e1, e2⟩ := ix_bad (K := (k : Int)) (x := x) (y := y) (by rw [Int.toNat_natCast, h2, Bool.and_false])
        have J2 := Li h2
        rw [e1, e2]
        clear h0 h1 h2 e1 e2
        go_enter Try.func11, Try.ntmps11
        go_wp2_with (first
          | (go_at_call 26; refine (isOrder_any _ _).mono ?_; rintro e w1 ⟨rfl, hw1⟩; subst w1; rw [J0.out])
          | (go_at_call 27; refine (isCoord_any x k _ (by omega)).mono ?_; rintro e w1 ⟨rfl, hw1⟩; subst w1; rw [J1.out])
          | (go_at_call 27; refine (isCoord_any y k _ (by omega)).mono ?_; rintro e w1 ⟨rfl, hw1⟩; subst w1; rw [J2.out]))
        go_ret2
        exact ⟨rfl, Below.refl _ _⟩
      | true =>
        have hb : (isOB (k : Int) && decide (x < 2 ^ (k : Int).toNat) && decide (y < 2 ^ (k : Int).toNat)) = true := by rw [h0, Int.toNat_natCast, h1, h2]; rfl
        have e1 : ixV (k : Int) x y = Hb.hI k x y := by unfold ixV; rw [hb, Int.toNat_natCast]; rfl
        have e2 : ixE (k : Int) x y = 0 := by unfold ixE; rw [hb]; rfl
        rw [e1, e2]
        exact Index_ok k x y w ⟨hk1, hk2⟩ (of_decide_eq_true h1) (of_decide_eq_true h2)
/-- what Point answers -/
def ptB (K : Int) (i : Nat) : Bool := isOB K && decide (i < 2 ^ K.toNat * 2 ^ K.toNat)
structure PtI (w : World) (N k t x y i : Nat) (wr : World) : Prop where
  b : Below w.heap.size w wr
  c : CB wr (w.heap.size + 1) 67 QS
  p : (x, y) = Hb.hP t (N % (2 ^ t * 2 ^ t))
  i : i = N / (2 ^ t * 2 ^ t)
  t : t ≤ k
theorem pt_step {N t x y i : Nat} (hp : (x, y) = Hb.hP t (N % (2 ^ t * 2 ^ t))) (hi : i = N / (2 ^ t * 2 ^ t)) : Hb.lv (2 ^ t) (i % 4) (x, y) = Hb.hP (t + 1) (N % (2 ^ (t + 1) * 2 ^ (t + 1))) ∧ i / 4 = N / (2 ^ (t + 1) * 2 ^ (t + 1)) := by
  have e : 2 ^ (t + 1) * 2 ^ (t + 1) = 2 ^ t * 2 ^ t * 4 := by rw [Hb.sq, Nat.mul_comm]
  rw [e, hi, hp, Nat.div_div_eq_div_mul]
  refine ⟨?_, rfl⟩
  rw [Hb.hP, Nat.mod_mul_right_div_self, Nat.mod_mul_right_mod]
theorem hP_ltm {i t : Nat} : (Hb.hP t (i % (2 ^ t * 2 ^ t))).1 < 2 ^ t ∧ (Hb.hP t (i % (2 ^ t * 2 ^ t))).2 < 2 ^ t :=
  Hb.hP_lt t _ (Nat.mod_lt _ (Nat.mul_pos (Nat.two_pow_pos t) (Nat.two_pow_pos t)))
theorem pow_two_lt {k t : Nat} (h : t < k) : 2 ^ t * 2 ≤ 2 ^ k := by rw [← Nat.pow_succ]; exact Nat.pow_le_pow_right (by decide) h
theorem shiftB (i k : Nat) : ((i : Int) / 2 ^ (2 * k) != 0) = !decide (i < 2 ^ k * 2 ^ k) := by
  have e : (i : Int) / 2 ^ (2 * k) = ((i / (2 ^ k * 2 ^ k) : Nat) : Int) := by
    rw [← Nat.pow_add, ← Nat.two_mul]; push_cast; rfl
  have hp : 0 < 2 ^ k * 2 ^ k := Nat.mul_pos (Nat.two_pow_pos k) (Nat.two_pow_pos k)
  rw [e]
  by_cases h : i < 2 ^ k * 2 ^ k
  · rw [decide_eq_true h, Nat.div_eq_of_lt h]; rfl
  · rw [decide_eq_false h]
    have : 0 < i / (2 ^ k * 2 ^ k) := Nat.div_pos (by omega) hp
    exact bne_iff_ne.2 (by omega)
set_option maxHeartbeats 4000000 in
set_option maxRecDepth 20000 in
theorem Point_ok (k i : Nat) (w : World) (hk : 1 ≤ k ∧ k ≤ 16) (hi : i < 2 ^ k * 2 ^ k) :
    Calls Try.prog 13 #[.int .i64 k, .int .u64 i] w fun e w' => e = .returned (.tuple #[.int .u32 (Hb.hP k i).1, .int .u32 (Hb.hP k i).2, .int .i64 0]) ∧ Below w.heap.size w w' := by
  have j0 : isOB (k : Int) = true := decide_eq_true (by omega)
  have J0 := Li j0
  have HI := Li hi
  have B2 := Li (al2 w (.cells QS.toArray 67) (.cells ZS.toArray 67))
  have hk1 : (1 : Int) ≤ (k : Int) := by omega
  have hk2 : (k : Int) ≤ 16 := by omega
  have hsh : ((i : Int) / 2 ^ (2 * k) != 0) = false := by rw [shiftB, decide_eq_true hi]; rfl
  obtain ⟨T, hT⟩ : ∃ T, T = 2 ^ k := ⟨_, rfl⟩
  have HT := Li hT
  have HT16 := Li (show T ≤ 65536 by rw [hT]; exact Nat.pow_le_pow_right (n := 2) (by decide) hk.2)
  have hpm : (2 : Int) ^ k % 4294967296 = (T : Int) := by rw [hT]; exact pow_mod (by omega)
  have HI32 := Li (show i < 4294967296 by
    have h2 : 2 ^ k ≤ 2 ^ 16 := Nat.pow_le_pow_right (by decide) hk.2
    have h3 : 2 ^ k * 2 ^ k ≤ 2 ^ 16 * 2 ^ 16 := Nat.mul_le_mul h2 h2
    omega)
  clear hi j0 hT
  go_enter Try.func13, Try.ntmps13
  go_wp2_with (first
    | (go_at_call 26; refine (isOrder_any _ _).mono ?_; rintro e w1 ⟨rfl, hw1⟩; subst w1; rw [J0.out])
    | (go_at_call 28; refine (quadrants_any _).mono ?_; rintro e w1 ⟨rfl, hw1⟩; subst w1)
    | ((with_reducible show wpList _ _ _ (Oper.mk none (.store _ _ _) _ _ _ _ :: _) _ _); refine wpList_store_cb rfl 67 (.tmp 7) (.tmp 21) rfl (w.heap.size + 1) QS rfl rfl 67 ZS 16 (CB.new1 w (.cells QS.toArray 67) 67 ZS) info67 rfl rfl QS_one ?_; intro w3 hc3 hg3 hz3; have C3 := Li hc3; have B3 := Li (below_grown B2.out hg3 (by simp; omega) (by omega)); clear hc3 hg3 hz3))
  go_loopw [1, 8, 9, 10] (fun s1 s8 s9 s10 wr => ∃ t X Y I S : Nat, s1 = .int .u64 I ∧ s8 = .int .u32 X ∧ s9 = .int .u32 Y ∧ s10 = .int .u32 S ∧ Hid (S = 2 ^ t) ∧ Hid (PtI w i k t X Y I wr)) (fun _ _ _ s10 _ => T - (intOf s10).toNat)
  case atStart => exact ⟨0, 0, 0, i, 1, rfl, rfl, rfl, rfl, Li rfl, Li ⟨B3.out, C3.out, by rw [Nat.mod_one]; rfl, by simp, by omega⟩⟩
  case round =>
    clear B2 B3 C3
    obtain ⟨t, X, Y, I, S, rfl, rfl, rfl, rfl, HS, HP⟩ := hrel
    by_cases htk : t < k
    · have hST : S < T := by rw [HS.out, HT.out]; exact Nat.pow_lt_pow_right (by decide) htk
      have hT16 : T ≤ 65536 := HT16.out
      have hlt := hP_ltm (i := i) (t := t)
      rw [← HP.out.p, ← HS.out] at hlt
      have hXS : X < S := hlt.1
      have hYS : Y < S := hlt.2
      have HXS := Li hXS
      have hst := pt_step HP.out.p HP.out.i
      rw [← HS.out] at hst
      have HST := Li hst.1
      have HSI := Li hst.2
      have z0 := HP.out.c.lt
      have hI0 : (0 : Int) ≤ (I : Int) := by omega
      have hI32 : I < 4294967296 := by rw [HP.out.i]; exact Nat.lt_of_le_of_lt (Nat.div_le_self _ _) HI32.out
      have hs2 := pow_two_lt (k := k) (t := t) htk
      rw [← HS.out, ← HT.out] at hs2
      have HSS := Li (show S * 2 = 2 ^ (t + 1) by rw [HS.out, Nat.pow_succ])
      have HB0 := Li HP.out.b
      have HC0 := Li HP.out.c
      clear hlt hst HS HP
      have hI4 : I % 4 = 0 ∨ I % 4 = 1 ∨ I % 4 = 2 ∨ I % 4 = 3 := by omega
      rcases hI4 with h4 | h4 | h4 | h4
      · have c0 := HC0.out.cell 3 rfl
        have m4 : (I : Int) % 4 = 0 := by omega
        have HL := Li (show (Y, X) = Hb.hP (t + 1) (i % (2 ^ (t + 1) * 2 ^ (t + 1))) by rw [← HST.out, h4]; rfl)
        clear h4
        go_wp2_with (go_at_call 42; refine (q1_any X Y S _).mono ?_; rintro e w5 ⟨rfl, hw5⟩; subst w5)
        go_roundw
        case rel => exact ⟨t + 1, Y, X, I / 4, S * 2, by go_num, rfl, rfl, by go_num, HSS, Li ⟨HB0.out, HC0.out, HL.out, HSI.out, by omega⟩⟩
        case measure => simp [intOf]; omega
      · have c0 := HC0.out.cell 7 rfl
        have m4 : (I : Int) % 4 = 1 := by omega
        have HL := Li (show (X, (Y + S)) = Hb.hP (t + 1) (i % (2 ^ (t + 1) * 2 ^ (t + 1))) by rw [← HST.out, h4]; rfl)
        clear h4
        go_wp2_with (go_at_call 44; refine (q3_any X Y S _ (by omega)).mono ?_; rintro e w5 ⟨rfl, hw5⟩; subst w5)
        go_roundw
        case rel => exact ⟨t + 1, X, (Y + S), I / 4, S * 2, by go_num, rfl, rfl, by go_num, HSS, Li ⟨HB0.out, HC0.out, HL.out, HSI.out, by omega⟩⟩
        case measure => simp [intOf]; omega
      · have c0 := HC0.out.cell 11 rfl
        have m4 : (I : Int) % 4 = 2 := by omega
        have HL := Li (show ((X + S), (Y + S)) = Hb.hP (t + 1) (i % (2 ^ (t + 1) * 2 ^ (t + 1))) by rw [← HST.out, h4]; rfl)
        clear h4
        go_wp2_with (go_at_call 46; refine (q5_any X Y S _ (by omega) (by omega)).mono ?_; rintro e w5 ⟨rfl, hw5⟩; subst w5)
        go_roundw
        case rel => exact ⟨t + 1, (X + S), (Y + S), I / 4, S * 2, by go_num, rfl, rfl, by go_num, HSS, Li ⟨HB0.out, HC0.out, HL.out, HSI.out, by omega⟩⟩
        case measure => simp [intOf]; omega
      · have c0 := HC0.out.cell 15 rfl
        have m4 : (I : Int) % 4 = 3 := by omega
        have HL := Li (show ((2 * S - 1 - Y), (S - 1 - X)) = Hb.hP (t + 1) (i % (2 ^ (t + 1) * 2 ^ (t + 1))) by rw [← HST.out, h4]; rfl)
        clear h4
        go_wp2_with (go_at_call 48; refine (q7_any X Y S _ (by omega) HXS.out (by omega)).mono ?_; rintro e w5 ⟨rfl, hw5⟩; subst w5)
        go_roundw
        case rel => exact ⟨t + 1, (2 * S - 1 - Y), (S - 1 - X), I / 4, S * 2, by go_num, rfl, rfl, by go_num, HSS, Li ⟨HB0.out, HC0.out, HL.out, HSI.out, by omega⟩⟩
        case measure => simp [intOf]; omega
    · have htk' : t = k := by have := HP.out.t; omega
      have hST : S = T := by rw [HS.out, HT.out, htk']
      subst hST
      have HB0 := Li HP.out.b
      have HE := Li (show (X, Y) = Hb.hP k i by have := HP.out.p; rw [htk', Nat.mod_eq_of_lt HI.out] at this; exact this)
      clear HP HS
      go_wp2
      go_ret3
      exact ⟨by rw [← HE.out]; rfl, HB0.out⟩
end Go.Proofs.Ytlndpclgljfloaa
