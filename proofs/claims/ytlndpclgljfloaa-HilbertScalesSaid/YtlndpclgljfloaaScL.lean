/-
  HilbertScales, walked.
-/
import Derived.Test.YtlndpclgljfloaaLwH
import Derived.Test.YtlndpclgljfloaaRSc
namespace Go.Proofs.Ytlndpclgljfloaa
open Go.RowKit
namespace scales
theorem scV_mono (v v' lo hi K : Int) (h : v ≤ v') : scV v lo hi K ≤ scV v' lo hi K := by
  unfold scV
  by_cases c1 : isOB K = false ∨ hi < lo ∨ v < lo
  · rw [if_pos c1]; exact Nat.zero_le _
  · have c2 : ¬ (isOB K = false ∨ hi < lo ∨ v' < lo) := fun c => c1 (c.imp id fun c => c.imp id fun c => by omega)
    rw [if_neg c1, if_neg c2]
    by_cases c3 : hi < v
    · rw [if_pos c3, if_pos (by omega)]; exact Nat.le_refl _
    · rw [if_neg c3]
      have c4 : lo ≤ v := by
        by_cases c : v < lo
        · exact absurd (.inr (.inr c)) c1
        · omega
      split
      · exact scN_le (by omega)
      · unfold scN
        exact Nat.div_le_div_right (Nat.mul_le_mul_right _ (by omega))
theorem scV_low (lo hi : Int) (m : Nat) : scV lo lo hi m = 0 := by
  unfold scV
  split
  · rfl
  · rename_i c
    rw [if_neg (fun c2 => c (.inr (.inl c2)))]
    rw [Int.sub_self]
    simp [scN]
theorem scV_high (lo hi : Int) (m D : Nat) (hm : 1 ≤ m ∧ m ≤ 16) (hD : hi - lo = (D : Int)) (h : 2 ^ m ≤ D) : scV hi lo hi m = 2 ^ m - 1 := by
  have hob : isOB (m : Int) = true := decide_eq_true (by omega)
  rw [scV_in (a := D) (m := D) (by rw [hob]; simp; omega) (by omega) hD hD]
  obtain ⟨t, ht⟩ : ∃ t, 2 ^ m = t + 1 := ⟨2 ^ m - 1, by have := Nat.two_pow_pos m; omega⟩
  unfold scN
  rw [ht] at h ⊢
  rw [Nat.add_sub_cancel]
  refine Nat.div_eq_of_lt_le ?_ ?_
  · rw [Nat.mul_add, Nat.mul_add, Nat.mul_comm t D]; omega
  · rw [Nat.mul_comm (t + 1) (D + 1)]
    exact Nat.mul_lt_mul_of_pos_right (by omega) (by omega)
set_option maxHeartbeats 4000000 in
set_option maxRecDepth 20000 in
theorem walk (a b c d o : Int) (w : World) (ha : I64 a) (hb' : I64 b) (hc : I64 c) (hd : I64 d) (ho : -128 ≤ o ∧ o ≤ 127) :
    Calls Try.prog 7 #[.agg #[.int .i64 a, .int .i64 b, .int .i64 c, .int .i64 d], .int .i8 o] w fun e w' => e = .returned (.bool true) ∧ Below w.heap.size w w' := by
  obtain ⟨A, hA⟩ : ∃ A, scV a c d o = A := ⟨_, rfl⟩
  obtain ⟨B, hB⟩ : ∃ B, scV b c d o = B := ⟨_, rfl⟩
  have hmono : a ≤ b → A ≤ B := fun h => by rw [← hA, ← hB]; exact scV_mono a b c d o h
  have HA := Li hA
  have HB := Li hB
  have IA := Li ha
  have IB := Li hb'
  have IC := Li hc
  have ID := Li hd
  clear hA hB ha hb' hc hd
  go_enter Try.func7, Try.ntmps7
  go_upto_region 5 with (first
    | (go_at_call 10; refine (sanity_any _).mono ?_; rintro e w1 ⟨rfl, hb⟩; have X1 := Li ((CB.new w 37 [.int .i64 a, .int .i64 b, .int .i64 c, .int .i64 d]).up hb); have B1 := Li (below_step (al1 w _) (al1 w _).size hb); clear hb; obtain ⟨c0, c1, c2, c3⟩ := X1.out.c4; have z1 := X1.out.lt)
    | (have tok := B1; go_at_call 15; refine (Scale_any a c d o _ IA.out IC.out ID.out).mono ?_; rw [HA.out]; rintro e w2 ⟨rfl, hb⟩; have X2 := Li (X1.out.up hb); have B2 := Li (below_step B1.out B1.out.size hb); clear hb tok c0 c1 c2 c3 z1 X1 B1; obtain ⟨c0, c1, c2, c3⟩ := X2.out.c4; have z1 := X2.out.lt)
    | (have tok := B2; go_at_call 15; refine (Scale_any b c d o _ IB.out IC.out ID.out).mono ?_; rw [HB.out]; rintro e w3 ⟨rfl, hb⟩; have X3 := Li (X2.out.up hb); have B3 := Li (below_step B2.out B2.out.size hb); clear hb tok c0 c1 c2 c3 z1 X2 B2; obtain ⟨c0, c1, c2, c3⟩ := X3.out.c4; have z1 := X3.out.lt))
  have harm : ∀ W : World, Calls Try.prog 16 #[.int .i64 a, .int .i64 c, .int .i64 d, .int .i64 o] W fun e w' => e = .returned (.int .u32 (A : Nat)) ∧ w' = W := fun W => by
    have := RScale_any a c d o W IA.out IC.out ID.out
    rwa [HA.out] at this
  have hbrm : ∀ W : World, Calls Try.prog 16 #[.int .i64 b, .int .i64 c, .int .i64 d, .int .i64 o] W fun e w' => e = .returned (.int .u32 (B : Nat)) ∧ w' = W := fun W => by
    have := RScale_any b c d o W IB.out IC.out ID.out
    rwa [HB.out] at this
  have RA := Li harm
  have RB := Li hbrm
  clear harm hbrm
  by_cases hab : a ≤ b
  · have hAB := hmono hab
    clear hmono
    have q1 : ¬ (B : Int) < (A : Int) := by omega
    go_upto_region 9 with (first
      | (have tok := RA; go_at_call 16; refine (RA.out _).mono ?_; rintro e w4 ⟨rfl, hw⟩; subst w4; clear tok RA)
      | (have tok := RB; go_at_call 16; refine (RB.out _).mono ?_; rintro e w5 ⟨rfl, hw⟩; subst w5; clear tok RB))
    obtain ⟨lo, hlo⟩ : ∃ x, min c d = x := ⟨_, rfl⟩
    obtain ⟨hi, hhi⟩ : ∃ x, max c d = x := ⟨_, rfl⟩
    rw [hlo, hhi]
    have HL := Li (show I64 lo from by rw [← hlo]; have := IC.out; have := ID.out; unfold I64 at *; omega)
    have HH := Li (show I64 hi from by rw [← hhi]; have := IC.out; have := ID.out; unfold I64 at *; omega)
    obtain ⟨D, hD⟩ : ∃ D : Nat, hi - lo = (D : Int) := ⟨(hi - lo).toNat, by omega⟩
    have s1 := sub_u64 HH.out HL.out hD
    clear hlo hhi c0 c1 c2 c3 z1 IA IB IC ID HA HB
    go_upto_region 10 with fail
    obtain ⟨m, hm⟩ : ∃ m : Nat, 1 + o % 16 = (m : Int) := ⟨(1 + o % 16).toNat, by omega⟩
    rw [hm]
    have hm2 : 1 ≤ m ∧ m ≤ 16 := by omega
    clear hm
    have s2 := pow_u64 hm2.2
    have s3 := (pow2 hm2.2).1
    have hT := p32 hm2.2
    have hlow := scV_low lo hi m
    have hhigh := fun h => scV_high lo hi m D hm2 hD h
    obtain ⟨T, hTT⟩ : ∃ T, 2 ^ m = T := ⟨_, rfl⟩
    rw [hTT] at s2 s3 hT hhigh
    obtain ⟨hT1, hT2⟩ := hT
    have HLow := Li hlow
    clear hlow hTT hD ho
    by_cases hDT : D < T
    · have j1 : (D : Int) < (T : Int) := by omega
      go_wp2_with fail
      go_ret
      exact ⟨rfl, B3.out⟩
    · have j1 : ¬ (D : Int) < (T : Int) := by omega
      have HHigh := Li (hhigh (by omega))
      have s4 : IntKind.u32.wrap ((T : Int) - 1) = ((T - 1 : Nat) : Int) := by rw [IntKind.wrap_u32]; omega
      clear hhigh
      go_upto_region 12 with fail
      clear s1 s2 j1 hDT
      have B4 := Li (show Below w.heap.size w w3.drew from B3.out.drew)
      clear B3 X3
      refine wp_region_held_drew (S := fun Z => Hid (Below w.heap.size w Z)) (by kernel_rfl) B4 (fun hHeld => ?_)
      revert hHeld B4
      generalize w3.drew = Y
      intro B4 hHeld
      refine htk 0 ?_
      refine htk 1 ?_
      refine htk 2 ?_
      refine htk 3 ?_
      refine htk 4 ?_
      refine htk 5 ?_
      refine rd1 6 fun KK hK => ?_
      go_simp
      go_at_call 15
      refine Calls.mono (Scale_any lo lo hi m Y HL.out HL.out HH.out) ?_
      rw [HLow.out]
      rintro e w6 ⟨rfl, hb⟩
      have B6 := Li (below_step B4.out B4.out.size hb)
      clear hb B4
      go_wp2_with fail
      refine hK.out _ _ B6 (fun hHeld => ?_)
      clear hK KK
      try simp only [pnz]
      refine htk 7 ?_
      refine htk 8 ?_
      refine htk 9 ?_
      refine htk 10 ?_
      refine htk 11 ?_
      refine htk 12 ?_
      refine htk 13 ?_
      refine htk 15 ?_
      refine htk 16 ?_
      refine htk 17 ?_
      refine rd1 14 fun KK hK => ?_
      go_simp
      go_at_call 15
      refine Calls.mono (Scale_any hi lo hi m w6 HH.out HL.out HH.out) ?_
      rw [HHigh.out]
      rintro e w7 ⟨rfl, hb⟩
      have B7 := Li (below_step B6.out B6.out.size hb)
      clear hb B6
      go_wp2_with fail
      refine hK.out _ _ B7 (fun hHeld => ?_)
      clear hK KK
      try simp only [pnz]
      refine htk 18 ?_
      refine htk 19 ?_
      refine htk 20 ?_
      refine wpAnyH_done (by kernel_rfl) ?_ _
      go_wp2_with fail
      go_ret
      exact ⟨rfl, B7.out⟩
  · clear hmono
    go_upto_region 9 with (first
      | (have tok := RA; go_at_call 16; refine (RA.out _).mono ?_; rintro e w4 ⟨rfl, hw⟩; subst w4; clear tok RA)
      | (have tok := RB; go_at_call 16; refine (RB.out _).mono ?_; rintro e w5 ⟨rfl, hw⟩; subst w5; clear tok RB))
    obtain ⟨lo, hlo⟩ : ∃ x, min c d = x := ⟨_, rfl⟩
    obtain ⟨hi, hhi⟩ : ∃ x, max c d = x := ⟨_, rfl⟩
    rw [hlo, hhi]
    have HL := Li (show I64 lo from by rw [← hlo]; have := IC.out; have := ID.out; unfold I64 at *; omega)
    have HH := Li (show I64 hi from by rw [← hhi]; have := IC.out; have := ID.out; unfold I64 at *; omega)
    obtain ⟨D, hD⟩ : ∃ D : Nat, hi - lo = (D : Int) := ⟨(hi - lo).toNat, by omega⟩
    have s1 := sub_u64 HH.out HL.out hD
    clear hlo hhi c0 c1 c2 c3 z1 IA IB IC ID HA HB
    go_upto_region 10 with fail
    obtain ⟨m, hm⟩ : ∃ m : Nat, 1 + o % 16 = (m : Int) := ⟨(1 + o % 16).toNat, by omega⟩
    rw [hm]
    have hm2 : 1 ≤ m ∧ m ≤ 16 := by omega
    clear hm
    have s2 := pow_u64 hm2.2
    have s3 := (pow2 hm2.2).1
    have hT := p32 hm2.2
    have hlow := scV_low lo hi m
    have hhigh := fun h => scV_high lo hi m D hm2 hD h
    obtain ⟨T, hTT⟩ : ∃ T, 2 ^ m = T := ⟨_, rfl⟩
    rw [hTT] at s2 s3 hT hhigh
    obtain ⟨hT1, hT2⟩ := hT
    have HLow := Li hlow
    clear hlow hTT hD ho
    by_cases hDT : D < T
    · have j1 : (D : Int) < (T : Int) := by omega
      go_wp2_with fail
      go_ret
      exact ⟨rfl, B3.out⟩
    · have j1 : ¬ (D : Int) < (T : Int) := by omega
      have HHigh := Li (hhigh (by omega))
      have s4 : IntKind.u32.wrap ((T : Int) - 1) = ((T - 1 : Nat) : Int) := by rw [IntKind.wrap_u32]; omega
      clear hhigh
      go_upto_region 12 with fail
      clear s1 s2 j1 hDT
      have B4 := Li (show Below w.heap.size w w3.drew from B3.out.drew)
      clear B3 X3
      refine wp_region_held_drew (S := fun Z => Hid (Below w.heap.size w Z)) (by kernel_rfl) B4 (fun hHeld => ?_)
      revert hHeld B4
      generalize w3.drew = Y
      intro B4 hHeld
      refine htk 0 ?_
      refine htk 1 ?_
      refine htk 2 ?_
      refine htk 3 ?_
      refine htk 4 ?_
      refine htk 5 ?_
      refine rd1 6 fun KK hK => ?_
      go_simp
      go_at_call 15
      refine Calls.mono (Scale_any lo lo hi m Y HL.out HL.out HH.out) ?_
      rw [HLow.out]
      rintro e w6 ⟨rfl, hb⟩
      have B6 := Li (below_step B4.out B4.out.size hb)
      clear hb B4
      go_wp2_with fail
      refine hK.out _ _ B6 (fun hHeld => ?_)
      clear hK KK
      try simp only [pnz]
      refine htk 7 ?_
      refine htk 8 ?_
      refine htk 9 ?_
      refine htk 10 ?_
      refine htk 11 ?_
      refine htk 12 ?_
      refine htk 13 ?_
      refine htk 15 ?_
      refine htk 16 ?_
      refine htk 17 ?_
      refine rd1 14 fun KK hK => ?_
      go_simp
      go_at_call 15
      refine Calls.mono (Scale_any hi lo hi m w6 HH.out HL.out HH.out) ?_
      rw [HHigh.out]
      rintro e w7 ⟨rfl, hb⟩
      have B7 := Li (below_step B6.out B6.out.size hb)
      clear hb B6
      go_wp2_with fail
      refine hK.out _ _ B7 (fun hHeld => ?_)
      clear hK KK
      try simp only [pnz]
      refine htk 18 ?_
      refine htk 19 ?_
      refine htk 20 ?_
      refine wpAnyH_done (by kernel_rfl) ?_ _
      go_wp2_with fail
      go_ret
      exact ⟨rfl, B7.out⟩
end scales
end Go.Proofs.Ytlndpclgljfloaa
