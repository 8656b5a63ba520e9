/-
  The reference's Show, by a contract.
-/
import Derived.Test.YteaaadccjnmacaaGreatDoorQuoR
import Derived.Test.YteaaadccjnmacaaGreatDoorDateR
import Derived.Test.YteaaadccjnmacaaGreatDoorSgnR
import Derived.Test.YteaaadccjnmacaaGreatDoorEncR
import Derived.Test.YteaaadccjnmacaaGreatDoorNumM
import Derived.Test.YteaaadccjnmacaaGreatDoorGueM
namespace Go.Proofs.YteaaadccjnmacaaGreatDoor
open Go.RowKit Go.Lib

theorem sgn_itoa (n : Int) : sgnL n 1 = Lib.itoa n := by
  unfold sgnL Lib.itoa padL
  have h : ∀ k, Lib.repeatL [48] (1 - (Lib.decDigits k).length) = [] := fun k => by
    have : (Lib.decDigits k).length ≠ 0 := fun h => dd_ne k (List.eq_nil_of_length_eq_zero h)
    rw [show 1 - (Lib.decDigits k).length = 0 by omega]
    rfl
  rw [h, List.nil_append]
  split
  · rfl
  · rw [List.nil_append]
    congr 1
    omega
set_option maxHeartbeats 2000000 in
theorem RShow_no (b : Bool) (n : Int) (s : ByteArray) (t : Int) (w : World)
    (HVAL : Hid (∀ w1, Calls Tryz.prog 7 #[.agg #[.bool b, .int .i64 n, .string s], .int .i64 t] w1 fun e w' => e = .returned (.bool false) ∧ Below w1.heap.size w1 w')) :
    Calls Tryz.prog 12 #[.agg #[.bool b, .int .i64 n, .string s], .int .i64 t] w fun e w' => e = .returned (.string (str [])) ∧ Below w.heap.size w w' := by
  go_enter Tryz.func12, Tryz.ntmps12
  go_wp2_with (go_at_call 7; refine (HVAL.out _).mono ?_; rintro e w2 ⟨rfl, hb2⟩; have B2 := Lib.hid ((val_al w _).trans (hb2.mono (val_al w _).size)); clear hb2)
  go_ret
  exact ⟨rfl, B2.out⟩
set_option maxHeartbeats 2000000 in
theorem RShow_null (n : Int) (s : ByteArray) (t : Int) (w : World)
    (HVAL : Hid (∀ w1, Calls Tryz.prog 7 #[.agg #[.bool true, .int .i64 n, .string s], .int .i64 t] w1 fun e w' => e = .returned (.bool true) ∧ Below w1.heap.size w1 w')) :
    Calls Tryz.prog 12 #[.agg #[.bool true, .int .i64 n, .string s], .int .i64 t] w fun e w' => e = .returned (.string (str nullB)) ∧ Below w.heap.size w w' := by
  go_enter Tryz.func12, Tryz.ntmps12
  go_wp2_with (go_at_call 7; refine (HVAL.out _).mono ?_; rintro e w2 ⟨rfl, hb2⟩; have B2 := Lib.hid ((val_al w _).trans (hb2.mono (val_al w _).size)); have V2 := (VB.new w true n s).up hb2; obtain ⟨x0, x1, x2⟩ := V2.s3; clear hb2 V2)
  go_ret
  exact ⟨rfl, B2.out⟩
set_option maxHeartbeats 2000000 in
theorem RShow_bool (n : Int) (s : ByteArray) (w : World) (h0 : 0 ≤ n) (h1 : n ≤ 1)
    (HVAL : Hid (∀ w1, Calls Tryz.prog 7 #[.agg #[.bool false, .int .i64 n, .string s], .int .i64 1] w1 fun e w' => e = .returned (.bool true) ∧ Below w1.heap.size w1 w')) :
    Calls Tryz.prog 12 #[.agg #[.bool false, .int .i64 n, .string s], .int .i64 1] w fun e w' => e = .returned (.string (str (if n = 0 then falseB else trueB))) ∧ Below w.heap.size w w' := by
  have hn : n = 0 ∨ n = 1 := by omega
  rcases hn with rfl | rfl
  all_goals (
    go_enter Tryz.func12, Tryz.ntmps12
    go_wp2_with (go_at_call 7; refine (HVAL.out _).mono ?_; rintro e w2 ⟨rfl, hb2⟩; have B2 := Lib.hid ((val_al w _).trans (hb2.mono (val_al w _).size)); have V2 := (VB.new w false _ s).up hb2; obtain ⟨x0, x1, x2⟩ := V2.s3; clear hb2 V2)
    go_ret
    exact ⟨rfl, B2.out⟩)
set_option maxHeartbeats 2000000 in
theorem RShow_text (n : Int) (s : ByteArray) (w : World) (hs : s.size ≤ 1000000)
    (HVAL : Hid (∀ w1, Calls Tryz.prog 7 #[.agg #[.bool false, .int .i64 n, .string s], .int .i64 4] w1 fun e w' => e = .returned (.bool true) ∧ Below w1.heap.size w1 w')) :
    Calls Tryz.prog 12 #[.agg #[.bool false, .int .i64 n, .string s], .int .i64 4] w fun e w' => e = .returned (.string (str (quoteL s.data.toList))) ∧ Below w.heap.size w w' := by
  have HQ := Lib.hid (fun w1 => Rquoted_any s w1 hs)
  generalize quoteL s.data.toList = Q at *
  clear hs
  go_enter Tryz.func12, Tryz.ntmps12
  go_wp2_with (first
    | (go_at_call 7; refine (HVAL.out _).mono ?_; rintro e w2 ⟨rfl, hb2⟩; have B2 := Lib.hid ((val_al w _).trans (hb2.mono (val_al w _).size)); have V2 := (VB.new w false n s).up hb2; obtain ⟨x0, x1, x2⟩ := V2.s3; clear hb2 V2)
    | (go_at_call 30; refine (HQ.out _).mono ?_; rintro e w3 ⟨A3, c3, rfl, ho3, hb3⟩; have B3 := Lib.hid (B2.out.trans (hb3.mono B2.out.size)); have hconv := run_string_shows (P := Tryz.prog) w3 22 9 Tryz.underlying22 Tryz.underlying5 Tryz.underlying9 (n := Q.length) (c := c3) rfl ho3.shows.2.2; clear ho3 hb3))
  go_ret
  exact ⟨rfl, B3.out⟩
set_option maxHeartbeats 2000000 in
theorem RShow_num (n : Int) (s : ByteArray) (t : Int) (w : World) (h0 : -9223372036854775808 ≤ n) (h1 : n ≤ 9223372036854775807) (t1 : ¬ t = 1) (t4 : ¬ t = 4) (t5 : ¬ t = 5)
    (HVAL : Hid (∀ w1, Calls Tryz.prog 7 #[.agg #[.bool false, .int .i64 n, .string s], .int .i64 t] w1 fun e w' => e = .returned (.bool true) ∧ Below w1.heap.size w1 w')) :
    Calls Tryz.prog 12 #[.agg #[.bool false, .int .i64 n, .string s], .int .i64 t] w fun e w' => e = .returned (.string (str (Lib.itoa n))) ∧ Below w.heap.size w w' := by
  have HQ := Lib.hid (fun w1 => Rsigned_any n 1 w1 h0 h1 (Nat.le_refl _) (by omega))
  rw [sgn_itoa] at HQ
  generalize Lib.itoa n = Q at *
  clear h0 h1
  go_enter Tryz.func12, Tryz.ntmps12
  go_wp2_with (first
    | (go_at_call 7; refine (HVAL.out _).mono ?_; rintro e w2 ⟨rfl, hb2⟩; have B2 := Lib.hid ((val_al w _).trans (hb2.mono (val_al w _).size)); have V2 := (VB.new w false n s).up hb2; obtain ⟨x0, x1, x2⟩ := V2.s3; clear hb2 V2)
    | (go_at_call 32; refine (HQ.out _).mono ?_; rintro e w3 ⟨A3, c3, rfl, ho3, hb3⟩; have B3 := Lib.hid (B2.out.trans (hb3.mono B2.out.size)); have hconv := run_string_shows (P := Tryz.prog) w3 22 9 Tryz.underlying22 Tryz.underlying5 Tryz.underlying9 (n := Q.length) (c := c3) rfl ho3.shows.2.2; clear ho3 hb3))
  go_ret
  exact ⟨rfl, B3.out⟩
set_option maxHeartbeats 4000000 in
set_option maxRecDepth 20000 in
theorem RShow_day (n : Int) (s : ByteArray) (w : World) (h0 : -1000000 ≤ n) (h1 : n ≤ 1000000)
    (HVAL : Hid (∀ w1, Calls Tryz.prog 7 #[.agg #[.bool false, .int .i64 n, .string s], .int .i64 5] w1 fun e w' => e = .returned (.bool true) ∧ Below w1.heap.size w1 w')) :
    Calls Tryz.prog 12 #[.agg #[.bool false, .int .i64 n, .string s], .int .i64 5] w fun e w' => e = .returned (.string (str (dateL n))) ∧ Below w.heap.size w w' := by
  obtain ⟨q1, q2, q3⟩ := monOf_at n h0 h1
  obtain ⟨p1, p2, p3, p4⟩ := date_parts n h0 h1
  obtain ⟨yy, hyy⟩ : ∃ y, y = ((monOf n / 12 : Nat) : Int) - 799 := ⟨_, rfl⟩
  obtain ⟨mm, hmm⟩ : ∃ m, m = monOf n % 12 + 1 := ⟨_, rfl⟩
  obtain ⟨dd, hdd⟩ : ∃ d, d = (n - mStart (monOf n) + 1).toNat := ⟨_, rfl⟩
  have hd2 : n - mStart (monOf n) + 1 = (dd : Int) := by omega
  have HCd : Hid (∀ w1, Calls Tryz.prog 31 #[.int .i64 n] w1 fun e w' => e = .returned (.tuple #[.int .i64 yy, .int .i64 (mm : Int), .int .i64 (dd : Int)]) ∧ Below w1.heap.size w1 w') := fun w1 => by
    have h := Rdate_any n (monOf n) w1 h0 h1 q1 q2 (by omega)
    rw [← hyy, hd2] at h
    have e : ((monOf n % 12 : Nat) : Int) + 1 = (mm : Int) := by omega
    rw [e] at h
    exact h
  obtain ⟨Y, hY⟩ : ∃ Y, Y = sgnL yy 4 := ⟨_, rfl⟩
  obtain ⟨M, hM⟩ : ∃ M, M = padL mm 2 := ⟨_, rfl⟩
  obtain ⟨D, hD⟩ : ∃ D, D = padL dd 2 := ⟨_, rfl⟩
  have HE : Hid (Y ++ 45 :: (M ++ 45 :: D) = dateL n) := by
    show _ = _
    rw [hY, hM, hD, hyy, hmm, hdd]
    unfold dateL sgnL
    simp
  have HCs : Hid (∀ w1, Calls Tryz.prog 32 #[.int .i64 yy, .int .i64 4] w1 fun e w' => ∃ A c, e = .returned (.slice A Y.length c) ∧ Owns w' w1.heap.size (.slice A Y.length c) Y ∧ Below w1.heap.size w1 w') := fun w1 => by rw [hY]; exact Rsigned_any yy 4 w1 (by omega) (by omega) (by omega) (by omega)
  have HCm : Hid (∀ (x : Int) (w1 : World), x = (mm : Int) → Calls Tryz.prog 33 #[.int .u64 x, .int .i64 2] w1 fun e w' => ∃ A c, e = .returned (.slice A M.length c) ∧ Owns w' w1.heap.size (.slice A M.length c) M ∧ Below w1.heap.size w1 w') := fun x w1 hx => by rw [hM, hx]; exact Rdecimal_any mm 2 w1 (show mm < 18446744073709551616 by omega) (by omega) (by omega)
  have HCe : Hid (∀ (x : Int) (w1 : World), x = (dd : Int) → Calls Tryz.prog 33 #[.int .u64 x, .int .i64 2] w1 fun e w' => ∃ A c, e = .returned (.slice A D.length c) ∧ Owns w' w1.heap.size (.slice A D.length c) D ∧ Below w1.heap.size w1 w') := fun x w1 hx => by rw [hD, hx]; exact Rdecimal_any dd 2 w1 (show dd < 18446744073709551616 by omega) (by omega) (by omega)
  have lY : Y.length ≤ 2000 := by
    rw [hY]; unfold sgnL
    have := padL_le yy.natAbs 4 (show yy.natAbs < 18446744073709551616 by omega) (by omega)
    split <;> simp <;> omega
  have lM : M.length ≤ 2000 := by rw [hM]; have := padL_le mm 2 (show mm < 18446744073709551616 by omega) (by omega); omega
  have lD : D.length ≤ 2000 := by rw [hD]; have := padL_le dd 2 (show dd < 18446744073709551616 by omega) (by omega); omega
  have bm0 : 1 ≤ mm := by omega
  have bm1 : mm ≤ 12 := by omega
  have bd1 : dd ≤ 100 := by omega
  have v1 : IntKind.u64.wrap (mm : Int) = (mm : Int) := by rw [wrap_u64]; omega
  have v2 : IntKind.u64.wrap (dd : Int) = (dd : Int) := by rw [wrap_u64]; omega
  have tok0 : True := trivial
  clear hyy hmm hdd hd2 hY hM hD q1 q2 q3 p1 p2 p3 p4 h0 h1
  go_enter Tryz.func12, Tryz.ntmps12
  go_wp2_with (first
    | (go_at_call 7; refine (HVAL.out _).mono ?_; rintro e w2 ⟨rfl, hb2⟩; have B2 := Lib.hid ((val_al w _).trans (hb2.mono (val_al w _).size)); have V2 := (VB.new w false n s).up hb2; obtain ⟨x0, x1, x2⟩ := V2.s3; clear hb2 V2)
    | (go_at_call 31; refine (HCd.out _).mono ?_; rintro e w3 ⟨rfl, hb3⟩; have B3 := Lib.hid (B2.out.trans (hb3.mono B2.out.size)); clear hb3 x0 x1 x2)
    | (go_at_call 32; refine (HCs.out _).mono ?_; rintro e w4 ⟨A4, c4, rfl, ho4, hb4⟩; have B4 := Lib.hid (B3.out.trans (hb4.mono B3.out.size)); have HO4 := Lib.hid (ho4.low B3.out.size); clear ho4 hb4)
    | (at_builtin; refine wpList_growC rfl (.tmp 37) (.tmp 38) _ rfl Tryz.underlying22 info5 w.heap.size (.slice A4 Y.length c4) Y 45 _ rfl rfl rfl rfl HO4.out (by omega) B4.out.size ?_; intro A5 c5 w5 ho5 hg5; have B5 := Lib.hid (grown_owns HO4.out hg5 B4.out B4.out.size (Nat.le_refl _)); have HO5 := Lib.hid ho5; clear ho5 hg5)
    | (go_at_call 33; have _t := tok0; refine (HCm.out _ _ (by first | rfl | assumption)).mono ?_; rintro e w6 ⟨A6, c6, rfl, ho6, hb6⟩; have B6 := Lib.hid (B5.out.trans (hb6.mono B5.out.size)); have HO6 := Lib.hid (HO5.out.up hb6); have HS6 := Lib.hid ho6.shows.2.2; clear ho6 hb6 tok0)
    | (at_builtin; refine wpList_growB rfl (.tmp 40) (.tmp 43) _ rfl Tryz.underlying22 info5 w.heap.size (.slice A5 (Y ++ [45]).length c5) (Y ++ [45]) A6 M c6 _ (by simp; rfl) rfl HO6.out HS6.out (by simp; omega) B6.out.size ?_; intro A7 c7 w7 ho7 hg7; have B7 := Lib.hid (grown_owns HO6.out hg7 B6.out B6.out.size (Nat.le_refl _)); have HO7 := Lib.hid ho7; clear ho7 hg7)
    | (at_builtin; refine wpList_growC rfl (.tmp 45) (.tmp 46) _ rfl Tryz.underlying22 info5 w.heap.size (.slice A7 (Y ++ [45] ++ M).length c7) (Y ++ [45] ++ M) 45 _ (by simp; rfl) rfl rfl rfl HO7.out (by simp; omega) B7.out.size ?_; intro A8 c8 w8 ho8 hg8; have B8 := Lib.hid (grown_owns HO7.out hg8 B7.out B7.out.size (Nat.le_refl _)); have HO8 := Lib.hid ho8; clear ho8 hg8)
    | (go_at_call 33; refine (HCe.out _ _ (by first | rfl | assumption)).mono ?_; rintro e w9 ⟨A9, c9, rfl, ho9, hb9⟩; have B9 := Lib.hid (B8.out.trans (hb9.mono B8.out.size)); have HO9 := Lib.hid (HO8.out.up hb9); have HS9 := Lib.hid ho9.shows.2.2; clear ho9 hb9)
    | (at_builtin; refine wpList_growB rfl (.tmp 48) (.tmp 51) _ rfl Tryz.underlying22 info5 w.heap.size (.slice A8 (Y ++ [45] ++ M ++ [45]).length c8) (Y ++ [45] ++ M ++ [45]) A9 D c9 _ (by simp; rfl) rfl HO9.out HS9.out (by simp; omega) B9.out.size ?_; intro A10 c10 w10 ho10 hg10; have B10 := Lib.hid (grown_owns HO9.out hg10 B9.out B9.out.size (Nat.le_refl _)); have hconv := run_string_shows (P := Tryz.prog) w10 22 9 Tryz.underlying22 Tryz.underlying5 Tryz.underlying9 (l := Y ++ [45] ++ M ++ [45] ++ D) (n := Y.length + (M.length + (D.length + 1) + 1)) (c := c10) (by simp) ho10.shows.2.2; clear ho10 hg10))
  go_ret
  exact ⟨by rw [← HE.out]; rfl, B10.out⟩
/-- the reference's Show -/
theorem RShow_any (b : Bool) (n : Int) (s : ByteArray) (t : Int) (w : World) (hv : Va.Fine ⟨b, n, s⟩) (hss : s.size ≤ 1000000) :
    Calls Tryz.prog 12 #[.agg #[.bool b, .int .i64 n, .string s], .int .i64 t] w fun e w' => e = .returned (.string (str (showL ⟨b, n, s⟩ t))) ∧ Below w.heap.size w w' := by
  have HV := fun w1 => RValid_any b n s t w1 (by omega)
  cases hz : okV ⟨b, n, s⟩ t with
  | false =>
    rw [hz] at HV
    have he : showL ⟨b, n, s⟩ t = [] := by unfold showL; rw [hz]; rfl
    rw [he]
    exact RShow_no b n s t w (Lib.hid HV)
  | true =>
    rw [hz] at HV
    cases b with
    | true =>
      have he : showL ⟨true, n, s⟩ t = nullB := by unfold showL; rw [hz]; rfl
      rw [he]
      exact RShow_null n s t w (Lib.hid HV)
    | false =>
      by_cases h4 : t = 4
      · subst h4
        have he : showL ⟨false, n, s⟩ 4 = quoteL s.data.toList := by unfold showL; rw [hz]; rfl
        rw [he]
        exact RShow_text n s w hss (Lib.hid HV)
      · by_cases h5 : t = 5
        · subst h5
          have hk := ok_day hz rfl
          simp only at hk
          have he : showL ⟨false, n, s⟩ 5 = dateL n := by unfold showL; rw [hz]; rfl
          rw [he]
          exact RShow_day n s w hk.1 hk.2.1 (Lib.hid HV)
        · by_cases h1 : t = 1
          · subst h1
            have hk := ok_bool hz rfl
            simp only at hk
            have he : showL ⟨false, n, s⟩ 1 = if n = 0 then falseB else trueB := by unfold showL; rw [hz]; rfl
            rw [he]
            exact RShow_bool n s w hk.1 hk.2.1 (Lib.hid HV)
          · have he : showL ⟨false, n, s⟩ t = Lib.itoa n := by
              unfold showL
              rw [hz, if_pos rfl]
              show (if false = true then nullB else _) = _
              rw [if_neg (by decide), if_neg h4, if_neg h5, if_neg h1]
            rw [he]
            exact RShow_num n s t w hv.lo hv.hi h1 h4 h5 (Lib.hid HV)
end Go.Proofs.YteaaadccjnmacaaGreatDoor
