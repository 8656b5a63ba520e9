/-
  Decode and Parse agree with the reference's: the law's walk, behind the reference's Parse by a contract.
-/
import Derived.Test.YteaaadccjnmacaaGreatDoorDecR
import Derived.Test.YteaaadccjnmacaaGreatDoorShoR
import Derived.Test.YteaaadccjnmacaaGreatDoorTxtR
import Derived.Test.YteaaadccjnmacaaGreatDoorGdR
import Derived.Test.YteaaadccjnmacaaGreatDoorParP
import Derived.Test.YteaaadccjnmacaaGreatDoorEqV
namespace Go.Proofs.YteaaadccjnmacaaGreatDoor
open Go.RowKit Go.Lib

theorem VB.num {w : World} {h : Nat} {b : Bool} {n : Int} {s : ByteArray} (k : VB w h b n s) (n' : Int) : VB (w.setCell ⟨h, 1, none⟩ (.int .i64 n')) h b n' s := by
  obtain ⟨c0, c1, c2, f0, f1, f2, lt⟩ := k
  exact ⟨by simp [go_sem, c0, c1, c2, f0, f1, f2], by simp [go_sem, c0, c1, c2, f0, f1, f2], by simp [go_sem, c0, c1, c2, f0, f1, f2], by simp [go_sem, f0], by simp [go_sem, f1], by simp [go_sem, f2], by simpa using lt⟩
theorem box2n (w : World) (n : Int) : VB ((w.alloc (.cells #[.bool false, .int .i64 0, .string ⟨#[]⟩] 24)).alloc (.cells #[.bool false, .int .i64 n, .string ⟨#[]⟩] 24)) w.heap.size false 0 ⟨#[]⟩ ∧ VB ((w.alloc (.cells #[.bool false, .int .i64 0, .string ⟨#[]⟩] 24)).alloc (.cells #[.bool false, .int .i64 n, .string ⟨#[]⟩] 24)) (w.heap.size + 1) false n ⟨#[]⟩ ∧ Below w.heap.size w ((w.alloc (.cells #[.bool false, .int .i64 0, .string ⟨#[]⟩] 24)).alloc (.cells #[.bool false, .int .i64 n, .string ⟨#[]⟩] 24)) := by
  have X0 := VB.new w false 0 ⟨#[]⟩
  have X1 := VB.newAt (w.alloc (.cells #[.bool false, .int .i64 0, .string ⟨#[]⟩] 24)) false n ⟨#[]⟩ (w.heap.size + 1) (by simp)
  exact ⟨X0.up (val_al _ _), X1, (val_al w _).alloc (by simp) _⟩

set_option maxHeartbeats 4000000 in
theorem RParse_t1em (s : ByteArray) (w : World) (q : (s.toList == [110, 117, 108, 108]) = false) (q2 : (s.toList == [116, 114, 117, 101]) = true) (qe : s.toList.isEmpty = true) (HT : Hid (∀ w1, Calls Tryz.prog 22 #[.int .i64 1] w1 fun e w' => e = .returned (.bool true) ∧ w' = w1)) :
    Calls Tryz.prog 16 #[.string s, .int .i64 1] w fun e w' => e = .returned (.tuple #[.agg #[.bool false, .int .i64 0, .string ⟨#[]⟩], .int .i64 5]) ∧ Below w.heap.size w w' := by
  have n0 : ¬ w.heap.size = w.heap.size + 1 := by omega
  have n1 : ¬ w.heap.size + 1 = w.heap.size := by omega
  have B2 := Lib.hid (box2n w 1)
  go_enter Tryz.func16, Tryz.ntmps16
  go_wp2_with (first
    | (go_at_call 22; refine (HT.out _).mono ?_; rintro e w1 ⟨rfl, rfl⟩))
  refine bodyPost_ret (v := .tuple #[.agg #[.bool false, .int .i64 0, .string ⟨#[]⟩], .int .i64 5]) (by simp [results, Tryz.results16, go_sem]) rfl ⟨rfl, ?_⟩
  exact B2.out.2.2
set_option maxHeartbeats 4000000 in
theorem RParse_t1ne (s : ByteArray) (w : World) (RS : ByteArray) (q : (s.toList == [110, 117, 108, 108]) = false) (q2 : (s.toList == [116, 114, 117, 101]) = true) (qe : s.toList.isEmpty = false) (q3 : (RS.toList == s.toList) = false) (HSH : Hid (∀ w1, Calls Tryz.prog 12 #[.agg #[.bool false, .int .i64 1, .string ⟨#[]⟩], .int .i64 1] w1 fun e w' => e = .returned (.string RS) ∧ Below w1.heap.size w1 w')) (HT : Hid (∀ w1, Calls Tryz.prog 22 #[.int .i64 1] w1 fun e w' => e = .returned (.bool true) ∧ w' = w1)) :
    Calls Tryz.prog 16 #[.string s, .int .i64 1] w fun e w' => e = .returned (.tuple #[.agg #[.bool false, .int .i64 0, .string ⟨#[]⟩], .int .i64 5]) ∧ Below w.heap.size w w' := by
  have n0 : ¬ w.heap.size = w.heap.size + 1 := by omega
  have n1 : ¬ w.heap.size + 1 = w.heap.size := by omega
  have B2 := Lib.hid (box2n w 1)
  go_enter Tryz.func16, Tryz.ntmps16
  go_wp2_with (first
    | (go_at_call 22; refine (HT.out _).mono ?_; rintro e w1 ⟨rfl, rfl⟩)
    | (go_at_call 12; refine (HSH.out _).mono ?_; rintro e w6 ⟨rfl, hb6⟩; have HB6 := Lib.hid (B2.out.2.2.trans (hb6.mono B2.out.2.2.size)); have W0 := B2.out.1.up hb6; have W1 := B2.out.2.1.up hb6; have c0 := W0.c0; have c1 := W0.c1; have c2 := W0.c2; have f0 := W0.f0; have f1 := W0.f1; have f2 := W0.f2; have d0 := W1.c0; have d1 := W1.c1; have d2 := W1.c2; clear hb6 W0 W1))
  refine bodyPost_ret (v := .tuple #[.agg #[.bool false, .int .i64 0, .string ⟨#[]⟩], .int .i64 5]) (by simp [results, Tryz.results16, go_sem, c0, c1, c2]) rfl ⟨rfl, ?_⟩
  exact ((HB6.out.setCell (Nat.le_refl _) _).setCell (Nat.le_refl _) _).setCell (Nat.le_refl _) _
set_option maxHeartbeats 4000000 in
theorem RParse_t1eq (s : ByteArray) (w : World) (RS : ByteArray) (q : (s.toList == [110, 117, 108, 108]) = false) (q2 : (s.toList == [116, 114, 117, 101]) = true) (qe : s.toList.isEmpty = false) (q3 : (RS.toList == s.toList) = true) (HSH : Hid (∀ w1, Calls Tryz.prog 12 #[.agg #[.bool false, .int .i64 1, .string ⟨#[]⟩], .int .i64 1] w1 fun e w' => e = .returned (.string RS) ∧ Below w1.heap.size w1 w')) (HT : Hid (∀ w1, Calls Tryz.prog 22 #[.int .i64 1] w1 fun e w' => e = .returned (.bool true) ∧ w' = w1)) :
    Calls Tryz.prog 16 #[.string s, .int .i64 1] w fun e w' => e = .returned (.tuple #[.agg #[.bool false, .int .i64 1, .string ⟨#[]⟩], .int .i64 0]) ∧ Below w.heap.size w w' := by
  have n0 : ¬ w.heap.size = w.heap.size + 1 := by omega
  have n1 : ¬ w.heap.size + 1 = w.heap.size := by omega
  have B2 := Lib.hid (box2n w 1)
  go_enter Tryz.func16, Tryz.ntmps16
  go_wp2_with (first
    | (go_at_call 22; refine (HT.out _).mono ?_; rintro e w1 ⟨rfl, rfl⟩)
    | (go_at_call 12; refine (HSH.out _).mono ?_; rintro e w6 ⟨rfl, hb6⟩; have HB6 := Lib.hid (B2.out.2.2.trans (hb6.mono B2.out.2.2.size)); have W0 := B2.out.1.up hb6; have W1 := B2.out.2.1.up hb6; have c0 := W0.c0; have c1 := W0.c1; have c2 := W0.c2; have f0 := W0.f0; have f1 := W0.f1; have f2 := W0.f2; have d0 := W1.c0; have d1 := W1.c1; have d2 := W1.c2; clear hb6 W0 W1))
  refine bodyPost_ret (v := .tuple #[.agg #[.bool false, .int .i64 1, .string ⟨#[]⟩], .int .i64 0]) (by simp [results, Tryz.results16, go_sem, c0, c1, c2]) rfl ⟨rfl, ?_⟩
  exact ((HB6.out.setCell (Nat.le_refl _) _).setCell (Nat.le_refl _) _).setCell (Nat.le_refl _) _
set_option maxHeartbeats 4000000 in
theorem RParse_t0em (s : ByteArray) (w : World) (q : (s.toList == [110, 117, 108, 108]) = false) (q2 : (s.toList == [116, 114, 117, 101]) = false) (qe : s.toList.isEmpty = true) (HT : Hid (∀ w1, Calls Tryz.prog 22 #[.int .i64 1] w1 fun e w' => e = .returned (.bool true) ∧ w' = w1)) :
    Calls Tryz.prog 16 #[.string s, .int .i64 1] w fun e w' => e = .returned (.tuple #[.agg #[.bool false, .int .i64 0, .string ⟨#[]⟩], .int .i64 5]) ∧ Below w.heap.size w w' := by
  have n0 : ¬ w.heap.size = w.heap.size + 1 := by omega
  have n1 : ¬ w.heap.size + 1 = w.heap.size := by omega
  have B2 := Lib.hid (box2n w 0)
  go_enter Tryz.func16, Tryz.ntmps16
  go_wp2_with (first
    | (go_at_call 22; refine (HT.out _).mono ?_; rintro e w1 ⟨rfl, rfl⟩))
  refine bodyPost_ret (v := .tuple #[.agg #[.bool false, .int .i64 0, .string ⟨#[]⟩], .int .i64 5]) (by simp [results, Tryz.results16, go_sem]) rfl ⟨rfl, ?_⟩
  exact B2.out.2.2
set_option maxHeartbeats 4000000 in
theorem RParse_t0ne (s : ByteArray) (w : World) (RS : ByteArray) (q : (s.toList == [110, 117, 108, 108]) = false) (q2 : (s.toList == [116, 114, 117, 101]) = false) (qe : s.toList.isEmpty = false) (q3 : (RS.toList == s.toList) = false) (HSH : Hid (∀ w1, Calls Tryz.prog 12 #[.agg #[.bool false, .int .i64 0, .string ⟨#[]⟩], .int .i64 1] w1 fun e w' => e = .returned (.string RS) ∧ Below w1.heap.size w1 w')) (HT : Hid (∀ w1, Calls Tryz.prog 22 #[.int .i64 1] w1 fun e w' => e = .returned (.bool true) ∧ w' = w1)) :
    Calls Tryz.prog 16 #[.string s, .int .i64 1] w fun e w' => e = .returned (.tuple #[.agg #[.bool false, .int .i64 0, .string ⟨#[]⟩], .int .i64 5]) ∧ Below w.heap.size w w' := by
  have n0 : ¬ w.heap.size = w.heap.size + 1 := by omega
  have n1 : ¬ w.heap.size + 1 = w.heap.size := by omega
  have B2 := Lib.hid (box2n w 0)
  go_enter Tryz.func16, Tryz.ntmps16
  go_wp2_with (first
    | (go_at_call 22; refine (HT.out _).mono ?_; rintro e w1 ⟨rfl, rfl⟩)
    | (go_at_call 12; refine (HSH.out _).mono ?_; rintro e w6 ⟨rfl, hb6⟩; have HB6 := Lib.hid (B2.out.2.2.trans (hb6.mono B2.out.2.2.size)); have W0 := B2.out.1.up hb6; have W1 := B2.out.2.1.up hb6; have c0 := W0.c0; have c1 := W0.c1; have c2 := W0.c2; have f0 := W0.f0; have f1 := W0.f1; have f2 := W0.f2; have d0 := W1.c0; have d1 := W1.c1; have d2 := W1.c2; clear hb6 W0 W1))
  refine bodyPost_ret (v := .tuple #[.agg #[.bool false, .int .i64 0, .string ⟨#[]⟩], .int .i64 5]) (by simp [results, Tryz.results16, go_sem, c0, c1, c2]) rfl ⟨rfl, ?_⟩
  exact ((HB6.out.setCell (Nat.le_refl _) _).setCell (Nat.le_refl _) _).setCell (Nat.le_refl _) _
set_option maxHeartbeats 4000000 in
theorem RParse_t0eq (s : ByteArray) (w : World) (RS : ByteArray) (q : (s.toList == [110, 117, 108, 108]) = false) (q2 : (s.toList == [116, 114, 117, 101]) = false) (qe : s.toList.isEmpty = false) (q3 : (RS.toList == s.toList) = true) (HSH : Hid (∀ w1, Calls Tryz.prog 12 #[.agg #[.bool false, .int .i64 0, .string ⟨#[]⟩], .int .i64 1] w1 fun e w' => e = .returned (.string RS) ∧ Below w1.heap.size w1 w')) (HT : Hid (∀ w1, Calls Tryz.prog 22 #[.int .i64 1] w1 fun e w' => e = .returned (.bool true) ∧ w' = w1)) :
    Calls Tryz.prog 16 #[.string s, .int .i64 1] w fun e w' => e = .returned (.tuple #[.agg #[.bool false, .int .i64 0, .string ⟨#[]⟩], .int .i64 0]) ∧ Below w.heap.size w w' := by
  have n0 : ¬ w.heap.size = w.heap.size + 1 := by omega
  have n1 : ¬ w.heap.size + 1 = w.heap.size := by omega
  have B2 := Lib.hid (box2n w 0)
  go_enter Tryz.func16, Tryz.ntmps16
  go_wp2_with (first
    | (go_at_call 22; refine (HT.out _).mono ?_; rintro e w1 ⟨rfl, rfl⟩)
    | (go_at_call 12; refine (HSH.out _).mono ?_; rintro e w6 ⟨rfl, hb6⟩; have HB6 := Lib.hid (B2.out.2.2.trans (hb6.mono B2.out.2.2.size)); have W0 := B2.out.1.up hb6; have W1 := B2.out.2.1.up hb6; have c0 := W0.c0; have c1 := W0.c1; have c2 := W0.c2; have f0 := W0.f0; have f1 := W0.f1; have f2 := W0.f2; have d0 := W1.c0; have d1 := W1.c1; have d2 := W1.c2; clear hb6 W0 W1))
  refine bodyPost_ret (v := .tuple #[.agg #[.bool false, .int .i64 0, .string ⟨#[]⟩], .int .i64 0]) (by simp [results, Tryz.results16, go_sem, c0, c1, c2]) rfl ⟨rfl, ?_⟩
  exact ((HB6.out.setCell (Nat.le_refl _) _).setCell (Nat.le_refl _) _).setCell (Nat.le_refl _) _
set_option maxHeartbeats 4000000 in
theorem RParse_teem (s : ByteArray) (w : World) (x : ByteArray) (q : (s.toList == [110, 117, 108, 108]) = false) (qe : s.toList.isEmpty = true) (HT : Hid (∀ w1, Calls Tryz.prog 22 #[.int .i64 4] w1 fun e w' => e = .returned (.bool true) ∧ w' = w1)) (HU : Hid (∀ w1, Calls Tryz.prog 38 #[.string s] w1 fun e w' => e = .returned (.string x) ∧ Below w1.heap.size w1 w')) :
    Calls Tryz.prog 16 #[.string s, .int .i64 4] w fun e w' => e = .returned (.tuple #[.agg #[.bool false, .int .i64 0, .string ⟨#[]⟩], .int .i64 5]) ∧ Below w.heap.size w w' := by
  have n0 : ¬ w.heap.size = w.heap.size + 1 := by omega
  have n1 : ¬ w.heap.size + 1 = w.heap.size := by omega
  have B2 := Lib.hid (box2n w 0)
  go_enter Tryz.func16, Tryz.ntmps16
  go_wp2_with (first
    | (go_at_call 22; refine (HT.out _).mono ?_; rintro e w1 ⟨rfl, rfl⟩)
    | (go_at_call 38; refine (HU.out _).mono ?_; rintro e w4 ⟨rfl, hb4⟩; have HB4 := Lib.hid (B2.out.2.2.trans (hb4.mono B2.out.2.2.size)); have X0 := Lib.hid (B2.out.1.up hb4); have X1 := Lib.hid (B2.out.2.1.up hb4); have Y0 := Lib.hid (X0.out.other (j := 2) (v := (.string x)) n0); have Y1 := Lib.hid (X1.out.text x); have HB5 := Lib.hid (HB4.out.setCell (p := ⟨w.heap.size + 1, 2, none⟩) (by simp) (.string x)); have c0 := X0.out.c0; have c1 := X0.out.c1; have c2 := X0.out.c2; have f0 := X0.out.f0; have f1 := X0.out.f1; have f2 := X0.out.f2; obtain ⟨x0, x1, x2⟩ := X1.out.s3; have y2 := X1.out.f2; clear hb4))
  refine bodyPost_ret (v := .tuple #[.agg #[.bool false, .int .i64 0, .string ⟨#[]⟩], .int .i64 5]) (by simp [results, Tryz.results16, go_sem, c0, c1, c2]) rfl ⟨rfl, ?_⟩
  exact ((HB5.out.setCell (Nat.le_refl _) _).setCell (Nat.le_refl _) _).setCell (Nat.le_refl _) _
set_option maxHeartbeats 4000000 in
theorem RParse_tene (s : ByteArray) (w : World) (x : ByteArray) (RS : ByteArray) (q : (s.toList == [110, 117, 108, 108]) = false) (qe : s.toList.isEmpty = false) (q3 : (RS.toList == s.toList) = false) (HSH : Hid (∀ w1, Calls Tryz.prog 12 #[.agg #[.bool false, .int .i64 0, .string x], .int .i64 4] w1 fun e w' => e = .returned (.string RS) ∧ Below w1.heap.size w1 w')) (HT : Hid (∀ w1, Calls Tryz.prog 22 #[.int .i64 4] w1 fun e w' => e = .returned (.bool true) ∧ w' = w1)) (HU : Hid (∀ w1, Calls Tryz.prog 38 #[.string s] w1 fun e w' => e = .returned (.string x) ∧ Below w1.heap.size w1 w')) :
    Calls Tryz.prog 16 #[.string s, .int .i64 4] w fun e w' => e = .returned (.tuple #[.agg #[.bool false, .int .i64 0, .string ⟨#[]⟩], .int .i64 5]) ∧ Below w.heap.size w w' := by
  have n0 : ¬ w.heap.size = w.heap.size + 1 := by omega
  have n1 : ¬ w.heap.size + 1 = w.heap.size := by omega
  have B2 := Lib.hid (box2n w 0)
  go_enter Tryz.func16, Tryz.ntmps16
  go_wp2_with (first
    | (go_at_call 22; refine (HT.out _).mono ?_; rintro e w1 ⟨rfl, rfl⟩)
    | (go_at_call 38; refine (HU.out _).mono ?_; rintro e w4 ⟨rfl, hb4⟩; have HB4 := Lib.hid (B2.out.2.2.trans (hb4.mono B2.out.2.2.size)); have X0 := Lib.hid (B2.out.1.up hb4); have X1 := Lib.hid (B2.out.2.1.up hb4); have Y0 := Lib.hid (X0.out.other (j := 2) (v := (.string x)) n0); have Y1 := Lib.hid (X1.out.text x); have HB5 := Lib.hid (HB4.out.setCell (p := ⟨w.heap.size + 1, 2, none⟩) (by simp) (.string x)); obtain ⟨x0, x1, x2⟩ := X1.out.s3; have y2 := X1.out.f2; clear hb4)
    | (go_at_call 12; refine (HSH.out _).mono ?_; rintro e w6 ⟨rfl, hb6⟩; have HB6 := Lib.hid (HB5.out.trans (hb6.mono HB5.out.size)); have W0 := Y0.out.up hb6; have W1 := Y1.out.up hb6; clear x0 x1 x2 y2; have c0 := W0.c0; have c1 := W0.c1; have c2 := W0.c2; have f0 := W0.f0; have f1 := W0.f1; have f2 := W0.f2; have d0 := W1.c0; have d1 := W1.c1; have d2 := W1.c2; clear hb6 W0 W1))
  refine bodyPost_ret (v := .tuple #[.agg #[.bool false, .int .i64 0, .string ⟨#[]⟩], .int .i64 5]) (by simp [results, Tryz.results16, go_sem, c0, c1, c2]) rfl ⟨rfl, ?_⟩
  exact ((HB6.out.setCell (Nat.le_refl _) _).setCell (Nat.le_refl _) _).setCell (Nat.le_refl _) _
set_option maxHeartbeats 4000000 in
theorem RParse_teeq (s : ByteArray) (w : World) (x : ByteArray) (RS : ByteArray) (q : (s.toList == [110, 117, 108, 108]) = false) (qe : s.toList.isEmpty = false) (q3 : (RS.toList == s.toList) = true) (HSH : Hid (∀ w1, Calls Tryz.prog 12 #[.agg #[.bool false, .int .i64 0, .string x], .int .i64 4] w1 fun e w' => e = .returned (.string RS) ∧ Below w1.heap.size w1 w')) (HT : Hid (∀ w1, Calls Tryz.prog 22 #[.int .i64 4] w1 fun e w' => e = .returned (.bool true) ∧ w' = w1)) (HU : Hid (∀ w1, Calls Tryz.prog 38 #[.string s] w1 fun e w' => e = .returned (.string x) ∧ Below w1.heap.size w1 w')) :
    Calls Tryz.prog 16 #[.string s, .int .i64 4] w fun e w' => e = .returned (.tuple #[.agg #[.bool false, .int .i64 0, .string x], .int .i64 0]) ∧ Below w.heap.size w w' := by
  have n0 : ¬ w.heap.size = w.heap.size + 1 := by omega
  have n1 : ¬ w.heap.size + 1 = w.heap.size := by omega
  have B2 := Lib.hid (box2n w 0)
  go_enter Tryz.func16, Tryz.ntmps16
  go_wp2_with (first
    | (go_at_call 22; refine (HT.out _).mono ?_; rintro e w1 ⟨rfl, rfl⟩)
    | (go_at_call 38; refine (HU.out _).mono ?_; rintro e w4 ⟨rfl, hb4⟩; have HB4 := Lib.hid (B2.out.2.2.trans (hb4.mono B2.out.2.2.size)); have X0 := Lib.hid (B2.out.1.up hb4); have X1 := Lib.hid (B2.out.2.1.up hb4); have Y0 := Lib.hid (X0.out.other (j := 2) (v := (.string x)) n0); have Y1 := Lib.hid (X1.out.text x); have HB5 := Lib.hid (HB4.out.setCell (p := ⟨w.heap.size + 1, 2, none⟩) (by simp) (.string x)); obtain ⟨x0, x1, x2⟩ := X1.out.s3; have y2 := X1.out.f2; clear hb4)
    | (go_at_call 12; refine (HSH.out _).mono ?_; rintro e w6 ⟨rfl, hb6⟩; have HB6 := Lib.hid (HB5.out.trans (hb6.mono HB5.out.size)); have W0 := Y0.out.up hb6; have W1 := Y1.out.up hb6; clear x0 x1 x2 y2; have c0 := W0.c0; have c1 := W0.c1; have c2 := W0.c2; have f0 := W0.f0; have f1 := W0.f1; have f2 := W0.f2; have d0 := W1.c0; have d1 := W1.c1; have d2 := W1.c2; clear hb6 W0 W1))
  refine bodyPost_ret (v := .tuple #[.agg #[.bool false, .int .i64 0, .string x], .int .i64 0]) (by simp [results, Tryz.results16, go_sem, c0, c1, c2]) rfl ⟨rfl, ?_⟩
  exact ((HB6.out.setCell (Nat.le_refl _) _).setCell (Nat.le_refl _) _).setCell (Nat.le_refl _) _
set_option maxHeartbeats 4000000 in
theorem RParse_dyem (s : ByteArray) (w : World) (n : Int) (q : (s.toList == [110, 117, 108, 108]) = false) (qe : s.toList.isEmpty = true) (HT : Hid (∀ w1, Calls Tryz.prog 22 #[.int .i64 5] w1 fun e w' => e = .returned (.bool true) ∧ w' = w1)) (HU : Hid (∀ w1, Calls Tryz.prog 39 #[.string s] w1 fun e w' => e = .returned (.int .i64 n) ∧ Below w1.heap.size w1 w')) :
    Calls Tryz.prog 16 #[.string s, .int .i64 5] w fun e w' => e = .returned (.tuple #[.agg #[.bool false, .int .i64 0, .string ⟨#[]⟩], .int .i64 5]) ∧ Below w.heap.size w w' := by
  have n0 : ¬ w.heap.size = w.heap.size + 1 := by omega
  have n1 : ¬ w.heap.size + 1 = w.heap.size := by omega
  have B2 := Lib.hid (box2n w 0)
  go_enter Tryz.func16, Tryz.ntmps16
  go_wp2_with (first
    | (go_at_call 22; refine (HT.out _).mono ?_; rintro e w1 ⟨rfl, rfl⟩)
    | (go_at_call 39; refine (HU.out _).mono ?_; rintro e w4 ⟨rfl, hb4⟩; have HB4 := Lib.hid (B2.out.2.2.trans (hb4.mono B2.out.2.2.size)); have X0 := Lib.hid (B2.out.1.up hb4); have X1 := Lib.hid (B2.out.2.1.up hb4); have Y0 := Lib.hid (X0.out.other (j := 1) (v := (.int .i64 n)) n0); have Y1 := Lib.hid (X1.out.num n); have HB5 := Lib.hid (HB4.out.setCell (p := ⟨w.heap.size + 1, 1, none⟩) (by simp) (.int .i64 n)); have c0 := X0.out.c0; have c1 := X0.out.c1; have c2 := X0.out.c2; have f0 := X0.out.f0; have f1 := X0.out.f1; have f2 := X0.out.f2; obtain ⟨x0, x1, x2⟩ := X1.out.s3; have y1 := X1.out.f1; clear hb4))
  refine bodyPost_ret (v := .tuple #[.agg #[.bool false, .int .i64 0, .string ⟨#[]⟩], .int .i64 5]) (by simp [results, Tryz.results16, go_sem, c0, c1, c2]) rfl ⟨rfl, ?_⟩
  exact ((HB5.out.setCell (Nat.le_refl _) _).setCell (Nat.le_refl _) _).setCell (Nat.le_refl _) _
set_option maxHeartbeats 4000000 in
theorem RParse_dyne (s : ByteArray) (w : World) (n : Int) (RS : ByteArray) (q : (s.toList == [110, 117, 108, 108]) = false) (qe : s.toList.isEmpty = false) (q3 : (RS.toList == s.toList) = false) (HSH : Hid (∀ w1, Calls Tryz.prog 12 #[.agg #[.bool false, .int .i64 n, .string ⟨#[]⟩], .int .i64 5] w1 fun e w' => e = .returned (.string RS) ∧ Below w1.heap.size w1 w')) (HT : Hid (∀ w1, Calls Tryz.prog 22 #[.int .i64 5] w1 fun e w' => e = .returned (.bool true) ∧ w' = w1)) (HU : Hid (∀ w1, Calls Tryz.prog 39 #[.string s] w1 fun e w' => e = .returned (.int .i64 n) ∧ Below w1.heap.size w1 w')) :
    Calls Tryz.prog 16 #[.string s, .int .i64 5] w fun e w' => e = .returned (.tuple #[.agg #[.bool false, .int .i64 0, .string ⟨#[]⟩], .int .i64 5]) ∧ Below w.heap.size w w' := by
  have n0 : ¬ w.heap.size = w.heap.size + 1 := by omega
  have n1 : ¬ w.heap.size + 1 = w.heap.size := by omega
  have B2 := Lib.hid (box2n w 0)
  go_enter Tryz.func16, Tryz.ntmps16
  go_wp2_with (first
    | (go_at_call 22; refine (HT.out _).mono ?_; rintro e w1 ⟨rfl, rfl⟩)
    | (go_at_call 39; refine (HU.out _).mono ?_; rintro e w4 ⟨rfl, hb4⟩; have HB4 := Lib.hid (B2.out.2.2.trans (hb4.mono B2.out.2.2.size)); have X0 := Lib.hid (B2.out.1.up hb4); have X1 := Lib.hid (B2.out.2.1.up hb4); have Y0 := Lib.hid (X0.out.other (j := 1) (v := (.int .i64 n)) n0); have Y1 := Lib.hid (X1.out.num n); have HB5 := Lib.hid (HB4.out.setCell (p := ⟨w.heap.size + 1, 1, none⟩) (by simp) (.int .i64 n)); obtain ⟨x0, x1, x2⟩ := X1.out.s3; have y1 := X1.out.f1; clear hb4)
    | (go_at_call 12; refine (HSH.out _).mono ?_; rintro e w6 ⟨rfl, hb6⟩; have HB6 := Lib.hid (HB5.out.trans (hb6.mono HB5.out.size)); have W0 := Y0.out.up hb6; have W1 := Y1.out.up hb6; clear x0 x1 x2 y1; have c0 := W0.c0; have c1 := W0.c1; have c2 := W0.c2; have f0 := W0.f0; have f1 := W0.f1; have f2 := W0.f2; have d0 := W1.c0; have d1 := W1.c1; have d2 := W1.c2; clear hb6 W0 W1))
  refine bodyPost_ret (v := .tuple #[.agg #[.bool false, .int .i64 0, .string ⟨#[]⟩], .int .i64 5]) (by simp [results, Tryz.results16, go_sem, c0, c1, c2]) rfl ⟨rfl, ?_⟩
  exact ((HB6.out.setCell (Nat.le_refl _) _).setCell (Nat.le_refl _) _).setCell (Nat.le_refl _) _
set_option maxHeartbeats 4000000 in
theorem RParse_dyeq (s : ByteArray) (w : World) (n : Int) (RS : ByteArray) (q : (s.toList == [110, 117, 108, 108]) = false) (qe : s.toList.isEmpty = false) (q3 : (RS.toList == s.toList) = true) (HSH : Hid (∀ w1, Calls Tryz.prog 12 #[.agg #[.bool false, .int .i64 n, .string ⟨#[]⟩], .int .i64 5] w1 fun e w' => e = .returned (.string RS) ∧ Below w1.heap.size w1 w')) (HT : Hid (∀ w1, Calls Tryz.prog 22 #[.int .i64 5] w1 fun e w' => e = .returned (.bool true) ∧ w' = w1)) (HU : Hid (∀ w1, Calls Tryz.prog 39 #[.string s] w1 fun e w' => e = .returned (.int .i64 n) ∧ Below w1.heap.size w1 w')) :
    Calls Tryz.prog 16 #[.string s, .int .i64 5] w fun e w' => e = .returned (.tuple #[.agg #[.bool false, .int .i64 n, .string ⟨#[]⟩], .int .i64 0]) ∧ Below w.heap.size w w' := by
  have n0 : ¬ w.heap.size = w.heap.size + 1 := by omega
  have n1 : ¬ w.heap.size + 1 = w.heap.size := by omega
  have B2 := Lib.hid (box2n w 0)
  go_enter Tryz.func16, Tryz.ntmps16
  go_wp2_with (first
    | (go_at_call 22; refine (HT.out _).mono ?_; rintro e w1 ⟨rfl, rfl⟩)
    | (go_at_call 39; refine (HU.out _).mono ?_; rintro e w4 ⟨rfl, hb4⟩; have HB4 := Lib.hid (B2.out.2.2.trans (hb4.mono B2.out.2.2.size)); have X0 := Lib.hid (B2.out.1.up hb4); have X1 := Lib.hid (B2.out.2.1.up hb4); have Y0 := Lib.hid (X0.out.other (j := 1) (v := (.int .i64 n)) n0); have Y1 := Lib.hid (X1.out.num n); have HB5 := Lib.hid (HB4.out.setCell (p := ⟨w.heap.size + 1, 1, none⟩) (by simp) (.int .i64 n)); obtain ⟨x0, x1, x2⟩ := X1.out.s3; have y1 := X1.out.f1; clear hb4)
    | (go_at_call 12; refine (HSH.out _).mono ?_; rintro e w6 ⟨rfl, hb6⟩; have HB6 := Lib.hid (HB5.out.trans (hb6.mono HB5.out.size)); have W0 := Y0.out.up hb6; have W1 := Y1.out.up hb6; clear x0 x1 x2 y1; have c0 := W0.c0; have c1 := W0.c1; have c2 := W0.c2; have f0 := W0.f0; have f1 := W0.f1; have f2 := W0.f2; have d0 := W1.c0; have d1 := W1.c1; have d2 := W1.c2; clear hb6 W0 W1))
  refine bodyPost_ret (v := .tuple #[.agg #[.bool false, .int .i64 n, .string ⟨#[]⟩], .int .i64 0]) (by simp [results, Tryz.results16, go_sem, c0, c1, c2]) rfl ⟨rfl, ?_⟩
  exact ((HB6.out.setCell (Nat.le_refl _) _).setCell (Nat.le_refl _) _).setCell (Nat.le_refl _) _
set_option maxHeartbeats 4000000 in
theorem RParse_nuem (s : ByteArray) (t : Int) (w : World) (n : Int) (q : (s.toList == [110, 117, 108, 108]) = false) (t1 : ¬ t = 1) (t4 : ¬ t = 4) (t5 : ¬ t = 5) (qe : s.toList.isEmpty = true) (HT : Hid (∀ w1, Calls Tryz.prog 22 #[.int .i64 t] w1 fun e w' => e = .returned (.bool true) ∧ w' = w1)) (HU : Hid (∀ w1, Calls Tryz.prog 40 #[.string s] w1 fun e w' => e = .returned (.int .i64 n) ∧ w' = w1)) :
    Calls Tryz.prog 16 #[.string s, .int .i64 t] w fun e w' => e = .returned (.tuple #[.agg #[.bool false, .int .i64 0, .string ⟨#[]⟩], .int .i64 5]) ∧ Below w.heap.size w w' := by
  have n0 : ¬ w.heap.size = w.heap.size + 1 := by omega
  have n1 : ¬ w.heap.size + 1 = w.heap.size := by omega
  have B2 := Lib.hid (box2n w n)
  go_enter Tryz.func16, Tryz.ntmps16
  go_wp2_with (first
    | (go_at_call 22; refine (HT.out _).mono ?_; rintro e w1 ⟨rfl, rfl⟩)
    | (go_at_call 40; refine (HU.out _).mono ?_; rintro e w1 ⟨rfl, rfl⟩))
  refine bodyPost_ret (v := .tuple #[.agg #[.bool false, .int .i64 0, .string ⟨#[]⟩], .int .i64 5]) (by simp [results, Tryz.results16, go_sem]) rfl ⟨rfl, ?_⟩
  exact B2.out.2.2
set_option maxHeartbeats 4000000 in
theorem RParse_nune (s : ByteArray) (t : Int) (w : World) (n : Int) (RS : ByteArray) (q : (s.toList == [110, 117, 108, 108]) = false) (t1 : ¬ t = 1) (t4 : ¬ t = 4) (t5 : ¬ t = 5) (qe : s.toList.isEmpty = false) (q3 : (RS.toList == s.toList) = false) (HSH : Hid (∀ w1, Calls Tryz.prog 12 #[.agg #[.bool false, .int .i64 n, .string ⟨#[]⟩], .int .i64 t] w1 fun e w' => e = .returned (.string RS) ∧ Below w1.heap.size w1 w')) (HT : Hid (∀ w1, Calls Tryz.prog 22 #[.int .i64 t] w1 fun e w' => e = .returned (.bool true) ∧ w' = w1)) (HU : Hid (∀ w1, Calls Tryz.prog 40 #[.string s] w1 fun e w' => e = .returned (.int .i64 n) ∧ w' = w1)) :
    Calls Tryz.prog 16 #[.string s, .int .i64 t] w fun e w' => e = .returned (.tuple #[.agg #[.bool false, .int .i64 0, .string ⟨#[]⟩], .int .i64 5]) ∧ Below w.heap.size w w' := by
  have n0 : ¬ w.heap.size = w.heap.size + 1 := by omega
  have n1 : ¬ w.heap.size + 1 = w.heap.size := by omega
  have B2 := Lib.hid (box2n w n)
  go_enter Tryz.func16, Tryz.ntmps16
  go_wp2_with (first
    | (go_at_call 22; refine (HT.out _).mono ?_; rintro e w1 ⟨rfl, rfl⟩)
    | (go_at_call 40; refine (HU.out _).mono ?_; rintro e w1 ⟨rfl, rfl⟩)
    | (go_at_call 12; refine (HSH.out _).mono ?_; rintro e w6 ⟨rfl, hb6⟩; have HB6 := Lib.hid (B2.out.2.2.trans (hb6.mono B2.out.2.2.size)); have W0 := B2.out.1.up hb6; have W1 := B2.out.2.1.up hb6; have c0 := W0.c0; have c1 := W0.c1; have c2 := W0.c2; have f0 := W0.f0; have f1 := W0.f1; have f2 := W0.f2; have d0 := W1.c0; have d1 := W1.c1; have d2 := W1.c2; clear hb6 W0 W1))
  refine bodyPost_ret (v := .tuple #[.agg #[.bool false, .int .i64 0, .string ⟨#[]⟩], .int .i64 5]) (by simp [results, Tryz.results16, go_sem, c0, c1, c2]) rfl ⟨rfl, ?_⟩
  exact ((HB6.out.setCell (Nat.le_refl _) _).setCell (Nat.le_refl _) _).setCell (Nat.le_refl _) _
set_option maxHeartbeats 4000000 in
theorem RParse_nueq (s : ByteArray) (t : Int) (w : World) (n : Int) (RS : ByteArray) (q : (s.toList == [110, 117, 108, 108]) = false) (t1 : ¬ t = 1) (t4 : ¬ t = 4) (t5 : ¬ t = 5) (qe : s.toList.isEmpty = false) (q3 : (RS.toList == s.toList) = true) (HSH : Hid (∀ w1, Calls Tryz.prog 12 #[.agg #[.bool false, .int .i64 n, .string ⟨#[]⟩], .int .i64 t] w1 fun e w' => e = .returned (.string RS) ∧ Below w1.heap.size w1 w')) (HT : Hid (∀ w1, Calls Tryz.prog 22 #[.int .i64 t] w1 fun e w' => e = .returned (.bool true) ∧ w' = w1)) (HU : Hid (∀ w1, Calls Tryz.prog 40 #[.string s] w1 fun e w' => e = .returned (.int .i64 n) ∧ w' = w1)) :
    Calls Tryz.prog 16 #[.string s, .int .i64 t] w fun e w' => e = .returned (.tuple #[.agg #[.bool false, .int .i64 n, .string ⟨#[]⟩], .int .i64 0]) ∧ Below w.heap.size w w' := by
  have n0 : ¬ w.heap.size = w.heap.size + 1 := by omega
  have n1 : ¬ w.heap.size + 1 = w.heap.size := by omega
  have B2 := Lib.hid (box2n w n)
  go_enter Tryz.func16, Tryz.ntmps16
  go_wp2_with (first
    | (go_at_call 22; refine (HT.out _).mono ?_; rintro e w1 ⟨rfl, rfl⟩)
    | (go_at_call 40; refine (HU.out _).mono ?_; rintro e w1 ⟨rfl, rfl⟩)
    | (go_at_call 12; refine (HSH.out _).mono ?_; rintro e w6 ⟨rfl, hb6⟩; have HB6 := Lib.hid (B2.out.2.2.trans (hb6.mono B2.out.2.2.size)); have W0 := B2.out.1.up hb6; have W1 := B2.out.2.1.up hb6; have c0 := W0.c0; have c1 := W0.c1; have c2 := W0.c2; have f0 := W0.f0; have f1 := W0.f1; have f2 := W0.f2; have d0 := W1.c0; have d1 := W1.c1; have d2 := W1.c2; clear hb6 W0 W1))
  refine bodyPost_ret (v := .tuple #[.agg #[.bool false, .int .i64 n, .string ⟨#[]⟩], .int .i64 0]) (by simp [results, Tryz.results16, go_sem, c0, c1, c2]) rfl ⟨rfl, ?_⟩
  exact ((HB6.out.setCell (Nat.le_refl _) _).setCell (Nat.le_refl _) _).setCell (Nat.le_refl _) _
end Go.Proofs.YteaaadccjnmacaaGreatDoor
namespace Go.Proofs.YteaaadccjnmacaaGreatDoor
open Go.RowKit Go.Lib

/-- the value that a notation suggests to the reference -/
def gV (l : List UInt8) (t : Int) : Va :=
  if t = 4 then ⟨false, 0, str (gText l)⟩ else if t = 5 then ⟨false, gDay l, ⟨#[]⟩⟩ else if t = 1 then ⟨false, if l = trueB then 1 else 0, ⟨#[]⟩⟩ else ⟨false, gInt l, ⟨#[]⟩⟩
theorem gDay_b (l : List UInt8) : -20000000 ≤ gDay l ∧ gDay l ≤ 20000000 := by
  unfold gDay
  split
  · omega
  · rename_i h
    have h1 := yS_b (gYear l) (by omega) (by omega)
    have h2 := mB_b (gYear l) (gMon l - 1).toNat (by omega)
    omega
theorem gV_fine (l : List UInt8) (t : Int) (hl : l.length ≤ 1000000) : (gV l t).Fine ∧ (gV l t).s.size ≤ 1000000 := by
  have h0 : (⟨#[]⟩ : ByteArray).size = 0 := rfl
  unfold gV
  split
  · have h1 : (str (gText l)).size ≤ 1000000 := by
      rw [str_size]
      have h2 := gT_len (l.drop 1).length (l.drop 1)
      simp only [List.length_drop] at h2
      unfold gText gTx
      simp only [List.length_drop]
      omega
    exact ⟨⟨by simp, by simp, by simp only; omega⟩, h1⟩
  · split
    · have h1 := gDay_b l
      exact ⟨⟨by simp only; omega, by simp only; omega, by simp [h0]⟩, by simp [h0]⟩
    · split
      · split
        · exact ⟨⟨by simp, by simp, by simp [h0]⟩, by simp [h0]⟩
        · exact ⟨⟨by simp, by simp, by simp [h0]⟩, by simp [h0]⟩
      · have h1 := gInt_b l
        exact ⟨⟨h1.1, h1.2, by simp [h0]⟩, by simp [h0]⟩
theorem gV_show {v : Va} {t : Int} (h : okV v t = true) (hv : v.Fine) (hb : v.b = false) : gV (showL v t) t = v := by
  have hs : showL v t = (if v.b = true then nullB else if t = 4 then quoteL v.s.data.toList else if t = 5 then dateL v.n else if t = 1 then (if v.n = 0 then falseB else trueB) else Lib.itoa v.n) := by unfold showL; rw [if_pos h]
  rw [hs, if_neg (by simp [hb])]
  obtain ⟨b, n, s⟩ := v
  simp only at hb hv ⊢
  subst hb
  by_cases h4 : t = 4
  · subst h4
    have hk := ok_text h rfl
    simp only at hk
    unfold gV
    rw [if_pos rfl, if_pos rfl, gText_q, str_of, hk.1]
  · rw [if_neg h4]
    by_cases h5 : t = 5
    · subst h5
      have hk := ok_day h rfl
      simp only at hk
      unfold gV
      rw [if_pos rfl, if_neg h4, if_pos rfl, gDay_date n hk.1 hk.2.1, hk.2.2]
    · rw [if_neg h5]
      by_cases h1 : t = 1
      · subst h1
        have hk := ok_bool h rfl
        simp only at hk
        unfold gV
        have : n = 0 ∨ n = 1 := by omega
        rcases this with rfl | rfl
        · rw [if_pos rfl, if_pos rfl, if_neg h4, if_neg h5, if_pos rfl, if_neg (by decide), hk.2.2]
        · rw [if_pos rfl, if_neg (by omega : ¬ (1 : Int) = 0), if_neg h4, if_neg h5, if_pos rfl, if_pos rfl, hk.2.2]
      · rw [if_neg h1]
        have hty := ok_ty h
        have hk := ok_num h rfl (by omega)
        simp only at hk
        unfold gV
        rw [if_neg h4, if_neg h5, if_neg h1, gInt_itoa n hv.lo hv.hi, hk]
theorem show_ne {v : Va} {t : Int} (h : okV v t = true) : showL v t ≠ [] := by
  have hs : showL v t = (if v.b = true then nullB else if t = 4 then quoteL v.s.data.toList else if t = 5 then dateL v.n else if t = 1 then (if v.n = 0 then falseB else trueB) else Lib.itoa v.n) := by unfold showL; rw [if_pos h]
  rw [hs]
  split
  · decide
  · rename_i hb
    have hb : v.b = false := by simpa using hb
    split
    · unfold quoteL; simp
    · split
      · rename_i h5
        subst h5
        have hk := ok_day h hb
        have := date_len v.n hk.1 hk.2.1
        intro e
        rw [e] at this
        simp at this
      · split
        · split <;> decide
        · unfold Lib.itoa
          split
          · simp
          · exact dd_ne _
theorem rpar_eq {l : List UInt8} {t : Int} (hl : l.length ≤ 1000000) (hc : (candV l t).Fine) (ht : 1 ≤ t ∧ t ≤ 5) (hn : ¬ l = nullB) :
    parV l t = if l = [] ∨ ¬ showL (gV l t) t = l then (⟨false, 0, ⟨#[]⟩⟩, 5) else (gV l t, 0) := by
  by_cases hg : l = [] ∨ ¬ showL (gV l t) t = l
  · rw [if_pos hg]
    unfold parV
    rw [if_neg (by simpa using ht), if_neg]
    rintro ⟨k1, k2⟩
    have hb : (candV l t).b = false := by
      cases hb : (candV l t).b with
      | false => rfl
      | true =>
        have e := ok_null k1 hb
        have e2 : showL (candV l t) t = nullB := by unfold showL; rw [if_pos k1, if_pos hb]
        exact absurd (k2.symm.trans e2) hn
    have e := gV_show k1 hc hb
    rw [k2] at e
    rcases hg with h | h
    · exact show_ne k1 (k2.trans h)
    · exact h (by rw [e]; exact k2)
  · rw [if_neg hg]
    have h2 : showL (gV l t) t = l := Decidable.not_not.1 (fun h => hg (.inr h))
    have hk : okV (gV l t) t = true := by
      cases hk : okV (gV l t) t with
      | true => rfl
      | false =>
        have : showL (gV l t) t = [] := by unfold showL; rw [hk]; rfl
        exact absurd (.inl (h2.symm.trans this)) hg
    have h3 := par_show hk (gV_fine l t hl).1
    rwa [h2] at h3
theorem str_q {s RS : ByteArray} {R : List UInt8} (h : RS = str R) (z : Bool) (hz : decide (R = s.data.toList) = z) : (RS.toList == s.toList) = z := by
  subst hz h
  rw [Lib.toList_data, Lib.toList_data, str_data]
  by_cases e : R = s.data.toList
  · simp [e]
  · rw [decide_eq_false e]
    simpa using e
theorem ne_q {s : ByteArray} (z : Bool) (hz : decide (s.data.toList = []) = z) : s.toList.isEmpty = z := by
  subst hz
  rw [Lib.toList_data]
  cases h : s.data.toList <;> simp
set_option maxHeartbeats 2000000 in
theorem RParse_any (s : ByteArray) (t : Int) (w : World) (hs : s.size ≤ 1000000) : Calls Tryz.prog 16 #[.string s, .int .i64 t] w fun e w' => e = .returned (.tuple #[(parV s.data.toList t).1.val, .int .i64 ((parV s.data.toList t).2 : Nat)]) ∧ Below w.heap.size w w' := by
  by_cases ht : ¬ (1 ≤ t ∧ t ≤ 5)
  · have hp : Hid (parV s.data.toList t = (⟨false, 0, ⟨#[]⟩⟩, 7)) := by show _ = _; unfold parV; rw [if_pos ht]
    have HT := Lib.hid (fun w1 => RType_any t false w1 (by simpa using ht))
    clear ht
    go_enter Tryz.func16, Tryz.ntmps16
    go_wp2_with (go_at_call 22; refine (HT.out _).mono ?_; rintro e w1 ⟨rfl, rfl⟩)
    refine bodyPost_ret (v := .tuple #[.agg #[.bool false, .int .i64 0, .string ⟨#[]⟩], .int .i64 7]) (by simp [results, Tryz.results16, go_sem]) rfl (ret2v (by rw [hp.out]; rfl) (by rw [hp.out]; rfl) ?_)
    exact val_al _ _
  · have ht' : 1 ≤ t ∧ t ≤ 5 := Decidable.not_not.1 ht
    have HT := Lib.hid (fun w1 => RType_any t true w1 (by simpa using ht'))
    by_cases hnl : s.data.toList = nullB
    · have hk : okV ⟨true, 0, ⟨#[]⟩⟩ t = true := by
        unfold okV
        rw [if_pos rfl]
        simp [ht', empS_mt]
      have hf : Va.Fine ⟨true, 0, ⟨#[]⟩⟩ := ⟨by simp, by simp, by decide⟩
      have hp : Hid (parV s.data.toList t = (⟨true, 0, ⟨#[]⟩⟩, 0)) := by
        have h := par_show hk hf
        have e : showL ⟨true, 0, ⟨#[]⟩⟩ t = nullB := by unfold showL; rw [if_pos hk]; rfl
        rw [e] at h
        show _ = _
        rw [hnl]
        exact h
      have q : (s.toList == [110, 117, 108, 108]) = true := mk_eq hnl
      clear hnl ht hk hf ht'
      go_enter Tryz.func16, Tryz.ntmps16
      go_wp2_with (go_at_call 22; refine (HT.out _).mono ?_; rintro e w1 ⟨rfl, rfl⟩)
      refine bodyPost_ret (v := .tuple #[.agg #[.bool true, .int .i64 0, .string ⟨#[]⟩], .int .i64 0]) (by simp [results, Tryz.results16, go_sem]) rfl (ret2v (by rw [hp.out]; rfl) (by rw [hp.out]; rfl) ?_)
      exact val_al _ _
    · have q : (s.toList == [110, 117, 108, 108]) = false := mk_ne hnl
      have hsl : s.data.toList.length ≤ 1000000 := hs
      have hp := rpar_eq hsl (cand_fine s t hs).1 ht' hnl
      obtain ⟨hgf, hgs⟩ := gV_fine s.data.toList t hsl
      have HSH : Hid (∀ w1, Calls Tryz.prog 12 #[(gV s.data.toList t).val, .int .i64 t] w1 fun e w' => e = .returned (.string (str (showL (gV s.data.toList t) t))) ∧ Below w1.heap.size w1 w') := fun w1 => RShow_any _ _ _ t w1 hgf hgs
      rw [hp]
      obtain ⟨g, hg⟩ : ∃ g, g = gV s.data.toList t := ⟨_, rfl⟩
      rw [← hg] at HSH hgf hgs ⊢
      -- the outcomes
      have key : ∀ (A B C : Prop), (s.data.toList = [] → A) → (¬ s.data.toList = [] → ¬ showL g t = s.data.toList → B) → (¬ s.data.toList = [] → showL g t = s.data.toList → C) → (s.data.toList = [] ∧ A) ∨ (¬ s.data.toList = [] ∧ ¬ showL g t = s.data.toList ∧ B) ∨ (¬ s.data.toList = [] ∧ showL g t = s.data.toList ∧ C) := by
        intro A B C hA hB hC
        by_cases h1 : s.data.toList = []
        · exact .inl ⟨h1, hA h1⟩
        · by_cases h2 : showL g t = s.data.toList
          · exact .inr (.inr ⟨h1, h2, hC h1 h2⟩)
          · exact .inr (.inl ⟨h1, h2, hB h1 h2⟩)
      have out : ∀ (x : Value), x = g.val →
          (s.toList.isEmpty = true → Calls Tryz.prog 16 #[.string s, .int .i64 t] w fun e w' => e = .returned (.tuple #[.agg #[.bool false, .int .i64 0, .string ⟨#[]⟩], .int .i64 5]) ∧ Below w.heap.size w w') →
          (s.toList.isEmpty = false → ((str (showL g t)).toList == s.toList) = false → Calls Tryz.prog 16 #[.string s, .int .i64 t] w fun e w' => e = .returned (.tuple #[.agg #[.bool false, .int .i64 0, .string ⟨#[]⟩], .int .i64 5]) ∧ Below w.heap.size w w') →
          (s.toList.isEmpty = false → ((str (showL g t)).toList == s.toList) = true → Calls Tryz.prog 16 #[.string s, .int .i64 t] w fun e w' => e = .returned (.tuple #[x, .int .i64 0]) ∧ Below w.heap.size w w') →
          Calls Tryz.prog 16 #[.string s, .int .i64 t] w fun e w' => e = .returned (.tuple #[(if s.data.toList = [] ∨ ¬ showL g t = s.data.toList then ((⟨false, 0, ⟨#[]⟩⟩, 5) : Va × Nat) else (g, 0)).1.val, .int .i64 ((if s.data.toList = [] ∨ ¬ showL g t = s.data.toList then ((⟨false, 0, ⟨#[]⟩⟩, 5) : Va × Nat) else (g, 0)).2 : Nat)]) ∧ Below w.heap.size w w' := by
        intro x hx h1 h2 h3
        subst hx
        by_cases e1 : s.data.toList = []
        · rw [if_pos (.inl e1)]
          exact h1 (ne_q true (by simp [e1]))
        · by_cases e2 : showL g t = s.data.toList
          · rw [if_neg (by simp [e1, e2])]
            exact h3 (ne_q false (by simp [e1])) (str_q rfl true (by simp [e2]))
          · rw [if_pos (.inr e2)]
            exact h2 (ne_q false (by simp [e1])) (str_q rfl false (by simp [e2]))
      clear key hp
      by_cases h4 : t = 4
      · subst h4
        have e : g = ⟨false, 0, str (gText s.data.toList)⟩ := by rw [hg]; unfold gV; rw [if_pos rfl]
        have HU := Lib.hid (fun w1 => RguessText_any s w1 hs)
        rw [e] at HSH
        exact out (.agg #[.bool false, .int .i64 0, .string (str (gText s.data.toList))]) (by rw [e]; rfl) (fun a => RParse_teem s w _ q a HT HU) (fun a b => RParse_tene s w _ _ q a (by rw [e] at b; exact b) HSH HT HU) (fun a b => RParse_teeq s w _ _ q a (by rw [e] at b; exact b) HSH HT HU)
      · by_cases h5 : t = 5
        · subst h5
          have e : g = ⟨false, gDay s.data.toList, ⟨#[]⟩⟩ := by rw [hg]; unfold gV; rw [if_neg h4, if_pos rfl]
          have HU := Lib.hid (fun w1 => RguessDay_any s w1 hs)
          rw [e] at HSH
          exact out (.agg #[.bool false, .int .i64 (gDay s.data.toList), .string ⟨#[]⟩]) (by rw [e]; rfl) (fun a => RParse_dyem s w _ q a HT HU) (fun a b => RParse_dyne s w _ _ q a (by rw [e] at b; exact b) HSH HT HU) (fun a b => RParse_dyeq s w _ _ q a (by rw [e] at b; exact b) HSH HT HU)
        · by_cases h1 : t = 1
          · subst h1
            by_cases htr : s.data.toList = trueB
            · have e : g = ⟨false, 1, ⟨#[]⟩⟩ := by rw [hg]; unfold gV; rw [if_neg h4, if_neg h5, if_pos rfl, if_pos htr]
              have q2 : (s.toList == [116, 114, 117, 101]) = true := mk_eq htr
              rw [e] at HSH
              exact out (.agg #[.bool false, .int .i64 1, .string ⟨#[]⟩]) (by rw [e]; rfl) (fun a => RParse_t1em s w q q2 a HT) (fun a b => RParse_t1ne s w _ q q2 a (by rw [e] at b; exact b) HSH HT) (fun a b => RParse_t1eq s w _ q q2 a (by rw [e] at b; exact b) HSH HT)
            · have e : g = ⟨false, 0, ⟨#[]⟩⟩ := by rw [hg]; unfold gV; rw [if_neg h4, if_neg h5, if_pos rfl, if_neg htr]
              have q2 : (s.toList == [116, 114, 117, 101]) = false := mk_ne htr
              rw [e] at HSH
              exact out (.agg #[.bool false, .int .i64 0, .string ⟨#[]⟩]) (by rw [e]; rfl) (fun a => RParse_t0em s w q q2 a HT) (fun a b => RParse_t0ne s w _ q q2 a (by rw [e] at b; exact b) HSH HT) (fun a b => RParse_t0eq s w _ q q2 a (by rw [e] at b; exact b) HSH HT)
          · have e : g = ⟨false, gInt s.data.toList, ⟨#[]⟩⟩ := by rw [hg]; unfold gV; rw [if_neg h4, if_neg h5, if_neg h1]
            have HU := Lib.hid (fun w1 => RguessInt_any s w1 hs)
            rw [e] at HSH
            exact out (.agg #[.bool false, .int .i64 (gInt s.data.toList), .string ⟨#[]⟩]) (by rw [e]; rfl) (fun a => RParse_nuem s t w _ q h1 h4 h5 a HT HU) (fun a b => RParse_nune s t w _ _ q h1 h4 h5 a (by rw [e] at b; exact b) HSH HT HU) (fun a b => RParse_nueq s t w _ _ q h1 h4 h5 a (by rw [e] at b; exact b) HSH HT HU)
end Go.Proofs.YteaaadccjnmacaaGreatDoor
namespace Go.Proofs.YteaaadccjnmacaaGreatDoor
open Go.RowKit Go.Lib

theorem conv_str5 (w : World) (B : Nat) (A : Option Addr) (N cap : Nat) (l : List UInt8) (hN : N = l.length) (h : Shows w B A l) : (convert 22 9 (.slice A N cap)).run Tryz.prog w = .ok (.string (str l)) w :=
  run_string_shows w 22 9 Tryz.underlying22 Tryz.underlying5 Tryz.underlying9 hN h
attribute [local go_sem high] run_eq_same
set_option maxHeartbeats 4000000 in
set_option maxRecDepth 20000 in
theorem walkDmr (A : Option Addr) (cap : Nat) (l : List UInt8) (a t : Int) (w : World) (hs : Shows w w.heap.size A l) (hc : l.length ≤ cap) (hcap : cap ≤ 140737488351232) (_ : -9223372036854775808 ≤ a) (_ : a ≤ 9223372036854775807) (_ : -9223372036854775808 ≤ t) (_ : t ≤ 9223372036854775807) (hG : Glob5 w) :
    Calls Tryz.prog 4 #[.slice A l.length cap, .int .i64 a, .int .i64 t] w fun e w' => e = .returned (.bool true) ∧ Below w.heap.size w w' := by
  have HSN := Lib.hid (sanity_any w hG)
  by_cases hbig : 400 < l.length
  · have j1 : 400 < (l.length : Int) := by omega
    generalize l.length = N at *
    clear hs hG hbig
    go_enter Tryz.func4, Tryz.ntmps4
    go_wp2_with (go_at_call 5; refine HSN.out.mono ?_; rintro e w1 ⟨rfl, hb1⟩; have HB1 := Lib.hid hb1; clear hb1)
    go_ret
    exact ⟨rfl, HB1.out⟩
  · obtain ⟨N, hN⟩ : ∃ N, N = l.length := ⟨_, rfl⟩
    have HD1 : Hid (∀ w1, Below w.heap.size w w1 → Calls Tryz.prog 13 #[.slice A N cap, .int .i64 a, .int .i64 t] w1 fun e w' => e = retV (decL l a t) ∧ Below w1.heap.size w1 w') := fun w1 hb => Decode_any A N cap l a t w1 hN (hs.up hb) (by omega) (by omega) (by omega)
    have HD2 : Hid (∀ w1, Below w.heap.size w w1 → Calls Tryz.prog 14 #[.slice A N cap, .int .i64 a, .int .i64 t] w1 fun e w' => e = retV (decL l a t) ∧ Below w1.heap.size w1 w') := fun w1 hb => RDecode_any A N cap l a t w1 hN (hs.up hb) (by omega) (by omega) (by omega)
    have hsz : (str l).size ≤ 1000000 := by rw [str_size]; omega
    have HP1 : Hid (∀ w1, Below w.heap.size w w1 → Calls Tryz.prog 15 #[.string (str l), .int .i64 t] w1 fun e w' => e = .returned (.tuple #[(parV l t).1.val, .int .i64 ((parV l t).2 : Nat)]) ∧ Below w1.heap.size w1 w') := fun w1 hb => by
      have h := Parse_any (str l) t w1 (hG.up hb) hsz
      rwa [str_data] at h
    have HP2 : Hid (∀ w1, Below w.heap.size w w1 → Calls Tryz.prog 16 #[.string (str l), .int .i64 t] w1 fun e w' => e = .returned (.tuple #[(parV l t).1.val, .int .i64 ((parV l t).2 : Nat)]) ∧ Below w1.heap.size w1 w') := fun w1 hb => by
      have h := RParse_any (str l) t w1 hsz
      rwa [str_data] at h
    have HCV : Hid (∀ w1, Below w.heap.size w w1 → (convert 22 9 (.slice A N cap)).run Tryz.prog w1 = .ok (.string (str l)) w1) := fun w1 hb => conv_str5 w1 w.heap.size A N cap l hN (hs.below hb)
    generalize decL l a t = r at *
    obtain ⟨⟨rb, rn, rs⟩, rk, rz⟩ := r
    generalize parV l t = x at *
    obtain ⟨⟨xb, xn, xs⟩, xz⟩ := x
    unfold retV Va.val at HD1 HD2
    unfold Va.val at HP1 HP2
    simp only at HD1 HD2 HP1 HP2
    have j1 : ¬ 400 < (N : Int) := by omega
    rw [← hN]
    generalize str l = sl at *
    clear hs hG hbig hN hc hcap hsz
    go_enter Tryz.func4, Tryz.ntmps4
    go_wp2_with (first
      | (go_at_call 5; refine HSN.out.mono ?_; rintro e w1 ⟨rfl, hb1⟩; have HB1 := Lib.hid hb1; clear hb1)
      | (go_at_call 13; refine (HD1.out _ HB1.out).mono ?_; rintro e w2 ⟨rfl, hb2⟩; have X8 := Lib.hid (VB.new w2 rb rn rs); have HB2 := Lib.hid ((HB1.out.trans (hb2.mono HB1.out.size)).trans ((val_al w2 (.cells #[.bool rb, .int .i64 rn, .string rs] 24)).mono (Nat.le_trans HB1.out.size hb2.size))); clear hb2)
      | (go_at_call 14; refine (HD2.out _ HB2.out).mono ?_; rintro e w3 ⟨rfl, hb3⟩; have X8 := Lib.hid ((X8.out.up hb3).up (val_al w3 (.cells #[.bool rb, .int .i64 rn, .string rs] 24))); have X11 := Lib.hid (VB.new w3 rb rn rs); have HB3 := Lib.hid ((HB2.out.trans (hb3.mono HB2.out.size)).trans ((val_al w3 (.cells #[.bool rb, .int .i64 rn, .string rs] 24)).mono (Nat.le_trans HB2.out.size hb3.size))); have hcv := HCV.out _ HB3.out; clear hb3)
      | (go_at_call 15; refine (HP1.out _ HB3.out).mono ?_; rintro e w4 ⟨rfl, hb4⟩; have X8 := Lib.hid ((X8.out.up hb4).up (val_al w4 (.cells #[.bool xb, .int .i64 xn, .string xs] 24))); have X11 := Lib.hid ((X11.out.up hb4).up (val_al w4 (.cells #[.bool xb, .int .i64 xn, .string xs] 24))); have X14 := Lib.hid (VB.new w4 xb xn xs); have HB4 := Lib.hid ((HB3.out.trans (hb4.mono HB3.out.size)).trans ((val_al w4 (.cells #[.bool xb, .int .i64 xn, .string xs] 24)).mono (Nat.le_trans HB3.out.size hb4.size))); clear hcv; have hcv := HCV.out _ HB4.out; clear hb4)
      | (go_at_call 16; refine (HP2.out _ HB4.out).mono ?_; rintro e w5 ⟨rfl, hb5⟩; have X8 := Lib.hid ((X8.out.up hb5).up (val_al w5 (.cells #[.bool xb, .int .i64 xn, .string xs] 24))); have X11 := Lib.hid ((X11.out.up hb5).up (val_al w5 (.cells #[.bool xb, .int .i64 xn, .string xs] 24))); have X14 := Lib.hid ((X14.out.up hb5).up (val_al w5 (.cells #[.bool xb, .int .i64 xn, .string xs] 24))); have HB5 := Lib.hid ((HB4.out.trans (hb5.mono HB4.out.size)).trans ((val_al w5 (.cells #[.bool xb, .int .i64 xn, .string xs] 24)).mono (Nat.le_trans HB4.out.size hb5.size))); clear hcv hb5; obtain ⟨a0, a1, a2⟩ := X8.out.s3; obtain ⟨b0, b1, b2⟩ := X11.out.s3; obtain ⟨c0, c1, c2⟩ := X14.out.s3))
    go_ret
    exact ⟨rfl, HB5.out⟩
end Go.Proofs.YteaaadccjnmacaaGreatDoor
