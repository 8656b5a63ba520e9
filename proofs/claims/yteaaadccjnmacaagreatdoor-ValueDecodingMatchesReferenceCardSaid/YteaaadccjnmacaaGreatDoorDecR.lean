/-
  The reference's Decode, by a contract.
-/
import Derived.Test.YteaaadccjnmacaaGreatDoorDecP
import Derived.Test.YteaaadccjnmacaaGreatDoorValR
import Derived.Test.YteaaadccjnmacaaGreatDoorRefS
import Derived.Test.YteaaadccjnmacaaGreatDoorStep
namespace Go.Proofs.YteaaadccjnmacaaGreatDoor
open Go.RowKit Go.Lib

theorem VB.text {w : World} {h : Nat} {b : Bool} {n : Int} {s : ByteArray} (k : VB w h b n s) (s' : ByteArray) : VB (w.setCell ⟨h, 2, none⟩ (.string s')) h b n s' := by
  obtain ⟨c0, c1, c2, f0, f1, f2, lt⟩ := k
  exact ⟨by simp [go_sem, c0, c1, c2, f0, f1, f2], by simp [go_sem, c0, c1, c2, f0, f1, f2], by simp [go_sem, c0, c1, c2, f0, f1, f2], by simp [go_sem, f0], by simp [go_sem, f1], by simp [go_sem, f2], by simpa using lt⟩
theorem VB.other {w : World} {h g j : Nat} {v : Value} {b : Bool} {n : Int} {s : ByteArray} (k : VB w h b n s) (hne : ¬ h = g) : VB (w.setCell ⟨g, j, none⟩ v) h b n s := by
  obtain ⟨c0, c1, c2, f0, f1, f2, lt⟩ := k
  have e := Below.heap_setCell w ⟨g, j, none⟩ v h hne
  exact ⟨(World.cell?_of_block (a := ⟨h, 0, none⟩) e).trans c0, (World.cell?_of_block (a := ⟨h, 1, none⟩) e).trans c1, (World.cell?_of_block (a := ⟨h, 2, none⟩) e).trans c2, (World.frozen?_of_block (a := ⟨h, 0, none⟩) e).trans f0, (World.frozen?_of_block (a := ⟨h, 1, none⟩) e).trans f1, (World.frozen?_of_block (a := ⟨h, 2, none⟩) e).trans f2, by simpa [World.setCell] using lt⟩
/-- the three boxes: the result, none, v -/
theorem boxes3 (w : World) : VB (((w.alloc (.cells #[.bool false, .int .i64 0, .string ⟨#[]⟩] 24)).alloc (.cells #[.bool false, .int .i64 0, .string ⟨#[]⟩] 24)).alloc (.cells #[.bool false, .int .i64 0, .string ⟨#[]⟩] 24)) w.heap.size false 0 ⟨#[]⟩ ∧ VB (((w.alloc (.cells #[.bool false, .int .i64 0, .string ⟨#[]⟩] 24)).alloc (.cells #[.bool false, .int .i64 0, .string ⟨#[]⟩] 24)).alloc (.cells #[.bool false, .int .i64 0, .string ⟨#[]⟩] 24)) (w.heap.size + 1) false 0 ⟨#[]⟩ ∧ VB (((w.alloc (.cells #[.bool false, .int .i64 0, .string ⟨#[]⟩] 24)).alloc (.cells #[.bool false, .int .i64 0, .string ⟨#[]⟩] 24)).alloc (.cells #[.bool false, .int .i64 0, .string ⟨#[]⟩] 24)) (w.heap.size + 1 + 1) false 0 ⟨#[]⟩ ∧ Below w.heap.size w (((w.alloc (.cells #[.bool false, .int .i64 0, .string ⟨#[]⟩] 24)).alloc (.cells #[.bool false, .int .i64 0, .string ⟨#[]⟩] 24)).alloc (.cells #[.bool false, .int .i64 0, .string ⟨#[]⟩] 24)) := by
  have X0 := VB.new w false 0 ⟨#[]⟩
  have X1 := VB.newAt (w.alloc (.cells #[.bool false, .int .i64 0, .string ⟨#[]⟩] 24)) false 0 ⟨#[]⟩ (w.heap.size + 1) (by simp)
  have X2 := VB.newAt ((w.alloc (.cells #[.bool false, .int .i64 0, .string ⟨#[]⟩] 24)).alloc (.cells #[.bool false, .int .i64 0, .string ⟨#[]⟩] 24)) false 0 ⟨#[]⟩ (w.heap.size + 1 + 1) (by simp)
  exact ⟨(X0.up (val_al _ _)).up (val_al _ _), X1.up (val_al _ _), X2, ((val_al w _).alloc (by simp) _).alloc (by simp; omega) _⟩
theorem box3n (w : World) (n : Int) : VB (((w.alloc (.cells #[.bool false, .int .i64 0, .string ⟨#[]⟩] 24)).alloc (.cells #[.bool false, .int .i64 0, .string ⟨#[]⟩] 24)).alloc (.cells #[.bool false, .int .i64 n, .string ⟨#[]⟩] 24)) w.heap.size false 0 ⟨#[]⟩ ∧ VB (((w.alloc (.cells #[.bool false, .int .i64 0, .string ⟨#[]⟩] 24)).alloc (.cells #[.bool false, .int .i64 0, .string ⟨#[]⟩] 24)).alloc (.cells #[.bool false, .int .i64 n, .string ⟨#[]⟩] 24)) (w.heap.size + 1) false 0 ⟨#[]⟩ ∧ VB (((w.alloc (.cells #[.bool false, .int .i64 0, .string ⟨#[]⟩] 24)).alloc (.cells #[.bool false, .int .i64 0, .string ⟨#[]⟩] 24)).alloc (.cells #[.bool false, .int .i64 n, .string ⟨#[]⟩] 24)) (w.heap.size + 1 + 1) false n ⟨#[]⟩ ∧ Below w.heap.size w (((w.alloc (.cells #[.bool false, .int .i64 0, .string ⟨#[]⟩] 24)).alloc (.cells #[.bool false, .int .i64 0, .string ⟨#[]⟩] 24)).alloc (.cells #[.bool false, .int .i64 n, .string ⟨#[]⟩] 24)) := by
  have X0 := VB.new w false 0 ⟨#[]⟩
  have X1 := VB.newAt (w.alloc (.cells #[.bool false, .int .i64 0, .string ⟨#[]⟩] 24)) false 0 ⟨#[]⟩ (w.heap.size + 1) (by simp)
  have X2 := VB.newAt ((w.alloc (.cells #[.bool false, .int .i64 0, .string ⟨#[]⟩] 24)).alloc (.cells #[.bool false, .int .i64 0, .string ⟨#[]⟩] 24)) false n ⟨#[]⟩ (w.heap.size + 1 + 1) (by simp)
  exact ⟨(X0.up (val_al _ _)).up (val_al _ _), X1.up (val_al _ _), X2, ((val_al w _).alloc (by simp) _).alloc (by simp; omega) _⟩

set_option maxHeartbeats 4000000 in
theorem RDecode_et (A : Option Addr) (N cap : Nat) (k : Nat) (g off : Nat) (w : World) (rn : Int) (rs : ByteArray) (rk rz : Nat) (hk : (k : Int) < (N : Int)) (hN : N ≤ 1000000) (hA : A = some ⟨g, off, none⟩) (hg : g < w.heap.size) (hc : w.cell? ⟨g, off + k, none⟩ = some (.int .u8 1))  (hz : ¬ (rz : Int) = 0)
    (HT : Hid (∀ w1, Calls Tryz.prog 22 #[.int .i64 4] w1 fun e w' => e = .returned (.bool true) ∧ w' = w1))
    (HC : Hid (∀ w1, Below w.heap.size w w1 → Calls Tryz.prog 35 #[.slice A N cap, .int .i64 ((k : Int) + 1)] w1 fun e w' => e = .returned (.tuple #[.string rs, .int .i64 (rk : Int), .int .i64 (rz : Int)]) ∧ Below w1.heap.size w1 w')) :
    Calls Tryz.prog 14 #[.slice A N cap, .int .i64 (k : Int), .int .i64 4] w fun e w' => e = .returned (.tuple #[.agg #[.bool false, .int .i64 0, .string ⟨#[]⟩], .int .i64 0, .int .i64 (rz : Int)]) ∧ Below w.heap.size w w' := by
  have hcw := ((boxes3 w).2.2.2.cell (p := ⟨g, off + k, none⟩) hg).trans hc
  have hcw2 := (((val_al w (.cells #[.bool false, .int .i64 0, .string ⟨#[]⟩] 24)).alloc (by simp) (.cells #[.bool false, .int .i64 0, .string ⟨#[]⟩] 24)).cell (p := ⟨g, off + k, none⟩) hg).trans hc
  have B3 := Lib.hid (boxes3 w)
  subst hA
  clear hc
  go_enter Tryz.func14, Tryz.ntmps14
  go_wp2_with (first
    | (go_at_call 22; refine (HT.out _).mono ?_; rintro e w1 ⟨rfl, rfl⟩)
    | (go_at_call 35; refine (HC.out _ B3.out.2.2.2).mono ?_; rintro e w4 ⟨rfl, hb4⟩; have HB4 := Lib.hid (B3.out.2.2.2.trans (hb4.mono B3.out.2.2.2.size)); have X0 := Lib.hid (B3.out.1.up hb4); have X1 := Lib.hid (B3.out.2.1.up hb4); have X2 := Lib.hid (B3.out.2.2.1.up hb4); have n0 : ¬ w.heap.size = w.heap.size + 1 + 1 := (by omega); have n1 : ¬ w.heap.size + 1 = w.heap.size + 1 + 1 := (by omega); have n2 : ¬ w.heap.size + 1 + 1 = w.heap.size := (by omega); have Y0 := Lib.hid (X0.out.other (j := 2) (v := .string rs) n0); have Y1 := Lib.hid (X1.out.other (j := 2) (v := .string rs) n1); have Y2 := Lib.hid (X2.out.text rs); have HB5 := Lib.hid (HB4.out.setCell (p := ⟨w.heap.size + 1 + 1, 2, none⟩) (by simp; omega) (.string rs)); obtain ⟨x0, x1, x2⟩ := X2.out.s3; have y2 := X2.out.f2; have c0 := X0.out.c0; have c1 := X0.out.c1; have c2 := X0.out.c2; have f0 := X0.out.f0; have f1 := X0.out.f1; have f2 := X0.out.f2; have d0 := X1.out.c0; have d1 := X1.out.c1; have d2 := X1.out.c2; clear hb4))
  refine bodyPost_ret (v := .tuple #[.agg #[.bool false, .int .i64 0, .string ⟨#[]⟩], .int .i64 0, .int .i64 (rz : Int)]) (by simp [results, Tryz.results14, go_sem, c0, c1, c2]) rfl ⟨rfl, ?_⟩
  exact ((HB5.out.setCell (Nat.le_refl _) _).setCell (Nat.le_refl _) _).setCell (Nat.le_refl _) _

set_option maxHeartbeats 4000000 in
theorem RDecode_yt (A : Option Addr) (N cap : Nat) (k : Nat) (g off : Nat) (w : World) (rn : Int) (rs : ByteArray) (rk rz : Nat) (hk : (k : Int) < (N : Int)) (hN : N ≤ 1000000) (hA : A = some ⟨g, off, none⟩) (hg : g < w.heap.size) (hc : w.cell? ⟨g, off + k, none⟩ = some (.int .u8 1))  (hz : rz = 0)
    (HT : Hid (∀ w1, Calls Tryz.prog 22 #[.int .i64 4] w1 fun e w' => e = .returned (.bool true) ∧ w' = w1))
    (HC : Hid (∀ w1, Below w.heap.size w w1 → Calls Tryz.prog 35 #[.slice A N cap, .int .i64 ((k : Int) + 1)] w1 fun e w' => e = .returned (.tuple #[.string rs, .int .i64 (rk : Int), .int .i64 (rz : Int)]) ∧ Below w1.heap.size w1 w'))
    (HV : Hid (∀ w1, Calls Tryz.prog 7 #[.agg #[.bool false, .int .i64 0, .string rs], .int .i64 4] w1 fun e w' => e = .returned (.bool true) ∧ Below w1.heap.size w1 w')) :
    Calls Tryz.prog 14 #[.slice A N cap, .int .i64 (k : Int), .int .i64 4] w fun e w' => e = .returned (.tuple #[.agg #[.bool false, .int .i64 0, .string rs], .int .i64 (rk : Int), .int .i64 0]) ∧ Below w.heap.size w w' := by
  have hcw := ((boxes3 w).2.2.2.cell (p := ⟨g, off + k, none⟩) hg).trans hc
  have hcw2 := (((val_al w (.cells #[.bool false, .int .i64 0, .string ⟨#[]⟩] 24)).alloc (by simp) (.cells #[.bool false, .int .i64 0, .string ⟨#[]⟩] 24)).cell (p := ⟨g, off + k, none⟩) hg).trans hc
  have B3 := Lib.hid (boxes3 w)
  subst hA
  subst hz
  clear hc
  go_enter Tryz.func14, Tryz.ntmps14
  go_wp2_with (first
    | (go_at_call 22; refine (HT.out _).mono ?_; rintro e w1 ⟨rfl, rfl⟩)
    | (go_at_call 35; refine (HC.out _ B3.out.2.2.2).mono ?_; rintro e w4 ⟨rfl, hb4⟩; have HB4 := Lib.hid (B3.out.2.2.2.trans (hb4.mono B3.out.2.2.2.size)); have X0 := Lib.hid (B3.out.1.up hb4); have X1 := Lib.hid (B3.out.2.1.up hb4); have X2 := Lib.hid (B3.out.2.2.1.up hb4); have n0 : ¬ w.heap.size = w.heap.size + 1 + 1 := (by omega); have n1 : ¬ w.heap.size + 1 = w.heap.size + 1 + 1 := (by omega); have n2 : ¬ w.heap.size + 1 + 1 = w.heap.size := (by omega); have Y0 := Lib.hid (X0.out.other (j := 2) (v := .string rs) n0); have Y1 := Lib.hid (X1.out.other (j := 2) (v := .string rs) n1); have Y2 := Lib.hid (X2.out.text rs); have HB5 := Lib.hid (HB4.out.setCell (p := ⟨w.heap.size + 1 + 1, 2, none⟩) (by simp; omega) (.string rs)); obtain ⟨x0, x1, x2⟩ := X2.out.s3; have y2 := X2.out.f2; clear hb4)
    | (go_at_call 7; refine (HV.out _).mono ?_; rintro e w5 ⟨rfl, hb5⟩; have HB6 := Lib.hid (HB5.out.trans (hb5.mono HB5.out.size)); have W0 := Y0.out.up hb5; have c0 := W0.c0; have c1 := W0.c1; have c2 := W0.c2; have f0 := W0.f0; have f1 := W0.f1; have f2 := W0.f2; have WS := Y2.out.up hb5; have d0 := WS.c0; have d1 := WS.c1; have d2 := WS.c2; clear hb5 W0 WS x0 x1 x2 y2))
  refine bodyPost_ret (v := .tuple #[.agg #[.bool false, .int .i64 0, .string rs], .int .i64 (rk : Int), .int .i64 0]) (by simp [results, Tryz.results14, go_sem, c0, c1, c2]) rfl ⟨rfl, ?_⟩
  exact ((HB6.out.setCell (Nat.le_refl _) _).setCell (Nat.le_refl _) _).setCell (Nat.le_refl _) _

set_option maxHeartbeats 4000000 in
theorem RDecode_xt (A : Option Addr) (N cap : Nat) (k : Nat) (g off : Nat) (w : World) (rn : Int) (rs : ByteArray) (rk rz : Nat) (hk : (k : Int) < (N : Int)) (hN : N ≤ 1000000) (hA : A = some ⟨g, off, none⟩) (hg : g < w.heap.size) (hc : w.cell? ⟨g, off + k, none⟩ = some (.int .u8 1))  (hz : rz = 0)
    (HT : Hid (∀ w1, Calls Tryz.prog 22 #[.int .i64 4] w1 fun e w' => e = .returned (.bool true) ∧ w' = w1))
    (HC : Hid (∀ w1, Below w.heap.size w w1 → Calls Tryz.prog 35 #[.slice A N cap, .int .i64 ((k : Int) + 1)] w1 fun e w' => e = .returned (.tuple #[.string rs, .int .i64 (rk : Int), .int .i64 (rz : Int)]) ∧ Below w1.heap.size w1 w'))
    (HV : Hid (∀ w1, Calls Tryz.prog 7 #[.agg #[.bool false, .int .i64 0, .string rs], .int .i64 4] w1 fun e w' => e = .returned (.bool false) ∧ Below w1.heap.size w1 w')) :
    Calls Tryz.prog 14 #[.slice A N cap, .int .i64 (k : Int), .int .i64 4] w fun e w' => e = .returned (.tuple #[.agg #[.bool false, .int .i64 0, .string ⟨#[]⟩], .int .i64 0, .int .i64 7]) ∧ Below w.heap.size w w' := by
  have hcw := ((boxes3 w).2.2.2.cell (p := ⟨g, off + k, none⟩) hg).trans hc
  have hcw2 := (((val_al w (.cells #[.bool false, .int .i64 0, .string ⟨#[]⟩] 24)).alloc (by simp) (.cells #[.bool false, .int .i64 0, .string ⟨#[]⟩] 24)).cell (p := ⟨g, off + k, none⟩) hg).trans hc
  have B3 := Lib.hid (boxes3 w)
  subst hA
  subst hz
  clear hc
  go_enter Tryz.func14, Tryz.ntmps14
  go_wp2_with (first
    | (go_at_call 22; refine (HT.out _).mono ?_; rintro e w1 ⟨rfl, rfl⟩)
    | (go_at_call 35; refine (HC.out _ B3.out.2.2.2).mono ?_; rintro e w4 ⟨rfl, hb4⟩; have HB4 := Lib.hid (B3.out.2.2.2.trans (hb4.mono B3.out.2.2.2.size)); have X0 := Lib.hid (B3.out.1.up hb4); have X1 := Lib.hid (B3.out.2.1.up hb4); have X2 := Lib.hid (B3.out.2.2.1.up hb4); have n0 : ¬ w.heap.size = w.heap.size + 1 + 1 := (by omega); have n1 : ¬ w.heap.size + 1 = w.heap.size + 1 + 1 := (by omega); have n2 : ¬ w.heap.size + 1 + 1 = w.heap.size := (by omega); have Y0 := Lib.hid (X0.out.other (j := 2) (v := .string rs) n0); have Y1 := Lib.hid (X1.out.other (j := 2) (v := .string rs) n1); have Y2 := Lib.hid (X2.out.text rs); have HB5 := Lib.hid (HB4.out.setCell (p := ⟨w.heap.size + 1 + 1, 2, none⟩) (by simp; omega) (.string rs)); obtain ⟨x0, x1, x2⟩ := X2.out.s3; have y2 := X2.out.f2; clear hb4)
    | (go_at_call 7; refine (HV.out _).mono ?_; rintro e w5 ⟨rfl, hb5⟩; have HB6 := Lib.hid (HB5.out.trans (hb5.mono HB5.out.size)); have W0 := Y0.out.up hb5; have c0 := W0.c0; have c1 := W0.c1; have c2 := W0.c2; have f0 := W0.f0; have f1 := W0.f1; have f2 := W0.f2; have WS := Y1.out.up hb5; have d0 := WS.c0; have d1 := WS.c1; have d2 := WS.c2; clear hb5 W0 WS x0 x1 x2 y2))
  refine bodyPost_ret (v := .tuple #[.agg #[.bool false, .int .i64 0, .string ⟨#[]⟩], .int .i64 0, .int .i64 7]) (by simp [results, Tryz.results14, go_sem, c0, c1, c2]) rfl ⟨rfl, ?_⟩
  exact ((HB6.out.setCell (Nat.le_refl _) _).setCell (Nat.le_refl _) _).setCell (Nat.le_refl _) _

set_option maxHeartbeats 4000000 in
theorem RDecode_en (A : Option Addr) (N cap : Nat) (k : Nat) (g off : Nat) (t : Int) (w : World) (rn : Int) (rs : ByteArray) (rk rz : Nat) (hk : (k : Int) < (N : Int)) (hN : N ≤ 1000000) (hA : A = some ⟨g, off, none⟩) (hg : g < w.heap.size) (hc : w.cell? ⟨g, off + k, none⟩ = some (.int .u8 1)) (ht : ¬ t = 4) (hz : ¬ (rz : Int) = 0)
    (HT : Hid (∀ w1, Calls Tryz.prog 22 #[.int .i64 t] w1 fun e w' => e = .returned (.bool true) ∧ w' = w1))
    (HC : Hid (∀ w1, Below w.heap.size w w1 → Calls Tryz.prog 36 #[.slice A N cap, .int .i64 ((k : Int) + 1)] w1 fun e w' => e = .returned (.tuple #[.int .i64 rn, .int .i64 (rk : Int), .int .i64 (rz : Int)]) ∧ w1 = w')) :
    Calls Tryz.prog 14 #[.slice A N cap, .int .i64 (k : Int), .int .i64 t] w fun e w' => e = .returned (.tuple #[.agg #[.bool false, .int .i64 0, .string ⟨#[]⟩], .int .i64 0, .int .i64 (rz : Int)]) ∧ Below w.heap.size w w' := by
  have hcw := ((boxes3 w).2.2.2.cell (p := ⟨g, off + k, none⟩) hg).trans hc
  have hcw2 := (((val_al w (.cells #[.bool false, .int .i64 0, .string ⟨#[]⟩] 24)).alloc (by simp) (.cells #[.bool false, .int .i64 0, .string ⟨#[]⟩] 24)).cell (p := ⟨g, off + k, none⟩) hg).trans hc
  have B3 := Lib.hid (boxes3 w)
  subst hA
  clear hc
  go_enter Tryz.func14, Tryz.ntmps14
  go_wp2_with (first
    | (go_at_call 22; refine (HT.out _).mono ?_; rintro e w1 ⟨rfl, rfl⟩)
    | (go_at_call 36; refine (HC.out _ B3.out.2.2.2).mono ?_; rintro e w4 ⟨rfl, rfl⟩; have B4 := Lib.hid (box3n w rn); have n0 : ¬ w.heap.size = w.heap.size + 1 + 1 := (by omega); have n1 : ¬ w.heap.size + 1 = w.heap.size + 1 + 1 := (by omega); have c0 := B4.out.1.c0; have c1 := B4.out.1.c1; have c2 := B4.out.1.c2; have f0 := B4.out.1.f0; have f1 := B4.out.1.f1; have f2 := B4.out.1.f2; have d0 := B4.out.2.1.c0; have d1 := B4.out.2.1.c1; have d2 := B4.out.2.1.c2))
  refine bodyPost_ret (v := .tuple #[.agg #[.bool false, .int .i64 0, .string ⟨#[]⟩], .int .i64 0, .int .i64 (rz : Int)]) (by simp [results, Tryz.results14, go_sem, c0, c1, c2]) rfl ⟨rfl, ?_⟩
  first | exact B4.out.2.2.2 | exact ((B4.out.2.2.2.setCell (Nat.le_refl _) _).setCell (Nat.le_refl _) _).setCell (Nat.le_refl _) _

set_option maxHeartbeats 4000000 in
theorem RDecode_yn (A : Option Addr) (N cap : Nat) (k : Nat) (g off : Nat) (t : Int) (w : World) (rn : Int) (rs : ByteArray) (rk rz : Nat) (hk : (k : Int) < (N : Int)) (hN : N ≤ 1000000) (hA : A = some ⟨g, off, none⟩) (hg : g < w.heap.size) (hc : w.cell? ⟨g, off + k, none⟩ = some (.int .u8 1)) (ht : ¬ t = 4) (hz : rz = 0)
    (HT : Hid (∀ w1, Calls Tryz.prog 22 #[.int .i64 t] w1 fun e w' => e = .returned (.bool true) ∧ w' = w1))
    (HC : Hid (∀ w1, Below w.heap.size w w1 → Calls Tryz.prog 36 #[.slice A N cap, .int .i64 ((k : Int) + 1)] w1 fun e w' => e = .returned (.tuple #[.int .i64 rn, .int .i64 (rk : Int), .int .i64 (rz : Int)]) ∧ w1 = w'))
    (HV : Hid (∀ w1, Calls Tryz.prog 7 #[.agg #[.bool false, .int .i64 rn, .string ⟨#[]⟩], .int .i64 t] w1 fun e w' => e = .returned (.bool true) ∧ Below w1.heap.size w1 w')) :
    Calls Tryz.prog 14 #[.slice A N cap, .int .i64 (k : Int), .int .i64 t] w fun e w' => e = .returned (.tuple #[.agg #[.bool false, .int .i64 rn, .string ⟨#[]⟩], .int .i64 (rk : Int), .int .i64 0]) ∧ Below w.heap.size w w' := by
  have hcw := ((boxes3 w).2.2.2.cell (p := ⟨g, off + k, none⟩) hg).trans hc
  have hcw2 := (((val_al w (.cells #[.bool false, .int .i64 0, .string ⟨#[]⟩] 24)).alloc (by simp) (.cells #[.bool false, .int .i64 0, .string ⟨#[]⟩] 24)).cell (p := ⟨g, off + k, none⟩) hg).trans hc
  have B3 := Lib.hid (boxes3 w)
  subst hA
  subst hz
  clear hc
  go_enter Tryz.func14, Tryz.ntmps14
  go_wp2_with (first
    | (go_at_call 22; refine (HT.out _).mono ?_; rintro e w1 ⟨rfl, rfl⟩)
    | (go_at_call 36; refine (HC.out _ B3.out.2.2.2).mono ?_; rintro e w4 ⟨rfl, rfl⟩; have B4 := Lib.hid (box3n w rn); have n0 : ¬ w.heap.size = w.heap.size + 1 + 1 := (by omega); have n1 : ¬ w.heap.size + 1 = w.heap.size + 1 + 1 := (by omega))
    | (go_at_call 7; refine (HV.out _).mono ?_; rintro e w5 ⟨rfl, hb5⟩; have HB6 := Lib.hid (B4.out.2.2.2.trans (hb5.mono B4.out.2.2.2.size)); have W0 := B4.out.1.up hb5; have c0 := W0.c0; have c1 := W0.c1; have c2 := W0.c2; have f0 := W0.f0; have f1 := W0.f1; have f2 := W0.f2; have WS := B4.out.2.2.1.up hb5; have d0 := WS.c0; have d1 := WS.c1; have d2 := WS.c2; have n2 : ¬ w.heap.size + 1 = w.heap.size := (by omega); have n3 : ¬ w.heap.size + 1 + 1 = w.heap.size := (by omega); clear hb5 W0 WS))
  refine bodyPost_ret (v := .tuple #[.agg #[.bool false, .int .i64 rn, .string ⟨#[]⟩], .int .i64 (rk : Int), .int .i64 0]) (by simp [results, Tryz.results14, go_sem, c0, c1, c2]) rfl ⟨rfl, ?_⟩
  exact ((HB6.out.setCell (Nat.le_refl _) _).setCell (Nat.le_refl _) _).setCell (Nat.le_refl _) _

set_option maxHeartbeats 4000000 in
theorem RDecode_xn (A : Option Addr) (N cap : Nat) (k : Nat) (g off : Nat) (t : Int) (w : World) (rn : Int) (rs : ByteArray) (rk rz : Nat) (hk : (k : Int) < (N : Int)) (hN : N ≤ 1000000) (hA : A = some ⟨g, off, none⟩) (hg : g < w.heap.size) (hc : w.cell? ⟨g, off + k, none⟩ = some (.int .u8 1)) (ht : ¬ t = 4) (hz : rz = 0)
    (HT : Hid (∀ w1, Calls Tryz.prog 22 #[.int .i64 t] w1 fun e w' => e = .returned (.bool true) ∧ w' = w1))
    (HC : Hid (∀ w1, Below w.heap.size w w1 → Calls Tryz.prog 36 #[.slice A N cap, .int .i64 ((k : Int) + 1)] w1 fun e w' => e = .returned (.tuple #[.int .i64 rn, .int .i64 (rk : Int), .int .i64 (rz : Int)]) ∧ w1 = w'))
    (HV : Hid (∀ w1, Calls Tryz.prog 7 #[.agg #[.bool false, .int .i64 rn, .string ⟨#[]⟩], .int .i64 t] w1 fun e w' => e = .returned (.bool false) ∧ Below w1.heap.size w1 w')) :
    Calls Tryz.prog 14 #[.slice A N cap, .int .i64 (k : Int), .int .i64 t] w fun e w' => e = .returned (.tuple #[.agg #[.bool false, .int .i64 0, .string ⟨#[]⟩], .int .i64 0, .int .i64 7]) ∧ Below w.heap.size w w' := by
  have hcw := ((boxes3 w).2.2.2.cell (p := ⟨g, off + k, none⟩) hg).trans hc
  have hcw2 := (((val_al w (.cells #[.bool false, .int .i64 0, .string ⟨#[]⟩] 24)).alloc (by simp) (.cells #[.bool false, .int .i64 0, .string ⟨#[]⟩] 24)).cell (p := ⟨g, off + k, none⟩) hg).trans hc
  have B3 := Lib.hid (boxes3 w)
  subst hA
  subst hz
  clear hc
  go_enter Tryz.func14, Tryz.ntmps14
  go_wp2_with (first
    | (go_at_call 22; refine (HT.out _).mono ?_; rintro e w1 ⟨rfl, rfl⟩)
    | (go_at_call 36; refine (HC.out _ B3.out.2.2.2).mono ?_; rintro e w4 ⟨rfl, rfl⟩; have B4 := Lib.hid (box3n w rn); have n0 : ¬ w.heap.size = w.heap.size + 1 + 1 := (by omega); have n1 : ¬ w.heap.size + 1 = w.heap.size + 1 + 1 := (by omega))
    | (go_at_call 7; refine (HV.out _).mono ?_; rintro e w5 ⟨rfl, hb5⟩; have HB6 := Lib.hid (B4.out.2.2.2.trans (hb5.mono B4.out.2.2.2.size)); have W0 := B4.out.1.up hb5; have c0 := W0.c0; have c1 := W0.c1; have c2 := W0.c2; have f0 := W0.f0; have f1 := W0.f1; have f2 := W0.f2; have WS := B4.out.2.1.up hb5; have d0 := WS.c0; have d1 := WS.c1; have d2 := WS.c2; have n2 : ¬ w.heap.size + 1 = w.heap.size := (by omega); have n3 : ¬ w.heap.size + 1 + 1 = w.heap.size := (by omega); clear hb5 W0 WS))
  refine bodyPost_ret (v := .tuple #[.agg #[.bool false, .int .i64 0, .string ⟨#[]⟩], .int .i64 0, .int .i64 7]) (by simp [results, Tryz.results14, go_sem, c0, c1, c2]) rfl ⟨rfl, ?_⟩
  exact ((HB6.out.setCell (Nat.le_refl _) _).setCell (Nat.le_refl _) _).setCell (Nat.le_refl _) _

set_option maxHeartbeats 4000000 in
/-- the reference's Decode -/
theorem RDecode_any (A : Option Addr) (N cap : Nat) (l : List UInt8) (a t : Int) (w : World) (hN : N = l.length) (hs : Shows w w.heap.size A l) (hc : N ≤ cap) (hl : N ≤ 1000000) (hcap : cap ≤ 9223372036854775807) :
    Calls Tryz.prog 14 #[.slice A N cap, .int .i64 a, .int .i64 t] w fun e w' => e = retV (decL l a t) ∧ Below w.heap.size w w' := by
  by_cases h1 : a < 0
  · have hr : decL l a t = (va0, 0, 1) := by unfold decL; rw [if_pos (.inl h1)]
    clear hN hs
    have HR := Lib.hid hr
    clear hr
    go_enter Tryz.func14, Tryz.ntmps14
    go_wp2_with fail
    exact bodyPost_ret (v := .tuple #[.agg #[.bool false, .int .i64 0, .string ⟨#[]⟩], .int .i64 0, .int .i64 1]) (by simp [results, Tryz.results14, go_sem]) rfl (dec_err HR.out rfl rfl rfl ((val_al w _).alloc (by simp) _))
  by_cases h2 : (N : Int) < a
  · have hr : decL l a t = (va0, 0, 1) := by unfold decL; rw [if_pos (.inr (by omega))]
    clear hN hs
    have HR := Lib.hid hr
    clear hr
    go_enter Tryz.func14, Tryz.ntmps14
    go_wp2_with fail
    exact bodyPost_ret (v := .tuple #[.agg #[.bool false, .int .i64 0, .string ⟨#[]⟩], .int .i64 0, .int .i64 1]) (by simp [results, Tryz.results14, go_sem]) rfl (dec_err HR.out rfl rfl rfl ((val_al w _).alloc (by simp) _))
  have ho : ¬ (a < 0 ∨ (l.length : Int) < a) := by omega
  by_cases h3' : ¬ (1 ≤ t ∧ t ≤ 5)
  · have h3 := h3'
    clear h3'
    have hr : decL l a t = (va0, 0, 7) := by unfold decL; rw [if_neg ho, if_pos h3]
    have HT := Lib.hid (fun w1 => RType_any t false w1 (by simpa using h3))
    clear hN hs h3 ho
    have HR := Lib.hid hr
    clear hr
    go_enter Tryz.func14, Tryz.ntmps14
    go_wp2_with (go_at_call 22; refine (HT.out _).mono ?_; rintro e w1 ⟨rfl, rfl⟩)
    exact bodyPost_ret (v := .tuple #[.agg #[.bool false, .int .i64 0, .string ⟨#[]⟩], .int .i64 0, .int .i64 7]) (by simp [results, Tryz.results14, go_sem]) rfl (dec_err HR.out rfl rfl rfl ((val_al w _).alloc (by simp) _))
  have h3 : 1 ≤ t ∧ t ≤ 5 := Decidable.not_not.1 h3'
  clear h3'
  have HT := Lib.hid (fun w1 => RType_any t true w1 (by simpa using h3))
  by_cases h4 : a = (N : Int)
  · have hr : decL l a t = (va0, 0, 6) := by unfold decL; rw [if_neg ho, if_neg (by simpa using h3), if_pos (by omega)]
    subst h4
    clear hN hs h3 ho
    have HR := Lib.hid hr
    clear hr
    go_enter Tryz.func14, Tryz.ntmps14
    go_wp2_with (go_at_call 22; refine (HT.out _).mono ?_; rintro e w1 ⟨rfl, rfl⟩)
    exact bodyPost_ret (v := .tuple #[.agg #[.bool false, .int .i64 0, .string ⟨#[]⟩], .int .i64 0, .int .i64 6]) (by simp [results, Tryz.results14, go_sem]) rfl (dec_err HR.out rfl rfl rfl ((val_al w _).alloc (by simp) _))
  obtain ⟨k, rfl⟩ := Int.eq_ofNat_of_zero_le (by omega : 0 ≤ a)
  have hk : k < l.length := by omega
  obtain ⟨c, hck⟩ : ∃ c, l[k]? = some c := ⟨_, List.getElem?_eq_getElem hk⟩
  have hcd : l.getD k 0 = c := by simp [List.getD, hck]
  have hs0 := hs
  obtain ⟨g, off, hA, hg, hcell⟩ := hs (by omega)
  have hcc := hcell k c hck
  have j1 : (k : Int) < (N : Int) := by omega
  by_cases h6 : c = 1
  · obtain ⟨r, hr0⟩ : ∃ r, r = bodyL l (k + 1) t := ⟨_, rfl⟩
    have hr : decL l k t = if r.2.2 ≠ 0 then (va0, 0, r.2.2) else if okV r.1 t = true then (r.1, r.2.1, 0) else (va0, 0, 7) := by
      rw [hr0]
      show decL l k t = decB l (k + 1) t
      unfold decL
      rw [if_neg ho, if_neg (by simpa using h3), if_neg (by omega), Int.toNat_natCast, hcd, if_neg (by rw [h6]; decide), if_neg (by simpa using h6)]
    have ecast : ((k : Int) + 1) = ((k + 1 : Nat) : Int) := by omega
    subst h6
    rw [hr]
    by_cases ht : t = 4
    · subst ht
      have hb : r = (⟨false, 0, ⟨(Num.taken l ((k + 1 : Nat) : Int)).toArray⟩⟩, (Num.span l ((k + 1 : Nat) : Int)).2.1, (Num.span l ((k + 1 : Nat) : Int)).2.2) := by rw [hr0]; unfold bodyL; rw [if_pos rfl]
      have HC : Hid (∀ w1, Below w.heap.size w w1 → Calls Tryz.prog 35 #[.slice A N cap, .int .i64 ((k : Int) + 1)] w1 fun e w' => e = .returned (.tuple #[.string r.1.s, .int .i64 (r.2.1 : Int), .int .i64 (r.2.2 : Int)]) ∧ Below w1.heap.size w1 w') := fun w1 hb1 => by
        have h := RReadText_any A cap l ((k : Int) + 1) w1 (hs0.up hb1) (by omega) hcap
        rw [← hN, ecast] at h
        rw [hb, ecast]
        exact h
      have hsz : r.1.s.size ≤ 1000000 := by
        rw [hb]
        show (⟨(Num.taken l ((k + 1 : Nat) : Int)).toArray⟩ : ByteArray).size ≤ _
        rw [size_mk]
        have := taken_le l ((k + 1 : Nat) : Int)
        omega
      have hrb : r.1.b = false ∧ r.1.n = 0 := by rw [hb]; exact ⟨rfl, rfl⟩
      clear hb hr hr0
      obtain ⟨⟨rb, rn, rs⟩, rk, rz⟩ := r
      obtain ⟨h7, h8⟩ := hrb
      simp only at h7 h8 hsz HC
      subst h7 h8
      have HVv := fun w1 => RValid_any false 0 rs 4 w1 (by omega)
      by_cases hz : rz = 0
      · subst hz
        rw [if_neg (by simp)]
        cases hq : okV ⟨false, 0, rs⟩ 4 with
        | true =>
          rw [hq] at HVv
          exact (RDecode_yt A N cap k g off w 0 rs rk 0 j1 hl hA hg hcc rfl HT HC (Lib.hid HVv)).mono fun e w' h => ⟨h.1, h.2⟩
        | false =>
          rw [hq] at HVv
          exact (RDecode_xt A N cap k g off w 0 rs rk 0 j1 hl hA hg hcc rfl HT HC (Lib.hid HVv)).mono fun e w' h => ⟨h.1, h.2⟩
      · rw [if_pos (by simpa using hz)]
        exact (RDecode_et A N cap k g off w 0 rs rk rz j1 hl hA hg hcc (by omega) HT HC).mono fun e w' h => ⟨h.1, h.2⟩
    · have hb : r = (⟨false, Num.zag (Num.readU l ((k + 1 : Nat) : Int)).1, ⟨#[]⟩⟩, (Num.readU l ((k + 1 : Nat) : Int)).2.1, (Num.readU l ((k + 1 : Nat) : Int)).2.2) := by rw [hr0]; unfold bodyL; rw [if_neg ht]
      have HC : Hid (∀ w1, Below w.heap.size w w1 → Calls Tryz.prog 36 #[.slice A N cap, .int .i64 ((k : Int) + 1)] w1 fun e w' => e = .returned (.tuple #[.int .i64 r.1.n, .int .i64 (r.2.1 : Int), .int .i64 (r.2.2 : Int)]) ∧ w1 = w') := fun w1 hb1 => by
        have h := RReadS_any A cap l ((k : Int) + 1) w1 (hs0.up hb1) (by omega)
        rw [← hN, ecast] at h
        rw [hb, ecast]
        exact h
      have hrb : r.1.b = false ∧ r.1.s = ⟨#[]⟩ := by rw [hb]; exact ⟨rfl, rfl⟩
      clear hb hr hr0
      obtain ⟨⟨rb, rn, rs⟩, rk, rz⟩ := r
      obtain ⟨h7, h8⟩ := hrb
      simp only at h7 h8 HC
      subst h7 h8
      have HVv := fun w1 => RValid_any false rn ⟨#[]⟩ t w1 (by decide)
      by_cases hz : rz = 0
      · subst hz
        rw [if_neg (by simp)]
        cases hq : okV ⟨false, rn, ⟨#[]⟩⟩ t with
        | true =>
          rw [hq] at HVv
          exact (RDecode_yn A N cap k g off t w rn ⟨#[]⟩ rk 0 j1 hl hA hg hcc ht rfl HT HC (Lib.hid HVv)).mono fun e w' h => ⟨h.1, h.2⟩
        | false =>
          rw [hq] at HVv
          exact (RDecode_xn A N cap k g off t w rn ⟨#[]⟩ rk 0 j1 hl hA hg hcc ht rfl HT HC (Lib.hid HVv)).mono fun e w' h => ⟨h.1, h.2⟩
      · rw [if_pos (by simpa using hz)]
        exact (RDecode_en A N cap k g off t w rn ⟨#[]⟩ rk rz j1 hl hA hg hcc ht (by omega) HT HC).mono fun e w' h => ⟨h.1, h.2⟩
  have hcw := ((boxes3 w).2.2.2.cell (p := ⟨g, off + k, none⟩) hg).trans hcc
  have hcw2 := (((val_al w (.cells #[.bool false, .int .i64 0, .string ⟨#[]⟩] 24)).alloc (by simp) (.cells #[.bool false, .int .i64 0, .string ⟨#[]⟩] 24)).cell (p := ⟨g, off + k, none⟩) hg).trans hcc
  subst hA
  by_cases h5 : c = 0
  · have hr : decL l k t = (⟨true, 0, ⟨#[]⟩⟩, k + 1, 0) := by
      unfold decL
      rw [if_neg ho, if_neg (by simpa using h3), if_neg (by omega), Int.toNat_natCast, hcd, if_pos h5]
    subst h5
    clear hN hs hs0 h3 ho hcd hck hcell hcc h6
    have HR := Lib.hid hr
    clear hr
    go_enter Tryz.func14, Tryz.ntmps14
    go_wp2_with (go_at_call 22; refine (HT.out _).mono ?_; rintro e w1 ⟨rfl, rfl⟩)
    refine bodyPost_ret (v := .tuple #[.agg #[.bool true, .int .i64 0, .string ⟨#[]⟩], .int .i64 ((k : Int) + 1), .int .i64 0]) (by simp [results, Tryz.results14, go_sem]) rfl ?_
    rw [HR.out]
    exact ret3 rfl (by simp) rfl ((val_al w _).alloc (by simp) _)
  · have hr : decL l k t = (va0, 0, 5) := by
      unfold decL
      rw [if_neg ho, if_neg (by simpa using h3), if_neg (by omega), Int.toNat_natCast, hcd, if_neg h5, if_pos h6]
    have i5 : ¬ (c.toNat : Int) = 0 := fun h => h5 (UInt8.toNat_inj.1 (by simpa using h))
    have i6 : 1 < (c.toNat : Int) := by
      have h7 : c.toNat ≠ 1 := fun h => h6 (UInt8.toNat_inj.1 (by simpa using h))
      omega
    clear hN hs hs0 h3 ho hcd hck hcell hcc h5 h6
    have HR := Lib.hid hr
    clear hr
    go_enter Tryz.func14, Tryz.ntmps14
    go_wp2_with (go_at_call 22; refine (HT.out _).mono ?_; rintro e w1 ⟨rfl, rfl⟩)
    exact bodyPost_ret (v := .tuple #[.agg #[.bool false, .int .i64 0, .string ⟨#[]⟩], .int .i64 0, .int .i64 5]) (by simp [results, Tryz.results14, go_sem]) rfl (dec_err HR.out rfl rfl rfl ((val_al w _).alloc (by simp) _))
end Go.Proofs.YteaaadccjnmacaaGreatDoor
