/-
  Valid, Encode and Show agree with the reference's: the law's walk.
-/
import Derived.Test.YteaaadccjnmacaaGreatDoorShoR
import Derived.Test.YteaaadccjnmacaaGreatDoorEqV
import Derived.Test.YteaaadccjnmacaaGreatDoorStep
import Derived.Deep.RegionHeldLaw
namespace Go.Proofs.YteaaadccjnmacaaGreatDoor
open Go.RowKit Go.Lib

theorem tr_b {w wc wn : World} (h : Below w.heap.size w wc) (hb : Below wc.heap.size wc wn) : Below w.heap.size w wn := h.trans (hb.mono h.size)
set_option maxHeartbeats 8000000 in
set_option maxRecDepth 100000 in
theorem walkVmr (A : Option Addr) (cap : Nat) (l : List UInt8) (b : Bool) (n : Int) (s : ByteArray) (t : Int) (w : World) (hs : Shows w w.heap.size A l) (hc : l.length ≤ cap) (hcap : cap ≤ 140737488351232) (hv : Va.Fine ⟨b, n, s⟩) (_ : -9223372036854775808 ≤ t) (_ : t ≤ 9223372036854775807) (hG : Glob5 w) :
    Calls Tryz.prog 3 #[.slice A l.length cap, (⟨b, n, s⟩ : Va).val, .int .i64 t] w fun e w' => e = .returned (.bool true) ∧ Below w.heap.size w w' := by
  unfold Va.val
  simp only
  have HSN : Hid (Calls Tryz.prog 5 #[] (w.alloc (.cells #[.bool b, .int .i64 n, .string s] 24)) fun e w' => e = .returned (.bool true) ∧ VB w' w.heap.size b n s ∧ Below w.heap.size w w') := by
    refine (sanity_any _ (hG.up (val_al _ _))).mono ?_
    rintro e w' ⟨rfl, hb⟩
    exact ⟨rfl, (VB.new w b n s).up hb, (val_al w _).trans (hb.mono (val_al w _).size)⟩
  have hss := hv.len
  simp only at hss
  by_cases hbig : 400 < l.length
  · have j1 : 400 < (l.length : Int) := by omega
    generalize l.length = N at *
    clear hs hG hbig hv
    go_enter Tryz.func3, Tryz.ntmps3
    go_wp2_with (go_at_call 5; refine HSN.out.mono ?_; rintro e w1 ⟨rfl, hx1, hb1⟩; have HB1 := Lib.hid hb1; clear hb1 hx1)
    go_ret
    exact ⟨rfl, HB1.out⟩
  · by_cases hbg2 : 400 < s.size
    · have j1 : ¬ 400 < (l.length : Int) := by omega
      have j2 : 400 < (s.size : Int) := by omega
      generalize l.length = N at *
      clear hs hG hbig hv hbg2
      go_enter Tryz.func3, Tryz.ntmps3
      go_wp2_with (go_at_call 5; refine HSN.out.mono ?_; rintro e w1 ⟨rfl, hx1, hb1⟩; have HB1 := Lib.hid hb1; obtain ⟨x0, x1, x2⟩ := hx1.s3; clear hb1 hx1)
      go_ret
      exact ⟨rfl, HB1.out⟩
    · obtain ⟨N, hN⟩ : ∃ N, N = l.length := ⟨_, rfl⟩
      obtain ⟨z, hz⟩ : ∃ z, z = okV ⟨b, n, s⟩ t := ⟨_, rfl⟩
      obtain ⟨E, hE⟩ : ∃ E, E = l ++ encL ⟨b, n, s⟩ t := ⟨_, rfl⟩
      obtain ⟨R, hR⟩ : ∃ R, R = str (showL ⟨b, n, s⟩ t) := ⟨_, rfl⟩
      have hEl := encL_len ⟨b, n, s⟩ t hv
      have HV1 : Hid (∀ w1, Calls Tryz.prog 6 #[.agg #[.bool b, .int .i64 n, .string s], .int .i64 t] w1 fun e w' => e = .returned (.bool z) ∧ Below w1.heap.size w1 w') := fun w1 => Valid_any ⟨b, n, s⟩ t z w1 hz.symm hss
      have HV2 : Hid (∀ w1, Calls Tryz.prog 7 #[.agg #[.bool b, .int .i64 n, .string s], .int .i64 t] w1 fun e w' => e = .returned (.bool z) ∧ Below w1.heap.size w1 w') := fun w1 => by rw [hz]; exact RValid_any b n s t w1 hss
      have HE1 : Hid (∀ w1, Below w.heap.size w w1 → Calls Tryz.prog 9 #[.slice A N cap, .agg #[.bool b, .int .i64 n, .string s], .int .i64 t] w1 fun e w' => ∃ A' c, e = .returned (.slice A' E.length c) ∧ Shows w' w'.heap.size A' E ∧ Below w1.heap.size w1 w') := fun w1 hb => by
        rw [hE]
        exact (Encode_b A N cap l b n s t w1 hN (hs.up hb) (by omega) hv).mono fun e w' ⟨A', c, h1, h2, h3⟩ => ⟨A', c, h1, h2.shows.2.2, h3⟩
      have HE2 : Hid (∀ w1, Below w.heap.size w w1 → Calls Tryz.prog 10 #[.slice A N cap, .agg #[.bool b, .int .i64 n, .string s], .int .i64 t] w1 fun e w' => ∃ A' c, e = .returned (.slice A' E.length c) ∧ Shows w' w'.heap.size A' E ∧ Below w1.heap.size w1 w') := fun w1 hb => by
        rw [hE]
        exact (REncode_any A N cap l b n s t w1 hN (hs.up hb) (by omega) hv (by omega)).mono fun e w' ⟨A', c, h1, h2, h3⟩ => ⟨A', c, h1, h2.shows.2.2, h3⟩
      have HS1 : Hid (∀ w1, Below w.heap.size w w1 → Calls Tryz.prog 11 #[.agg #[.bool b, .int .i64 n, .string s], .int .i64 t] w1 fun e w' => e = .returned (.string R) ∧ Below w1.heap.size w1 w') := fun w1 hb => by rw [hR]; exact Show_b b n s t w1 (hG.up hb) hv
      have HS2 : Hid (∀ w1, Calls Tryz.prog 12 #[.agg #[.bool b, .int .i64 n, .string s], .int .i64 t] w1 fun e w' => e = .returned (.string R) ∧ Below w1.heap.size w1 w') := fun w1 => by rw [hR]; exact RShow_any b n s t w1 hv (by omega)
      have hEN : E.length ≤ 1000000 := by rw [hE, List.length_append]; first | omega | (have := hEl; omega)
      have HSA : Hid (∀ (A1 A2 : Option Addr) (c1 c2 : Nat) (w1 : World), Shows w1 w1.heap.size A1 E → Shows w1 w1.heap.size A2 E → Calls Tryz.prog 8 #[.slice A1 E.length c1, .slice A2 E.length c2] w1 fun e w' => e = .returned (.bool true) ∧ Below w1.heap.size w1 w') := fun A1 A2 c1 c2 w1 h1 h2 => by
        have h := Same_any A1 E.length c1 E A2 E.length c2 E w1 h1 h2 rfl rfl (by omega) (by omega)
        simpa using h
      have hzz : (z == z) = true := by cases z <;> rfl
      have hRR : (R.toList == R.toList) = true := by simp
      have j1 : ¬ 400 < (N : Int) := by omega
      have j2 : ¬ 400 < (s.size : Int) := by omega
      rw [← hN]
      generalize E.length = L at *
      clear hs hG hbig hv hbg2 hN hz hE hR hEl hss hEN hc hcap
      go_enter Tryz.func3, Tryz.ntmps3
      go_wp2_with (go_at_call 5; refine HSN.out.mono ?_; rintro e w1 ⟨rfl, hx1, hb1⟩; have HB := Lib.hid hb1; have HX := Lib.hid hx1; obtain ⟨x0, x1, x2⟩ := hx1.s3; clear hb1 hx1)
      have hS : w1.cell? ⟨w.heap.size, 0, none⟩ = some (.bool b) ∧ w1.cell? ⟨w.heap.size, 1, none⟩ = some (.int .i64 n) ∧ w1.cell? ⟨w.heap.size, 2, none⟩ = some (.string s) := ⟨x0, x1, x2⟩
      clear HSN
      go_region_held_law (fun w' => w'.cell? ⟨w.heap.size, 0, none⟩ = some (.bool b) ∧ w'.cell? ⟨w.heap.size, 1, none⟩ = some (.int .i64 n) ∧ w'.cell? ⟨w.heap.size, 2, none⟩ = some (.string s))
        (first | exact hS | go_keep)
        (first
          | (go_at_call 6; refine (HV1.out _).mono ?_; rintro e wn ⟨rfl, hb9⟩; have HB := Lib.hid (tr_b HB.out (by first | exact hb9 | exact bl_of_dr hb9 | exact bl_of_dr (bl_of_dr hb9) | exact bl_of_dr (bl_of_dr (bl_of_dr hb9)))); have HX := Lib.hid (HX.out.up (by first | exact hb9 | exact bl_of_dr hb9 | exact bl_of_dr (bl_of_dr hb9) | exact bl_of_dr (bl_of_dr (bl_of_dr hb9)))); have hS : wn.cell? ⟨w.heap.size, 0, none⟩ = some (.bool b) ∧ wn.cell? ⟨w.heap.size, 1, none⟩ = some (.int .i64 n) ∧ wn.cell? ⟨w.heap.size, 2, none⟩ = some (.string s) := ⟨HX.out.c0, HX.out.c1, HX.out.c2⟩; clear hb9)
          | (go_at_call 7; refine (HV2.out _).mono ?_; rintro e wn ⟨rfl, hb9⟩; have HB := Lib.hid (tr_b HB.out (by first | exact hb9 | exact bl_of_dr hb9 | exact bl_of_dr (bl_of_dr hb9) | exact bl_of_dr (bl_of_dr (bl_of_dr hb9)))); have HX := Lib.hid (HX.out.up (by first | exact hb9 | exact bl_of_dr hb9 | exact bl_of_dr (bl_of_dr hb9) | exact bl_of_dr (bl_of_dr (bl_of_dr hb9)))); have hS : wn.cell? ⟨w.heap.size, 0, none⟩ = some (.bool b) ∧ wn.cell? ⟨w.heap.size, 1, none⟩ = some (.int .i64 n) ∧ wn.cell? ⟨w.heap.size, 2, none⟩ = some (.string s) := ⟨HX.out.c0, HX.out.c1, HX.out.c2⟩; clear hb9)
          | (go_at_call 9; refine (HE1.out _ (by first | exact HB.out | exact HB.out.drew | exact HB.out.drew.drew | exact HB.out.drew.drew.drew)).mono ?_; rintro e wn ⟨A1, c1, rfl, h9, hb9⟩; have HA1 := Lib.hid h9; (first | (have HA2 := Lib.hid (HA2.out.up (by first | exact hb9 | exact bl_of_dr hb9 | exact bl_of_dr (bl_of_dr hb9) | exact bl_of_dr (bl_of_dr (bl_of_dr hb9))))) | skip); have HB := Lib.hid (tr_b HB.out (by first | exact hb9 | exact bl_of_dr hb9 | exact bl_of_dr (bl_of_dr hb9) | exact bl_of_dr (bl_of_dr (bl_of_dr hb9)))); have HX := Lib.hid (HX.out.up (by first | exact hb9 | exact bl_of_dr hb9 | exact bl_of_dr (bl_of_dr hb9) | exact bl_of_dr (bl_of_dr (bl_of_dr hb9)))); have hS : wn.cell? ⟨w.heap.size, 0, none⟩ = some (.bool b) ∧ wn.cell? ⟨w.heap.size, 1, none⟩ = some (.int .i64 n) ∧ wn.cell? ⟨w.heap.size, 2, none⟩ = some (.string s) := ⟨HX.out.c0, HX.out.c1, HX.out.c2⟩; clear hb9 h9)
          | (go_at_call 10; refine (HE2.out _ (by first | exact HB.out | exact HB.out.drew | exact HB.out.drew.drew | exact HB.out.drew.drew.drew)).mono ?_; rintro e wn ⟨A2, c2, rfl, h9, hb9⟩; have HA2 := Lib.hid h9; (first | (have HA1 := Lib.hid (HA1.out.up (by first | exact hb9 | exact bl_of_dr hb9 | exact bl_of_dr (bl_of_dr hb9) | exact bl_of_dr (bl_of_dr (bl_of_dr hb9))))) | skip); have HB := Lib.hid (tr_b HB.out (by first | exact hb9 | exact bl_of_dr hb9 | exact bl_of_dr (bl_of_dr hb9) | exact bl_of_dr (bl_of_dr (bl_of_dr hb9)))); have HX := Lib.hid (HX.out.up (by first | exact hb9 | exact bl_of_dr hb9 | exact bl_of_dr (bl_of_dr hb9) | exact bl_of_dr (bl_of_dr (bl_of_dr hb9)))); have hS : wn.cell? ⟨w.heap.size, 0, none⟩ = some (.bool b) ∧ wn.cell? ⟨w.heap.size, 1, none⟩ = some (.int .i64 n) ∧ wn.cell? ⟨w.heap.size, 2, none⟩ = some (.string s) := ⟨HX.out.c0, HX.out.c1, HX.out.c2⟩; clear hb9 h9)
          | (go_at_call 8; refine (HSA.out _ _ _ _ _ (by first | exact HA1.out | exact shows_dr HA1.out | exact shows_dr (shows_dr HA1.out) | exact shows_dr (shows_dr (shows_dr HA1.out))) (by first | exact HA2.out | exact shows_dr HA2.out | exact shows_dr (shows_dr HA2.out) | exact shows_dr (shows_dr (shows_dr HA2.out)))).mono ?_; rintro e wn ⟨rfl, hb9⟩; have HB := Lib.hid (tr_b HB.out (by first | exact hb9 | exact bl_of_dr hb9 | exact bl_of_dr (bl_of_dr hb9) | exact bl_of_dr (bl_of_dr (bl_of_dr hb9)))); have HX := Lib.hid (HX.out.up (by first | exact hb9 | exact bl_of_dr hb9 | exact bl_of_dr (bl_of_dr hb9) | exact bl_of_dr (bl_of_dr (bl_of_dr hb9)))); have hS : wn.cell? ⟨w.heap.size, 0, none⟩ = some (.bool b) ∧ wn.cell? ⟨w.heap.size, 1, none⟩ = some (.int .i64 n) ∧ wn.cell? ⟨w.heap.size, 2, none⟩ = some (.string s) := ⟨HX.out.c0, HX.out.c1, HX.out.c2⟩; clear hb9)
          | (go_at_call 11; refine (HS1.out _ (by first | exact HB.out | exact HB.out.drew | exact HB.out.drew.drew | exact HB.out.drew.drew.drew)).mono ?_; rintro e wn ⟨rfl, hb9⟩; have HB := Lib.hid (tr_b HB.out (by first | exact hb9 | exact bl_of_dr hb9 | exact bl_of_dr (bl_of_dr hb9) | exact bl_of_dr (bl_of_dr (bl_of_dr hb9)))); have HX := Lib.hid (HX.out.up (by first | exact hb9 | exact bl_of_dr hb9 | exact bl_of_dr (bl_of_dr hb9) | exact bl_of_dr (bl_of_dr (bl_of_dr hb9)))); have hS : wn.cell? ⟨w.heap.size, 0, none⟩ = some (.bool b) ∧ wn.cell? ⟨w.heap.size, 1, none⟩ = some (.int .i64 n) ∧ wn.cell? ⟨w.heap.size, 2, none⟩ = some (.string s) := ⟨HX.out.c0, HX.out.c1, HX.out.c2⟩; clear hb9)
          | (go_at_call 12; refine (HS2.out _).mono ?_; rintro e wn ⟨rfl, hb9⟩; have HB := Lib.hid (tr_b HB.out (by first | exact hb9 | exact bl_of_dr hb9 | exact bl_of_dr (bl_of_dr hb9) | exact bl_of_dr (bl_of_dr (bl_of_dr hb9)))); have HX := Lib.hid (HX.out.up (by first | exact hb9 | exact bl_of_dr hb9 | exact bl_of_dr (bl_of_dr hb9) | exact bl_of_dr (bl_of_dr (bl_of_dr hb9)))); have hS : wn.cell? ⟨w.heap.size, 0, none⟩ = some (.bool b) ∧ wn.cell? ⟨w.heap.size, 1, none⟩ = some (.int .i64 n) ∧ wn.cell? ⟨w.heap.size, 2, none⟩ = some (.string s) := ⟨HX.out.c0, HX.out.c1, HX.out.c2⟩; clear hb9))
      all_goals (
        go_wp2_with fail
        go_ret
        exact ⟨rfl, (by first | exact HB.out | exact HB.out.drew | exact HB.out.drew.drew | exact HB.out.drew.drew.drew)⟩)
end Go.Proofs.YteaaadccjnmacaaGreatDoor
