/-
  The reference's Encode, by a contract.
-/
import Derived.Test.YteaaadccjnmacaaGreatDoorValR
import Derived.Test.YteaaadccjnmacaaGreatDoorStep
import Derived.Test.YteaaadccjnmacaaGreatDoorRef
namespace Go.Proofs.YteaaadccjnmacaaGreatDoor
open Go.RowKit Go.Lib

theorem own0 (w : World) (o : Obj) : Owns ((w.alloc o).alloc (.cells #[] 5)) (w.heap.size + 1) (.slice (some ⟨w.heap.size + 1, 0, none⟩) 0 0) [] := by
  have h := owns_empty (w.alloc o) #[] rfl
  simpa using h
theorem bl0 (w : World) (o o' : Obj) : Below (w.heap.size + 1) (w.alloc o) ((w.alloc o).alloc o') := by
  have h := val_al (w.alloc o) o'
  simpa using h
set_option maxHeartbeats 2000000 in
theorem REncode_no (A : Option Addr) (cap : Nat) (l : List UInt8) (b : Bool) (n : Int) (s : ByteArray) (t : Int) (w : World) (hl : Shows w w.heap.size A l) (hlen : l.length ≤ 1000000) 
    (HVAL : Hid (∀ w1, Calls Tryz.prog 7 #[.agg #[.bool b, .int .i64 n, .string s], .int .i64 t] w1 fun e w' => e = .returned (.bool false) ∧ Below w1.heap.size w1 w')) :
    Calls Tryz.prog 10 #[.slice A l.length cap, .agg #[.bool b, .int .i64 n, .string s], .int .i64 t] w fun e w' =>
      ∃ A' c, e = .returned (.slice A' (l).length c) ∧ Owns w' w.heap.size (.slice A' (l).length c) (l) ∧ Below w.heap.size w w' := by
  have HL := Lib.hid hl
  clear hl
  go_enter Tryz.func10, Tryz.ntmps10
  go_wp2_with (first
    | (at_builtin; refine wpList_growB rfl (.tmp 8) (.tmp 9) _ rfl Tryz.underlying22 info5 (w.heap.size + 1) (.slice (some ⟨w.heap.size + 1, 0, none⟩) 0 0) [] A l cap w.heap.size rfl rfl (own0 w _) (HL.out.below (al2 w _ _)) (by simp; omega) (by simp) ?_; intro A1 c1 w1 ho1 hg1; have hb1 := grown_owns (own0 w (.cells #[.bool b, .int .i64 n, .string s] 24)) hg1 (bl0 w _ _) (by simp) (Nat.le_refl _); have HO := Lib.hid (show Owns w1 (w.heap.size + 1) (.slice A1 l.length c1) l from by simpa using ho1); have V1 := Lib.hid ((VB.new w b n s).upB hb1 (Nat.lt_succ_self _)); have B1 := Lib.hid (show Below w.heap.size w w1 from (val_al w _).trans (hb1.mono (by omega))); have hw1 : w.heap.size < w1.heap.size := V1.out.lt; clear ho1 hg1 hb1; obtain ⟨v0, v1, v2⟩ := V1.out.s3)
    | (go_at_call 7; refine (HVAL.out _).mono ?_; rintro e w2 ⟨rfl, hb2⟩; have B2 := Lib.hid (show Below w.heap.size w w2 from B1.out.trans (hb2.mono (by omega))); have HO2 := Lib.hid (HO.out.up hb2); have V2 := Lib.hid (V1.out.up hb2); obtain ⟨x0, x1, x2⟩ := V2.out.s3; have hle : w.heap.size + 1 ≤ w2.heap.size := V2.out.lt; clear hb2 v0 v1 v2))
  go_ret
  exact ⟨A1, c1, rfl, HO2.out.low (by omega), B2.out⟩
set_option maxHeartbeats 2000000 in
theorem REncode_null (A : Option Addr) (cap : Nat) (l : List UInt8) (n : Int) (s : ByteArray) (t : Int) (w : World) (hl : Shows w w.heap.size A l) (hlen : l.length ≤ 1000000) 
    (HVAL : Hid (∀ w1, Calls Tryz.prog 7 #[.agg #[.bool true, .int .i64 n, .string s], .int .i64 t] w1 fun e w' => e = .returned (.bool true) ∧ Below w1.heap.size w1 w')) :
    Calls Tryz.prog 10 #[.slice A l.length cap, .agg #[.bool true, .int .i64 n, .string s], .int .i64 t] w fun e w' =>
      ∃ A' c, e = .returned (.slice A' (l ++ [0]).length c) ∧ Owns w' w.heap.size (.slice A' (l ++ [0]).length c) (l ++ [0]) ∧ Below w.heap.size w w' := by
  have HL := Lib.hid hl
  clear hl
  go_enter Tryz.func10, Tryz.ntmps10
  go_wp2_with (first
    | (at_builtin; refine wpList_growB rfl (.tmp 8) (.tmp 9) _ rfl Tryz.underlying22 info5 (w.heap.size + 1) (.slice (some ⟨w.heap.size + 1, 0, none⟩) 0 0) [] A l cap w.heap.size rfl rfl (own0 w _) (HL.out.below (al2 w _ _)) (by simp; omega) (by simp) ?_; intro A1 c1 w1 ho1 hg1; have hb1 := grown_owns (own0 w (.cells #[.bool true, .int .i64 n, .string s] 24)) hg1 (bl0 w _ _) (by simp) (Nat.le_refl _); have HO := Lib.hid (show Owns w1 (w.heap.size + 1) (.slice A1 l.length c1) l from by simpa using ho1); have V1 := Lib.hid ((VB.new w true n s).upB hb1 (Nat.lt_succ_self _)); have B1 := Lib.hid (show Below w.heap.size w w1 from (val_al w _).trans (hb1.mono (by omega))); have hw1 : w.heap.size < w1.heap.size := V1.out.lt; clear ho1 hg1 hb1; obtain ⟨v0, v1, v2⟩ := V1.out.s3)
    | (go_at_call 7; refine (HVAL.out _).mono ?_; rintro e w2 ⟨rfl, hb2⟩; have B2 := Lib.hid (show Below w.heap.size w w2 from B1.out.trans (hb2.mono (by omega))); have HO2 := Lib.hid (HO.out.up hb2); have V2 := Lib.hid (V1.out.up hb2); obtain ⟨x0, x1, x2⟩ := V2.out.s3; have hle : w.heap.size + 1 ≤ w2.heap.size := V2.out.lt; clear hb2 v0 v1 v2)
    | (at_builtin; refine wpList_growB rfl (.tmp 18) (.tmp 19) _ rfl Tryz.underlying22 info5 (w.heap.size + 1) (.slice A1 l.length c1) l (some ⟨w2.heap.size, 0, none⟩) [0] 1 _ rfl rfl (HO2.out.up (val_al w2 _)) (owns_lit w2 0).shows.2.2 (by simp; omega) (by simp; omega) ?_; intro A2 c2 w3 ho3 hg3; have hb3 : Below (w.heap.size + 1) w2 w3 := grown_owns (HO2.out.up (val_al w2 (.cells #[.int .u8 0] 5))) hg3 ((val_al w2 _).mono hle) (by simp; omega) (Nat.le_refl _); have B3 := Lib.hid (show Below w.heap.size w w3 from B2.out.trans (hb3.mono (by omega))); have HO3 := Lib.hid (show Owns w3 (w.heap.size + 1) (.slice A2 (l.length + 1) c2) (l ++ [0]) from by simpa using ho3); have V3 := Lib.hid (V2.out.upB hb3 (Nat.lt_succ_self _)); have hlt3 : w.heap.size < w3.heap.size := V3.out.lt; obtain ⟨y0, y1, y2⟩ := V3.out.s3; clear ho3 hg3 hb3 x0 x1 x2))
  go_ret
  exact ⟨A2, c2, by simp, by simpa using HO3.out.low (by omega), B3.out⟩
set_option maxHeartbeats 2000000 in
theorem REncode_text (A : Option Addr) (cap : Nat) (l : List UInt8) (n : Int) (s : ByteArray) (w : World) (hl : Shows w w.heap.size A l) (hlen : l.length ≤ 1000000) (hss : s.size ≤ 1000000)
    (HVAL : Hid (∀ w1, Calls Tryz.prog 7 #[.agg #[.bool false, .int .i64 n, .string s], .int .i64 4] w1 fun e w' => e = .returned (.bool true) ∧ Below w1.heap.size w1 w')) :
    Calls Tryz.prog 10 #[.slice A l.length cap, .agg #[.bool false, .int .i64 n, .string s], .int .i64 4] w fun e w' =>
      ∃ A' c, e = .returned (.slice A' (l ++ ([1] ++ counted s.data.toList)).length c) ∧ Owns w' w.heap.size (.slice A' (l ++ ([1] ++ counted s.data.toList)).length c) (l ++ ([1] ++ counted s.data.toList)) ∧ Below w.heap.size w w' := by
  have HT : Hid (∀ (A2 : Option Addr) (c2 : Nat) (w3 : World), Owns w3 (w.heap.size + 1) (.slice A2 (l.length + 1) c2) (l ++ [1]) → Calls Tryz.prog 25 #[.slice A2 (l.length + 1) c2, .string s] w3 fun e w' =>
      ∃ A c, e = .returned (.slice A (l ++ ([1] ++ counted s.data.toList)).length c) ∧ Owns w' w3.heap.size (.slice A (l ++ ([1] ++ counted s.data.toList)).length c) (l ++ ([1] ++ counted s.data.toList)) ∧ Below w3.heap.size w3 w') := fun A2 c2 w3 ho => by
    have k := RText_any A2 c2 (l ++ [1]) s w3 ho.shows.2.2 (by simp; omega)
    have e : (l ++ [(1 : UInt8)]).length = l.length + 1 := by simp
    rwa [List.append_assoc, e] at k
  have HL := Lib.hid hl
  clear hl
  go_enter Tryz.func10, Tryz.ntmps10
  go_wp2_with (first
    | (at_builtin; refine wpList_growB rfl (.tmp 8) (.tmp 9) _ rfl Tryz.underlying22 info5 (w.heap.size + 1) (.slice (some ⟨w.heap.size + 1, 0, none⟩) 0 0) [] A l cap w.heap.size rfl rfl (own0 w _) (HL.out.below (al2 w _ _)) (by simp; omega) (by simp) ?_; intro A1 c1 w1 ho1 hg1; have hb1 := grown_owns (own0 w (.cells #[.bool false, .int .i64 n, .string s] 24)) hg1 (bl0 w _ _) (by simp) (Nat.le_refl _); have HO := Lib.hid (show Owns w1 (w.heap.size + 1) (.slice A1 l.length c1) l from by simpa using ho1); have V1 := Lib.hid ((VB.new w false n s).upB hb1 (Nat.lt_succ_self _)); have B1 := Lib.hid (show Below w.heap.size w w1 from (val_al w _).trans (hb1.mono (by omega))); have hw1 : w.heap.size < w1.heap.size := V1.out.lt; clear ho1 hg1 hb1; obtain ⟨v0, v1, v2⟩ := V1.out.s3)
    | (go_at_call 7; refine (HVAL.out _).mono ?_; rintro e w2 ⟨rfl, hb2⟩; have B2 := Lib.hid (show Below w.heap.size w w2 from B1.out.trans (hb2.mono (by omega))); have HO2 := Lib.hid (HO.out.up hb2); have V2 := Lib.hid (V1.out.up hb2); obtain ⟨x0, x1, x2⟩ := V2.out.s3; have hle : w.heap.size + 1 ≤ w2.heap.size := V2.out.lt; clear hb2 v0 v1 v2)
    | (at_builtin; refine wpList_growB rfl (.tmp 21) (.tmp 22) _ rfl Tryz.underlying22 info5 (w.heap.size + 1) (.slice A1 l.length c1) l (some ⟨w2.heap.size, 0, none⟩) [1] 1 _ rfl rfl (HO2.out.up (val_al w2 _)) (owns_lit w2 1).shows.2.2 (by simp; omega) (by simp; omega) ?_; intro A2 c2 w3 ho3 hg3; have hb3 : Below (w.heap.size + 1) w2 w3 := grown_owns (HO2.out.up (val_al w2 (.cells #[.int .u8 1] 5))) hg3 ((val_al w2 _).mono hle) (by simp; omega) (Nat.le_refl _); have B3 := Lib.hid (show Below w.heap.size w w3 from B2.out.trans (hb3.mono (by omega))); have HO3 := Lib.hid (show Owns w3 (w.heap.size + 1) (.slice A2 (l.length + 1) c2) (l ++ [1]) from by simpa using ho3); have V3 := Lib.hid (V2.out.upB hb3 (Nat.lt_succ_self _)); have hlt3 : w.heap.size < w3.heap.size := V3.out.lt; obtain ⟨y0, y1, y2⟩ := V3.out.s3; clear ho3 hg3 hb3 x0 x1 x2)
    | (go_at_call 25; refine (HT.out A2 c2 w3 HO3.out).mono ?_; rintro e w4 ⟨A4, c4, rfl, ho4, hb4⟩; have HO4 := Lib.hid ho4; have B4 := Lib.hid (show Below w.heap.size w w4 from B3.out.trans (hb4.mono (by omega))); clear ho4 hb4))
  go_ret
  exact ⟨A4, c4, by simp, HO4.out.low (by omega), B4.out⟩
set_option maxHeartbeats 2000000 in
theorem REncode_num (A : Option Addr) (cap : Nat) (l : List UInt8) (n : Int) (s : ByteArray) (t : Int) (w : World) (hl : Shows w w.heap.size A l) (hlen : l.length ≤ 1000000) (h0 : -9223372036854775808 ≤ n) (h1 : n ≤ 9223372036854775807) (ht : ¬ t = 4)
    (HVAL : Hid (∀ w1, Calls Tryz.prog 7 #[.agg #[.bool false, .int .i64 n, .string s], .int .i64 t] w1 fun e w' => e = .returned (.bool true) ∧ Below w1.heap.size w1 w')) :
    Calls Tryz.prog 10 #[.slice A l.length cap, .agg #[.bool false, .int .i64 n, .string s], .int .i64 t] w fun e w' =>
      ∃ A' c, e = .returned (.slice A' (l ++ ([1] ++ uvarint (zigzag n))).length c) ∧ Owns w' w.heap.size (.slice A' (l ++ ([1] ++ uvarint (zigzag n))).length c) (l ++ ([1] ++ uvarint (zigzag n))) ∧ Below w.heap.size w w' := by
  have HT : Hid (∀ (A2 : Option Addr) (c2 : Nat) (w3 : World), Owns w3 (w.heap.size + 1) (.slice A2 (l.length + 1) c2) (l ++ [1]) → Calls Tryz.prog 26 #[.slice A2 (l.length + 1) c2, .int .i64 n] w3 fun e w' =>
      ∃ A c, e = .returned (.slice A (l ++ ([1] ++ uvarint (zigzag n))).length c) ∧ Owns w' w3.heap.size (.slice A (l ++ ([1] ++ uvarint (zigzag n))).length c) (l ++ ([1] ++ uvarint (zigzag n))) ∧ Below w3.heap.size w3 w') := fun A2 c2 w3 ho => by
    have k := RS_any A2 c2 (l ++ [1]) n w3 ho.shows.2.2 (by simp; omega) h0 h1
    have e : (l ++ [(1 : UInt8)]).length = l.length + 1 := by simp
    rwa [List.append_assoc, e] at k
  clear h0 h1
  have HL := Lib.hid hl
  clear hl
  go_enter Tryz.func10, Tryz.ntmps10
  go_wp2_with (first
    | (at_builtin; refine wpList_growB rfl (.tmp 8) (.tmp 9) _ rfl Tryz.underlying22 info5 (w.heap.size + 1) (.slice (some ⟨w.heap.size + 1, 0, none⟩) 0 0) [] A l cap w.heap.size rfl rfl (own0 w _) (HL.out.below (al2 w _ _)) (by simp; omega) (by simp) ?_; intro A1 c1 w1 ho1 hg1; have hb1 := grown_owns (own0 w (.cells #[.bool false, .int .i64 n, .string s] 24)) hg1 (bl0 w _ _) (by simp) (Nat.le_refl _); have HO := Lib.hid (show Owns w1 (w.heap.size + 1) (.slice A1 l.length c1) l from by simpa using ho1); have V1 := Lib.hid ((VB.new w false n s).upB hb1 (Nat.lt_succ_self _)); have B1 := Lib.hid (show Below w.heap.size w w1 from (val_al w _).trans (hb1.mono (by omega))); have hw1 : w.heap.size < w1.heap.size := V1.out.lt; clear ho1 hg1 hb1; obtain ⟨v0, v1, v2⟩ := V1.out.s3)
    | (go_at_call 7; refine (HVAL.out _).mono ?_; rintro e w2 ⟨rfl, hb2⟩; have B2 := Lib.hid (show Below w.heap.size w w2 from B1.out.trans (hb2.mono (by omega))); have HO2 := Lib.hid (HO.out.up hb2); have V2 := Lib.hid (V1.out.up hb2); obtain ⟨x0, x1, x2⟩ := V2.out.s3; have hle : w.heap.size + 1 ≤ w2.heap.size := V2.out.lt; clear hb2 v0 v1 v2)
    | (at_builtin; refine wpList_growB rfl (.tmp 21) (.tmp 22) _ rfl Tryz.underlying22 info5 (w.heap.size + 1) (.slice A1 l.length c1) l (some ⟨w2.heap.size, 0, none⟩) [1] 1 _ rfl rfl (HO2.out.up (val_al w2 _)) (owns_lit w2 1).shows.2.2 (by simp; omega) (by simp; omega) ?_; intro A2 c2 w3 ho3 hg3; have hb3 : Below (w.heap.size + 1) w2 w3 := grown_owns (HO2.out.up (val_al w2 (.cells #[.int .u8 1] 5))) hg3 ((val_al w2 _).mono hle) (by simp; omega) (Nat.le_refl _); have B3 := Lib.hid (show Below w.heap.size w w3 from B2.out.trans (hb3.mono (by omega))); have HO3 := Lib.hid (show Owns w3 (w.heap.size + 1) (.slice A2 (l.length + 1) c2) (l ++ [1]) from by simpa using ho3); have V3 := Lib.hid (V2.out.upB hb3 (Nat.lt_succ_self _)); have hlt3 : w.heap.size < w3.heap.size := V3.out.lt; obtain ⟨y0, y1, y2⟩ := V3.out.s3; clear ho3 hg3 hb3 x0 x1 x2)
    | (go_at_call 26; refine (HT.out A2 c2 w3 HO3.out).mono ?_; rintro e w4 ⟨A4, c4, rfl, ho4, hb4⟩; have HO4 := Lib.hid ho4; have B4 := Lib.hid (show Below w.heap.size w w4 from B3.out.trans (hb4.mono (by omega))); clear ho4 hb4))
  go_ret
  exact ⟨A4, c4, by simp, HO4.out.low (by omega), B4.out⟩
/-- the reference's Encode -/
theorem REncode_any (A : Option Addr) (N cap : Nat) (l : List UInt8) (b : Bool) (n : Int) (s : ByteArray) (t : Int) (w : World) (hN : N = l.length) (hl : Shows w w.heap.size A l) (hlen : N ≤ 1000000) (hv : Va.Fine ⟨b, n, s⟩) (hss : s.size ≤ 1000000) :
    Calls Tryz.prog 10 #[.slice A N cap, .agg #[.bool b, .int .i64 n, .string s], .int .i64 t] w fun e w' =>
      ∃ A' c, e = .returned (.slice A' (l ++ encL ⟨b, n, s⟩ t).length c) ∧ Owns w' w.heap.size (.slice A' (l ++ encL ⟨b, n, s⟩ t).length c) (l ++ encL ⟨b, n, s⟩ t) ∧ Below w.heap.size w w' := by
  subst hN
  have HV := fun w1 => RValid_any b n s t w1 (by omega)
  cases hz : okV ⟨b, n, s⟩ t with
  | false =>
    rw [hz] at HV
    have he : encL ⟨b, n, s⟩ t = [] := by unfold encL; rw [hz]; rfl
    rw [he, List.append_nil]
    exact REncode_no A cap l b n s t w hl hlen (Lib.hid HV)
  | true =>
    rw [hz] at HV
    cases b with
    | true =>
      have he : encL ⟨true, n, s⟩ t = [0] := by unfold encL; rw [hz]; rfl
      rw [he]
      exact REncode_null A cap l n s t w hl hlen (Lib.hid HV)
    | false =>
      by_cases ht : t = 4
      · have he : encL ⟨false, n, s⟩ t = [1] ++ counted s.data.toList := by unfold encL; rw [hz, ht]; rfl
        rw [he]
        subst ht
        exact REncode_text A cap l n s w hl hlen hss (Lib.hid HV)
      · have he : encL ⟨false, n, s⟩ t = [1] ++ uvarint (zigzag n) := by unfold encL; rw [hz, if_neg ht]; rfl
        rw [he]
        exact REncode_num A cap l n s t w hl hlen hv.lo hv.hi ht (Lib.hid HV)
end Go.Proofs.YteaaadccjnmacaaGreatDoor
