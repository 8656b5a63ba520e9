/-
  The program's candidate and Parse, by contracts.
-/
import Derived.Test.YteaaadccjnmacaaGreatDoorShowP
namespace Go.Proofs.YteaaadccjnmacaaGreatDoor
open Go.RowKit

theorem mk_eq {s : ByteArray} {k : List UInt8} (h : s.data.toList = k) : (s.toList == k) = true := by rw [Lib.toList_data, h]; simp
theorem mk_ne {s : ByteArray} {k : List UInt8} (h : ¬ s.data.toList = k) : (s.toList == k) = false := by rw [Lib.toList_data]; simpa using h
theorem ret_v {w0 w' : World} {x : Value} {v : Va} (h : x = v.val) (hb : Below w0.heap.size w0 w') : Ending.returned x = Ending.returned v.val ∧ Below w0.heap.size w0 w' := ⟨by rw [h], hb⟩
set_option maxHeartbeats 4000000 in
theorem cand_any (s : ByteArray) (t : Int) (w : World) (hG : Glob5 w) (hs : s.size ≤ 1000000) : Calls Tryz.prog 37 #[.string s, .int .i64 t] w fun e w' => e = .returned (candV s.data.toList t).val ∧ Below w.heap.size w w' := by
  have ARM : Hid (∀ w1, Below (w.alloc (.cells #[.bool false, .int .i64 0, .string ⟨#[]⟩] 24)).heap.size (w.alloc (.cells #[.bool false, .int .i64 0, .string ⟨#[]⟩] 24)) w1 → VB w1 w.heap.size false 0 ⟨#[]⟩) := fun w1 hb => (VB.new w false 0 ⟨#[]⟩).up hb
  have HG : Hid (Glob5 (w.alloc (.cells #[.bool false, .int .i64 0, .string ⟨#[]⟩] 24))) := hG.up (val_al _ _)
  by_cases hnl : s.data.toList = nullB
  · have hv : Hid (candV s.data.toList t = ⟨true, 0, ⟨#[]⟩⟩) := by show _ = _; unfold candV; rw [if_pos hnl]
    have q : (s.toList == [110, 117, 108, 108]) = true := mk_eq hnl
    clear hnl hG
    go_enter Tryz.func37, Tryz.ntmps37
    go_wp2_with fail
    refine bodyPost_ret (v := .agg #[.bool true, .int .i64 0, .string ⟨#[]⟩]) (by simp [results, Tryz.results37, go_sem]) rfl (ret_v (by rw [hv.out]; rfl) ?_)
    exact val_al _ _
  · have q : (s.toList == [110, 117, 108, 108]) = false := mk_ne hnl
    by_cases h4 : t = 4
    · have hv : Hid (candV s.data.toList t = ⟨false, 0, str (unq (s.data.toList.drop 1))⟩) := by show _ = _; unfold candV; rw [if_neg hnl, if_pos h4]
      have HU := Lib.hid (unquoted_any s _ HG.out hs)
      subst h4
      clear hnl hG
      generalize str (unq (s.data.toList.drop 1)) = R at *
      go_enter Tryz.func37, Tryz.ntmps37
      go_wp2_with (go_at_call 58; refine HU.out.mono ?_; rintro e w1 ⟨rfl, hb1⟩; have hv1 := ARM.out w1 hb1; have c0 := hv1.c0; have c1 := hv1.c1; have c2 := hv1.c2; have f0 := hv1.f0; have f1 := hv1.f1; have f2 := hv1.f2; have HB1 : Hid (Below w.heap.size w w1) := (val_al _ _).trans (hb1.mono (by simp)); have hlt := hv1.lt; clear hb1 hv1)
      refine bodyPost_ret (v := .agg #[.bool false, .int .i64 0, .string R]) (by simp [results, Tryz.results37, go_sem, c0, c1, c2, hlt]) rfl (ret_v (by rw [hv.out]; rfl) ?_)
      exact ((((HB1.out.setCell (Nat.le_refl _) _).setCell (Nat.le_refl _) _).setCell (Nat.le_refl _) _).setCell (Nat.le_refl _) _)
    · by_cases h5 : t = 5
      · have hv : Hid (candV s.data.toList t = ⟨false, dayL s.data.toList, ⟨#[]⟩⟩) := by show _ = _; unfold candV; rw [if_neg hnl, if_neg h4, if_pos h5]
        have HU := Lib.hid (dayOf_any s _ HG.out hs)
        subst h5
        clear hnl hG
        generalize dayL s.data.toList = R at *
        go_enter Tryz.func37, Tryz.ntmps37
        go_wp2_with (go_at_call 59; refine HU.out.mono ?_; rintro e w1 ⟨rfl, hb1⟩; have hv1 := ARM.out w1 hb1; have c0 := hv1.c0; have c1 := hv1.c1; have c2 := hv1.c2; have f0 := hv1.f0; have f1 := hv1.f1; have f2 := hv1.f2; have HB1 : Hid (Below w.heap.size w w1) := (val_al _ _).trans (hb1.mono (by simp)); have hlt := hv1.lt; clear hb1 hv1)
        refine bodyPost_ret (v := .agg #[.bool false, .int .i64 R, .string ⟨#[]⟩]) (by simp [results, Tryz.results37, go_sem, c0, c1, c2, hlt]) rfl (ret_v (by rw [hv.out]; rfl) ?_)
        exact ((((HB1.out.setCell (Nat.le_refl _) _).setCell (Nat.le_refl _) _).setCell (Nat.le_refl _) _).setCell (Nat.le_refl _) _)
      · by_cases h1 : t = 1
        · by_cases ht : s.data.toList = trueB
          · have hv : Hid (candV s.data.toList t = ⟨false, 1, ⟨#[]⟩⟩) := by show _ = _; unfold candV; rw [if_neg hnl, if_neg h4, if_neg h5, if_pos h1, if_pos ht]
            have q2 : (s.toList == [116, 114, 117, 101]) = true := mk_eq ht
            subst h1
            clear hnl hG ht
            go_enter Tryz.func37, Tryz.ntmps37
            go_wp2_with fail
            refine bodyPost_ret (v := .agg #[.bool false, .int .i64 1, .string ⟨#[]⟩]) (by simp [results, Tryz.results37, go_sem]) rfl (ret_v (by rw [hv.out]; rfl) ?_)
            exact val_al _ _
          · have hv : Hid (candV s.data.toList t = ⟨false, 0, ⟨#[]⟩⟩) := by show _ = _; unfold candV; rw [if_neg hnl, if_neg h4, if_neg h5, if_pos h1, if_neg ht]
            have q2 : (s.toList == [116, 114, 117, 101]) = false := mk_ne ht
            subst h1
            clear hnl hG ht
            go_enter Tryz.func37, Tryz.ntmps37
            go_wp2_with fail
            refine bodyPost_ret (v := .agg #[.bool false, .int .i64 0, .string ⟨#[]⟩]) (by simp [results, Tryz.results37, go_sem]) rfl (ret_v (by rw [hv.out]; rfl) ?_)
            exact val_al _ _
        · have hv : Hid (candV s.data.toList t = ⟨false, pintN s.data.toList, ⟨#[]⟩⟩) := by show _ = _; unfold candV; rw [if_neg hnl, if_neg h4, if_neg h5, if_neg h1]
          have HU := Lib.hid (ParseInt_any s _ HG.out hs)
          clear hnl hG
          generalize pintN s.data.toList = R at *
          go_enter Tryz.func37, Tryz.ntmps37
          go_wp2_with (go_at_call 60; refine HU.out.mono ?_; rintro e w1 ⟨ev, rfl, hb1⟩; have hv1 := ARM.out w1 hb1; have c0 := hv1.c0; have c1 := hv1.c1; have c2 := hv1.c2; have f0 := hv1.f0; have f1 := hv1.f1; have f2 := hv1.f2; have HB1 : Hid (Below w.heap.size w w1) := (val_al _ _).trans (hb1.mono (by simp)); have hlt := hv1.lt; clear hb1 hv1)
          refine bodyPost_ret (v := .agg #[.bool false, .int .i64 R, .string ⟨#[]⟩]) (by simp [results, Tryz.results37, go_sem, c0, c1, c2, hlt]) rfl (ret_v (by rw [hv.out]; rfl) ?_)
          exact ((((HB1.out.setCell (Nat.le_refl _) _).setCell (Nat.le_refl _) _).setCell (Nat.le_refl _) _).setCell (Nat.le_refl _) _)
theorem pint_bd (l : List UInt8) : -9223372036854775808 ≤ pintN l ∧ pintN l ≤ 9223372036854775807 := by
  unfold pintN
  cases h : Lib.parseIntB 64 l with
  | ok v =>
    simp only
    unfold Lib.parseIntB at h
    cases l with
    | nil => cases h
    | cons c r =>
      simp only at h
      split at h
      · cases h
      · cases h
      · split at h
        · cases h
        · rename_i u _ h1
          split at h
          · cases h
          · rename_i h2
            simp only [Nat.reducePow, Nat.reduceSub] at h1 h2
            injection h with h
            subst h
            split <;> rename_i h3 <;> simp [h3] at h1 h2 <;> omega
  | range =>
    simp only
    unfold Lib.intSat
    split <;> simp
  | _ => simp
theorem unq_len : ∀ (n : Nat) (l : List UInt8), l.length ≤ n → (unq l).length ≤ l.length
  | 0, l, h => by
    have e : l = [] := List.eq_nil_of_length_eq_zero (by omega)
    rw [e]
    simp [unq]
  | n + 1, [], h => by simp [unq]
  | n + 1, c :: r, h => by
    rw [List.length_cons] at h
    by_cases h1 : c = 34
    · rw [h1, unq_34]; simp
    · by_cases h2 : c = 92
      · rw [h2]
        by_cases h3 : r.length < 3
        · rw [unq_short r h3]; simp
        · match r, h3 with
          | x :: a :: b :: r', _ =>
            rw [unq_x]
            have := unq_len n r' (by simp at h; omega)
            simp only [List.length_cons] at h ⊢
            omega
          | [], k => exact absurd (by simp) k
          | [_], k => exact absurd (by simp) k
          | [_, _], k => exact absurd (by simp) k
      · rw [unq_c c r h1 h2]
        have := unq_len n r (by omega)
        simp only [List.length_cons]
        omega
theorem cand_fine (s : ByteArray) (t : Int) (hs : s.size ≤ 1000000) : (candV s.data.toList t).Fine ∧ (candV s.data.toList t).s.size ≤ 1000000 := by
  have hln : s.data.toList.length = s.size := rfl
  have hd : -9223372036854775808 ≤ dayL s.data.toList ∧ dayL s.data.toList ≤ 9223372036854775807 := by
    unfold dayL
    split
    · omega
    · split
      · omega
      · have h1 := atoi_bd (s.data.toList.drop (s.data.toList.length - 2)) (by rw [List.length_drop]; omega)
        have h2 := mStart_bd ((atoiN (s.data.toList.take (s.data.toList.length - 6)) + 799) * 12 + atoiN ((s.data.toList.drop (s.data.toList.length - 5)).take 2) - 1).toNat (by omega)
        omega
  have hu : (str (unq (s.data.toList.drop 1))).size ≤ 1000000 := by
    rw [str_size]
    have h1 := unq_len _ (s.data.toList.drop 1) (Nat.le_refl _)
    rw [List.length_drop] at h1
    omega
  have h0 : (⟨#[]⟩ : ByteArray).size = 0 := rfl
  have hp := pint_bd s.data.toList
  unfold candV
  split
  · exact ⟨⟨by simp, by simp, by simp [h0]⟩, by simp [h0]⟩
  · split
    · exact ⟨⟨by simp, by simp, by simp only; omega⟩, hu⟩
    · split
      · exact ⟨⟨hd.1, hd.2, by simp [h0]⟩, by simp [h0]⟩
      · split
        · split
          · exact ⟨⟨by simp, by simp, by simp [h0]⟩, by simp [h0]⟩
          · exact ⟨⟨by simp, by simp, by simp [h0]⟩, by simp [h0]⟩
        · exact ⟨⟨hp.1, hp.2, by simp [h0]⟩, by simp [h0]⟩
theorem ret2v {w0 w' : World} {v : Value} {z : Int} {r : Va × Nat} (h1 : v = r.1.val) (h3 : z = r.2) (h : Below w0.heap.size w0 w') :
    Ending.returned (.tuple #[v, .int .i64 z]) = .returned (.tuple #[r.1.val, .int .i64 (r.2 : Nat)]) ∧ Below w0.heap.size w0 w' := by
  subst h1 h3
  exact ⟨rfl, h⟩
set_option maxHeartbeats 4000000 in
theorem Parse_any (s : ByteArray) (t : Int) (w : World) (hG : Glob5 w) (hs : s.size ≤ 1000000) : Calls Tryz.prog 15 #[.string s, .int .i64 t] w fun e w' => e = .returned (.tuple #[(parV s.data.toList t).1.val, .int .i64 ((parV s.data.toList t).2 : Nat)]) ∧ Below w.heap.size w w' := by
  by_cases ht : ¬ (1 ≤ t ∧ t ≤ 5)
  · have hp : Hid (parV s.data.toList t = (⟨false, 0, ⟨#[]⟩⟩, 7)) := by show _ = _; unfold parV; rw [if_pos ht]
    have HT := Lib.hid (fun w1 => isType_any t false w1 (by simpa using ht))
    clear ht
    go_enter Tryz.func15, Tryz.ntmps15
    go_wp2_with (go_at_call 21; refine (HT.out _).mono ?_; rintro e w1 ⟨rfl, rfl⟩)
    refine bodyPost_ret (v := .tuple #[.agg #[.bool false, .int .i64 0, .string ⟨#[]⟩], .int .i64 7]) (by simp [results, Tryz.results15, go_sem]) rfl (ret2v (by rw [hp.out]; rfl) (by rw [hp.out]; rfl) ?_)
    exact val_al _ _
  · have ht' : 1 ≤ t ∧ t ≤ 5 := Decidable.not_not.1 ht
    obtain ⟨c, hc⟩ : ∃ c, c = candV s.data.toList t := ⟨_, rfl⟩
    have hp : Hid (parV s.data.toList t = if okV c t = true ∧ showL c t = s.data.toList then (c, 0) else (⟨false, 0, ⟨#[]⟩⟩, 5)) := by show _ = _; unfold parV; rw [if_neg ht, hc]
    have HT := Lib.hid (fun w1 => isType_any t true w1 (by simpa using ht'))
    have hf := cand_fine s t hs
    rw [← hc] at hf
    have HC := Lib.hid (cand_any s t (w.alloc (.cells #[.bool false, .int .i64 0, .string ⟨#[]⟩] 24)) (hG.up (val_al _ _)) hs)
    rw [← hc] at HC
    obtain ⟨z, hz⟩ : ∃ z, okV c t = z := ⟨_, rfl⟩
    have HV := Lib.hid (fun w1 => Valid_any c t z w1 hz hf.1.len)
    have HS := Lib.hid (fun w1 (hb : Below w.heap.size w w1) => Show_any c t w1 (hG.up hb) hf.1)
    rw [hz] at hp
    have ARM : Hid (∀ w1, Below (w.alloc (.cells #[.bool false, .int .i64 0, .string ⟨#[]⟩] 24)).heap.size (w.alloc (.cells #[.bool false, .int .i64 0, .string ⟨#[]⟩] 24)) w1 → VB w1 w.heap.size false 0 ⟨#[]⟩) := fun w1 hb => (VB.new w false 0 ⟨#[]⟩).up hb
    obtain ⟨cb, cn, cs⟩ := c
    unfold Va.val at HC HV HS
    simp only at HC HV HS
    clear hf hc hz ht ht' hG
    cases z with
    | false =>
      rw [if_neg (by simp)] at hp
      have hp2 := Lib.hid hp
      clear HS
      go_enter Tryz.func15, Tryz.ntmps15
      go_wp2_with (first
        | (go_at_call 21; refine (HT.out _).mono ?_; rintro e w1 ⟨rfl, rfl⟩)
        | (go_at_call 37; refine HC.out.mono ?_; rintro e w1 ⟨rfl, hb1⟩; have HB1 : Hid (Below w.heap.size w w1) := (val_al _ _).trans (hb1.mono (by simp)); have X1 := Lib.hid (ARM.out w1 hb1); clear hb1)
        | (go_at_call 6; refine (HV.out _).mono ?_; rintro e w2 ⟨rfl, hb2⟩; have X2 := Lib.hid ((VB.new w1 cb cn cs).up hb2); have Y2 := Lib.hid ((X1.out.up (val_al w1 _)).up hb2); have HB2 : Hid (Below w.heap.size w w2) := (HB1.out.trans ((val_al w1 _).mono HB1.out.size)).trans (hb2.mono (by have := HB1.out.size; simp; omega)); have hne : ¬ w.heap.size = w1.heap.size := (by have := X1.out.lt; omega); have d0 := X2.out.c0; have d1 := X2.out.c1; have d2 := X2.out.c2; have c0 := Y2.out.c0; have c1 := Y2.out.c1; have c2 := Y2.out.c2; have f0 := Y2.out.f0; have f1 := Y2.out.f1; have f2 := Y2.out.f2; clear hb2))
      refine bodyPost_ret (v := .tuple #[.agg #[.bool false, .int .i64 0, .string ⟨#[]⟩], .int .i64 5]) (by simp [results, Tryz.results15, go_sem, c0, c1, c2]) rfl (ret2v (by rw [hp.out]; rfl) (by rw [hp.out]; rfl) ?_)
      exact (((HB2.out.setCell (Nat.le_refl _) _).setCell (Nat.le_refl _) _).setCell (Nat.le_refl _) _)
    | true =>
      obtain ⟨R, hR⟩ : ∃ R, R = showL ⟨cb, cn, cs⟩ t := ⟨_, rfl⟩
      rw [← hR] at HS hp
      by_cases hq : R = s.data.toList
      · rw [if_pos ⟨rfl, hq⟩] at hp
        have q : ((str R).toList == s.toList) = true := by rw [Lib.toList_data, Lib.toList_data, str_data, hq]; simp
        clear hq hR
        generalize str R = RS at *
        go_enter Tryz.func15, Tryz.ntmps15
        go_wp2_with (first
          | (go_at_call 21; refine (HT.out _).mono ?_; rintro e w1 ⟨rfl, rfl⟩)
          | (go_at_call 37; refine HC.out.mono ?_; rintro e w1 ⟨rfl, hb1⟩; have HB1 : Hid (Below w.heap.size w w1) := (val_al _ _).trans (hb1.mono (by simp)); have X1 := Lib.hid (ARM.out w1 hb1); clear hb1)
          | (go_at_call 6; refine (HV.out _).mono ?_; rintro e w2 ⟨rfl, hb2⟩; have X2 := Lib.hid ((VB.new w1 cb cn cs).up hb2); have Y2 := Lib.hid ((X1.out.up (val_al w1 _)).up hb2); have HB2 : Hid (Below w.heap.size w w2) := (HB1.out.trans ((val_al w1 _).mono HB1.out.size)).trans (hb2.mono (by have := HB1.out.size; simp; omega)); have hne : ¬ w.heap.size = w1.heap.size := (by have := X1.out.lt; omega); have d0 := X2.out.c0; have d1 := X2.out.c1; have d2 := X2.out.c2;  clear hb2)
          | (go_at_call 11; refine (HS.out _ HB2.out).mono ?_; rintro e w3 ⟨rfl, hb3⟩; clear d0 d1 d2; have hv2 := X2.out.up hb3; have hv1 := Y2.out.up hb3; have HB3 : Hid (Below w.heap.size w w3) := HB2.out.trans (hb3.mono HB2.out.size); have d0 := hv2.c0; have d1 := hv2.c1; have d2 := hv2.c2; have c0 := hv1.c0; have c1 := hv1.c1; have c2 := hv1.c2; have f0 := hv1.f0; have f1 := hv1.f1; have f2 := hv1.f2; clear hb3 hv1 hv2))
        refine bodyPost_ret (v := .tuple #[.agg #[.bool cb, .int .i64 cn, .string cs], .int .i64 0]) (by simp [results, Tryz.results15, go_sem, c0, c1, c2]) rfl (ret2v (by rw [hp.out]; rfl) (by rw [hp.out]; rfl) ?_)
        exact (((HB3.out.setCell (Nat.le_refl _) _).setCell (Nat.le_refl _) _).setCell (Nat.le_refl _) _)
      · rw [if_neg (fun k => hq k.2)] at hp
        have q : ((str R).toList == s.toList) = false := by rw [Lib.toList_data, Lib.toList_data, str_data]; simpa using hq
        clear hq hR
        generalize str R = RS at *
        go_enter Tryz.func15, Tryz.ntmps15
        go_wp2_with (first
          | (go_at_call 21; refine (HT.out _).mono ?_; rintro e w1 ⟨rfl, rfl⟩)
          | (go_at_call 37; refine HC.out.mono ?_; rintro e w1 ⟨rfl, hb1⟩; have HB1 : Hid (Below w.heap.size w w1) := (val_al _ _).trans (hb1.mono (by simp)); have X1 := Lib.hid (ARM.out w1 hb1); clear hb1)
          | (go_at_call 6; refine (HV.out _).mono ?_; rintro e w2 ⟨rfl, hb2⟩; have X2 := Lib.hid ((VB.new w1 cb cn cs).up hb2); have Y2 := Lib.hid ((X1.out.up (val_al w1 _)).up hb2); have HB2 : Hid (Below w.heap.size w w2) := (HB1.out.trans ((val_al w1 _).mono HB1.out.size)).trans (hb2.mono (by have := HB1.out.size; simp; omega)); have hne : ¬ w.heap.size = w1.heap.size := (by have := X1.out.lt; omega); have d0 := X2.out.c0; have d1 := X2.out.c1; have d2 := X2.out.c2;  clear hb2)
          | (go_at_call 11; refine (HS.out _ HB2.out).mono ?_; rintro e w3 ⟨rfl, hb3⟩; clear d0 d1 d2; have hv2 := X2.out.up hb3; have hv1 := Y2.out.up hb3; have HB3 : Hid (Below w.heap.size w w3) := HB2.out.trans (hb3.mono HB2.out.size); have d0 := hv2.c0; have d1 := hv2.c1; have d2 := hv2.c2; have c0 := hv1.c0; have c1 := hv1.c1; have c2 := hv1.c2; have f0 := hv1.f0; have f1 := hv1.f1; have f2 := hv1.f2; clear hb3 hv1 hv2))
        refine bodyPost_ret (v := .tuple #[.agg #[.bool false, .int .i64 0, .string ⟨#[]⟩], .int .i64 5]) (by simp [results, Tryz.results15, go_sem, c0, c1, c2]) rfl (ret2v (by rw [hp.out]; rfl) (by rw [hp.out]; rfl) ?_)
        exact (((HB3.out.setCell (Nat.le_refl _) _).setCell (Nat.le_refl _) _).setCell (Nat.le_refl _) _)
end Go.Proofs.YteaaadccjnmacaaGreatDoor
