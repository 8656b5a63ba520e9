/-
  The program's dayOf, Show, candidate and Parse, by contracts.
-/
import Derived.Test.YteaaadccjnmacaaGreatDoorCmpP
import Derived.Test.YteaaadccjnmacaaGreatDoorDecP
import Derived.Test.YteaaadccjnmacaaGreatDoorUnqP
namespace Go.Proofs.YteaaadccjnmacaaGreatDoor
open Go.RowKit

theorem pu_bd : ∀ (l : List UInt8) (acc : Nat), (acc + 1) * 10 ^ l.length ≤ 1000 → (∀ u, Lib.parseUint10 acc l = .ok u → u < 1000) ∧ Lib.parseUint10 acc l ≠ .range
  | [], acc, h => ⟨fun u e => by simp at h; unfold Lib.parseUint10 at e; injection e with e; omega, fun e => by unfold Lib.parseUint10 at e; cases e⟩
  | c :: r, acc, h => by
    have hp : 1 ≤ 10 ^ r.length := Nat.one_le_pow _ _ (by decide)
    have h2 : (acc + 1) * 10 ^ (c :: r).length = ((acc + 1) * 10) * 10 ^ r.length := by rw [List.length_cons, Nat.pow_succ, Nat.mul_assoc, Nat.mul_comm 10]
    rw [h2] at h
    have h3 : (acc + 1) * 10 ≤ (acc + 1) * 10 * 10 ^ r.length := Nat.le_mul_of_pos_right _ hp
    unfold Lib.parseUint10
    split
    · rename_i hc
      rw [if_neg (by omega), if_neg (by omega)]
      refine pu_bd r _ (Nat.le_trans (Nat.mul_le_mul_right _ ?_) h)
      omega
    · exact ⟨fun u e => (by cases e), fun e => (by cases e)⟩
theorem atoi_bd (l : List UInt8) (h : l.length ≤ 2) : -1000 ≤ atoiN l ∧ atoiN l ≤ 1000 := by
  have key : ∀ m : List UInt8, m.length ≤ 2 → (∀ u, Lib.parseMag m = .ok u → u < 1000) ∧ Lib.parseMag m ≠ .range := fun m hm => by
    unfold Lib.parseMag
    split
    · exact ⟨fun u e => (by cases e), fun e => (by cases e)⟩
    · refine pu_bd m 0 ?_
      have : 10 ^ m.length ≤ 10 ^ 2 := Nat.pow_le_pow_right (by decide) hm
      omega
  unfold atoiN Lib.atoiAll
  cases l with
  | nil => simp
  | cons c r =>
    simp only
    have hk := key (if c.toNat = 43 ∨ c.toNat = 45 then r else c :: r) (by split <;> simp at h ⊢ <;> omega)
    cases e : Lib.parseMag (if c.toNat = 43 ∨ c.toNat = 45 then r else c :: r) with
    | ok u =>
      have hu := hk.1 u e
      simp only
      rw [if_neg (by omega), if_neg (by omega)]
      simp only
      split <;> omega
    | range => exact absurd e hk.2
    | _ => simp
theorem Atoi_any (s : ByteArray) (w : World) (hG : Glob5 w) (hs : s.size ≤ 1000000) : Calls Tryz.prog 78 #[.string s] w fun e w' => ∃ ev, e = .returned (.tuple #[.int .i64 (atoiN s.data.toList), ev]) ∧ Below w.heap.size w w' := by
  unfold atoiN
  cases h : Lib.atoiAll s.data.toList with
  | ok v =>
    refine (Tryz.strconv_Atoi_ok s (by omega) v h w).mono ?_
    rintro e w' ⟨rfl, rfl | ⟨t, rfl⟩⟩
    · exact ⟨_, rfl, Below.refl _ _⟩
    · exact ⟨_, rfl, Lib.bytesWorld_below _ _ _⟩
  | range =>
    obtain ⟨te, pe, hc⟩ := hG.rng
    refine (Tryz.strconv_Atoi_range s (by omega) h _ w hc (.inr ⟨te, pe, rfl⟩)).mono ?_
    rintro e w' ⟨N, rfl, -, -, hb⟩
    exact ⟨_, rfl, hb⟩
  | _ =>
    obtain ⟨te, pe, hc⟩ := hG.syn
    refine (Tryz.strconv_Atoi_form s (by omega) ⟨fun v e => (by rw [h] at e; cases e), fun e => (by rw [h] at e; cases e)⟩ _ w hc (.inr ⟨te, pe, rfl⟩)).mono ?_
    rintro e w' ⟨N, rfl, -, -, hb⟩
    exact ⟨_, rfl, hb⟩
theorem ParseInt_any (s : ByteArray) (w : World) (hG : Glob5 w) (hs : s.size ≤ 1000000) : Calls Tryz.prog 60 #[.string s, .int .i64 10, .int .i64 64] w fun e w' => ∃ ev, e = .returned (.tuple #[.int .i64 (pintN s.data.toList), ev]) ∧ Below w.heap.size w w' := by
  unfold pintN
  cases h : Lib.parseIntB 64 s.data.toList with
  | ok v =>
    refine (Tryz.strconv_ParseInt_10_at64_ok s (by omega) v h w).mono ?_
    rintro e w' ⟨rfl, rfl | ⟨t, rfl⟩⟩
    · exact ⟨_, rfl, Below.refl _ _⟩
    · exact ⟨_, rfl, Lib.bytesWorld_below _ _ _⟩
  | range =>
    obtain ⟨te, pe, hc⟩ := hG.rng
    refine (Tryz.strconv_ParseInt_10_at64_range s (by omega) h _ w hc (.inr ⟨te, pe, rfl⟩)).mono ?_
    rintro e w' ⟨N, rfl, -, -, hb⟩
    exact ⟨_, rfl, hb⟩
  | _ =>
    obtain ⟨te, pe, hc⟩ := hG.syn
    refine (Tryz.strconv_ParseInt_10_at64_form s (by omega) ⟨fun v e => (by rw [h] at e; cases e), fun e => (by rw [h] at e; cases e)⟩ _ w hc (.inr ⟨te, pe, rfl⟩)).mono ?_
    rintro e w' ⟨N, rfl, -, -, hb⟩
    exact ⟨_, rfl, hb⟩
theorem FormatInt_any (n : Int) (w : World) (hG : Glob5 w) (h0 : -9223372036854775808 ≤ n) (h1 : n ≤ 9223372036854775807) : Calls Tryz.prog 29 #[.int .i64 n, .int .i64 10] w fun e w' => e = .returned (.string (str (Lib.itoa n))) ∧ Below w.heap.size w w' := by
  refine (Tryz.strconv_FormatInt_10 n h0 h1 w hG.tab).mono ?_
  rintro e w' ⟨rfl, q, os, rfl⟩
  exact ⟨rfl, below_gr w q os⟩
theorem ext_all (s : ByteArray) (l : List UInt8) (hl : l = s.data.toList) (lo hi : Nat) : (s.extract lo hi).data.toList = (l.drop lo).take (hi - lo) := by rw [Lib.extract_data, hl]
theorem ext_le (s : ByteArray) (lo hi : Nat) (h : s.size ≤ 1000000) : (s.extract lo hi).size ≤ 1000000 := by
  rw [Lib.size_eq, Lib.extract_data, List.length_take, List.length_drop]
  have : s.data.toList.length = s.size := rfl
  omega
set_option maxHeartbeats 2000000 in
theorem dayOf_any (s : ByteArray) (w : World) (hG : Glob5 w) (hs : s.size ≤ 1000000) : Calls Tryz.prog 59 #[.string s] w fun e w' => e = .returned (.int .i64 (dayL s.data.toList)) ∧ Below w.heap.size w w' := by
  obtain ⟨n, hn⟩ : ∃ n, n = s.size := ⟨_, rfl⟩
  obtain ⟨l, hl⟩ : ∃ l, l = s.data.toList := ⟨_, rfl⟩
  have hln : l.length = n := by rw [hl, hn]; rfl
  have hsz : (s.size : Int) = (n : Int) := by rw [hn]
  by_cases h6 : n < 6
  · have HD : Hid (dayL s.data.toList = 0) := by show _ = _; unfold dayL; rw [← hl, if_pos (by omega)]
    have j1 : (n : Int) - 3 - 3 < 0 := by omega
    clear hG hl hln
    go_enter Tryz.func59, Tryz.ntmps59
    go_wp2_with fail
    go_ret
    exact ⟨(by rw [HD.out]; try rfl), Below.refl _ _⟩
  · obtain ⟨y, hy⟩ : ∃ y, y = atoiN (l.take (n - 6)) := ⟨_, rfl⟩
    obtain ⟨mo, hmo⟩ : ∃ y, y = atoiN ((l.drop (n - 5)).take 2) := ⟨_, rfl⟩
    obtain ⟨d, hd⟩ : ∃ y, y = atoiN (l.drop (n - 2)) := ⟨_, rfl⟩
    have hdb := atoi_bd (l.drop (n - 2)) (by rw [List.length_drop]; omega)
    rw [← hd] at hdb
    have HD : Hid (dayL s.data.toList = if y < -799 ∨ 4800 ≤ y ∨ mo < 1 ∨ 12 < mo then 0 else mStart ((y + 799) * 12 + mo - 1).toNat + (d - 1)) := by
      show _ = _
      unfold dayL
      rw [← hl, hln, if_neg h6, ← hy, ← hmo, ← hd]
    have HA : Hid (∀ (lo hi : Nat) (z : Int) (w1 : World), Below w.heap.size w w1 → z = atoiN ((l.drop lo).take (hi - lo)) → Calls Tryz.prog 78 #[.string (s.extract lo hi)] w1 fun e w' => ∃ ev, e = .returned (.tuple #[.int .i64 z, ev]) ∧ Below w.heap.size w w') := fun lo hi z w1 hb hz => by
      have h := Atoi_any (s.extract lo hi) w1 (hG.up hb) (ext_le s lo hi hs)
      rw [ext_all s l hl, ← hz] at h
      refine h.mono ?_
      rintro e w' ⟨ev, rfl, h1⟩
      exact ⟨ev, rfl, hb.trans (h1.mono hb.size)⟩
    have H1 : Hid (∀ (lo hi : Nat) (w1 : World), lo = 0 → hi = n - 6 → Below w.heap.size w w1 → Calls Tryz.prog 78 #[.string (s.extract lo hi)] w1 fun e w' => ∃ ev, e = .returned (.tuple #[.int .i64 y, ev]) ∧ Below w.heap.size w w') := fun lo hi w1 h1 h2 hb => HA.out lo hi y w1 hb (by rw [h1, h2, hy, List.drop_zero]; rfl)
    have H2 : Hid (∀ (lo hi : Nat) (w1 : World), lo = n - 5 → hi = n - 3 → Below w.heap.size w w1 → Calls Tryz.prog 78 #[.string (s.extract lo hi)] w1 fun e w' => ∃ ev, e = .returned (.tuple #[.int .i64 mo, ev]) ∧ Below w.heap.size w w') := fun lo hi w1 h1 h2 hb => HA.out lo hi mo w1 hb (by rw [h1, h2, hmo, show n - 3 - (n - 5) = 2 by omega])
    have H3 : Hid (∀ (lo hi : Nat) (w1 : World), lo = n - 2 → hi = n → Below w.heap.size w w1 → Calls Tryz.prog 78 #[.string (s.extract lo hi)] w1 fun e w' => ∃ ev, e = .returned (.tuple #[.int .i64 d, ev]) ∧ Below w.heap.size w w') := fun lo hi w1 h1 h2 hb => HA.out lo hi d w1 hb (by rw [h1, h2, hd, List.take_of_length_le (by rw [List.length_drop]; omega)])
    have HG := Lib.hid (fun w1 (hb : Below w.heap.size w w1) => hG.up hb)
    have j1 : ¬ (n : Int) - 3 - 3 < 0 := by omega
    have j2 : (n : Int) - 3 - 3 ≤ (n : Int) := by omega
    clear hG hl hln HA hy hmo hd
    by_cases hc : y < -799 ∨ 4800 ≤ y ∨ mo < 1 ∨ 12 < mo
    · rw [if_pos hc] at HD
      have hc4 : y < -799 ∨ (¬ y < -799 ∧ 4800 ≤ y) ∨ (¬ y < -799 ∧ ¬ 4800 ≤ y ∧ mo < 1) ∨ (¬ y < -799 ∧ ¬ 4800 ≤ y ∧ ¬ mo < 1 ∧ 12 < mo) := by omega
      clear hc
      rcases hc4 with q | ⟨q, q2⟩ | ⟨q, q2, q3⟩ | ⟨q, q2, q3, q4⟩
      all_goals
        go_enter Tryz.func59, Tryz.ntmps59
        go_wp2_with (first
          | (go_at_call 78; refine (H1.out _ _ _ (by omega) (by omega) (Below.refl _ _)).mono ?_; rintro e w1 ⟨ev1, rfl, hb1⟩; have HB1 := Lib.hid hb1; clear hb1)
          | (go_at_call 78; refine (H2.out _ _ _ (by omega) (by omega) HB1.out).mono ?_; rintro e w2 ⟨ev2, rfl, hb2⟩; have HB2 := Lib.hid hb2; clear hb2)
          | (go_at_call 78; refine (H3.out _ _ _ (by omega) (by omega) HB2.out).mono ?_; rintro e w3 ⟨ev3, rfl, hb3⟩; have HB3 := Lib.hid hb3; clear hb3))
        all_goals first
          | (exfalso; omega)
          | (go_ret; exact ⟨(by rw [HD.out]; try rfl), HB3.out⟩)
    · rw [if_neg hc] at HD
      obtain ⟨M, hM⟩ : ∃ M, M = ((y + 799) * 12 + mo - 1).toNat := ⟨_, rfl⟩
      rw [← hM] at HD
      have hmb := mStart_bd M (by omega)
      have HS : Hid (∀ (z : Int) (w1 : World), z = (M : Int) → Below w.heap.size w w1 → Calls Tryz.prog 49 #[.int .i64 z] w1 fun e w' => e = .returned (.int .i64 (mStart M)) ∧ w' = w1) := fun z w1 hz hb => by rw [hz]; exact monthStart_any M w1 (HG.out w1 hb) (by omega)
      have q1 : ¬ y < -799 := by omega
      have q2 : ¬ 4800 ≤ y := by omega
      have q3 : ¬ mo < 1 := by omega
      have q4 : ¬ 12 < mo := by omega
      clear hc
      generalize mStart M = ms at *
      go_enter Tryz.func59, Tryz.ntmps59
      go_wp2_with (first
        | (go_at_call 78; refine (H1.out _ _ _ (by omega) (by omega) (Below.refl _ _)).mono ?_; rintro e w1 ⟨ev1, rfl, hb1⟩; have HB1 := Lib.hid hb1; clear hb1)
        | (go_at_call 78; refine (H2.out _ _ _ (by omega) (by omega) HB1.out).mono ?_; rintro e w2 ⟨ev2, rfl, hb2⟩; have HB2 := Lib.hid hb2; clear hb2)
        | (go_at_call 78; refine (H3.out _ _ _ (by omega) (by omega) HB2.out).mono ?_; rintro e w3 ⟨ev3, rfl, hb3⟩; have HB3 := Lib.hid hb3; clear hb3)
        | (go_at_call 49; refine (HS.out _ _ (by omega) HB3.out).mono ?_; rintro e w4 ⟨rfl, rfl⟩))
      all_goals first
        | (exfalso; omega)
        | (go_ret; exact ⟨(by rw [HD.out]; try rfl), HB3.out⟩)
theorem not_emp (l : List UInt8) (k : List UInt8) (h : ¬ l = k) : (l == k) = false := by simpa using h
theorem is_emp (l : List UInt8) (k : List UInt8) (h : l = k) : (l == k) = true := by simpa using h
set_option maxHeartbeats 2000000 in
theorem Show_b (b : Bool) (n : Int) (s : ByteArray) (t : Int) (w : World) (hG : Glob5 w) (hv : Va.Fine ⟨b, n, s⟩) : Calls Tryz.prog 11 #[.agg #[.bool b, .int .i64 n, .string s], .int .i64 t] w fun e w' =>
    e = .returned (.string (str (showL ⟨b, n, s⟩ t))) ∧ Below w.heap.size w w' := by
  obtain ⟨z, hz⟩ : ∃ z, okV ⟨b, n, s⟩ t = z := ⟨_, rfl⟩
  have HV := Lib.hid (fun w1 => Valid_any ⟨b, n, s⟩ t z w1 hz hv.len)
  unfold Va.val at HV
  simp only at HV
  have HG := Lib.hid (fun w1 (hb : Below w.heap.size w w1) => hG.up hb)
  cases z with
  | false =>
    have he : Hid (showL ⟨b, n, s⟩ t = []) := by show _ = _; unfold showL; rw [hz]; rfl
    clear hz
    go_enter Tryz.func11, Tryz.ntmps11
    go_wp2_with (go_at_call 6; refine (HV.out _).mono ?_; rintro e w1 ⟨rfl, hb1⟩; have HB1 := Lib.hid hb1; clear hb1)
    go_ret
    exact ⟨by rw [he.out]; rfl, (val_al _ _).trans (HB1.out.mono (by simp))⟩
  | true =>
    have he : Hid (showL ⟨b, n, s⟩ t = (if b = true then nullB else if t = 4 then quoteL s.data.toList else if t = 5 then dateL n else if t = 1 then (if n = 0 then falseB else trueB) else Lib.itoa n)) := by show _ = _; unfold showL; rw [if_pos hz]
    have ARM : Hid (∀ w1, Below (w.alloc (.cells #[.bool b, .int .i64 n, .string s] 24)).heap.size (w.alloc (.cells #[.bool b, .int .i64 n, .string s] 24)) w1 → VB w1 w.heap.size b n s) := fun w1 hb => (VB.new w b n s).up hb
    cases b with
    | true =>
      rw [if_pos rfl] at he
      clear hz
      go_enter Tryz.func11, Tryz.ntmps11
      go_wp2_with (go_at_call 6; refine (HV.out _).mono ?_; rintro e w1 ⟨rfl, hb1⟩; have hv1 := ARM.out w1 hb1; have c0 := hv1.c0; have c1 := hv1.c1; have c2 := hv1.c2; have HB1 : Hid (Below w.heap.size w w1) := (val_al _ _).trans (hb1.mono (by simp)); clear hb1 hv1)
      go_ret
      exact ⟨by rw [he.out]; rfl, HB1.out⟩
    | false =>
      rw [if_neg (by simp)] at he
      by_cases h4 : t = 4
      · rw [if_pos h4] at he
        subst h4
        have hk := ok_text hz rfl
        have HQ := Lib.hid (fun w1 => quoted_any s w1 (by have := hk.2; simp only at this; omega))
        clear hz hk
        generalize quoteL s.data.toList = R at *
        go_enter Tryz.func11, Tryz.ntmps11
        go_wp2_with (first
          | (go_at_call 6; refine (HV.out _).mono ?_; rintro e w1 ⟨rfl, hb1⟩; have hv1 := ARM.out w1 hb1; have c0 := hv1.c0; have c1 := hv1.c1; have c2 := hv1.c2; have HB1 : Hid (Below w.heap.size w w1) := (val_al _ _).trans (hb1.mono (by simp)); clear hb1 hv1)
          | (go_at_call 27; refine (HQ.out _).mono ?_; rintro e w2 ⟨rfl, hb2⟩; have HB2 : Hid (Below w.heap.size w w2) := HB1.out.trans (hb2.mono HB1.out.size); clear hb2))
        go_ret
        exact ⟨by rw [he.out]; rfl, HB2.out⟩
      · rw [if_neg h4] at he
        by_cases h5 : t = 5
        · rw [if_pos h5] at he
          subst h5
          have hk := ok_day hz rfl
          have HQ := Lib.hid (fun w1 (hb : Below w.heap.size w w1) => dateOf_any n w1 (HG.out w1 hb) hk.1 hk.2.1)
          clear hz hk
          generalize dateL n = R at *
          go_enter Tryz.func11, Tryz.ntmps11
          go_wp2_with (first
            | (go_at_call 6; refine (HV.out _).mono ?_; rintro e w1 ⟨rfl, hb1⟩; have hv1 := ARM.out w1 hb1; have c0 := hv1.c0; have c1 := hv1.c1; have c2 := hv1.c2; have HB1 : Hid (Below w.heap.size w w1) := (val_al _ _).trans (hb1.mono (by simp)); clear hb1 hv1)
            | (go_at_call 28; refine (HQ.out _ HB1.out).mono ?_; rintro e w2 ⟨rfl, hb2⟩; have HB2 : Hid (Below w.heap.size w w2) := HB1.out.trans (hb2.mono HB1.out.size); clear hb2))
          go_ret
          exact ⟨by rw [he.out]; rfl, HB2.out⟩
        · rw [if_neg h5] at he
          by_cases h1 : t = 1
          · rw [if_pos h1] at he
            subst h1
            clear hz
            by_cases hn : n = 0
            · rw [if_pos hn] at he
              subst hn
              go_enter Tryz.func11, Tryz.ntmps11
              go_wp2_with (go_at_call 6; refine (HV.out _).mono ?_; rintro e w1 ⟨rfl, hb1⟩; have hv1 := ARM.out w1 hb1; have c0 := hv1.c0; have c1 := hv1.c1; have c2 := hv1.c2; have HB1 : Hid (Below w.heap.size w w1) := (val_al _ _).trans (hb1.mono (by simp)); clear hb1 hv1)
              go_ret
              exact ⟨by rw [he.out]; rfl, HB1.out⟩
            · rw [if_neg hn] at he
              go_enter Tryz.func11, Tryz.ntmps11
              go_wp2_with (go_at_call 6; refine (HV.out _).mono ?_; rintro e w1 ⟨rfl, hb1⟩; have hv1 := ARM.out w1 hb1; have c0 := hv1.c0; have c1 := hv1.c1; have c2 := hv1.c2; have HB1 : Hid (Below w.heap.size w w1) := (val_al _ _).trans (hb1.mono (by simp)); clear hb1 hv1)
              go_ret
              exact ⟨by rw [he.out]; rfl, HB1.out⟩
          · rw [if_neg h1] at he
            have HQ := Lib.hid (fun w1 (hb : Below w.heap.size w w1) => FormatInt_any n w1 (HG.out w1 hb) hv.lo hv.hi)
            clear hz
            generalize Lib.itoa n = R at *
            go_enter Tryz.func11, Tryz.ntmps11
            go_wp2_with (first
              | (go_at_call 6; refine (HV.out _).mono ?_; rintro e w1 ⟨rfl, hb1⟩; have hv1 := ARM.out w1 hb1; have c0 := hv1.c0; have c1 := hv1.c1; have c2 := hv1.c2; have HB1 : Hid (Below w.heap.size w w1) := (val_al _ _).trans (hb1.mono (by simp)); clear hb1 hv1)
              | (go_at_call 29; refine (HQ.out _ HB1.out).mono ?_; rintro e w2 ⟨rfl, hb2⟩; have HB2 : Hid (Below w.heap.size w w2) := HB1.out.trans (hb2.mono HB1.out.size); clear hb2))
            go_ret
            exact ⟨by rw [he.out]; rfl, HB2.out⟩
/-- Show. -/
theorem Show_any (v : Va) (t : Int) (w : World) (hG : Glob5 w) (hv : v.Fine) : Calls Tryz.prog 11 #[v.val, .int .i64 t] w fun e w' => e = .returned (.string (str (showL v t))) ∧ Below w.heap.size w w' :=
  Show_b v.b v.n v.s t w hG hv
end Go.Proofs.YteaaadccjnmacaaGreatDoor
