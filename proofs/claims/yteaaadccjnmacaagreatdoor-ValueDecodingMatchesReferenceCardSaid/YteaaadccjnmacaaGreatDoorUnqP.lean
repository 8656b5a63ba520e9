/-
  The program's unquoted, by a contract.
-/
import Derived.Test.YteaaadccjnmacaaGreatDoorHexP
import Derived.Test.YteaaadccjnmacaaGreatDoorQuoteP
namespace Go.Proofs.YteaaadccjnmacaaGreatDoor
open Go.RowKit

theorem hex2_lt (a b : UInt8) : hex2 a b < 256 := by
  unfold hex2
  split <;> omega
theorem hexU_any (s : ByteArray) (a b : UInt8) (w : World) (hG : Glob5 w) (hs : s.data.toList = [a, b]) : Calls Tryz.prog 77 #[.string s, .int .i64 16, .int .i64 8] w fun e w' => ∃ ev, e = .returned (.tuple #[.int .u64 (hex2 a b : Nat), ev]) ∧ Below w.heap.size w w' := by
  have HU := Lib.hid (uin_any s a b w hs)
  have hsz : s.size = 2 := by have := congrArg List.length hs; simpa using this
  by_cases hg : hexV a < 16 ∧ hexV b < 16
  · have hu : uin a b = .tuple #[.int .u64 ((hexV a * 16 + hexV b : Nat) : Int), .nilIface] := by unfold uin; rw [if_pos hg]
    have hh : hex2 a b = hexV a * 16 + hexV b := by unfold hex2; rw [if_pos hg]
    rw [hu] at HU
    rw [hh]
    generalize hexV a * 16 + hexV b = z at *
    clear hs hu hh hg
    go_enter Tryz.func77, Tryz.ntmps77
    go_wp2_with (go_at_call 96; refine HU.out.mono ?_; rintro e w1 ⟨rfl, hb1⟩; have HB1 := Lib.hid hb1; clear hb1)
    go_ret2
    exact ⟨_, rfl, HB1.out⟩
  · have hu : uin a b = .tuple #[.int .u64 0, .iface 114 (.int .i64 2)] := by unfold uin; rw [if_neg hg]
    have hh : hex2 a b = 0 := by unfold hex2; rw [if_neg hg]
    rw [hu] at HU
    rw [hh]
    obtain ⟨te, pe, hc⟩ := hG.syn
    have HE : Hid (∀ fn w1, Below w.heap.size w w1 → Calls Tryz.prog 80 #[.string fn, .string s, .int .i64 16, .int .i64 8, .iface 114 (.int .i64 2)] w1 fun e w' => ∃ N, e = .returned (.iface 115 (.pointer (some ⟨N, 0, none⟩))) ∧ Below w.heap.size w w') := fun fn w1 hb => by
      refine (Tryz.strconv_toError_syntax fn s 16 8 _ w1 (by omega) ((hb.cell (p := ⟨3, 0, none⟩) (World.block_lt_of_cell? w _ hc)).trans hc) (.inr ⟨te, pe, rfl⟩)).mono ?_
      rintro e w' ⟨N, rfl, -, -, h⟩
      exact ⟨N, rfl, hb.trans (h.mono hb.size)⟩
    clear hs hu hh hg hc hG
    go_enter Tryz.func77, Tryz.ntmps77
    go_wp2_with (first
      | (go_at_call 96; refine HU.out.mono ?_; rintro e w1 ⟨rfl, hb1⟩; have HB1 := Lib.hid hb1; clear hb1)
      | (go_at_call 80; refine (HE.out _ _ HB1.out).mono ?_; rintro e w2 ⟨N, rfl, hb2⟩; have HB2 := Lib.hid hb2; clear hb2))
    go_ret2
    exact ⟨_, rfl, HB2.out⟩

theorem drop_two (l : List UInt8) (k n : Nat) (h : l.length = n) (hk : k + 4 ≤ n) : ∃ c x a b, l[k]? = some c ∧ l.drop k = c :: x :: a :: b :: l.drop (k + 4) ∧ (l.drop (k + 2)).take 2 = [a, b] := by
  have e0 := List.drop_eq_getElem_cons (l := l) (i := k) (by omega)
  have e1 := List.drop_eq_getElem_cons (l := l) (i := k + 1) (by omega)
  have e2 := List.drop_eq_getElem_cons (l := l) (i := k + 2) (by omega)
  have e3 := List.drop_eq_getElem_cons (l := l) (i := k + 3) (by omega)
  refine ⟨_, _, _, _, List.getElem?_eq_getElem (by omega), by rw [e0, e1, e2, e3], by rw [e2, e3]; rfl⟩
theorem drop_one (l : List UInt8) (k : Nat) (c : UInt8) (h : l[k]? = some c) : l.drop k = c :: l.drop (k + 1) := by
  obtain ⟨h1, h2⟩ := List.getElem?_eq_some_iff.1 h
  rw [List.drop_eq_getElem_cons h1, h2]
set_option maxHeartbeats 4000000 in
theorem unquoted_any (s : ByteArray) (w : World) (hG : Glob5 w) (hs : s.size ≤ 1000000) : Calls Tryz.prog 58 #[.string s] w fun e w' => e = .returned (.string (str (unq (s.data.toList.drop 1)))) ∧ Below w.heap.size w w' := by
  obtain ⟨n, hn⟩ : ∃ n, n = s.size := ⟨_, rfl⟩
  obtain ⟨l, hl⟩ : ∃ l, l = s.data.toList := ⟨_, rfl⟩
  have HLN : Hid (l.length = n) := by show _ = _; rw [hl, hn]; rfl
  have HBY : Hid (∀ k c, l[k]? = some c → ∀ h' : k < s.size, (s[k]'h').toNat = c.toNat) := fun k c h => byte_at s k c (by rw [← hl]; exact h)
  have HU : Hid (∀ (k lo hi : Nat) (a b : UInt8) (w1 : World), lo = k + 2 → hi = k + 4 → Glob5 w1 → (l.drop (k + 2)).take 2 = [a, b] → Calls Tryz.prog 77 #[.string (s.extract lo hi), .int .i64 16, .int .i64 8] w1 fun e w' => ∃ ev, e = .returned (.tuple #[.int .u64 (hex2 a b : Nat), ev]) ∧ Below w1.heap.size w1 w') := fun k lo hi a b w1 h1 h2 hg h => by
    subst h1 h2
    refine hexU_any _ a b w1 hg ?_
    rw [Lib.extract_data, ← hl, show k + 4 - (k + 2) = 2 by omega, h]
  obtain ⟨R, hR⟩ : ∃ R, R = unq (l.drop 1) := ⟨_, rfl⟩
  rw [← hl, ← hR]
  have HR := Lib.hid hR
  have HG := Lib.hid (fun w1 (h : Below w.heap.size w w1) => hG.up h)
  have hsz : (s.size : Int) = (n : Int) := by rw [hn]
  clear hl hG hR
  go_enter Tryz.func58, Tryz.ntmps58
  go_wp2_with fail
  go_step3
  go_wp2_with fail
  go_step3
  go_wp2_with fail
  go_loopw [3, 4, 5, 6, 7] (fun v i _ _ _ wr => ∃ (k : Nat) (P : List UInt8) (A' : Option Addr) (c' : Nat), i = .int .i64 k ∧ v = .slice A' P.length c' ∧ 1 ≤ k ∧ k ≤ n + 1 ∧ P.length ≤ k ∧ Hid (Owns wr w.heap.size (.slice A' P.length c') P) ∧ Hid (Below w.heap.size w wr) ∧ Hid (P ++ unq (l.drop k) = R)) (fun _ i _ _ _ _ => n + 1 - (RowKit.intOf i).toNat)
  case atStart => exact ⟨1, [], none, 0, rfl, rfl, Nat.le_refl _, by omega, Nat.zero_le _, owns_nil _ _, Below.refl _ _, by rw [HR.out]; rfl⟩
  case round =>
    obtain ⟨k, P, A', c', rfl, rfl, k1, kn, hP, ho, hb, hu⟩ := hrel
    by_cases hlt : k < n
    · obtain ⟨c, hc⟩ : ∃ c, l[k]? = some c := ⟨_, List.getElem?_eq_getElem (by rw [HLN.out]; exact hlt)⟩
      have hby := HBY.out k c hc
      have j1 : (k : Int) < (n : Int) := by omega
      have HD := Lib.hid (drop_one l k c hc)
      by_cases h34 : c = 34
      · have hPR : Hid (P = R) := by show _ = _; rw [← hu.out, HD.out, h34, unq_34, List.append_nil]
        subst h34
        clear HD hu
        have hconv := run_string_shows (P := Tryz.prog) wr 22 9 Tryz.underlying22 Tryz.underlying5 Tryz.underlying9 (n := P.length) (c := c') rfl ho.out.shows.2.2
        go_wp2_with fail
        try rw [Exit.noGoto_ret]
        go_ret
        exact ⟨by rw [← hPR.out]; rfl, hb.out⟩
      · by_cases h92 : c = 92
        · subst h92
          by_cases h4 : n < k + 4
          · have hPR : Hid (P = R) := by show _ = _; rw [← hu.out, HD.out, unq_short _ (by rw [List.length_drop, HLN.out]; omega), List.append_nil]
            have j2 : (n : Int) < (k : Int) + 4 := by omega
            clear HD hu
            have hconv := run_string_shows (P := Tryz.prog) wr 22 9 Tryz.underlying22 Tryz.underlying5 Tryz.underlying9 (n := P.length) (c := c') rfl ho.out.shows.2.2
            go_wp2_with fail
            try rw [Exit.noGoto_ret]
            go_ret
            exact ⟨by rw [← hPR.out]; rfl, hb.out⟩
          · obtain ⟨c0, x, a, b, g1, g2, g3⟩ := drop_two l k n HLN.out (by omega)
            obtain rfl : (92 : UInt8) = c0 := by rw [hc] at g1; injection g1
            have HU2 : Hid (∀ lo hi : Nat, lo = k + 2 → hi = k + 4 → ∀ w1, Below w.heap.size w w1 → Calls Tryz.prog 77 #[.string (s.extract lo hi), .int .i64 16, .int .i64 8] w1 fun e w' => ∃ ev, e = .returned (.tuple #[.int .u64 (hex2 a b : Nat), ev]) ∧ Below w1.heap.size w1 w') := fun lo hi h1 h2 w1 hw => by
              exact HU.out k lo hi a b w1 h1 h2 (HG.out w1 hw) g3
            have HQ : Hid (P ++ [UInt8.ofNat (hex2 a b)] ++ unq (l.drop (k + 4)) = R) := by show _ = _; rw [← hu.out, g2, unq_x, List.append_assoc]; rfl
            have hlt2 := hex2_lt a b
            have hof : Hid (((hex2 a b : Nat) : Int) = ((UInt8.ofNat (hex2 a b)).toNat : Int)) := by show _ = _; simp; omega
            have j2 : ¬ (n : Int) < (k : Int) + 4 := by omega
            clear HD hu g1 g2 g3 hc
            generalize UInt8.ofNat (hex2 a b) = d at *
            generalize hex2 a b = z at *
            go_wp2_with (first
              | (go_at_call 77; refine (HU2.out _ _ (by omega) (by omega) _ hb.out).mono ?_; rintro e w1 ⟨ev, rfl, hb1⟩; have HB1 : Hid (Below w.heap.size w w1) := hb.out.trans (hb1.mono hb.out.size); have HO1 : Hid (Owns w1 w.heap.size (.slice A' P.length c') P) := ho.out.up hb1; clear hb1)
              | (at_builtin; refine wpList_growC rfl (.tmp 42) (.tmp 45) _ rfl Tryz.underlying22 info5 w.heap.size (.slice A' P.length c') P d _ rfl rfl rfl hof.out HO1.out (by omega) HB1.out.size ?_; intro A3 c3 w3 ho3 hg3))
            have HB3 : Hid (Below w.heap.size w w3) := grown_owns HO1.out hg3 HB1.out HB1.out.size (Nat.le_refl _)
            have HO3 : Hid (Owns w3 w.heap.size (.slice A3 (P ++ [d]).length c3) (P ++ [d])) := ho3
            clear ho3 hg3
            go_wp2_with fail
            go_roundw
            case rel => exact ⟨k + 4, P ++ [d], A3, c3, by go_num, by rw [List.length_append]; rfl, by omega, by omega, by rw [List.length_append, List.length_singleton]; omega, HO3, HB3, HQ⟩
            case measure => simp [RowKit.intOf]; omega
        · have HQ : Hid (P ++ [c] ++ unq (l.drop (k + 1)) = R) := by show _ = _; rw [← hu.out, HD.out, unq_c _ _ h34 h92, List.append_assoc]; rfl
          obtain ⟨x, hx⟩ : ∃ x, x = c.toNat := ⟨_, rfl⟩
          have q1 : ¬ (x : Int) = 34 := fun h => h34 (UInt8.toNat_inj.1 (by have : c.toNat = 34 := by omega
                                                                            simpa using this))
          have q2 : ¬ (x : Int) = 92 := fun h => h92 (UInt8.toNat_inj.1 (by have : c.toNat = 92 := by omega
                                                                            simpa using this))
          rw [← hx] at hby
          have HXX := Lib.hid hx
          clear HD hu hc hx h34 h92
          go_wp2_with (at_builtin; refine wpList_growC rfl (.tmp 15) (.tmp 19) _ rfl Tryz.underlying22 info5 w.heap.size (.slice A' P.length c') P c _ rfl rfl rfl (by rw [HXX.out]) ho.out (by omega) hb.out.size ?_; intro A3 c3 w3 ho3 hg3)
          have HB3 : Hid (Below w.heap.size w w3) := grown_owns ho.out hg3 hb.out hb.out.size (Nat.le_refl _)
          have HO3 : Hid (Owns w3 w.heap.size (.slice A3 (P ++ [c]).length c3) (P ++ [c])) := ho3
          clear ho3 hg3
          go_wp2_with fail
          go_roundw
          case rel => exact ⟨k + 1, P ++ [c], A3, c3, by go_num, by rw [List.length_append]; rfl, by omega, by omega, by rw [List.length_append, List.length_singleton]; omega, HO3, HB3, HQ⟩
          case measure => simp [RowKit.intOf]; omega
    · have hPR : Hid (P = R) := by show _ = _; rw [← hu.out, List.drop_eq_nil_of_le (by rw [HLN.out]; omega)]; simp [unq]
      have j1 : ¬ (k : Int) < (n : Int) := by omega
      have hconv := run_string_shows (P := Tryz.prog) wr 22 9 Tryz.underlying22 Tryz.underlying5 Tryz.underlying9 (n := P.length) (c := c') rfl ho.out.shows.2.2
      go_wp2_with fail
      try rw [Exit.noGoto_ret]
      go_ret
      exact ⟨by rw [← hPR.out]; rfl, hb.out⟩
end Go.Proofs.YteaaadccjnmacaaGreatDoor
