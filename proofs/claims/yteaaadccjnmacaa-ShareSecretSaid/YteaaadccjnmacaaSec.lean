/-
  P4.4: any fewer shares than required are the shares of any other secret of the same length. For every input that the row lets in; no further condition.
-/
import Derived.Test.YteaaadccjnmacaaDeal
import Derived.Test.YteaaadccjnmacaaChoose
import Derived.Test.YteaaadccjnmacaaSaneW
import Derived.Test.YteaaadccjnmacaaExpR
namespace Go.Proofs.Yteaaadccjnmacaa.sec
open Go.ChangeShapes Go.WideShapes Go.ChangeAt Go.RowKit

theorem sane_box (w : World) (a b c d : Value) : Calls Try.prog 6 #[] (w.alloc (.cells #[a, b, c, d] 24)) fun e w' => e = .returned (.bool true) ∧
    w'.cell? ⟨w.heap.size, 0, none⟩ = some a ∧ w'.cell? ⟨w.heap.size, 1, none⟩ = some b ∧ w'.cell? ⟨w.heap.size, 2, none⟩ = some c ∧ w'.cell? ⟨w.heap.size, 3, none⟩ = some d ∧ w.heap.size < w'.heap.size ∧ Below w.heap.size w w' := by
  refine (sanity_any _).mono ?_
  rintro e w' ⟨h1, hb⟩
  have hn := heap_alloc_new w (.cells #[a, b, c, d] 24)
  have hlt : w.heap.size < (w.alloc (.cells #[a, b, c, d] 24)).heap.size := by rw [hz]; exact Nat.lt_succ_self _
  exact ⟨h1, (hb.cell (p := ⟨w.heap.size, 0, none⟩) hlt).trans (cell_of_row _ w.heap.size 0 _ _ (0, 0) hn), (hb.cell (p := ⟨w.heap.size, 1, none⟩) hlt).trans (cell_of_row _ w.heap.size 1 _ _ (0, 0) hn),
    (hb.cell (p := ⟨w.heap.size, 2, none⟩) hlt).trans (cell_of_row _ w.heap.size 2 _ _ (0, 0) hn), (hb.cell (p := ⟨w.heap.size, 3, none⟩) hlt).trans (cell_of_row _ w.heap.size 3 _ _ (0, 0) hn), Nat.lt_of_lt_of_le hlt hb.size, step_al (ba1 w _) hb⟩
theorem box2 {w1 w2 : World} {D P T : Nat} {a b : Value} (h0 : w1.cell? ⟨D, 0, none⟩ = some a) (h1 : w1.cell? ⟨D, 1, none⟩ = some b) (hD : D < w1.heap.size) (hb : Below w1.heap.size w1 w2) :
    BX (w2.alloc (.cells #[.int .i64 (P : Int), .int .i64 (T : Int)] 25)) D w2.heap.size a b P T := by
  have hb2 := step_al hb (ba1 w2 (.cells #[.int .i64 (P : Int), .int .i64 (T : Int)] 25))
  have hn := heap_alloc_new w2 (.cells #[.int .i64 (P : Int), .int .i64 (T : Int)] 25)
  exact ⟨(hb2.cell (p := ⟨D, 0, none⟩) hD).trans h0, (hb2.cell (p := ⟨D, 1, none⟩) hD).trans h1, cell_of_row _ w2.heap.size 0 _ _ (0, 0) hn, cell_of_row _ w2.heap.size 1 _ _ (0, 0) hn, by rw [hz]; have := hb.size; omega, by rw [hz]; exact Nat.lt_succ_self _⟩
theorem choose_is (A : Option Addr) (T cap : Nat) (l : List Sh) (C : Option Addr) (n d : Nat) (order : List UInt8) (w : World) (hT : T = l.length) (hn : n = order.length) (hs : ShL w w.heap.size A l) (hl : l.length ≤ 1000) (hc : Shows w w.heap.size C order) (hol : order.length ≤ 1000) (hd : (l.map (·.1)).Nodup) (h0 : 0 < l.length) :
    Calls Try.prog 16 #[.slice A T cap, .slice C n d] w fun e w' => ∃ A' c' L, e = .returned (.slice A' L.length c') ∧ ShL w' w'.heap.size A' L ∧ L.length ≤ c' ∧ c' ≤ 9223372036854775807 ∧ (∀ s ∈ L, s ∈ l) ∧ (L.map (·.1)).Nodup ∧ L.length ≤ n ∧ Below w.heap.size w w' := by
  subst hT hn
  refine (choose_pos A cap l C d order w hs hl hc hol hd h0).mono ?_
  rintro e w' ⟨A', c', L, h1, h2, h3, h4, h5, hb⟩
  obtain ⟨_, g2, g3, g4⟩ := h2.shl hb.size
  exact ⟨A', c', L, h1, g4, g2, g3, h3, h4, h5, hb⟩

theorem sec_share {other O sl rl : List UInt8} {L : List Sh} {P T m N : Nat} (hP : P = m + 1) (hT : T ≤ 255) (hN : N = other.length) (hsl : N = sl.length) (hO : O.length = N * m) (hok : ∀ i, i < N → RowOk m O i (fOf other L i)) (hL : ∀ s ∈ L, s ∈ splitL sl rl P T) (hd : (L.map (·.1)).Nodup) (hl : L.length ≤ m)
    {s : Sh} (hs : s ∈ L) : ∃ k, k < T ∧ s.1.toNat = k + 1 ∧ (splitL other O P T)[k]? = some s := by
  obtain ⟨k, hk, he⟩ := split_mem (hL s hs)
  have hPm : P - 1 = m := by omega
  refine ⟨k, hk, ?_, ?_⟩
  · rw [he]
    exact UInt8.toNat_ofNat_of_lt' (by simpa using (by omega : k + 1 < 256))
  · rw [split_get _ _ _ _ _ hk]
    have hb : maskB (UInt8.ofNat (k + 1)) (P - 1) O other = s.2 := by
      have hsl2 : s.2.length = N := by rw [he, maskB_len, hsl]
      refine ext_byte (by rw [maskB_len, hsl2, hN]) (fun i hi => ?_)
      rw [maskB_len, ← hN] at hi
      have hI := nwI_all (byte other i) (pts L i) (fun p hp => by
        obtain ⟨t, ht, rfl⟩ := List.mem_map.1 hp
        exact split_nz hT (hL t ht)) (by rw [pts_xs]; exact hd)
      have hfl := hI.fl
      rw [pts_len] at hfl
      have h1 := coef_row (x := UInt8.ofNat (k + 1)) (hok i hi) (by rw [hO, ← Nat.succ_mul]; exact Nat.mul_le_mul_right m hi) (by unfold fOf; omega) hI.f0
      rw [mask_coef _ _ _ _ _ (by rw [← hN]; exact hi), hPm, h1]
      have h2 := hI.fp (s.1, byte s.2 i) (List.mem_map.2 ⟨s, hs, rfl⟩)
      have h3 : s.1 = UInt8.ofNat (k + 1) := by rw [he]
      rw [h3] at h2
      exact h2
    rw [hb]
    have h3 : s.1 = UInt8.ofNat (k + 1) := by rw [he]
    rw [← h3]

attribute [local irreducible] splitL interpB wfB
set_option maxHeartbeats 2000000 in
set_option maxRecDepth 20000 in
/-- The deal is too great, or the order, or the other secret is longer or shorter: nothing is asked. -/
theorem walk_big (A : Option Addr) (ca : Nat) (sl : List UInt8) (B : Option Addr) (cb_ : Nat) (rl : List UInt8) (x y : UInt8) (A2 : Option Addr) (ca2 : Nat) (ol : List UInt8) (C : Option Addr) (co : Nat) (order : List UInt8) (w : World) (hsl : sl.length ≤ 9223372036854775807) (hrl : rl.length ≤ 9223372036854775807) (hol : ol.length ≤ 9223372036854775807)
    (hbig : ¬ (sl.length ≤ 40 ∧ rl.length ≤ 400 ∧ ol.length = sl.length ∧ order.length ≤ 100)) :
    Calls Try.prog 4 #[.agg #[.slice A sl.length ca, .slice B rl.length cb_, .int .u8 (x.toNat : Int), .int .u8 (y.toNat : Int)], .slice A2 ol.length ca2, .slice C order.length co] w fun e w' => e = .returned (.bool true) ∧ Below w.heap.size w w' := by
  obtain ⟨P, hP⟩ : ∃ P, P = 1 + x.toNat % 8 := ⟨_, rfl⟩
  obtain ⟨T, hT⟩ : ∃ T, T = P + y.toNat % 9 := ⟨_, rfl⟩
  obtain ⟨z, hzz⟩ : ∃ z, (decide (sl.length ≤ 40) && decide (rl.length ≤ 400)) = z := ⟨_, rfl⟩
  have HF := Lib.hid (fun w1 => fits_is A B sl.length ca rl.length cb_ P T x y z w1 hP hT hsl hrl hzz)
  have hzn : z = true → ol.length = sl.length → 100 < (order.length : Int) := by
    intro h h2
    rw [h] at hzz
    simp at hzz
    omega
  generalize order.length = n at *
  generalize ol.length = N2 at *
  generalize sl.length = N at *
  generalize rl.length = R at *
  clear hP hT hzz hbig
  cases z with
  | false =>
    clear hzn
    go_enter Try.func4, Try.ntmps4
    go_wp2_with (first
      | ((with_reducible show Calls _ 6 _ _ _); refine (sane_box w _ _ _ _).mono ?_; rintro e w1 ⟨rfl, c0, c1, c2, c3, lt1, hb1⟩; have HB1 := Lib.hid hb1; clear hb1)
      | ((with_reducible show Calls _ 15 _ _ _); refine (HF.out _).mono ?_; rintro e w2 ⟨rfl, hb2⟩; have HB2 := Lib.hid (step_al (step_al HB1.out hb2) (ba1 w2 (.cells #[.int .i64 (P : Int), .int .i64 (T : Int)] 25))); have X2 := Lib.hid (box2 (P := P) (T := T) c0 c1 lt1 hb2); have d0 := X2.out.d0; have d1 := X2.out.d1; have f0 := X2.out.f0; have f1 := X2.out.f1; clear hb2))
    go_ret
    exact ⟨rfl, HB2.out⟩
  | true =>
    by_cases hne : N2 = N
    · have hn := hzn rfl hne
      subst hne
      clear hzn
      go_enter Try.func4, Try.ntmps4
      go_wp2_with (first
        | ((with_reducible show Calls _ 6 _ _ _); refine (sane_box w _ _ _ _).mono ?_; rintro e w1 ⟨rfl, c0, c1, c2, c3, lt1, hb1⟩; have HB1 := Lib.hid hb1; clear hb1)
        | ((with_reducible show Calls _ 15 _ _ _); refine (HF.out _).mono ?_; rintro e w2 ⟨rfl, hb2⟩; have HB2 := Lib.hid (step_al (step_al HB1.out hb2) (ba1 w2 (.cells #[.int .i64 (P : Int), .int .i64 (T : Int)] 25))); have X2 := Lib.hid (box2 (P := P) (T := T) c0 c1 lt1 hb2); have d0 := X2.out.d0; have d1 := X2.out.d1; have f0 := X2.out.f0; have f1 := X2.out.f1; clear hb2))
      go_ret
      exact ⟨rfl, HB2.out⟩
    · have hne2 : ¬ (N2 : Int) = (N : Int) := by omega
      clear hzn hne
      go_enter Try.func4, Try.ntmps4
      go_wp2_with (first
        | ((with_reducible show Calls _ 6 _ _ _); refine (sane_box w _ _ _ _).mono ?_; rintro e w1 ⟨rfl, c0, c1, c2, c3, lt1, hb1⟩; have HB1 := Lib.hid hb1; clear hb1)
        | ((with_reducible show Calls _ 15 _ _ _); refine (HF.out _).mono ?_; rintro e w2 ⟨rfl, hb2⟩; have HB2 := Lib.hid (step_al (step_al HB1.out hb2) (ba1 w2 (.cells #[.int .i64 (P : Int), .int .i64 (T : Int)] 25))); have X2 := Lib.hid (box2 (P := P) (T := T) c0 c1 lt1 hb2); have d0 := X2.out.d0; have d1 := X2.out.d1; have f0 := X2.out.f0; have f1 := X2.out.f1; clear hb2))
      go_ret
      exact ⟨rfl, HB2.out⟩

set_option maxHeartbeats 8000000 in
set_option maxRecDepth 100000 in
theorem walk_small (A : Option Addr) (ca : Nat) (sl : List UInt8) (B : Option Addr) (cb_ : Nat) (rl : List UInt8) (x y : UInt8) (A2 : Option Addr) (ca2 : Nat) (ol : List UInt8) (C : Option Addr) (co : Nat) (order : List UInt8) (w : World) (h1 : sl.length ≤ 40) (h2 : rl.length ≤ 400) (h3 : order.length ≤ 100) (h4 : ol.length = sl.length)
    (hsA : Shows w w.heap.size A sl) (hcA : sl.length ≤ ca) (hmA : ca ≤ 140737488351232) (hsB : Shows w w.heap.size B rl) (hcB : rl.length ≤ cb_) (hmB : cb_ ≤ 140737488351232) (hsC : Shows w w.heap.size C order) (hsA2 : Shows w w.heap.size A2 ol) (hcA2 : ol.length ≤ ca2) (hmA2 : ca2 ≤ 140737488351232) :
    Calls Try.prog 4 #[.agg #[.slice A sl.length ca, .slice B rl.length cb_, .int .u8 (x.toNat : Int), .int .u8 (y.toNat : Int)], .slice A2 ol.length ca2, .slice C order.length co] w fun e w' => e = .returned (.bool true) ∧ Below w.heap.size w w' := by
  obtain ⟨P, hP⟩ : ∃ P, P = 1 + x.toNat % 8 := ⟨_, rfl⟩
  obtain ⟨T, hT⟩ : ∃ T, T = P + y.toNat % 9 := ⟨_, rfl⟩
  obtain ⟨m, hm⟩ : ∃ m, P = m + 1 := ⟨P - 1, by omega⟩
  have hP1 : 1 ≤ P := by omega
  have hPT : P ≤ T := by omega
  have hT16 : T ≤ 16 := by omega
  have hm15 : m ≤ 15 := by omega
  have hzz : (decide (sl.length ≤ 40) && decide (rl.length ≤ 400)) = true := by simp [h1, h2]
  obtain ⟨N, hN⟩ : ∃ N, N = sl.length := ⟨_, rfl⟩
  have hN2 : N = ol.length := by omega
  obtain ⟨NM, hNM⟩ : ∃ NM, NM = N * m := ⟨_, rfl⟩
  have hNM2 : NM ≤ 600 := by rw [hNM]; exact Nat.le_trans (Nat.mul_le_mul (by omega : N ≤ 40) hm15) (by decide)
  obtain ⟨R, hR⟩ : ∃ N, N = rl.length := ⟨_, rfl⟩
  obtain ⟨M, hM⟩ : ∃ N, N = order.length := ⟨_, rfl⟩
  have HF := Lib.hid (fun w1 => fits_is A B sl.length ca rl.length cb_ P T x y true w1 hP hT (by omega) (by omega) hzz)
  have HS : Hid (∀ w1, Below w.heap.size w w1 → Calls Try.prog 7 #[.slice A N ca, .slice B R cb_, .agg #[.int .i64 (P : Int), .int .i64 (T : Int)]] w1
      fun e w' => ∃ g, e = .returned (.tuple #[.slice (some ⟨g, 0, none⟩) T T, .int .i64 0]) ∧ ShL w' w'.heap.size (some ⟨g, 0, none⟩) (splitL sl rl P T) ∧ Below w1.heap.size w1 w') := fun w1 hb =>
    split_is A N ca sl B R cb_ rl P T w1 hN hR (hsA.up hb) (by omega) ⟨hcA, by omega⟩ (hsB.up hb) (by omega) ⟨hcB, by omega⟩ hP1 hPT (by omega)
  have HC : Hid (∀ (w1 : World) (g : Nat), Below w.heap.size w w1 → ShL w1 w1.heap.size (some ⟨g, 0, none⟩) (splitL sl rl P T) → Calls Try.prog 16 #[.slice (some ⟨g, 0, none⟩) T T, .slice C M co] w1
      fun e w' => ∃ A' c' L, e = .returned (.slice A' L.length c') ∧ ShL w' w'.heap.size A' L ∧ L.length ≤ c' ∧ c' ≤ 9223372036854775807 ∧ (∀ s ∈ L, s ∈ splitL sl rl P T) ∧ (L.map (·.1)).Nodup ∧ L.length ≤ M ∧ Below w1.heap.size w1 w') := fun w1 g hb hl =>
    choose_is _ T T (splitL sl rl P T) C M co order w1 (splitL_len _ _ _ _).symm hM hl (by rw [splitL_len]; omega) (hsC.up hb) (by omega) (split_nodup sl rl P T (by omega)) (by rw [splitL_len]; omega)
  have HN := Lib.hid hN
  have HN2 := Lib.hid hN2
  have HNM := Lib.hid hNM
  have HPM := Lib.hid hm
  have HA2 := Lib.hid hsA2
  have HCA2 : Hid (N ≤ ca2 ∧ ca2 ≤ 9223372036854775807) := ⟨by omega, by omega⟩
  have hN40 : N ≤ 40 := by omega
  have hM100 : (M : Int) ≤ 100 := by omega
  have e0 : (P : Int) - 1 = (m : Int) := by omega
  rw [← hN, ← hR] at HF
  rw [← hN, ← hR, ← hM, ← hN2]
  clear hP hT hzz hsA hsB hsC hN hR hM hm hNM hN2 hsA2
  go_enter Try.func4, Try.ntmps4
  go_wp2_with (first
    | ((with_reducible show Calls _ 6 _ _ _); refine (sane_box w _ _ _ _).mono ?_; rintro e w1 ⟨rfl, c0, c1, c2, c3, lt1, hb1⟩; have HB1 := Lib.hid hb1; clear hb1)
    | ((with_reducible show Calls _ 15 _ _ _); refine (HF.out _).mono ?_; rintro e w2 ⟨rfl, hb2⟩; have HB2 := Lib.hid (step_al (step_al HB1.out hb2) (ba1 w2 (.cells #[.int .i64 (P : Int), .int .i64 (T : Int)] 25))); have X2 := Lib.hid (box2 (P := P) (T := T) c0 c1 lt1 hb2); have d0 := X2.out.d0; have d1 := X2.out.d1; have f0 := X2.out.f0; have f1 := X2.out.f1; clear hb2)
    | ((with_reducible show Calls _ 7 _ _ _); refine (HS.out _ HB2.out).mono ?_; rintro e w3 ⟨g3, rfl, hl3, hb3⟩; have HL3 := Lib.hid hl3; have HB3 := Lib.hid (step_al HB2.out hb3); have X3 := Lib.hid (X2.out.up hb3); have e1 := X3.out.d1; have e2 := X3.out.f0; have e3 := X3.out.f1; clear hl3 hb3))
  refine (HC.out _ g3 HB3.out HL3.out).mono ?_
  rintro e w4 ⟨A4, c4, L, rfl, hl4, hc4, hm4, hin, hnd, hlen, hb4⟩
  have HL4 := Lib.hid hl4
  have HB4 := Lib.hid (step_al HB3.out hb4)
  have X4 := Lib.hid (X3.out.up hb4)
  have u0 := X4.out.d0
  have u2 := X4.out.f0
  have u3 := X4.out.f1
  by_cases hle : P ≤ L.length
  · obtain ⟨L1, hL1⟩ : ∃ L1, L1 = L.take m := ⟨_, rfl⟩
    have HIN : Hid (∀ s ∈ L1, s ∈ splitL sl rl P T) := fun s hs => hin s (by rw [hL1] at hs; exact List.mem_of_mem_take hs)
    have HND : Hid ((L1.map (·.1)).Nodup) := by
      show List.Nodup _
      rw [hL1, List.map_take]
      exact hnd.sublist (List.take_sublist _ _)
    have HL1 : Hid (ShL w4 w4.heap.size A4 L1) := by
      show ShL _ _ _ _
      rw [hL1]
      exact HL4.out.take m
    obtain ⟨M1, hM1⟩ : ∃ M1, M1 = m := ⟨_, rfl⟩
    have HM1 : Hid (M1 = L1.length) := by show _ = _; rw [hL1, List.length_take, hM1]; have := HPM.out; omega
    have hM1m : M1 ≤ m := by omega
    have i1 : (P : Int) ≤ (L.length : Int) := by omega
    have i2 : (m : Int) ≤ (c4 : Int) := by have := HPM.out; omega
    clear hl4 hb4 hin hnd hL1 hle
    generalize L.length = LL at *
    rw [hM1] at HM1 hM1m
    clear hM1
    clear M1
    skip
    have HE : Hid (Calls Try.prog 17 #[.slice A2 N ca2, .slice A4 m c4, .int .i64 (P : Int)] w4 fun e w' => ∃ go O, e = .returned (.slice (some ⟨go, 0, none⟩) NM NM) ∧ BT w' go 5 O ∧ O.length = NM ∧ (∀ i, i < N → RowOk m O i (fOf ol L1 i)) ∧ Below w4.heap.size w4 w') := by
      have := explain_any A2 ca2 ol A4 c4 L1 N m P m w4 HN2.out HM1.out HPM.out (HA2.out.up HB4.out) HL1.out (fun s hs => by rw [split_lens (HIN.out s hs)]; exact HN.out.symm) (fun s hs => split_nz (by omega) (HIN.out s hs)) HND.out (by omega) hN40 (by omega)
      rw [← HNM.out] at this
      exact this
    go_wp2_with (first
      | ((with_reducible show Calls _ 17 _ _ _); refine HE.out.mono ?_; rintro e w5 ⟨go, O, rfl, hbt, hol5, hok5, hb5⟩; have HBT := Lib.hid hbt; have HOL := Lib.hid hol5; have HOK := Lib.hid hok5; have HB5 := Lib.hid (step_al HB4.out hb5); have X5 := Lib.hid (X4.out.up hb5); have HL5 := Lib.hid (HL1.out.up hb5); have v0 := X5.out.d0; have v2 := X5.out.f0; have v3 := X5.out.f1; clear hbt hol5 hok5 hb5)
      | ((with_reducible show Calls _ 7 _ _ _); refine (split_is A2 N ca2 ol (some ⟨go, 0, none⟩) NM NM O P T w5 HN2.out HOL.out.symm (HA2.out.up HB5.out) (by rw [← HN2.out]; omega) (by rw [← HN2.out]; exact HCA2.out) (HBT.out.shows HBT.out.lt) (by rw [HOL.out]; omega) (by rw [HOL.out]; exact ⟨Nat.le_refl _, by omega⟩) hP1 hPT (by omega)).mono ?_; rintro e w6 ⟨g6, rfl, hl6, hb6⟩; have HL6 := Lib.hid hl6; have HB6 := Lib.hid (step_al HB5.out hb6); have X6 := Lib.hid (X5.out.up hb6); have HL7 := Lib.hid (HL5.out.up hb6); have t0 := X6.out.d0; have t2 := X6.out.f0; have t3 := X6.out.f1; clear hl6 hb6))
    have HSH : Hid (∀ s ∈ L1, ∃ k, k < T ∧ s.1.toNat = k + 1 ∧ (splitL ol O P T)[k]? = some s) := fun s hs => sec_share HPM.out (by omega) HN2.out HN.out (by rw [HOL.out, HNM.out]) HOK.out HIN.out HND.out (by have := HM1.out; omega) hs
    clear HOK HBT HE HS HC HF X2 X3 X4 X5 HB1 HB2 HB3 HB4 HL3 HL4 HL1 HL5 HIN HND
    go_loopw [16] (fun i wr => ∃ k : Nat, k ≤ m ∧ i = .int .i64 k ∧ Hid (Below w6.heap.size w6 wr)) (fun i _ => m - (intOf i).toNat)
    case atStart => exact ⟨0, Nat.zero_le _, rfl, Below.refl _ _⟩
    case round =>
      obtain ⟨k, hk, rfl, hb7⟩ := hrel
      obtain ⟨wz, hwz⟩ : ∃ wz : World, wz = wr := ⟨_, rfl⟩
      subst hwz
      by_cases hlt : k < m
      · have j1 : (k : Int) < (m : Int) := by omega
        obtain ⟨s, hs⟩ : ∃ s, L1[k]? = some s := ⟨L1[k]'(by rw [← HM1.out]; exact hlt), by simp⟩
        obtain ⟨q, hq, hx, hget⟩ := HSH.out s (List.mem_of_getElem? hs)
        obtain ⟨bb1, off1, rfl, hbB, z1, Z1, n1, z2, hsh1, hle1, hmx1⟩ := (HL7.out.up hb7.out).one hs
        obtain ⟨bb2, off2, e2, hbB2, y1, Y1, n2, y2, hsh2, hle2, hmx2⟩ := (HL6.out.up hb7.out).one hget
        injection e2 with e2
        injection e2 with e2 e3
        subst e2 e3
        rw [Nat.zero_add] at y1 y2
        obtain ⟨X, hX⟩ : ∃ X, X = q + 1 := ⟨_, rfl⟩
        rw [hx, ← hX] at z1 y1
        have j3 : ¬ (X : Int) < 1 := by omega
        have j4 : ¬ (T : Int) < (X : Int) := by omega
        have j5 : (q : Int) < (T : Int) := by omega
        have j6 : (X : Int) - 1 = (q : Int) := by omega
        have j7 : X ≤ 100 := by omega
        have j8 : ¬ X = 0 := by omega
        have j9 : ¬ T < X := by omega
        have j11 : decide ((X : Int) < 1) = false := decide_eq_false j3
        have j12 : decide ((T : Int) < (X : Int)) = false := decide_eq_false j4
        clear hX
        have HSM := Lib.hid (fun n => Same_any Z1 s.2.length n1 s.2 Y1 s.2.length n2 s.2 (wz.drewN n) ((hsh1.below (below_drewN (Below.refl _ _) n))) ((hsh2.below (below_drewN (Below.refl _ _) n))) rfl rfl (by omega) (by omega))
        have HSM2 := Lib.hid (fun n => Same_any Y1 s.2.length n2 s.2 Z1 s.2.length n1 s.2 (wz.drewN n) ((hsh2.below (below_drewN (Below.refl _ _) n))) ((hsh1.below (below_drewN (Below.refl _ _) n))) rfl rfl (by omega) (by omega))
        clear hsh1 hsh2 hget hs hx
        go_wp2
        go_quiet (first | (go_at_call 14; exact Calls.quiet_of (HSM2.out _)))
        go_wp2_with fail
        go_roundw
        case rel => exact ⟨k + 1, by omega, by go_num, below_drewN hb7.out nq⟩
        case measure => simp [intOf]; omega
      · have hkM : k = m := by omega
        have j1 : ¬ (k : Int) < (m : Int) := by omega
        go_wp2
        go_ret
        exact ⟨rfl, step_al HB6.out hb7.out⟩
  · obtain ⟨L1, hL1⟩ : ∃ L1, L1 = L := ⟨_, rfl⟩
    subst hL1
    have HIN := Lib.hid hin
    have HND := Lib.hid hnd
    have HL1 := HL4
    obtain ⟨M1, hM1⟩ : ∃ M1, M1 = L1.length := ⟨_, rfl⟩
    have HM1 := Lib.hid hM1
    rw [← hM1] at hle hc4 hlen ⊢
    have hM1m : M1 ≤ m := by have := HPM.out; omega
    have i1 : ¬ (P : Int) ≤ (M1 : Int) := by omega
    clear hl4 hb4 hin hnd hM1 hle
    skip
    have HE : Hid (Calls Try.prog 17 #[.slice A2 N ca2, .slice A4 M1 c4, .int .i64 (P : Int)] w4 fun e w' => ∃ go O, e = .returned (.slice (some ⟨go, 0, none⟩) NM NM) ∧ BT w' go 5 O ∧ O.length = NM ∧ (∀ i, i < N → RowOk m O i (fOf ol L1 i)) ∧ Below w4.heap.size w4 w') := by
      have := explain_any A2 ca2 ol A4 c4 L1 N M1 P m w4 HN2.out HM1.out HPM.out (HA2.out.up HB4.out) HL1.out (fun s hs => by rw [split_lens (HIN.out s hs)]; exact HN.out.symm) (fun s hs => split_nz (by omega) (HIN.out s hs)) HND.out (by omega) hN40 (by omega)
      rw [← HNM.out] at this
      exact this
    go_wp2_with (first
      | ((with_reducible show Calls _ 17 _ _ _); refine HE.out.mono ?_; rintro e w5 ⟨go, O, rfl, hbt, hol5, hok5, hb5⟩; have HBT := Lib.hid hbt; have HOL := Lib.hid hol5; have HOK := Lib.hid hok5; have HB5 := Lib.hid (step_al HB4.out hb5); have X5 := Lib.hid (X4.out.up hb5); have HL5 := Lib.hid (HL1.out.up hb5); have v0 := X5.out.d0; have v2 := X5.out.f0; have v3 := X5.out.f1; clear hbt hol5 hok5 hb5)
      | ((with_reducible show Calls _ 7 _ _ _); refine (split_is A2 N ca2 ol (some ⟨go, 0, none⟩) NM NM O P T w5 HN2.out HOL.out.symm (HA2.out.up HB5.out) (by rw [← HN2.out]; omega) (by rw [← HN2.out]; exact HCA2.out) (HBT.out.shows HBT.out.lt) (by rw [HOL.out]; omega) (by rw [HOL.out]; exact ⟨Nat.le_refl _, by omega⟩) hP1 hPT (by omega)).mono ?_; rintro e w6 ⟨g6, rfl, hl6, hb6⟩; have HL6 := Lib.hid hl6; have HB6 := Lib.hid (step_al HB5.out hb6); have X6 := Lib.hid (X5.out.up hb6); have HL7 := Lib.hid (HL5.out.up hb6); have t0 := X6.out.d0; have t2 := X6.out.f0; have t3 := X6.out.f1; clear hl6 hb6))
    have HSH : Hid (∀ s ∈ L1, ∃ k, k < T ∧ s.1.toNat = k + 1 ∧ (splitL ol O P T)[k]? = some s) := fun s hs => sec_share HPM.out (by omega) HN2.out HN.out (by rw [HOL.out, HNM.out]) HOK.out HIN.out HND.out (by have := HM1.out; omega) hs
    clear HOK HBT HE HS HC HF X2 X3 X4 X5 HB1 HB2 HB3 HB4 HL3 HL4 HL1 HL5 HIN HND
    go_loopw [16] (fun i wr => ∃ k : Nat, k ≤ M1 ∧ i = .int .i64 k ∧ Hid (Below w6.heap.size w6 wr)) (fun i _ => M1 - (intOf i).toNat)
    case atStart => exact ⟨0, Nat.zero_le _, rfl, Below.refl _ _⟩
    case round =>
      obtain ⟨k, hk, rfl, hb7⟩ := hrel
      obtain ⟨wz, hwz⟩ : ∃ wz : World, wz = wr := ⟨_, rfl⟩
      subst hwz
      by_cases hlt : k < M1
      · have j1 : (k : Int) < (M1 : Int) := by omega
        obtain ⟨s, hs⟩ : ∃ s, L1[k]? = some s := ⟨L1[k]'(by rw [← HM1.out]; exact hlt), by simp⟩
        obtain ⟨q, hq, hx, hget⟩ := HSH.out s (List.mem_of_getElem? hs)
        obtain ⟨bb1, off1, rfl, hbB, z1, Z1, n1, z2, hsh1, hle1, hmx1⟩ := (HL7.out.up hb7.out).one hs
        obtain ⟨bb2, off2, e2, hbB2, y1, Y1, n2, y2, hsh2, hle2, hmx2⟩ := (HL6.out.up hb7.out).one hget
        injection e2 with e2
        injection e2 with e2 e3
        subst e2 e3
        rw [Nat.zero_add] at y1 y2
        obtain ⟨X, hX⟩ : ∃ X, X = q + 1 := ⟨_, rfl⟩
        rw [hx, ← hX] at z1 y1
        have j3 : ¬ (X : Int) < 1 := by omega
        have j4 : ¬ (T : Int) < (X : Int) := by omega
        have j5 : (q : Int) < (T : Int) := by omega
        have j6 : (X : Int) - 1 = (q : Int) := by omega
        have j7 : X ≤ 100 := by omega
        have j8 : ¬ X = 0 := by omega
        have j9 : ¬ T < X := by omega
        have j11 : decide ((X : Int) < 1) = false := decide_eq_false j3
        have j12 : decide ((T : Int) < (X : Int)) = false := decide_eq_false j4
        clear hX
        have HSM := Lib.hid (fun n => Same_any Z1 s.2.length n1 s.2 Y1 s.2.length n2 s.2 (wz.drewN n) ((hsh1.below (below_drewN (Below.refl _ _) n))) ((hsh2.below (below_drewN (Below.refl _ _) n))) rfl rfl (by omega) (by omega))
        have HSM2 := Lib.hid (fun n => Same_any Y1 s.2.length n2 s.2 Z1 s.2.length n1 s.2 (wz.drewN n) ((hsh2.below (below_drewN (Below.refl _ _) n))) ((hsh1.below (below_drewN (Below.refl _ _) n))) rfl rfl (by omega) (by omega))
        clear hsh1 hsh2 hget hs hx
        go_wp2
        go_quiet (first | (go_at_call 14; exact Calls.quiet_of (HSM2.out _)))
        go_wp2_with fail
        go_roundw
        case rel => exact ⟨k + 1, by omega, by go_num, below_drewN hb7.out nq⟩
        case measure => simp [intOf]; omega
      · have hkM : k = M1 := by omega
        have j1 : ¬ (k : Int) < (M1 : Int) := by omega
        go_wp2
        go_ret
        exact ⟨rfl, step_al HB6.out hb7.out⟩

theorem walk (A : Option Addr) (ca : Nat) (sl : List UInt8) (B : Option Addr) (cb_ : Nat) (rl : List UInt8) (x y : UInt8) (A2 : Option Addr) (ca2 : Nat) (ol : List UInt8) (C : Option Addr) (co : Nat) (order : List UInt8) (w : World)
    (hsA : Shows w w.heap.size A sl) (hcA : sl.length ≤ ca) (hmA : ca ≤ 140737488351232) (hsB : Shows w w.heap.size B rl) (hcB : rl.length ≤ cb_) (hmB : cb_ ≤ 140737488351232) (hsA2 : Shows w w.heap.size A2 ol) (hcA2 : ol.length ≤ ca2) (hmA2 : ca2 ≤ 140737488351232) (hsC : Shows w w.heap.size C order) :
    Calls Try.prog 4 #[.agg #[.slice A sl.length ca, .slice B rl.length cb_, .int .u8 (x.toNat : Int), .int .u8 (y.toNat : Int)], .slice A2 ol.length ca2, .slice C order.length co] w fun e w' => e = .returned (.bool true) ∧ Below w.heap.size w w' := by
  by_cases h : sl.length ≤ 40 ∧ rl.length ≤ 400 ∧ ol.length = sl.length ∧ order.length ≤ 100
  · exact walk_small A ca sl B cb_ rl x y A2 ca2 ol C co order w h.1 h.2.1 h.2.2.2 h.2.2.1 hsA hcA hmA hsB hcB hmB hsC hsA2 hcA2 hmA2
  · exact walk_big A ca sl B cb_ rl x y A2 ca2 ol C co order w (by omega) (by omega) (by omega) h

set_option maxRecDepth 100000 in
theorem contract (H : Type) (enc : TypeId × Value → H) (W : World) (base : Nat) (args : Array Value) (ds gs : List (DataW H)) (before : List MemPlace)
    (hval : ∀ (j : Nat) t v, Try.f4.params[j]? = some t → args[j]? = some v → Value.okWide Try.prog W .any base t v)
    (hW : DataW.Whole enc Try.prog Try.f4.params.toList Rows.shareSecretSpec.vars false W args.toList ds gs before)
    (hsz : (DataW.weightsEach Try.prog (Try.f4.params.toList ++ Rows.shareSecretSpec.plain.varTypes Try.prog) (ds ++ gs)).all (· ≤ reachBytes) = true) :
    Calls Try.prog 4 args W fun e W' => ∃ v, e = .returned v ∧ Rows.shareSecretSpec.post enc Try.prog Try.f4 false true false false W args v W' := by
  have hW' := hW
  obtain ⟨p, q, hA0, hV, rfl, _, _⟩ := hW
  have hA : DataW.TrodAll enc Try.prog W 0 (fun _ => true) true Try.f4.params.toList args.toList ds p := hA0
  rw [Try.params4] at hA hval hsz
  obtain ⟨v0, vs0, d0, ds0, p0, q0, hargs, rfl, rfl, h0, r0⟩ := trodAll_cons hA
  obtain ⟨v1, vs1, d1, ds1, p1, q1, rfl, rfl, rfl, h1, r1⟩ := trodAll_cons r0
  obtain ⟨v2, vs2, d2, ds2, p2, q2, rfl, rfl, rfl, h2, r2⟩ := trodAll_cons r1
  obtain ⟨rfl, rfl, rfl⟩ := trodAll_nil r2
  obtain rfl : args = #[v0, v1, v2] := by cases args; simp_all
  obtain ⟨rfl, rfl⟩ := trodVars_none hV
  have k0 := h0
  have lt0 : ∀ x ∈ p0, x.block < W.heap.size := by obtain ⟨m, hm⟩ := k0; exact DataW.trod_lt m _ _ _ hm
  have S0 : ∀ n ∈ d0.weights Try.prog 24, n ≤ 140737488351232 := weights_le hsz (j := 0) rfl rfl
  have k1 := h1
  have lt1 : ∀ x ∈ p1, x.block < W.heap.size := by obtain ⟨m, hm⟩ := k1; exact DataW.trod_lt m _ _ _ hm
  have S1 : ∀ n ∈ d1.weights Try.prog 22, n ≤ 140737488351232 := weights_le hsz (j := 1) rfl rfl
  have k2 := h2
  have lt2 : ∀ x ∈ p2, x.block < W.heap.size := by obtain ⟨m, hm⟩ := k2; exact DataW.trod_lt m _ _ _ hm
  have S2 : ∀ n ∈ d2.weights Try.prog 22, n ≤ 140737488351232 := weights_le hsz (j := 2) rfl rfl
  obtain ⟨A0, ca0, sl0, B0, cb0, rl0, x0, y0, rfl, hsA0, hcA0, hsB0, hcB0, Y0⟩ := open_deal (hval 0 24 v0 rfl rfl) h0
  have Z0 := Y0 S0
  obtain ⟨a1, len1, cap1, rfl⟩ := okWide_slice Try.underlying22 (hval 1 22 v1 rfl rfl)
  obtain ⟨fu1, hf1⟩ := h1
  obtain ⟨l1, rfl, hlc1, _, hs1, hcp1, hd1⟩ := open_bytes hf1
  have hc1 : cap1 ≤ 140737488351232 := by rw [hcp1]; exact places_le hd1 S1
  obtain ⟨a2, len2, cap2, rfl⟩ := okWide_slice Try.underlying22 (hval 2 22 v2 rfl rfl)
  obtain ⟨fu2, hf2⟩ := h2
  obtain ⟨l2, rfl, hlc2, _, hs2, hcp2, hd2⟩ := open_bytes hf2
  have hc2 : cap2 ≤ 140737488351232 := by rw [hcp2]; exact places_le hd2 S2
  refine (walk A0 ca0 sl0 B0 cb0 rl0 x0 y0 a1 cap1 l1 a2 cap2 l2 W hsA0 hcA0 Z0.1 hsB0 hcB0 Z0.2 hs1 hlc1 hc1 hs2).mono fun e W' ⟨he, bel⟩ => ?_
  subst he
  exact ⟨_, rfl, _, _, _, [], _, [], hW', trodAll_mk1 (shut_bool Try.underlying4 _), (trodAll_cons_mk (Below.trod laidOut (by kernel_rfl) (of_decide_eq_true (by kernel_rfl)) k0 bel lt0) (trodAll_cons_mk (Below.trod laidOut (by kernel_rfl) (of_decide_eq_true (by kernel_rfl)) k1 bel lt1) (trodAll_cons_mk (Below.trod laidOut (by kernel_rfl) (of_decide_eq_true (by kernel_rfl)) k2 bel lt2) trodAll_mk0))), rfl, bel.frame _, fun h => by cases h⟩

set_option maxRecDepth 100000 in
theorem lifted (os : Os) (started : os.Started) (H : Type) (enc : TypeId × Value → H) :
    ReturnsInHanded {} Try.checked os 4 .any (Rows.shareSecretSpec.pre6 enc Try.prog Try.f4 Rows.shareSecretRow.domain false) (Rows.shareSecretSpec.post enc Try.prog Try.f4 false true false false) := by
  refine returnsInHanded_of_change_sized (C := Try.checked) own started (by kernel_rfl) Try.func4
    (ChangeSpec.witness6 (enc := enc) (C := Try.checked) false ⟨#[], #[.agg #[.slice none 0 0, .slice none 0 0, .int .u8 0, .int .u8 0], .slice none 0 0, .slice none 0 0], []⟩ 8 (by kernel_rfl) (by kernel_rfl) (by kernel_rfl) (by kernel_rfl)) ?_
  intro W base args ds gs before hval hW _ hsz _
  exact contract H enc W base args ds gs before hval hW hsz

/-- The statement. -/
theorem proved : Rows.ShareSecretSaid :=
  OpenClaim.holds_of_wide 4 Try.f4 rfl rfl rfl rfl rfl rfl rfl ⟨rfl, rfl, rfl, rfl, rfl⟩ rfl rfl rfl rfl rfl (by kernel_rfl) Try.func4 (by kernel_rfl)
    (of_decide_eq_true (by kernel_rfl)) (by unfold Func.isWrapper; rw [if_neg (of_decide_eq_false (by kernel_rfl))]; exact ⟨rfl, rfl⟩)
    (fun os started H enc _ => lifted os started H enc)
end Go.Proofs.Yteaaadccjnmacaa.sec
