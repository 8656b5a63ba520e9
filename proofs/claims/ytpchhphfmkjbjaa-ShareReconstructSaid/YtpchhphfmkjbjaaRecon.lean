/-
  P4.3: any selection of shares in any order yields the secret if it has the required number of shares, and ErrShares otherwise. For every input that the row lets in; no further condition.
-/
import Derived.Test.YtpchhphfmkjbjaaDeal
import Derived.Test.YtpchhphfmkjbjaaChoose
import Derived.Test.YtpchhphfmkjbjaaSaneW
namespace Go.Proofs.Ytpchhphfmkjbjaa.recon
open Go.ChangeShapes Go.WideShapes Go.ChangeAt Go.RowKit

theorem Same_is (A C : Option Addr) (c d n : Nat) (l : List UInt8) (w : World) (hn : n = l.length) (h1 : Shows w w.heap.size A l) (h2 : Shows w w.heap.size C l) (hm : n ≤ 9223372036854775807) :
    Calls Try.prog 23 #[.slice A n c, .slice C n d] w fun e w' => e = .returned (.bool true) ∧ Below w.heap.size w w' := by
  refine (Same_any A n c l C n d l w h1 h2 hn hn hm hm).mono ?_
  rintro e w' ⟨rfl, m, rfl⟩
  exact ⟨by simp, below_drewN (Below.refl _ _) m⟩

theorem sane_box (w : World) (a b c d : Value) : Calls Try.prog 11 #[] (w.alloc (.cells #[a, b, c, d] 29)) fun e w' => e = .returned (.bool true) ∧
    w'.cell? ⟨w.heap.size, 0, none⟩ = some a ∧ w'.cell? ⟨w.heap.size, 1, none⟩ = some b ∧ w'.cell? ⟨w.heap.size, 2, none⟩ = some c ∧ w'.cell? ⟨w.heap.size, 3, none⟩ = some d ∧ w.heap.size < w'.heap.size ∧ Below w.heap.size w w' := by
  refine (sanity_any _).mono ?_
  rintro e w' ⟨h1, hb⟩
  have hn := heap_alloc_new w (.cells #[a, b, c, d] 29)
  have hlt : w.heap.size < (w.alloc (.cells #[a, b, c, d] 29)).heap.size := by rw [hz]; exact Nat.lt_succ_self _
  exact ⟨h1, (hb.cell (p := ⟨w.heap.size, 0, none⟩) hlt).trans (cell_of_row _ w.heap.size 0 _ _ (0, 0) hn), (hb.cell (p := ⟨w.heap.size, 1, none⟩) hlt).trans (cell_of_row _ w.heap.size 1 _ _ (0, 0) hn),
    (hb.cell (p := ⟨w.heap.size, 2, none⟩) hlt).trans (cell_of_row _ w.heap.size 2 _ _ (0, 0) hn), (hb.cell (p := ⟨w.heap.size, 3, none⟩) hlt).trans (cell_of_row _ w.heap.size 3 _ _ (0, 0) hn), Nat.lt_of_lt_of_le hlt hb.size, step_al (ba1 w _) hb⟩
theorem box2 {w1 w2 : World} {D P T : Nat} {a b : Value} (h0 : w1.cell? ⟨D, 0, none⟩ = some a) (h1 : w1.cell? ⟨D, 1, none⟩ = some b) (hD : D < w1.heap.size) (hb : Below w1.heap.size w1 w2) :
    BX (w2.alloc (.cells #[.int .i64 (P : Int), .int .i64 (T : Int)] 30)) D w2.heap.size a b P T := by
  have hb2 := step_al hb (ba1 w2 (.cells #[.int .i64 (P : Int), .int .i64 (T : Int)] 30))
  have hn := heap_alloc_new w2 (.cells #[.int .i64 (P : Int), .int .i64 (T : Int)] 30)
  exact ⟨(hb2.cell (p := ⟨D, 0, none⟩) hD).trans h0, (hb2.cell (p := ⟨D, 1, none⟩) hD).trans h1, cell_of_row _ w2.heap.size 0 _ _ (0, 0) hn, cell_of_row _ w2.heap.size 1 _ _ (0, 0) hn, by rw [hz]; have := hb.size; omega, by rw [hz]; exact Nat.lt_succ_self _⟩
theorem choose_is (A : Option Addr) (T cap : Nat) (l : List Sh) (C : Option Addr) (n d : Nat) (order : List UInt8) (w : World) (hT : T = l.length) (hn : n = order.length) (hs : ShL w w.heap.size A l) (hl : l.length ≤ 1000) (hc : Shows w w.heap.size C order) (hol : order.length ≤ 1000) (hd : (l.map (·.1)).Nodup) (h0 : 0 < l.length) :
    Calls Try.prog 25 #[.slice A T cap, .slice C n d] w fun e w' => ∃ A' c' L, e = .returned (.slice A' L.length c') ∧ ShL w' w'.heap.size A' L ∧ L.length ≤ c' ∧ c' ≤ 9223372036854775807 ∧ (∀ s ∈ L, s ∈ l) ∧ (L.map (·.1)).Nodup ∧ L.length ≤ n ∧ Below w.heap.size w w' := by
  subst hT hn
  refine (choose_pos A cap l C d order w hs hl hc hol hd h0).mono ?_
  rintro e w' ⟨A', c', L, h1, h2, h3, h4, h5, hb⟩
  obtain ⟨_, g2, g3, g4⟩ := h2.shl hb.size
  exact ⟨A', c', L, h1, g4, g2, g3, h3, h4, h5, hb⟩

attribute [local irreducible] splitL interpB wfB
set_option maxHeartbeats 2000000 in
set_option maxRecDepth 20000 in
/-- The deal is too great, or the order: nothing is asked. -/
theorem walk_big (A : Option Addr) (ca : Nat) (sl : List UInt8) (B : Option Addr) (cb_ : Nat) (rl : List UInt8) (x y : UInt8) (C : Option Addr) (co n : Nat) (w : World) (hsl : sl.length ≤ 9223372036854775807) (hrl : rl.length ≤ 9223372036854775807)
    (hbig : ¬ (sl.length ≤ 40 ∧ rl.length ≤ 400 ∧ n ≤ 100)) :
    Calls Try.prog 6 #[.agg #[.slice A sl.length ca, .slice B rl.length cb_, .int .u8 (x.toNat : Int), .int .u8 (y.toNat : Int)], .slice C n co] w fun e w' => e = .returned (.bool true) ∧ Below w.heap.size w w' := by
  obtain ⟨P, hP⟩ : ∃ P, P = 1 + x.toNat % 8 := ⟨_, rfl⟩
  obtain ⟨T, hT⟩ : ∃ T, T = P + y.toNat % 9 := ⟨_, rfl⟩
  obtain ⟨z, hzz⟩ : ∃ z, (decide (sl.length ≤ 40) && decide (rl.length ≤ 400)) = z := ⟨_, rfl⟩
  have HF := Lib.hid (fun w1 => fits_is A B sl.length ca rl.length cb_ P T x y z w1 hP hT hsl hrl hzz)
  have hzn : z = true → 100 < (n : Int) := by
    intro h
    rw [h] at hzz
    simp at hzz
    omega
  clear hP hT hzz hbig
  cases z with
  | false =>
    clear hzn
    go_enter Try.func6, Try.ntmps6
    go_wp2_with (first
      | ((with_reducible show Calls _ 11 _ _ _); refine (sane_box w _ _ _ _).mono ?_; rintro e w1 ⟨rfl, c0, c1, c2, c3, lt1, hb1⟩; have HB1 := Lib.hid hb1; clear hb1)
      | ((with_reducible show Calls _ 24 _ _ _); refine (HF.out _).mono ?_; rintro e w2 ⟨rfl, hb2⟩; have HB2 := Lib.hid hb2; clear hb2))
    go_ret
    exact ⟨rfl, step_al (step_al HB1.out HB2.out) (ba1 w2 _)⟩
  | true =>
    have hn := hzn rfl
    clear hzn
    go_enter Try.func6, Try.ntmps6
    go_wp2_with (first
      | ((with_reducible show Calls _ 11 _ _ _); refine (sane_box w _ _ _ _).mono ?_; rintro e w1 ⟨rfl, c0, c1, c2, c3, lt1, hb1⟩; have HB1 := Lib.hid hb1; clear hb1)
      | ((with_reducible show Calls _ 24 _ _ _); refine (HF.out _).mono ?_; rintro e w2 ⟨rfl, hb2⟩; have HB2 := Lib.hid hb2; clear hb2))
    go_ret
    exact ⟨rfl, step_al (step_al HB1.out HB2.out) (ba1 w2 _)⟩

set_option maxHeartbeats 4000000 in
set_option maxRecDepth 20000 in
theorem walk_small (A : Option Addr) (ca : Nat) (sl : List UInt8) (B : Option Addr) (cb_ : Nat) (rl : List UInt8) (x y : UInt8) (C : Option Addr) (co : Nat) (order : List UInt8) (w : World) (h1 : sl.length ≤ 40) (h2 : rl.length ≤ 400) (h3 : order.length ≤ 100)
    (hsA : Shows w w.heap.size A sl) (hcA : sl.length ≤ ca) (hmA : ca ≤ 140737488351232) (hsB : Shows w w.heap.size B rl) (hcB : rl.length ≤ cb_) (hmB : cb_ ≤ 140737488351232) (hsC : Shows w w.heap.size C order) :
    Calls Try.prog 6 #[.agg #[.slice A sl.length ca, .slice B rl.length cb_, .int .u8 (x.toNat : Int), .int .u8 (y.toNat : Int)], .slice C order.length co] w fun e w' => e = .returned (.bool true) ∧ Below w.heap.size w w' := by
  obtain ⟨P, hP⟩ : ∃ P, P = 1 + x.toNat % 8 := ⟨_, rfl⟩
  obtain ⟨T, hT⟩ : ∃ T, T = P + y.toNat % 9 := ⟨_, rfl⟩
  have hP1 : 1 ≤ P := by omega
  have hPT : P ≤ T := by omega
  have hT16 : T ≤ 16 := by omega
  have hzz : (decide (sl.length ≤ 40) && decide (rl.length ≤ 400)) = true := by simp [h1, h2]
  obtain ⟨N, hN⟩ : ∃ N, N = sl.length := ⟨_, rfl⟩
  obtain ⟨R, hR⟩ : ∃ N, N = rl.length := ⟨_, rfl⟩
  obtain ⟨M, hM⟩ : ∃ N, N = order.length := ⟨_, rfl⟩
  have HF := Lib.hid (fun w1 => fits_is A B sl.length ca rl.length cb_ P T x y true w1 hP hT (by omega) (by omega) hzz)
  have HS : Hid (∀ w1, Below w.heap.size w w1 → Calls Try.prog 16 #[.slice A N ca, .slice B R cb_, .agg #[.int .i64 (P : Int), .int .i64 (T : Int)]] w1
      fun e w' => ∃ g, e = .returned (.tuple #[.slice (some ⟨g, 0, none⟩) T T, .int .i64 0]) ∧ ShL w' w'.heap.size (some ⟨g, 0, none⟩) (splitL sl rl P T) ∧ Below w1.heap.size w1 w') := fun w1 hb =>
    split_is A N ca sl B R cb_ rl P T w1 hN hR (hsA.up hb) (by omega) ⟨hcA, by omega⟩ (hsB.up hb) (by omega) ⟨hcB, by omega⟩ hP1 hPT (by omega)
  have HC : Hid (∀ (w1 : World) (g : Nat), Below w.heap.size w w1 → ShL w1 w1.heap.size (some ⟨g, 0, none⟩) (splitL sl rl P T) → Calls Try.prog 25 #[.slice (some ⟨g, 0, none⟩) T T, .slice C M co] w1
      fun e w' => ∃ A' c' L, e = .returned (.slice A' L.length c') ∧ ShL w' w'.heap.size A' L ∧ L.length ≤ c' ∧ c' ≤ 9223372036854775807 ∧ (∀ s ∈ L, s ∈ splitL sl rl P T) ∧ (L.map (·.1)).Nodup ∧ L.length ≤ M ∧ Below w1.heap.size w1 w') := fun w1 g hb hl =>
    choose_is _ T T (splitL sl rl P T) C M co order w1 (splitL_len _ _ _ _).symm hM hl (by rw [splitL_len]; omega) (hsC.up hb) (by omega) (split_nodup sl rl P T (by omega)) (by rw [splitL_len]; omega)
  have HA := Lib.hid hsA
  have HN := Lib.hid hN
  have hN40 : N ≤ 40 := by omega
  have hM100 : (M : Int) ≤ 100 := by omega
  rw [← hN, ← hR] at HF
  rw [← hN, ← hR, ← hM]
  clear hP hT hzz hsA hsB hsC hN hR hM
  go_enter Try.func6, Try.ntmps6
  go_wp2_with (first
    | ((with_reducible show Calls _ 11 _ _ _); refine (sane_box w _ _ _ _).mono ?_; rintro e w1 ⟨rfl, c0, c1, c2, c3, lt1, hb1⟩; have HB1 := Lib.hid hb1; clear hb1)
    | ((with_reducible show Calls _ 24 _ _ _); refine (HF.out _).mono ?_; rintro e w2 ⟨rfl, hb2⟩; have HB2 := Lib.hid (step_al (step_al HB1.out hb2) (ba1 w2 (.cells #[.int .i64 (P : Int), .int .i64 (T : Int)] 30))); have X2 := Lib.hid (box2 (P := P) (T := T) c0 c1 lt1 hb2); have d0 := X2.out.d0; have d1 := X2.out.d1; have f0 := X2.out.f0; have f1 := X2.out.f1; clear hb2)
    | ((with_reducible show Calls _ 16 _ _ _); refine (HS.out _ HB2.out).mono ?_; rintro e w3 ⟨g3, rfl, hl3, hb3⟩; have HL3 := Lib.hid hl3; have HB3 := Lib.hid (step_al HB2.out hb3); have X3 := Lib.hid (X2.out.up hb3); have e0 := X3.out.d0; have e1 := X3.out.d1; have e2 := X3.out.f0; have e3 := X3.out.f1; clear hl3 hb3)
    | ((with_reducible show Calls _ 25 _ _ _); refine (HC.out _ g3 HB3.out HL3.out).mono ?_; rintro e w4 ⟨A4, c4, L, rfl, hl4, hc4, hm4, hin, hnd, hlen, hb4⟩; have HL4 := Lib.hid hl4; have HB4 := Lib.hid (step_al HB3.out hb4); have X4 := Lib.hid (X3.out.up hb4); have u0 := X4.out.d0; have u2 := X4.out.f0; have HIN := Lib.hid hin; have HND := Lib.hid hnd; clear hl4 hb4 hin hnd))
  have hnL : ∀ s ∈ L, s.2.length ≤ 140737488351232 := fun s hs => by
    rw [split_lens (HIN.out s hs), ← HN.out]
    omega
  have hL1 : L.length ≤ 1000000 := by omega
  by_cases hle : P ≤ L.length
  · obtain ⟨k1, k2, k3, k4⟩ := comb_back hP1 (by omega) HIN.out HND.out hle
    have HK := Lib.hid (combine_ok A4 L.length c4 L P N w4 rfl HL4.out hL1 ⟨hc4, hm4⟩ (fun s hs => by rw [k4 s hs, HN.out]) (by omega) hP1 (by omega) k1 hle (by rw [HN.out]; exact k2))
    have k3' : interpB (L.take P) 0 N = sl := by rw [HN.out]; exact k3
    rw [k3'] at HK
    have i1 : ¬ (L.length : Int) < (P : Int) := by omega
    clear k1 k2 k3 k4 k3' hnL hle
    refine HK.out.mono ?_
    rintro e w5 ⟨g5, rfl, hk5, _, hb5⟩
    have HK5 := Lib.hid hk5
    have HB5 := Lib.hid (step_al HB4.out hb5)
    have X5 := Lib.hid (X4.out.up hb5)
    have v0 := X5.out.d0
    have v2 := X5.out.f0
    have HSM := Lib.hid (Same_is (some ⟨g5, 0, none⟩) A N ca N sl w5 HN.out HK5.out.shows (HA.out.up HB5.out) (by omega))
    clear hk5 hb5 HK
    go_wp2_with (first
      | ((with_reducible show Calls _ 23 _ _ _); refine HSM.out.mono ?_; rintro e w6 ⟨rfl, hb6⟩; have HB6 := Lib.hid hb6; clear hb6))
    go_ret
    exact ⟨rfl, step_al HB5.out HB6.out⟩
  · have HK := Lib.hid (combine_wf A4 L.length c4 L (P : Int) w4 rfl HL4.out hL1 hnL (by omega) (by omega) (.inr (by omega)))
    have i1 : (L.length : Int) < (P : Int) := by omega
    clear hnL hle
    refine HK.out.mono ?_
    rintro e w5 ⟨rfl, hb5⟩
    have HB5 := Lib.hid (step_al HB4.out hb5)
    have X5 := Lib.hid (X4.out.up hb5)
    have v0 := X5.out.d0
    have v2 := X5.out.f0
    clear hb5 HK
    go_wp2
    go_ret
    exact ⟨rfl, HB5.out⟩

theorem walk (A : Option Addr) (ca : Nat) (sl : List UInt8) (B : Option Addr) (cb_ : Nat) (rl : List UInt8) (x y : UInt8) (C : Option Addr) (co : Nat) (order : List UInt8) (w : World)
    (hsA : Shows w w.heap.size A sl) (hcA : sl.length ≤ ca) (hmA : ca ≤ 140737488351232) (hsB : Shows w w.heap.size B rl) (hcB : rl.length ≤ cb_) (hmB : cb_ ≤ 140737488351232) (hsC : Shows w w.heap.size C order) :
    Calls Try.prog 6 #[.agg #[.slice A sl.length ca, .slice B rl.length cb_, .int .u8 (x.toNat : Int), .int .u8 (y.toNat : Int)], .slice C order.length co] w fun e w' => e = .returned (.bool true) ∧ Below w.heap.size w w' := by
  by_cases h : sl.length ≤ 40 ∧ rl.length ≤ 400 ∧ order.length ≤ 100
  · exact walk_small A ca sl B cb_ rl x y C co order w h.1 h.2.1 h.2.2 hsA hcA hmA hsB hcB hmB hsC
  · exact walk_big A ca sl B cb_ rl x y C co order.length w (by omega) (by omega) h

set_option maxRecDepth 100000 in
theorem contract (H : Type) (enc : TypeId × Value → H) (W : World) (base : Nat) (args : Array Value) (ds gs : List (DataW H)) (before : List MemPlace)
    (hval : ∀ (j : Nat) t v, Try.f6.params[j]? = some t → args[j]? = some v → Value.okWide Try.prog W .any base t v)
    (hW : DataW.Whole enc Try.prog Try.f6.params.toList Rows.shareReconstructSpec.vars false W args.toList ds gs before)
    (hsz : (DataW.weightsEach Try.prog (Try.f6.params.toList ++ Rows.shareReconstructSpec.plain.varTypes Try.prog) (ds ++ gs)).all (· ≤ reachBytes) = true) :
    Calls Try.prog 6 args W fun e W' => ∃ v, e = .returned v ∧ Rows.shareReconstructSpec.post enc Try.prog Try.f6 false true false false W args v W' := by
  have hW' := hW
  obtain ⟨p, q, hA0, hV, rfl, _, _⟩ := hW
  have hA : DataW.TrodAll enc Try.prog W 0 (fun _ => true) true Try.f6.params.toList args.toList ds p := hA0
  rw [Try.params6] at hA hval hsz
  obtain ⟨v0, vs0, d0, ds0, p0, q0, hargs, rfl, rfl, h0, r0⟩ := trodAll_cons hA
  obtain ⟨v1, vs1, d1, ds1, p1, q1, rfl, rfl, rfl, h1, r1⟩ := trodAll_cons r0
  obtain ⟨rfl, rfl, rfl⟩ := trodAll_nil r1
  obtain rfl : args = #[v0, v1] := by cases args; simp_all
  obtain ⟨rfl, rfl⟩ := trodVars_none hV
  have k0 := h0
  have lt0 : ∀ x ∈ p0, x.block < W.heap.size := by obtain ⟨m, hm⟩ := k0; exact DataW.trod_lt m _ _ _ hm
  have S0 : ∀ n ∈ d0.weights Try.prog 29, n ≤ 140737488351232 := weights_le hsz (j := 0) rfl rfl
  have k1 := h1
  have lt1 : ∀ x ∈ p1, x.block < W.heap.size := by obtain ⟨m, hm⟩ := k1; exact DataW.trod_lt m _ _ _ hm
  have S1 : ∀ n ∈ d1.weights Try.prog 27, n ≤ 140737488351232 := weights_le hsz (j := 1) rfl rfl
  obtain ⟨A0, ca0, sl0, B0, cb0, rl0, x0, y0, rfl, hsA0, hcA0, hsB0, hcB0, Y0⟩ := open_deal (hval 0 29 v0 rfl rfl) h0
  have Z0 := Y0 S0
  obtain ⟨a1, len1, cap1, rfl⟩ := okWide_slice Try.underlying27 (hval 1 27 v1 rfl rfl)
  obtain ⟨fu1, hf1⟩ := h1
  obtain ⟨l1, rfl, hlc1, _, hs1, hcp1, hd1⟩ := open_bytes hf1
  have hc1 : cap1 ≤ 140737488351232 := by rw [hcp1]; exact places_le hd1 S1
  refine (walk A0 ca0 sl0 B0 cb0 rl0 x0 y0 a1 cap1 l1 W hsA0 hcA0 Z0.1 hsB0 hcB0 Z0.2 hs1).mono fun e W' ⟨he, bel⟩ => ?_
  subst he
  exact ⟨_, rfl, _, _, _, [], _, [], hW', trodAll_mk1 (shut_bool Try.underlying4 _), (trodAll_cons_mk (Below.trod laidOut (by kernel_rfl) (of_decide_eq_true (by kernel_rfl)) k0 bel lt0) (trodAll_cons_mk (Below.trod laidOut (by kernel_rfl) (of_decide_eq_true (by kernel_rfl)) k1 bel lt1) trodAll_mk0)), rfl, bel.frame _, fun h => by cases h⟩

set_option maxRecDepth 100000 in
theorem lifted (os : Os) (started : os.Started) (H : Type) (enc : TypeId × Value → H) :
    ReturnsInHanded {} Try.checked os 6 .any (Rows.shareReconstructSpec.pre6 enc Try.prog Try.f6 Rows.shareReconstructRow.domain false) (Rows.shareReconstructSpec.post enc Try.prog Try.f6 false true false false) := by
  refine returnsInHanded_of_change_sized (C := Try.checked) own started (by kernel_rfl) Try.func6
    (ChangeSpec.witness6 (enc := enc) (C := Try.checked) false ⟨#[], #[.agg #[.slice none 0 0, .slice none 0 0, .int .u8 0, .int .u8 0], .slice none 0 0], []⟩ 8 (by kernel_rfl) (by kernel_rfl) (by kernel_rfl) (by kernel_rfl)) ?_
  intro W base args ds gs before hval hW _ hsz _
  exact contract H enc W base args ds gs before hval hW hsz

/-- The statement. -/
theorem proved : Rows.ShareReconstructSaid :=
  OpenClaim.holds_of_wide 6 Try.f6 rfl rfl rfl rfl rfl rfl rfl ⟨rfl, rfl, rfl, rfl, rfl⟩ rfl rfl rfl rfl rfl (by kernel_rfl) Try.func6 (by kernel_rfl)
    (of_decide_eq_true (by kernel_rfl)) (by unfold Func.isWrapper; rw [if_neg (of_decide_eq_false (by kernel_rfl))]; exact ⟨rfl, rfl⟩)
    (fun os started H enc _ => lifted os started H enc)
end Go.Proofs.Ytpchhphfmkjbjaa.recon
