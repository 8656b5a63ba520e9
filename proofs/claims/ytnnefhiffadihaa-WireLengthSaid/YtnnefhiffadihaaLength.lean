/-
  P1.4: the lengths of the encodings of numbers. For every input that the row lets in; no further condition.
-/
import Derived.Test.YtnnefhiffadihaaRows
import Derived.Test.YtnnefhiffadihaaSane
import Derived.WalkKit
import Derived.ProofKit
import Derived.OpenShut
import Derived.ShutString
namespace Go.Proofs.Ytnnefhiffadihaa.wireLength
open Go.ChangeShapes Go.WideShapes Go.ChangeAt Go.RowKit
open Go.ChangeMaps (open_string shut_string)
open Go.Lib (uvarint zigzag)

theorem own : ownKnob Try.prog.godebug = none := by kernel_rfl

theorem Bits_is (n : Nat) (v : Int) (m : Nat) (w : World) (hn : Num.U64 n) (hv : v = n) (hm : m = Num.nbits n) :
    Calls Try.prog 30 #[.int .u64 v] w fun e w' => e = .returned (.int .i64 m) ∧ Below w.heap.size w w' := by
  subst hv hm
  exact (Bits_any n w hn).mono fun e w' ⟨he, hw⟩ => ⟨he, hw ▸ Below.refl _ _⟩

set_option maxHeartbeats 800000 in
/-- The walk. -/
theorem walk (a0 : Nat) (a1 : Int) (w0 : Num.U64 a0) (h0 : -9223372036854775808 ≤ a1) (h1 : a1 ≤ 9223372036854775807) (w : World) :
    Calls Try.prog 7 #[.int .u64 a0, .int .i64 a1] w fun e w' => e = .returned (.bool true) ∧ Below w.heap.size w w' := by
  have hx := Num.nbits_64 w0
  obtain ⟨x, hx'⟩ : ∃ x : Nat, x = Num.nbits a0 := ⟨_, rfl⟩
  rw [← hx'] at hx
  obtain ⟨q1, hq1⟩ : ∃ q : Nat, q = (uvarint a0).length := ⟨_, rfl⟩
  have hc1 : ((q1 : Int) == max 1 (((x : Int) + 6) / 7)) = true := by
    rw [beq_iff_eq, hq1, hx']
    exact Num.len_u a0
  have HX := Lib.hid hx'
  have HQ1 := Lib.hid hq1
  clear hx' hq1
  by_cases hneg : a1 < 0
  · have HZ : Hid (zigzag a1 = 2 * (-(a1 + 1)).toNat + 1) := by
      show _ = _
      unfold zigzag
      rw [if_neg (by omega)]
      omega
    have hz := Num.nbits_64 (n := (-(a1 + 1)).toNat) (show (-(a1 + 1)).toNat < 18446744073709551616 by omega)
    have hS : Hid (((uvarint (zigzag a1)).length : Int) = (((Num.nbits (-(a1 + 1)).toNat : Nat) : Int) + 1 + 6) / 7) := by
      show _ = _
      rw [HZ.out]
      exact Num.len_neg _
    obtain ⟨q2, hq2⟩ : ∃ q : Nat, q = (uvarint (zigzag a1)).length := ⟨_, rfl⟩
    obtain ⟨z, hz'⟩ : ∃ z : Nat, z = Num.nbits (-(a1 + 1)).toNat := ⟨_, rfl⟩
    rw [← hz'] at hz
    have hc2 : ((q2 : Int) == ((z : Int) + 1 + 6) / 7) = true := by
      rw [beq_iff_eq, hq2, hz']
      exact hS.out
    have HQ2 := Lib.hid hq2
    have HZ' := Lib.hid hz'
    clear hq2 hz'
    go_enter Try.func7, Try.ntmps7
    go_wp2_with fail
    refine (sanity_any _).mono ?_
    rintro e w1 ⟨rfl, hb1⟩
    go_wp2_with fail
    refine (Bits_is a0 _ x _ w0 rfl HX.out).mono ?_
    rintro e w2 ⟨rfl, hb2⟩
    go_wp2_with fail
    refine (Bits_is (-(a1 + 1)).toNat _ z _ (show (-(a1 + 1)).toNat < 18446744073709551616 by omega) (by omega) HZ'.out).mono ?_
    rintro e w3 ⟨rfl, hb3⟩
    go_wp2_with fail
    refine (U_is none 0 0 [] a0 a0 _ q1 _ rfl Shows.nil (by decide) w0 rfl rfl HQ1.out).mono ?_
    rintro e w4 ⟨A4, c4, rfl, _, _, hb4⟩
    go_wp2_with fail
    refine (S_is none 0 0 [] a1 _ q2 _ rfl Shows.nil (by decide) h0 h1 rfl HQ2.out).mono ?_
    rintro e w5 ⟨A5, c5, rfl, _, _, hb5⟩
    go_wp2_with fail
    go_ret
    have b1 := below_step0 ⟨Below.refl _ _, Nat.le_refl _⟩ hb1
    have b2 := below_step0 b1 hb2
    have b3 := below_step0 b2 hb3
    have b4 := below_step0 b3 hb4
    have b5 := below_step0 b4 hb5
    exact ⟨rfl, b5.1⟩
  · have HZ : Hid (zigzag a1 = 2 * a1.toNat) := by
      show _ = _
      unfold zigzag
      rw [if_pos (by omega)]
      omega
    have hz := Num.nbits_64 (n := a1.toNat) (show a1.toNat < 18446744073709551616 by omega)
    have hS : Hid (((uvarint (zigzag a1)).length : Int) = (((Num.nbits a1.toNat : Nat) : Int) + 1 + 6) / 7) := by
      show _ = _
      rw [HZ.out]
      exact Num.len_pos _
    obtain ⟨q2, hq2⟩ : ∃ q : Nat, q = (uvarint (zigzag a1)).length := ⟨_, rfl⟩
    obtain ⟨z, hz'⟩ : ∃ z : Nat, z = Num.nbits a1.toNat := ⟨_, rfl⟩
    rw [← hz'] at hz
    have hc2 : ((q2 : Int) == ((z : Int) + 1 + 6) / 7) = true := by
      rw [beq_iff_eq, hq2, hz']
      exact hS.out
    have HQ2 := Lib.hid hq2
    have HZ' := Lib.hid hz'
    clear hq2 hz'
    go_enter Try.func7, Try.ntmps7
    go_wp2_with fail
    refine (sanity_any _).mono ?_
    rintro e w1 ⟨rfl, hb1⟩
    go_wp2_with fail
    refine (Bits_is a0 _ x _ w0 rfl HX.out).mono ?_
    rintro e w2 ⟨rfl, hb2⟩
    go_wp2_with fail
    refine (Bits_is a1.toNat _ z _ (show a1.toNat < 18446744073709551616 by omega) (by omega) HZ'.out).mono ?_
    rintro e w3 ⟨rfl, hb3⟩
    go_wp2_with fail
    refine (U_is none 0 0 [] a0 a0 _ q1 _ rfl Shows.nil (by decide) w0 rfl rfl HQ1.out).mono ?_
    rintro e w4 ⟨A4, c4, rfl, _, _, hb4⟩
    go_wp2_with fail
    refine (S_is none 0 0 [] a1 _ q2 _ rfl Shows.nil (by decide) h0 h1 rfl HQ2.out).mono ?_
    rintro e w5 ⟨A5, c5, rfl, _, _, hb5⟩
    go_wp2_with fail
    go_ret
    have b1 := below_step0 ⟨Below.refl _ _, Nat.le_refl _⟩ hb1
    have b2 := below_step0 b1 hb2
    have b3 := below_step0 b2 hb3
    have b4 := below_step0 b3 hb4
    have b5 := below_step0 b4 hb5
    exact ⟨rfl, b5.1⟩

/-! ### THE ROW's STEP: WRITTEN OUT: LEAVE IT -/
set_option maxRecDepth 100000 in
theorem lifted (os : Os) (started : os.Started) (H : Type) (enc : TypeId × Value → H) :
    ReturnsInHanded {} Try.checked os 7 .any (Rows.wireLengthSpec.pre6 enc Try.prog Try.f7 Rows.wireLengthRow.domain false) (Rows.wireLengthSpec.post enc Try.prog Try.f7 false true false false) := by
  refine returnsInHanded_of_change (C := Try.checked) own started (by kernel_rfl) Try.func7
    (ChangeSpec.witness6 (enc := enc) (C := Try.checked) false ⟨#[], #[.int .u64 0, .int .i64 0], []⟩ 8 (by kernel_rfl) (by kernel_rfl) (by kernel_rfl) (by kernel_rfl)) ?_
  intro W base args ds gs before hval0 hW hcnd _
  have hval : ∀ (j : Nat) t v, Try.f7.params[j]? = some t → args[j]? = some v → Value.okWide Try.prog W .any base t v := hval0
  have hW' := hW
  obtain ⟨p, q, hA0, hV, rfl, hfz, hnd⟩ := hW
  have hA : DataW.TrodAll enc Try.prog W 0 (fun _ => true) true Try.f7.params.toList args.toList ds p := hA0
  rw [Try.params7] at hA hval
  obtain ⟨v0, vs0, d0, ds0, p0, q0, hargs, rfl, rfl, h0, r0⟩ := trodAll_cons hA
  obtain ⟨v1, vs1, d1, ds1, p1, q1, rfl, rfl, rfl, h1, r1⟩ := trodAll_cons r0
  obtain ⟨rfl, rfl, rfl⟩ := trodAll_nil r1
  obtain rfl : args = #[v0, v1] := by cases args; simp_all
  obtain ⟨rfl, rfl⟩ := trodVars_none hV
  obtain ⟨a0, rfl, rfl, rfl, w0⟩ := open_int Try.underlying23 (hval 0 23 v0 rfl rfl) h0
  obtain ⟨a1, rfl, rfl, rfl, w1⟩ := open_int Try.underlying2 (hval 1 2 v1 rfl rfl) h1
  clear hA0 hval0
  simp only [List.append_nil] at hW'
  have b0 : 0 ≤ a0 ∧ a0 ≤ 18446744073709551615 := by simpa [Lit.wf, IntKind.min, IntKind.max, IntKind.signed, IntKind.bits] using w0
  have b1 : -9223372036854775808 ≤ a1 ∧ a1 ≤ 9223372036854775807 := by simpa [Lit.wf, IntKind.min, IntKind.max, IntKind.signed, IntKind.bits] using w1
  obtain ⟨n0, rfl⟩ := Int.eq_ofNat_of_zero_le b0.1
  refine (walk n0 a1 (show n0 < 18446744073709551616 by omega) b1.1 b1.2 W).mono fun e W' ⟨he, bel⟩ => ?_
  subst he
  exact ⟨_, rfl, _, _, _, [], _, [], hW', trodAll_mk1 (shut_bool Try.underlying4 _), (trodAll_cons_mk (shut_int Try.underlying23 w0) (trodAll_cons_mk (shut_int Try.underlying2 w1) trodAll_mk0)), rfl, bel.frame _, fun h => by cases h⟩

theorem over : Rows.wireLengthRow.holds Try.pinned (OpenSpec.ofChange Rows.wireLengthSpec) :=
  OpenClaim.holds_of_wide 7 Try.f7 rfl rfl rfl rfl rfl rfl rfl ⟨rfl, rfl, rfl, rfl, rfl⟩ rfl rfl rfl rfl rfl (by kernel_rfl) Try.func7 (by kernel_rfl)
    (of_decide_eq_true (by kernel_rfl)) (by unfold Func.isWrapper; first | (rw [if_pos (by decide +kernel)]; kernel_rfl) | (rw [if_neg (by decide +kernel)]; exact ⟨rfl, rfl⟩))
    (fun os started H enc _ => lifted os started H enc)

/-- ████ THE STATEMENT ████ -/
theorem proved : Rows.WireLengthSaid :=
  over
#print axioms proved
end Go.Proofs.Ytnnefhiffadihaa.wireLength
