/-
  P1.1, reading: for every byte slice and every offset the program's readers hand back what the reference's do. For every input that the row lets in; no further condition.
-/
import Derived.Test.YtnnefhiffadihaaOpen
namespace Go.Proofs.Ytnnefhiffadihaa.wireReads
open Go.RowKit Go.ChangeShapes Go.WideShapes Go.ChangeAt
open Go.Lib (uvarint zigzag)

set_option maxRecDepth 100000 in
set_option maxHeartbeats 2000000 in
theorem walk (A : Option Addr) (cap : Nat) (l : List UInt8) (a : Int) (w : World) (hs : Shows w w.heap.size A l) (hc : l.length ≤ cap) (hcap : cap ≤ 140737488351232) (_h0 : -9223372036854775808 ≤ a) (_h1 : a ≤ 9223372036854775807) :
    Calls Try.prog 4 #[.slice A l.length cap, .int .i64 a] w fun e w' => e = .returned (.bool true) ∧ Below w.heap.size w w' := by
  obtain ⟨x, hx⟩ : ∃ x : Int, ((Num.readU l a).1 : Int) = x := ⟨_, rfl⟩
  obtain ⟨y, hy⟩ : ∃ y : Int, ((Num.readU l a).2.1 : Int) = y := ⟨_, rfl⟩
  obtain ⟨z, hz⟩ : ∃ z : Int, ((Num.readU l a).2.2 : Int) = z := ⟨_, rfl⟩
  obtain ⟨u, hu⟩ : ∃ u : Int, Num.zag (Num.readU l a).1 = u := ⟨_, rfl⟩
  obtain ⟨s, hS⟩ : ∃ s : ByteArray, (⟨(Num.taken l a).toArray⟩ : ByteArray) = s := ⟨_, rfl⟩
  obtain ⟨p, hp⟩ : ∃ p, Num.taken l a = p := ⟨_, rfl⟩
  obtain ⟨m, hm⟩ : ∃ m, m = p.length := ⟨_, rfl⟩
  obtain ⟨y2, hy2⟩ : ∃ y : Int, ((Num.span l a).2.1 : Int) = y := ⟨_, rfl⟩
  obtain ⟨z2, hz2⟩ : ∃ z : Int, ((Num.span l a).2.2 : Int) = z := ⟨_, rfl⟩
  have HX := Lib.hid hx
  have HY := Lib.hid hy
  have HZ := Lib.hid hz
  have HU := Lib.hid hu
  have HS := Lib.hid hS
  have HP := Lib.hid hp
  have HM := Lib.hid hm
  have HY2 := Lib.hid hy2
  have HZ2 := Lib.hid hz2
  clear hx hy hz hu hS hp hm hy2 hz2
  have b0 : Below w.heap.size w w ∧ w.heap.size ≤ w.heap.size := ⟨Below.refl _ _, Nat.le_refl _⟩
  go_enter Try.func4, Try.ntmps4
  go_wp2_with fail
  refine (sanity_any _).mono ?_
  rintro e w1 ⟨rfl, hb1⟩
  have b1 := Lib.hid (below_step0 b0 hb1)
  go_wp2_with fail
  refine (ReadU_is A _ cap l a x y z _ rfl ((hs.below b1.out.1).more b1.out.2) (by omega) HX.out HY.out HZ.out).mono ?_
  rintro e w2 ⟨rfl, hb2⟩
  have b2 := Lib.hid (below_step0 b1.out hb2)
  go_wp2_with fail
  refine (RReadU_is A _ cap l a x y z _ rfl ((hs.below b2.out.1).more b2.out.2) (by omega) HX.out HY.out HZ.out).mono ?_
  rintro e w3 ⟨rfl, hb3⟩
  have b3 := Lib.hid (below_step0 b2.out hb3)
  go_wp2_with fail
  refine (ReadS_is A _ cap l a u y z _ rfl ((hs.below b3.out.1).more b3.out.2) (by omega) HU.out HY.out HZ.out).mono ?_
  rintro e w4 ⟨rfl, hb4⟩
  have b4 := Lib.hid (below_step0 b3.out hb4)
  go_wp2_with fail
  refine (RReadS_is A _ cap l a u y z _ rfl ((hs.below b4.out.1).more b4.out.2) (by omega) HU.out HY.out HZ.out).mono ?_
  rintro e w5 ⟨rfl, hb5⟩
  have b5 := Lib.hid (below_step0 b4.out hb5)
  clear b1 b2 b3 b4 hb1 hb2 hb3 hb4 hb5
  go_wp2_with fail
  refine (ReadText_is A _ cap l a y2 z2 s _ rfl ((hs.below b5.out.1).more b5.out.2) hc (by omega) HS.out HY2.out HZ2.out).mono ?_
  rintro e w6 ⟨rfl, hb6⟩
  have b6 := Lib.hid (below_step0 b5.out hb6)
  go_wp2_with fail
  refine (RReadText_is A _ cap l a y2 z2 s _ rfl ((hs.below b6.out.1).more b6.out.2) hc (by omega) HS.out HY2.out HZ2.out).mono ?_
  rintro e w7 ⟨rfl, hb7⟩
  have b7 := Lib.hid (below_step0 b6.out hb7)
  go_wp2_with fail
  refine (ReadBytes_at A _ cap l a y2 z2 p m _ rfl ((hs.below b7.out.1).more b7.out.2) hc (by omega) HP.out HM.out HY2.out HZ2.out).mono ?_
  rintro e w8 ⟨B8, c8, rfl, _, hs8, _, hb8⟩
  have b8 := Lib.hid (below_step0 b7.out hb8)
  go_wp2_with fail
  refine (RReadBytes_at A _ cap l a y2 z2 p m _ rfl ((hs.below b8.out.1).more b8.out.2) hc (by omega) HP.out HM.out HY2.out HZ2.out).mono ?_
  rintro e w9 ⟨B9, c9, rfl, _, hs9, hb9⟩
  have b9 := Lib.hid (below_step0 b8.out hb9)
  clear b5 b6 b7 b8 hb6 hb7 hb8
  go_wp2_with fail
  refine (Same_yes B8 m c8 B9 m c9 p p _ (hs8.up hb9) hs9 rfl HM.out HM.out ?_).mono ?_
  · have := Num.taken_le l a
    rw [HP.out, ← HM.out] at this
    omega
  rintro e w10 ⟨rfl, hb10⟩
  have b10 := Lib.hid (below_step0 b9.out hb10)
  go_wp2_with fail
  go_ret
  exact ⟨rfl, b10.out.1⟩

set_option maxRecDepth 100000 in
theorem contract (H : Type) (enc : TypeId × Value → H) (W : World) (base : Nat) (args : Array Value) (ds gs : List (DataW H)) (before : List MemPlace)
    (hval : ∀ (j : Nat) t v, Try.f4.params[j]? = some t → args[j]? = some v → Value.okWide Try.prog W .any base t v)
    (hW : DataW.Whole enc Try.prog Try.f4.params.toList Rows.wireReadsMatchReferenceSpec.vars false W args.toList ds gs before)
    (hsz : (DataW.weightsEach Try.prog (Try.f4.params.toList ++ Rows.wireReadsMatchReferenceSpec.plain.varTypes Try.prog) (ds ++ gs)).all (· ≤ reachBytes) = true) :
    Calls Try.prog 4 args W fun e W' => ∃ v, e = .returned v ∧ Rows.wireReadsMatchReferenceSpec.post enc Try.prog Try.f4 false true false false W args v W' := by
  have hW' := hW
  obtain ⟨p, q, hA0, hV, rfl, _, _⟩ := hW
  have hA : DataW.TrodAll enc Try.prog W 0 (fun _ => true) true Try.f4.params.toList args.toList ds p := hA0
  rw [Try.params4] at hA hval hsz
  obtain ⟨v0, vs0, d0, ds0, p0, q0, hargs, rfl, rfl, h0, r0⟩ := trodAll_cons hA
  obtain ⟨v1, vs1, d1, ds1, p1, q1, rfl, rfl, rfl, h1, r1⟩ := trodAll_cons r0
  obtain ⟨rfl, rfl, rfl⟩ := trodAll_nil r1
  obtain rfl : args = #[v0, v1] := by cases args; simp_all
  obtain ⟨rfl, rfl⟩ := trodVars_none hV
  have k0 := h0
  have lt0 : ∀ x ∈ p0, x.block < W.heap.size := by obtain ⟨m, hm⟩ := k0; exact DataW.trod_lt m _ _ _ hm
  have S0 : ∀ n ∈ d0.weights Try.prog 22, n ≤ 140737488351232 := weights_le hsz (j := 0) rfl rfl
  have k1 := h1
  have lt1 : ∀ x ∈ p1, x.block < W.heap.size := by obtain ⟨m, hm⟩ := k1; exact DataW.trod_lt m _ _ _ hm
  have S1 : ∀ n ∈ d1.weights Try.prog 3, n ≤ 140737488351232 := weights_le hsz (j := 1) rfl rfl
  obtain ⟨a0, len0, cap0, rfl⟩ := okWide_slice Try.underlying22 (hval 0 22 v0 rfl rfl)
  obtain ⟨fu0, hf0⟩ := h0
  obtain ⟨l0, rfl, hlc0, _, hs0, hcp0, hd0⟩ := open_bytes hf0
  have hc0 : cap0 ≤ 140737488351232 := by rw [hcp0]; exact places_le hd0 S0
  obtain ⟨a1, rfl, rfl, rfl, w1⟩ := open_int Try.underlying3 (hval 1 3 v1 rfl rfl) h1
  have b1 : -9223372036854775808 ≤ a1 ∧ a1 ≤ 9223372036854775807 := by simpa [Lit.wf, IntKind.min, IntKind.max, IntKind.signed, IntKind.bits] using w1
  refine (walk a0 cap0 l0 a1 W hs0 hlc0 hc0 b1.1 b1.2).mono fun e W' ⟨he, bel⟩ => ?_
  subst he
  exact ⟨_, rfl, _, _, _, [], _, [], hW', trodAll_mk1 (shut_bool Try.underlying4 _), (trodAll_cons_mk (Below.trod laidOut (by kernel_rfl) (of_decide_eq_true (by kernel_rfl)) k0 bel lt0) (trodAll_cons_mk (Below.trod laidOut (by kernel_rfl) (of_decide_eq_true (by kernel_rfl)) k1 bel lt1) trodAll_mk0)), rfl, bel.frame _, fun h => by cases h⟩

set_option maxRecDepth 100000 in
theorem lifted (os : Os) (started : os.Started) (H : Type) (enc : TypeId × Value → H) :
    ReturnsInHanded {} Try.checked os 4 .any (Rows.wireReadsMatchReferenceSpec.pre6 enc Try.prog Try.f4 Rows.wireReadsMatchReferenceRow.domain false) (Rows.wireReadsMatchReferenceSpec.post enc Try.prog Try.f4 false true false false) := by
  refine returnsInHanded_of_change_sized (C := Try.checked) own started (by kernel_rfl) Try.func4
    (ChangeSpec.witness6 (enc := enc) (C := Try.checked) false ⟨#[], #[.slice none 0 0, .int .i64 0], []⟩ 8 (by kernel_rfl) (by kernel_rfl) (by kernel_rfl) (by kernel_rfl)) ?_
  intro W base args ds gs before hval hW _ hsz _
  exact contract H enc W base args ds gs before hval hW hsz

/-- The statement. -/
theorem proved : Rows.WireReadsMatchReferenceSaid :=
  OpenClaim.holds_of_wide 4 Try.f4 rfl rfl rfl rfl rfl rfl rfl ⟨rfl, rfl, rfl, rfl, rfl⟩ rfl rfl rfl rfl rfl (by kernel_rfl) Try.func4 (by kernel_rfl)
    (of_decide_eq_true (by kernel_rfl)) (by unfold Func.isWrapper; rw [if_neg (of_decide_eq_false (by kernel_rfl))]; exact ⟨rfl, rfl⟩)
    (fun os started H enc _ => lifted os started H enc)

end Go.Proofs.Ytnnefhiffadihaa.wireReads
