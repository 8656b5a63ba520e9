/-
  P1.3: what ReadU, ReadS and ReadBytes accept is just what is written for the value behind the bytes before the offset. For every input that the row lets in; no further condition.
-/
import Derived.Test.YtnnefhiffadihaaUniqA
namespace Go.Proofs.Ytnnefhiffadihaa.wireUnique
open Go.RowKit Go.ChangeShapes Go.WideShapes Go.ChangeAt
open Go.Lib (uvarint zigzag)

theorem drewN_step {B : Nat} {w W : World} (h : Below B w W ∧ B ≤ W.heap.size) (n : Nat) : Below B w (W.drewN n) ∧ B ≤ (W.drewN n).heap.size := ⟨below_drewN h.1 n, h.2⟩
theorem zag_zero : Num.zag ((0, 0, 0) : Nat × Nat × Nat).1 = 0 := by decide

set_option maxRecDepth 100000 in
set_option maxHeartbeats 4000000 in
theorem walk_bad (A : Option Addr) (cap : Nat) (l : List UInt8) (a : Int) (w : World) (hs : Shows w w.heap.size A l) (hc : l.length ≤ cap) (hcap : cap ≤ 140737488351232) (er : Nat) (her : 0 < er) (hv : Hid (Num.readU l a = (0, 0, er))) (hsp : Hid (Num.span l a = (0, 0, er))) :
    Calls Try.prog 6 #[.slice A l.length cap, .int .i64 a] w fun e w' => e = .returned (.bool true) ∧ Below w.heap.size w w' := by
  have e1 : ((er : Int) == 0) = false := by simp; omega
  have e2 : ((er : Int) != 0) = true := by simp; omega
  have b0 : Below w.heap.size w w ∧ w.heap.size ≤ w.heap.size := ⟨Below.refl _ _, Nat.le_refl _⟩
  go_enter Try.func6, Try.ntmps6
  go_wp2_with fail
  refine (sanity_any _).mono ?_
  rintro e w1 ⟨rfl, hb1⟩
  have b1 := Lib.hid (below_step0 b0 hb1)
  clear hb1 b0
  go_wp2_with fail
  refine (ReadU_is A _ cap l a 0 0 er _ rfl ((hs.below b1.out.1).more b1.out.2) (by omega) (by rw [hv.out]; rfl) (by rw [hv.out]; rfl) (by rw [hv.out])).mono ?_
  rintro e w2 ⟨rfl, hb2⟩
  have b2 := Lib.hid (below_step0 b1.out hb2)
  clear hb2 b1
  go_wp2_with fail
  go_quiet (fail)
  go_wp2_with fail
  refine (ReadS_is A _ cap l a 0 0 er (w2.drewN nq) rfl (show Shows (w2.drewN nq) (w2.drewN nq).heap.size A l from ((hs.below b2.out.1).more b2.out.2)) (by omega) (by rw [hv.out]; exact zag_zero) (by rw [hv.out]; rfl) (by rw [hv.out])).mono ?_
  rintro e w3 ⟨rfl, hb3⟩
  have b3 := Lib.hid (below_step0 (drewN_step b2.out nq) hb3)
  clear hb3 b2
  go_wp2_with fail
  go_quiet (fail)
  go_wp2_with fail
  refine (ReadBytes_at A _ cap l a 0 er [] 0 (w3.drewN nq) rfl (show Shows (w3.drewN nq) (w3.drewN nq).heap.size A l from ((hs.below b3.out.1).more b3.out.2)) hc (by omega) (Num.taken_err hsp.out) rfl (by rw [hsp.out]; rfl) (by rw [hsp.out])).mono ?_
  rintro e w4 ⟨B4, c4, rfl, _, _, _, hb4⟩
  have b4 := Lib.hid (below_step0 (drewN_step b3.out nq) hb4)
  clear hb4 b3
  go_wp2_with fail
  go_quiet (fail)
  go_wp2_with fail
  go_ret
  exact ⟨rfl, below_drewN b4.out.1 _⟩

/-- The law at every input. -/
theorem walk (A : Option Addr) (cap : Nat) (l : List UInt8) (a : Int) (w : World) (hs : Shows w w.heap.size A l) (hc : l.length ≤ cap) (hcap : cap ≤ 140737488351232) (_h0 : -9223372036854775808 ≤ a) (_h1 : a ≤ 9223372036854775807) :
    Calls Try.prog 6 #[.slice A l.length cap, .int .i64 a] w fun e w' => e = .returned (.bool true) ∧ Below w.heap.size w w' := by
  rcases Num.readU_cases l a with ⟨n, k, hv⟩ | hv | hv | hv
  · obtain ⟨b, j, rfl, hb, hj, hkj, hkl, ht, hu⟩ := Num.readU_good hv
    have htk : l.take k = l.take b ++ uvarint n := by rw [← ht, hkj, List.take_add]
    have hz0 := Num.zag_lo hu
    have hz1 := Num.zag_hi hu
    rcases Num.span_cases l b with ⟨s, n', hsp, hsn, hn', hv'⟩ | hsp | hsp | hsp | hsp
    · rw [hv] at hv'
      simp only [Prod.mk.injEq, and_true] at hv'
      obtain ⟨rfl, rfl⟩ := hv'
      have hp := Num.taken_ok hsp
      have hm : n = ((l.drop k).take n).length := by simp; omega
      have hq : l.take (k + n) = l.take b ++ counted ((l.drop k).take n) := by rw [List.take_add, htk, counted, ← hm, List.append_assoc]
      exact walk_ok A cap l b n k w hs hc hcap (by omega) hkl hv hu htk _ rfl (Num.zigzag_zag n) hz0 hz1 (k + n) n _ hsp hp hm hq (by omega) hsn hn'
    all_goals exact walk_half A cap l b n k w hs hc hcap (by omega) hkl hv hu htk _ rfl (Num.zigzag_zag n) hz0 hz1 _ (by omega) hsp
  all_goals exact walk_bad A cap l a w hs hc hcap _ (by omega) hv (Num.span_err hv (by omega))

set_option maxRecDepth 100000 in
theorem contract (H : Type) (enc : TypeId × Value → H) (W : World) (base : Nat) (args : Array Value) (ds gs : List (DataW H)) (before : List MemPlace)
    (hval : ∀ (j : Nat) t v, Try.f6.params[j]? = some t → args[j]? = some v → Value.okWide Try.prog W .any base t v)
    (hW : DataW.Whole enc Try.prog Try.f6.params.toList Rows.wireUniqueSpec.vars false W args.toList ds gs before)
    (hsz : (DataW.weightsEach Try.prog (Try.f6.params.toList ++ Rows.wireUniqueSpec.plain.varTypes Try.prog) (ds ++ gs)).all (· ≤ reachBytes) = true) :
    Calls Try.prog 6 args W fun e W' => ∃ v, e = .returned v ∧ Rows.wireUniqueSpec.post enc Try.prog Try.f6 false true false false W args v W' := by
  have hW' := hW
  obtain ⟨p, q, hA0, hV, rfl, _, _⟩ := hW
  have hA : DataW.TrodAll enc Try.prog W 0 (fun _ => true) true Try.f6.params.toList args.toList ds p := hA0
  rw [Try.params6] at hA hval hsz
  obtain ⟨v0, vs0, d0, ds0, p0, q0, hargs, rfl, rfl, h0, r0⟩ := trodAll_cons hA
  obtain ⟨v1, vs1, d1, ds1, p1, q1, rfl, rfl, rfl, h1, r1⟩ := trodAll_cons r0
  obtain ⟨rfl, rfl, rfl⟩ := trodAll_nil r1
  obtain rfl : args = #[v0, v1] := by cases args; simp_all
  obtain ⟨rfl, rfl⟩ := trodVars_none hV
  have k0 := h0
  have lt0 : ∀ x ∈ p0, x.block < W.heap.size := by obtain ⟨m, hm⟩ := k0; exact DataW.trod_lt m _ _ _ hm
  have S0 : ∀ n ∈ d0.weights Try.prog 22, n ≤ 140737488351232 := weights_le hsz (j := 0) rfl rfl
  have k1 := h1
  have lt1 : ∀ x ∈ p1, x.block < W.heap.size := by obtain ⟨m, hm⟩ := k1; exact DataW.trod_lt m _ _ _ hm
  have S1 : ∀ n ∈ d1.weights Try.prog 3, n ≤ 140737488351232 := weights_le hsz (j := 1) rfl rfl
  obtain ⟨a0, len0, cap0, rfl⟩ := okWide_slice Try.underlying22 (hval 0 22 v0 rfl rfl)
  obtain ⟨fu0, hf0⟩ := h0
  obtain ⟨l0, rfl, hlc0, _, hs0, hcp0, hd0⟩ := open_bytes hf0
  have hc0 : cap0 ≤ 140737488351232 := by rw [hcp0]; exact places_le hd0 S0
  obtain ⟨a1, rfl, rfl, rfl, w1⟩ := open_int Try.underlying3 (hval 1 3 v1 rfl rfl) h1
  have b1 : -9223372036854775808 ≤ a1 ∧ a1 ≤ 9223372036854775807 := by simpa [Lit.wf, IntKind.min, IntKind.max, IntKind.signed, IntKind.bits] using w1
  refine (walk a0 cap0 l0 a1 W hs0 hlc0 hc0 b1.1 b1.2).mono fun e W' ⟨he, bel⟩ => ?_
  subst he
  exact ⟨_, rfl, _, _, _, [], _, [], hW', trodAll_mk1 (shut_bool Try.underlying4 _), (trodAll_cons_mk (Below.trod laidOut (by kernel_rfl) (of_decide_eq_true (by kernel_rfl)) k0 bel lt0) (trodAll_cons_mk (Below.trod laidOut (by kernel_rfl) (of_decide_eq_true (by kernel_rfl)) k1 bel lt1) trodAll_mk0)), rfl, bel.frame _, fun h => by cases h⟩

set_option maxRecDepth 100000 in
theorem lifted (os : Os) (started : os.Started) (H : Type) (enc : TypeId × Value → H) :
    ReturnsInHanded {} Try.checked os 6 .any (Rows.wireUniqueSpec.pre6 enc Try.prog Try.f6 Rows.wireUniqueRow.domain false) (Rows.wireUniqueSpec.post enc Try.prog Try.f6 false true false false) := by
  refine returnsInHanded_of_change_sized (C := Try.checked) own started (by kernel_rfl) Try.func6
    (ChangeSpec.witness6 (enc := enc) (C := Try.checked) false ⟨#[], #[.slice none 0 0, .int .i64 0], []⟩ 8 (by kernel_rfl) (by kernel_rfl) (by kernel_rfl) (by kernel_rfl)) ?_
  intro W base args ds gs before hval hW _ hsz _
  exact contract H enc W base args ds gs before hval hW hsz

/-- The statement. -/
theorem proved : Rows.WireUniqueSaid :=
  OpenClaim.holds_of_wide 6 Try.f6 rfl rfl rfl rfl rfl rfl rfl ⟨rfl, rfl, rfl, rfl, rfl⟩ rfl rfl rfl rfl rfl (by kernel_rfl) Try.func6 (by kernel_rfl)
    (of_decide_eq_true (by kernel_rfl)) (by unfold Func.isWrapper; rw [if_neg (of_decide_eq_false (by kernel_rfl))]; exact ⟨rfl, rfl⟩)
    (fun os started H enc _ => lifted os started H enc)

end Go.Proofs.Ytnnefhiffadihaa.wireUnique
