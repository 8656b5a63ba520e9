/-
  P4.2: the product is commutative and associative and distributes over the exclusive or, 1 is neutral, every byte except 0 has an inverse. For every input that the row lets in; no further condition.
-/
import Derived.Test.YtpchhphfmkjbjaaOpen
import Derived.Test.YtpchhphfmkjbjaaSaneW
namespace Go.Proofs.Ytpchhphfmkjbjaa.fieldA
open Go.ChangeShapes Go.WideShapes Go.ChangeAt Go.RowKit

theorem mul_up (a b : UInt8) (n m : Int) (w0 w : World) (hn : n = (a.toNat : Int)) (hm : m = (b.toNat : Int)) (h : Below w0.heap.size w0 w) : Calls Try.prog 12 #[.int .u8 n, .int .u8 m] w fun e w' => e = .returned (.int .u8 ((gmul a b).toNat : Int)) ∧ Below w0.heap.size w0 w' := by
  subst hn hm
  exact (Mul_any a b w).mono fun _ _ ⟨h1, h2⟩ => ⟨h1, step_al h h2⟩
theorem inv_up (a : UInt8) (w0 w : World) (h : Below w0.heap.size w0 w) : Calls Try.prog 14 #[.int .u8 (a.toNat : Int)] w fun e w' => e = .returned (.int .u8 ((ginv a).toNat : Int)) ∧ Below w0.heap.size w0 w' :=
  (Inv_any a w).mono fun _ _ ⟨h1, h2⟩ => ⟨h1, step_al h h2⟩
/-- The same, the result named otherwise. -/
theorem mul_eq (a b c : UInt8) (n m z : Int) (w0 w : World) (hn : n = (a.toNat : Int)) (hm : m = (b.toNat : Int)) (hc : gmul a b = c) (hz : z = (c.toNat : Int)) (h : Below w0.heap.size w0 w) : Calls Try.prog 12 #[.int .u8 n, .int .u8 m] w fun e w' => e = .returned (.int .u8 z) ∧ Below w0.heap.size w0 w' := by
  subst hz hc
  exact mul_up a b n m w0 w hn hm h
theorem inv_eq (a c : UInt8) (n z : Int) (w0 w : World) (hn : n = (a.toNat : Int)) (hc : ginv a = c) (hz : z = (c.toNat : Int)) (h : Below w0.heap.size w0 w) : Calls Try.prog 14 #[.int .u8 n] w fun e w' => e = .returned (.int .u8 z) ∧ Below w0.heap.size w0 w' := by
  subst hz hc hn
  exact inv_up a w0 w h

attribute [local irreducible] gmul ginv
attribute [local go_sem] u8_xor
set_option maxHeartbeats 2000000 in
set_option maxRecDepth 20000 in
theorem walk0 (b c : UInt8) (w : World) : Calls Try.prog 4 #[.int .u8 0, .int .u8 (b.toNat : Int), .int .u8 (c.toNat : Int)] w fun e w' => e = .returned (.bool true) ∧ Below w.heap.size w w' := by
  obtain ⟨Y, hY⟩ : ∃ Y, Hid (gmul b c = Y) := ⟨_, rfl⟩
  have z0 : bits .xor .u8 0 0 = 0 := by decide
  go_enter Try.func4, Try.ntmps4
  go_wp2_with (first
    | ((with_reducible show Calls _ 11 _ _ _); refine (sanity_any _).mono ?_; rintro e w' ⟨rfl, hb⟩; have HB := Lib.hid hb; clear hb)
    | ((with_reducible show Calls _ 14 #[.int .u8 0] _ _); refine (inv_eq 0 0 _ _ w _ rfl (ginv_zero) rfl HB.out).mono ?_; clear HB; rintro e w' ⟨rfl, hb⟩; have HB := Lib.hid hb; clear hb)
    | ((with_reducible show Calls _ 12 #[.int .u8 0, .int .u8 (b.toNat : Int)] _ _); refine (mul_eq 0 b 0 _ _ 0 w _ rfl rfl (zero_gmul b) rfl HB.out).mono ?_; clear HB; rintro e w' ⟨rfl, hb⟩; have HB := Lib.hid hb; clear hb)
    | ((with_reducible show Calls _ 12 #[.int .u8 (b.toNat : Int), .int .u8 0] _ _); refine (mul_eq b 0 0 _ _ 0 w _ rfl rfl (gmul_zero b) rfl HB.out).mono ?_; clear HB; rintro e w' ⟨rfl, hb⟩; have HB := Lib.hid hb; clear hb)
    | ((with_reducible show Calls _ 12 #[.int .u8 0, .int .u8 (c.toNat : Int)] _ _); refine (mul_eq 0 c 0 _ _ 0 w _ rfl rfl (zero_gmul c) rfl HB.out).mono ?_; clear HB; rintro e w' ⟨rfl, hb⟩; have HB := Lib.hid hb; clear hb)
    | ((with_reducible show Calls _ 12 #[.int .u8 (b.toNat : Int), .int .u8 (c.toNat : Int)] _ _); refine (mul_eq b c Y _ _ (Y.toNat : Int) w _ rfl rfl (hY.out) rfl HB.out).mono ?_; clear HB; rintro e w' ⟨rfl, hb⟩; have HB := Lib.hid hb; clear hb)
    | ((with_reducible show Calls _ 12 #[.int .u8 0, .int .u8 (Y.toNat : Int)] _ _); refine (mul_eq 0 Y 0 _ _ 0 w _ rfl rfl (zero_gmul Y) rfl HB.out).mono ?_; clear HB; rintro e w' ⟨rfl, hb⟩; have HB := Lib.hid hb; clear hb)
    | ((with_reducible show Calls _ 12 #[.int .u8 0, .int .u8 ((b.toNat ^^^ c.toNat : Nat) : Int)] _ _); refine (mul_eq 0 (b ^^^ c) 0 _ _ 0 w _ rfl (xor_nat b c) (zero_gmul _) rfl HB.out).mono ?_; clear HB; rintro e w' ⟨rfl, hb⟩; have HB := Lib.hid hb; clear hb)
    | ((with_reducible show Calls _ 12 #[.int .u8 0, .int .u8 1] _ _); refine (mul_eq 0 1 0 _ _ 0 w _ rfl rfl (zero_gmul 1) rfl HB.out).mono ?_; clear HB; rintro e w' ⟨rfl, hb⟩; have HB := Lib.hid hb; clear hb)
    | ((with_reducible show Calls _ 12 #[.int .u8 0, .int .u8 0] _ _); refine (mul_eq 0 0 0 _ _ 0 w _ rfl rfl (zero_gmul 0) rfl HB.out).mono ?_; clear HB; rintro e w' ⟨rfl, hb⟩; have HB := Lib.hid hb; clear hb))
  all_goals (go_ret; exact ⟨rfl, HB.out⟩)

set_option maxHeartbeats 2000000 in
set_option maxRecDepth 20000 in
theorem walk1 (a c : UInt8) (ha : a ≠ 0) (w : World) : Calls Try.prog 4 #[.int .u8 (a.toNat : Int), .int .u8 0, .int .u8 (c.toNat : Int)] w fun e w' => e = .returned (.bool true) ∧ Below w.heap.size w w' := by
  obtain ⟨q, hq⟩ : ∃ q, Hid (ginv a = q) := ⟨_, rfl⟩
  obtain ⟨s, hs⟩ : ∃ q, Hid (gmul a c = q) := ⟨_, rfl⟩
  have hqq : Hid (ginv q = a) := by rw [← hq.out]; exact ginv_ginv a
  have haq : Hid (gmul a q = 1) := by rw [← hq.out]; exact gmul_ginv ha
  have ia := beq_u8 ha
  have z1 : bits .xor .u8 0 (c.toNat : Int) = (c.toNat : Int) := by have := u8_xor 0 c; rw [UInt8.zero_xor] at this; exact this
  have z2 : bits .xor .u8 0 (s.toNat : Int) = (s.toNat : Int) := by have := u8_xor 0 s; rw [UInt8.zero_xor] at this; exact this
  clear ha
  go_enter Try.func4, Try.ntmps4
  go_wp2_with (first
    | ((with_reducible show Calls _ 11 _ _ _); refine (sanity_any _).mono ?_; rintro e w' ⟨rfl, hb⟩; have HB := Lib.hid hb; clear hb)
    | ((with_reducible show Calls _ 14 #[.int .u8 (a.toNat : Int)] _ _); refine (inv_eq a q _ _ w _ rfl (hq.out) rfl HB.out).mono ?_; clear HB; rintro e w' ⟨rfl, hb⟩; have HB := Lib.hid hb; clear hb)
    | ((with_reducible show Calls _ 14 #[.int .u8 (q.toNat : Int)] _ _); refine (inv_eq q a _ _ w _ rfl (hqq.out) rfl HB.out).mono ?_; clear HB; rintro e w' ⟨rfl, hb⟩; have HB := Lib.hid hb; clear hb)
    | ((with_reducible show Calls _ 12 #[.int .u8 (a.toNat : Int), .int .u8 (q.toNat : Int)] _ _); refine (mul_eq a q 1 _ _ 1 w _ rfl rfl (haq.out) rfl HB.out).mono ?_; clear HB; rintro e w' ⟨rfl, hb⟩; have HB := Lib.hid hb; clear hb)
    | ((with_reducible show Calls _ 12 #[.int .u8 (a.toNat : Int), .int .u8 (c.toNat : Int)] _ _); refine (mul_eq a c s _ _ (s.toNat : Int) w _ rfl rfl (hs.out) rfl HB.out).mono ?_; clear HB; rintro e w' ⟨rfl, hb⟩; have HB := Lib.hid hb; clear hb)
    | ((with_reducible show Calls _ 12 #[.int .u8 0, .int .u8 (a.toNat : Int)] _ _); refine (mul_eq 0 a 0 _ _ 0 w _ rfl rfl (zero_gmul a) rfl HB.out).mono ?_; clear HB; rintro e w' ⟨rfl, hb⟩; have HB := Lib.hid hb; clear hb)
    | ((with_reducible show Calls _ 12 #[.int .u8 0, .int .u8 (c.toNat : Int)] _ _); refine (mul_eq 0 c 0 _ _ 0 w _ rfl rfl (zero_gmul c) rfl HB.out).mono ?_; clear HB; rintro e w' ⟨rfl, hb⟩; have HB := Lib.hid hb; clear hb)
    | ((with_reducible show Calls _ 12 #[.int .u8 (a.toNat : Int), .int .u8 0] _ _); refine (mul_eq a 0 0 _ _ 0 w _ rfl rfl (gmul_zero a) rfl HB.out).mono ?_; clear HB; rintro e w' ⟨rfl, hb⟩; have HB := Lib.hid hb; clear hb)
    | ((with_reducible show Calls _ 12 #[.int .u8 (a.toNat : Int), .int .u8 1] _ _); refine (mul_eq a 1 a _ _ (a.toNat : Int) w _ rfl rfl (gmul_one a) rfl HB.out).mono ?_; clear HB; rintro e w' ⟨rfl, hb⟩; have HB := Lib.hid hb; clear hb))
  go_ret
  exact ⟨rfl, HB.out⟩

set_option maxHeartbeats 2000000 in
set_option maxRecDepth 20000 in
theorem walk2 (a b c : UInt8) (ha : a ≠ 0) (hb0 : b ≠ 0) (w : World) : Calls Try.prog 4 #[.int .u8 (a.toNat : Int), .int .u8 (b.toNat : Int), .int .u8 (c.toNat : Int)] w fun e w' => e = .returned (.bool true) ∧ Below w.heap.size w w' := by
  obtain ⟨q, hq⟩ : ∃ q, Hid (ginv a = q) := ⟨_, rfl⟩
  obtain ⟨s, hs⟩ : ∃ q, Hid (gmul a c = q) := ⟨_, rfl⟩
  obtain ⟨p, hp⟩ : ∃ q, Hid (gmul a b = q) := ⟨_, rfl⟩
  obtain ⟨Y, hY⟩ : ∃ q, Hid (gmul b c = q) := ⟨_, rfl⟩
  obtain ⟨X, hX⟩ : ∃ q, Hid (gmul p c = q) := ⟨_, rfl⟩
  have hp2 : Hid (gmul b a = p) := by rw [← hp.out]; exact gmul_comm b a
  have hX2 : Hid (gmul a Y = X) := by rw [← hX.out, ← hp.out, ← hY.out]; exact (gmul_assoc a b c).symm
  have hps : Hid (gmul a (b ^^^ c) = p ^^^ s) := by rw [← hp.out, ← hs.out]; exact gmul_xor a b c
  have hqq : Hid (ginv q = a) := by rw [← hq.out]; exact ginv_ginv a
  have haq : Hid (gmul a q = 1) := by rw [← hq.out]; exact gmul_ginv ha
  have ia := beq_u8 ha
  have ip : ((p.toNat : Int) != 0) = true := by
    have h0 : p ≠ 0 := by rw [← hp.out]; exact gmul_ne ha hb0
    have := beq_u8 h0
    simpa [bne] using this
  clear ha hb0
  go_enter Try.func4, Try.ntmps4
  go_wp2_with (first
    | ((with_reducible show Calls _ 11 _ _ _); refine (sanity_any _).mono ?_; rintro e w' ⟨rfl, hb⟩; have HB := Lib.hid hb; clear hb)
    | ((with_reducible show Calls _ 14 #[.int .u8 (a.toNat : Int)] _ _); refine (inv_eq a q _ _ w _ rfl (hq.out) rfl HB.out).mono ?_; clear HB; rintro e w' ⟨rfl, hb⟩; have HB := Lib.hid hb; clear hb)
    | ((with_reducible show Calls _ 14 #[.int .u8 (q.toNat : Int)] _ _); refine (inv_eq q a _ _ w _ rfl (hqq.out) rfl HB.out).mono ?_; clear HB; rintro e w' ⟨rfl, hb⟩; have HB := Lib.hid hb; clear hb)
    | ((with_reducible show Calls _ 12 #[.int .u8 (a.toNat : Int), .int .u8 (q.toNat : Int)] _ _); refine (mul_eq a q 1 _ _ 1 w _ rfl rfl (haq.out) rfl HB.out).mono ?_; clear HB; rintro e w' ⟨rfl, hb⟩; have HB := Lib.hid hb; clear hb)
    | ((with_reducible show Calls _ 12 #[.int .u8 (a.toNat : Int), .int .u8 (b.toNat : Int)] _ _); refine (mul_eq a b p _ _ (p.toNat : Int) w _ rfl rfl (hp.out) rfl HB.out).mono ?_; clear HB; rintro e w' ⟨rfl, hb⟩; have HB := Lib.hid hb; clear hb)
    | ((with_reducible show Calls _ 12 #[.int .u8 (b.toNat : Int), .int .u8 (a.toNat : Int)] _ _); refine (mul_eq b a p _ _ (p.toNat : Int) w _ rfl rfl (hp2.out) rfl HB.out).mono ?_; clear HB; rintro e w' ⟨rfl, hb⟩; have HB := Lib.hid hb; clear hb)
    | ((with_reducible show Calls _ 12 #[.int .u8 (p.toNat : Int), .int .u8 (c.toNat : Int)] _ _); refine (mul_eq p c X _ _ (X.toNat : Int) w _ rfl rfl (hX.out) rfl HB.out).mono ?_; clear HB; rintro e w' ⟨rfl, hb⟩; have HB := Lib.hid hb; clear hb)
    | ((with_reducible show Calls _ 12 #[.int .u8 (b.toNat : Int), .int .u8 (c.toNat : Int)] _ _); refine (mul_eq b c Y _ _ (Y.toNat : Int) w _ rfl rfl (hY.out) rfl HB.out).mono ?_; clear HB; rintro e w' ⟨rfl, hb⟩; have HB := Lib.hid hb; clear hb)
    | ((with_reducible show Calls _ 12 #[.int .u8 (a.toNat : Int), .int .u8 (Y.toNat : Int)] _ _); refine (mul_eq a Y X _ _ (X.toNat : Int) w _ rfl rfl (hX2.out) rfl HB.out).mono ?_; clear HB; rintro e w' ⟨rfl, hb⟩; have HB := Lib.hid hb; clear hb)
    | ((with_reducible show Calls _ 12 #[.int .u8 (a.toNat : Int), .int .u8 ((b.toNat ^^^ c.toNat : Nat) : Int)] _ _); refine (mul_eq a (b ^^^ c) (p ^^^ s) _ _ _ w _ rfl (xor_nat b c) (hps.out) (xor_nat p s) HB.out).mono ?_; clear HB; rintro e w' ⟨rfl, hb⟩; have HB := Lib.hid hb; clear hb)
    | ((with_reducible show Calls _ 12 #[.int .u8 (a.toNat : Int), .int .u8 (c.toNat : Int)] _ _); refine (mul_eq a c s _ _ (s.toNat : Int) w _ rfl rfl (hs.out) rfl HB.out).mono ?_; clear HB; rintro e w' ⟨rfl, hb⟩; have HB := Lib.hid hb; clear hb)
    | ((with_reducible show Calls _ 12 #[.int .u8 (a.toNat : Int), .int .u8 0] _ _); refine (mul_eq a 0 0 _ _ 0 w _ rfl rfl (gmul_zero a) rfl HB.out).mono ?_; clear HB; rintro e w' ⟨rfl, hb⟩; have HB := Lib.hid hb; clear hb)
    | ((with_reducible show Calls _ 12 #[.int .u8 (a.toNat : Int), .int .u8 1] _ _); refine (mul_eq a 1 a _ _ (a.toNat : Int) w _ rfl rfl (gmul_one a) rfl HB.out).mono ?_; clear HB; rintro e w' ⟨rfl, hb⟩; have HB := Lib.hid hb; clear hb))
  go_ret
  exact ⟨rfl, HB.out⟩

theorem walk (a b c : UInt8) (w : World) : Calls Try.prog 4 #[.int .u8 (a.toNat : Int), .int .u8 (b.toNat : Int), .int .u8 (c.toNat : Int)] w fun e w' => e = .returned (.bool true) ∧ Below w.heap.size w w' := by
  by_cases ha : a = 0
  · subst ha
    exact walk0 b c w
  · by_cases hb : b = 0
    · subst hb
      exact walk1 a c ha w
    · exact walk2 a b c ha hb w

set_option maxRecDepth 100000 in
theorem contract (H : Type) (enc : TypeId × Value → H) (W : World) (base : Nat) (args : Array Value) (ds gs : List (DataW H)) (before : List MemPlace)
    (hval : ∀ (j : Nat) t v, Try.f4.params[j]? = some t → args[j]? = some v → Value.okWide Try.prog W .any base t v)
    (hW : DataW.Whole enc Try.prog Try.f4.params.toList Rows.shareFieldSpec.vars false W args.toList ds gs before)
    (hsz : (DataW.weightsEach Try.prog (Try.f4.params.toList ++ Rows.shareFieldSpec.plain.varTypes Try.prog) (ds ++ gs)).all (· ≤ reachBytes) = true) :
    Calls Try.prog 4 args W fun e W' => ∃ v, e = .returned v ∧ Rows.shareFieldSpec.post enc Try.prog Try.f4 false true false false W args v W' := by
  have hW' := hW
  obtain ⟨p, q, hA0, hV, rfl, _, _⟩ := hW
  have hA : DataW.TrodAll enc Try.prog W 0 (fun _ => true) true Try.f4.params.toList args.toList ds p := hA0
  rw [Try.params4] at hA hval hsz
  obtain ⟨v0, vs0, d0, ds0, p0, q0, hargs, rfl, rfl, h0, r0⟩ := trodAll_cons hA
  obtain ⟨v1, vs1, d1, ds1, p1, q1, rfl, rfl, rfl, h1, r1⟩ := trodAll_cons r0
  obtain ⟨v2, vs2, d2, ds2, p2, q2, rfl, rfl, rfl, h2, r2⟩ := trodAll_cons r1
  obtain ⟨rfl, rfl, rfl⟩ := trodAll_nil r2
  obtain rfl : args = #[v0, v1, v2] := by cases args; simp_all
  obtain ⟨rfl, rfl⟩ := trodVars_none hV
  have k0 := h0
  have lt0 : ∀ x ∈ p0, x.block < W.heap.size := by obtain ⟨m, hm⟩ := k0; exact DataW.trod_lt m _ _ _ hm
  have S0 : ∀ n ∈ d0.weights Try.prog 5, n ≤ 140737488351232 := weights_le hsz (j := 0) rfl rfl
  have k1 := h1
  have lt1 : ∀ x ∈ p1, x.block < W.heap.size := by obtain ⟨m, hm⟩ := k1; exact DataW.trod_lt m _ _ _ hm
  have S1 : ∀ n ∈ d1.weights Try.prog 5, n ≤ 140737488351232 := weights_le hsz (j := 1) rfl rfl
  have k2 := h2
  have lt2 : ∀ x ∈ p2, x.block < W.heap.size := by obtain ⟨m, hm⟩ := k2; exact DataW.trod_lt m _ _ _ hm
  have S2 : ∀ n ∈ d2.weights Try.prog 5, n ≤ 140737488351232 := weights_le hsz (j := 2) rfl rfl
  obtain ⟨x0, rfl, rfl, rfl, w0⟩ := open_int Try.underlying5 (hval 0 5 v0 rfl rfl) h0
  obtain ⟨a0, rfl⟩ := open_u8 w0
  obtain ⟨x1, rfl, rfl, rfl, w1⟩ := open_int Try.underlying5 (hval 1 5 v1 rfl rfl) h1
  obtain ⟨a1, rfl⟩ := open_u8 w1
  obtain ⟨x2, rfl, rfl, rfl, w2⟩ := open_int Try.underlying5 (hval 2 5 v2 rfl rfl) h2
  obtain ⟨a2, rfl⟩ := open_u8 w2
  refine (walk a0 a1 a2 W ).mono fun e W' ⟨he, bel⟩ => ?_
  subst he
  exact ⟨_, rfl, _, _, _, [], _, [], hW', trodAll_mk1 (shut_bool Try.underlying4 _), (trodAll_cons_mk (Below.trod laidOut (by kernel_rfl) (of_decide_eq_true (by kernel_rfl)) k0 bel lt0) (trodAll_cons_mk (Below.trod laidOut (by kernel_rfl) (of_decide_eq_true (by kernel_rfl)) k1 bel lt1) (trodAll_cons_mk (Below.trod laidOut (by kernel_rfl) (of_decide_eq_true (by kernel_rfl)) k2 bel lt2) trodAll_mk0))), rfl, bel.frame _, fun h => by cases h⟩

set_option maxRecDepth 100000 in
theorem lifted (os : Os) (started : os.Started) (H : Type) (enc : TypeId × Value → H) :
    ReturnsInHanded {} Try.checked os 4 .any (Rows.shareFieldSpec.pre6 enc Try.prog Try.f4 Rows.shareFieldRow.domain false) (Rows.shareFieldSpec.post enc Try.prog Try.f4 false true false false) := by
  refine returnsInHanded_of_change_sized (C := Try.checked) own started (by kernel_rfl) Try.func4
    (ChangeSpec.witness6 (enc := enc) (C := Try.checked) false ⟨#[], #[.int .u8 0, .int .u8 0, .int .u8 0], []⟩ 8 (by kernel_rfl) (by kernel_rfl) (by kernel_rfl) (by kernel_rfl)) ?_
  intro W base args ds gs before hval hW _ hsz _
  exact contract H enc W base args ds gs before hval hW hsz

/-- The statement. -/
theorem proved : Rows.ShareFieldSaid :=
  OpenClaim.holds_of_wide 4 Try.f4 rfl rfl rfl rfl rfl rfl rfl ⟨rfl, rfl, rfl, rfl, rfl⟩ rfl rfl rfl rfl rfl (by kernel_rfl) Try.func4 (by kernel_rfl)
    (of_decide_eq_true (by kernel_rfl)) (by unfold Func.isWrapper; rw [if_neg (of_decide_eq_false (by kernel_rfl))]; exact ⟨rfl, rfl⟩)
    (fun os started H enc _ => lifted os started H enc)
end Go.Proofs.Ytpchhphfmkjbjaa.fieldA
