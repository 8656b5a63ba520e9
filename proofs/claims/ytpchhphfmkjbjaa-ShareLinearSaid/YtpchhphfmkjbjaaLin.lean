/-
  P4.5: the sums of corresponding shares of two secrets are shares of the sum. For every input that the row lets in; no further condition.
-/
import Derived.Test.YtpchhphfmkjbjaaLinM
import Derived.Test.YtpchhphfmkjbjaaOwnN
import Derived.Test.YtpchhphfmkjbjaaSameR
namespace Go.Proofs.Ytpchhphfmkjbjaa.lin
open Go.ChangeShapes Go.WideShapes Go.ChangeAt Go.RowKit

theorem Same_is (A C : Option Addr) (c d n : Nat) (l : List UInt8) (w : World) (hn : n = l.length) (h1 : Shows w w.heap.size A l) (h2 : Shows w w.heap.size C l) (hm : n ≤ 9223372036854775807) :
    Calls Try.prog 23 #[.slice A n c, .slice C n d] w fun e w' => e = .returned (.bool true) ∧ Below w.heap.size w w' := by
  refine (Same_any A n c l C n d l w h1 h2 hn hn hm hm).mono ?_
  rintro e w' ⟨rfl, m, rfl⟩
  exact ⟨by simp, below_drewN (Below.refl _ _) m⟩
theorem own_low {w : World} {base base' : Nat} {v : Value} {l : List UInt8} (h : Owns w base' v l) (hle : base ≤ base') : Owns w base v l := by
  refine ⟨h.1, ?_⟩
  rcases h.2 with h2 | ⟨g, cap, cur, e, hb2, r⟩
  · exact .inl h2
  · exact .inr ⟨g, cap, cur, e, Nat.le_trans hle hb2, r⟩
theorem shl_at {w : World} {B g i : Nat} {l : List Sh} {s : Sh} (h : ShL w B (some ⟨g, 0, none⟩) l) (hi : l[i]? = some s) : ShAt w B g (i * 2) s := by
  obtain ⟨b, off, e, _, h2⟩ := h.one hi
  injection e with e
  injection e with e1 e2
  subst e1 e2
  rw [Nat.zero_add] at h2
  exact h2
theorem al_n {base n : Nat} {w0 w : World} {v : Value} {L : List Sh} (h : FN base w0 w v L) (s : Sh) (A : Option Addr) (c : Nat) (hn : n = s.2.length) (ho : Owns w base (.slice A n c) s.2) :
    GN base w0 (w.alloc (.cells #[.int .u8 (s.1.toNat : Int), .slice A n c] 33)) v L s A c w.heap.size := by
  subst hn
  exact h.al s A c ho

/-- the law's two deals in their boxes -/
structure EB (w : World) (D E : Nat) (va vb vc vd ua ub uc ud : Value) : Prop where
  d0 : w.cell? ⟨D, 0, none⟩ = some va
  d1 : w.cell? ⟨D, 1, none⟩ = some vb
  d2 : w.cell? ⟨D, 2, none⟩ = some vc
  d3 : w.cell? ⟨D, 3, none⟩ = some vd
  e0 : w.cell? ⟨E, 0, none⟩ = some ua
  e1 : w.cell? ⟨E, 1, none⟩ = some ub
  e2 : w.cell? ⟨E, 2, none⟩ = some uc
  e3 : w.cell? ⟨E, 3, none⟩ = some ud
  lD : D < w.heap.size
  lE : E < w.heap.size
theorem EB.up {w w' : World} {D E : Nat} {a b c d a2 b2 c2 d2' : Value} (h : EB w D E a b c d a2 b2 c2 d2') (hb : Below w.heap.size w w') : EB w' D E a b c d a2 b2 c2 d2' :=
  ⟨(hb.cell (p := ⟨D, 0, none⟩) h.lD).trans h.d0, (hb.cell (p := ⟨D, 1, none⟩) h.lD).trans h.d1, (hb.cell (p := ⟨D, 2, none⟩) h.lD).trans h.d2, (hb.cell (p := ⟨D, 3, none⟩) h.lD).trans h.d3,
    (hb.cell (p := ⟨E, 0, none⟩) h.lE).trans h.e0, (hb.cell (p := ⟨E, 1, none⟩) h.lE).trans h.e1, (hb.cell (p := ⟨E, 2, none⟩) h.lE).trans h.e2, (hb.cell (p := ⟨E, 3, none⟩) h.lE).trans h.e3,
    Nat.lt_of_lt_of_le h.lD hb.size, Nat.lt_of_lt_of_le h.lE hb.size⟩
structure LB (w : World) (D E F : Nat) (va vb vc vd ua ub uc ud : Value) (P T : Nat) : Prop where
  x : EB w D E va vb vc vd ua ub uc ud
  f0 : w.cell? ⟨F, 0, none⟩ = some (.int .i64 (P : Int))
  f1 : w.cell? ⟨F, 1, none⟩ = some (.int .i64 (T : Int))
  lF : F < w.heap.size
theorem LB.up {w w' : World} {D E F P T : Nat} {a b c d a2 b2 c2 d2' : Value} (h : LB w D E F a b c d a2 b2 c2 d2' P T) (hb : Below w.heap.size w w') : LB w' D E F a b c d a2 b2 c2 d2' P T :=
  ⟨h.x.up hb, (hb.cell (p := ⟨F, 0, none⟩) h.lF).trans h.f0, (hb.cell (p := ⟨F, 1, none⟩) h.lF).trans h.f1, Nat.lt_of_lt_of_le h.lF hb.size⟩
theorem boxF {w1 w2 : World} {D E P T : Nat} {a b c d a2 b2 c2 d2' : Value} (h : EB w1 D E a b c d a2 b2 c2 d2') (hb : Below w1.heap.size w1 w2) :
    LB (w2.alloc (.cells #[.int .i64 (P : Int), .int .i64 (T : Int)] 30)) D E w2.heap.size a b c d a2 b2 c2 d2' P T := by
  have hb2 := step_al hb (ba1 w2 (.cells #[.int .i64 (P : Int), .int .i64 (T : Int)] 30))
  have hn := heap_alloc_new w2 (.cells #[.int .i64 (P : Int), .int .i64 (T : Int)] 30)
  exact ⟨h.up hb2, cell_of_row _ w2.heap.size 0 _ _ (0, 0) hn, cell_of_row _ w2.heap.size 1 _ _ (0, 0) hn, by rw [hz]; exact Nat.lt_succ_self _⟩
theorem sane_box2 (w : World) (a b c d a2 b2 c2 d2 : Value) : Calls Try.prog 11 #[] ((w.alloc (.cells #[a, b, c, d] 29)).alloc (.cells #[a2, b2, c2, d2] 29)) fun e w' => e = .returned (.bool true) ∧
    EB w' w.heap.size (w.heap.size + 1) a b c d a2 b2 c2 d2 ∧ Below w.heap.size w w' := by
  refine (sanity_any _).mono ?_
  rintro e w' ⟨h1, hb⟩
  obtain ⟨w0, hw0⟩ : ∃ w0, w0 = w.alloc (.cells #[a, b, c, d] 29) := ⟨_, rfl⟩
  have hn := heap_alloc_new w (.cells #[a, b, c, d] 29)
  rw [← hw0] at hb hn
  have hs : w0.heap.size = w.heap.size + 1 := by rw [hw0, hz]
  have hn2 := heap_alloc_new w0 (.cells #[a2, b2, c2, d2] 29)
  have hb1 := ba1 w0 (.cells #[a2, b2, c2, d2] 29)
  rw [hs] at hn2
  have l1 : w.heap.size < w0.heap.size := by omega
  have X : EB (w0.alloc (.cells #[a2, b2, c2, d2] 29)) w.heap.size (w.heap.size + 1) a b c d a2 b2 c2 d2 :=
    ⟨(hb1.cell (p := ⟨w.heap.size, 0, none⟩) l1).trans (cell_of_row _ w.heap.size 0 _ _ (0, 0) hn), (hb1.cell (p := ⟨w.heap.size, 1, none⟩) l1).trans (cell_of_row _ w.heap.size 1 _ _ (0, 0) hn),
      (hb1.cell (p := ⟨w.heap.size, 2, none⟩) l1).trans (cell_of_row _ w.heap.size 2 _ _ (0, 0) hn), (hb1.cell (p := ⟨w.heap.size, 3, none⟩) l1).trans (cell_of_row _ w.heap.size 3 _ _ (0, 0) hn),
      cell_of_row _ (w.heap.size + 1) 0 _ _ (0, 0) hn2, cell_of_row _ (w.heap.size + 1) 1 _ _ (0, 0) hn2, cell_of_row _ (w.heap.size + 1) 2 _ _ (0, 0) hn2, cell_of_row _ (w.heap.size + 1) 3 _ _ (0, 0) hn2, by rw [hz]; omega, by rw [hz]; omega⟩
  refine ⟨h1, X.up hb, step_al (step_al ?_ hb1) hb⟩
  rw [hw0]
  exact ba1 w _

attribute [local irreducible] splitL interpB wfB linL sumL
set_option maxHeartbeats 2000000 in
set_option maxRecDepth 20000 in
/-- A deal is too great, or the lengths differ: nothing is asked. -/
theorem walk_big (A : Option Addr) (ca : Nat) (sl : List UInt8) (B : Option Addr) (cb_ : Nat) (rl : List UInt8) (x y : UInt8) (A2 : Option Addr) (ca2 : Nat) (sl2 : List UInt8) (B2 : Option Addr) (cb2 : Nat) (rl2 : List UInt8) (x2 y2 : UInt8) (w : World)
    (hsl : sl.length ≤ 9223372036854775807) (hrl : rl.length ≤ 9223372036854775807) (hsl2 : sl2.length ≤ 9223372036854775807) (hrl2 : rl2.length ≤ 9223372036854775807)
    (hbig : ¬ (sl.length ≤ 40 ∧ rl.length ≤ 400 ∧ sl2.length ≤ 40 ∧ rl2.length ≤ 400 ∧ sl.length = sl2.length)) :
    Calls Try.prog 8 #[.agg #[.slice A sl.length ca, .slice B rl.length cb_, .int .u8 (x.toNat : Int), .int .u8 (y.toNat : Int)], .agg #[.slice A2 sl2.length ca2, .slice B2 rl2.length cb2, .int .u8 (x2.toNat : Int), .int .u8 (y2.toNat : Int)]] w fun e w' => e = .returned (.bool true) ∧ Below w.heap.size w w' := by
  obtain ⟨P, hP⟩ : ∃ P, P = 1 + x.toNat % 8 := ⟨_, rfl⟩
  obtain ⟨T, hT⟩ : ∃ T, T = P + y.toNat % 9 := ⟨_, rfl⟩
  obtain ⟨z, hzz⟩ : ∃ z, (decide (sl.length ≤ 40) && decide (rl.length ≤ 400)) = z := ⟨_, rfl⟩
  obtain ⟨P2, hP2⟩ : ∃ P, P = 1 + x2.toNat % 8 := ⟨_, rfl⟩
  obtain ⟨T2, hT2⟩ : ∃ T, T = P2 + y2.toNat % 9 := ⟨_, rfl⟩
  obtain ⟨z2, hzz2⟩ : ∃ z, (decide (sl2.length ≤ 40) && decide (rl2.length ≤ 400)) = z := ⟨_, rfl⟩
  have HF := Lib.hid (fun w1 => fits_is A B sl.length ca rl.length cb_ P T x y z w1 hP hT hsl hrl hzz)
  have HF2 := Lib.hid (fun w1 => fits_is A2 B2 sl2.length ca2 rl2.length cb2 P2 T2 x2 y2 z2 w1 hP2 hT2 hsl2 hrl2 hzz2)
  have hzn : z = true → z2 = true → ¬ (sl.length : Int) = (sl2.length : Int) := by
    intro h h2
    rw [h] at hzz
    rw [h2] at hzz2
    simp at hzz hzz2
    omega
  generalize sl.length = N at *
  generalize sl2.length = N2 at *
  generalize rl.length = R at *
  generalize rl2.length = R2 at *
  clear hP hT hzz hP2 hT2 hzz2 hbig
  cases z with
  | false =>
    clear hzn
    go_enter Try.func8, Try.ntmps8
    go_wp2_with (first
      | ((with_reducible show Calls _ 11 _ _ _); refine (sane_box2 w _ _ _ _ _ _ _ _).mono ?_; rintro e w1 ⟨rfl, hx1, hb1⟩; have HB1 := Lib.hid hb1; have X1 := Lib.hid hx1; have c0 := hx1.d0; have c1 := hx1.d1; have c2 := hx1.d2; have c3 := hx1.d3; clear hb1 hx1)
      | ((with_reducible show Calls _ 24 #[.agg #[.slice A _ _, _, _, _]] _ _); refine (HF.out _).mono ?_; rintro e w2 ⟨rfl, hb2⟩; have HB2 := Lib.hid (step_al (step_al HB1.out hb2) (ba1 w2 (.cells #[.int .i64 (P : Int), .int .i64 (T : Int)] 30))); have X2 := Lib.hid (boxF (P := P) (T := T) X1.out hb2); have u0 := X2.out.x.e0; have u1 := X2.out.x.e1; have u2 := X2.out.x.e2; have u3 := X2.out.x.e3; clear hb2)
      | ((with_reducible show Calls _ 24 _ _ _); refine (HF2.out _).mono ?_; rintro e w3 ⟨rfl, hb3⟩; have HB3 := Lib.hid (step_al (step_al HB2.out hb3) (ba1 w3 (.cells #[.int .i64 (P2 : Int), .int .i64 (T2 : Int)] 30))); clear hb3))
    go_ret
    exact ⟨rfl, HB3.out⟩
  | true =>
    cases z2 with
    | false =>
      clear hzn
      go_enter Try.func8, Try.ntmps8
      go_wp2_with (first
        | ((with_reducible show Calls _ 11 _ _ _); refine (sane_box2 w _ _ _ _ _ _ _ _).mono ?_; rintro e w1 ⟨rfl, hx1, hb1⟩; have HB1 := Lib.hid hb1; have X1 := Lib.hid hx1; have c0 := hx1.d0; have c1 := hx1.d1; have c2 := hx1.d2; have c3 := hx1.d3; clear hb1 hx1)
        | ((with_reducible show Calls _ 24 #[.agg #[.slice A _ _, _, _, _]] _ _); refine (HF.out _).mono ?_; rintro e w2 ⟨rfl, hb2⟩; have HB2 := Lib.hid (step_al (step_al HB1.out hb2) (ba1 w2 (.cells #[.int .i64 (P : Int), .int .i64 (T : Int)] 30))); have X2 := Lib.hid (boxF (P := P) (T := T) X1.out hb2); have u0 := X2.out.x.e0; have u1 := X2.out.x.e1; have u2 := X2.out.x.e2; have u3 := X2.out.x.e3; clear hb2)
        | ((with_reducible show Calls _ 24 _ _ _); refine (HF2.out _).mono ?_; rintro e w3 ⟨rfl, hb3⟩; have HB3 := Lib.hid (step_al (step_al HB2.out hb3) (ba1 w3 (.cells #[.int .i64 (P2 : Int), .int .i64 (T2 : Int)] 30))); clear hb3))
      go_ret
      exact ⟨rfl, HB3.out⟩
    | true =>
      have hnn := hzn rfl rfl
      clear hzn
      go_enter Try.func8, Try.ntmps8
      go_wp2_with (first
        | ((with_reducible show Calls _ 11 _ _ _); refine (sane_box2 w _ _ _ _ _ _ _ _).mono ?_; rintro e w1 ⟨rfl, hx1, hb1⟩; have HB1 := Lib.hid hb1; have X1 := Lib.hid hx1; have c0 := hx1.d0; have c1 := hx1.d1; have c2 := hx1.d2; have c3 := hx1.d3; clear hb1 hx1)
        | ((with_reducible show Calls _ 24 #[.agg #[.slice A _ _, _, _, _]] _ _); refine (HF.out _).mono ?_; rintro e w2 ⟨rfl, hb2⟩; have HB2 := Lib.hid (step_al (step_al HB1.out hb2) (ba1 w2 (.cells #[.int .i64 (P : Int), .int .i64 (T : Int)] 30))); have X2 := Lib.hid (boxF (P := P) (T := T) X1.out hb2); have u0 := X2.out.x.e0; have u1 := X2.out.x.e1; have u2 := X2.out.x.e2; have u3 := X2.out.x.e3; clear hb2)
        | ((with_reducible show Calls _ 24 _ _ _); refine (HF2.out _).mono ?_; rintro e w3 ⟨rfl, hb3⟩; have HB3 := Lib.hid (step_al (step_al HB2.out hb3) (ba1 w3 (.cells #[.int .i64 (P2 : Int), .int .i64 (T2 : Int)] 30))); have X3 := Lib.hid (X2.out.up (step_al hb3 (ba1 w3 (.cells #[.int .i64 (P2 : Int), .int .i64 (T2 : Int)] 30)))); have v0 := X3.out.x.d0; have v1 := X3.out.x.e0; clear hb3))
      go_ret
      exact ⟨rfl, HB3.out⟩

set_option maxHeartbeats 4000000 in
set_option maxRecDepth 20000 in
theorem walk_small (A : Option Addr) (ca : Nat) (sl : List UInt8) (B : Option Addr) (cb_ : Nat) (rl : List UInt8) (x y : UInt8) (A2 : Option Addr) (ca2 : Nat) (sl2 : List UInt8) (B2 : Option Addr) (cb2 : Nat) (rl2 : List UInt8) (x2 y2 : UInt8) (w : World)
    (h1 : sl.length ≤ 40) (h2 : rl.length ≤ 400) (h3 : sl2.length ≤ 40) (h4 : rl2.length ≤ 400) (he : sl.length = sl2.length)
    (hsA : Shows w w.heap.size A sl) (hcA : sl.length ≤ ca) (hmA : ca ≤ 140737488351232) (hsB : Shows w w.heap.size B rl) (hcB : rl.length ≤ cb_) (hmB : cb_ ≤ 140737488351232)
    (hsA2 : Shows w w.heap.size A2 sl2) (hcA2 : sl2.length ≤ ca2) (hmA2 : ca2 ≤ 140737488351232) (hsB2 : Shows w w.heap.size B2 rl2) (hcB2 : rl2.length ≤ cb2) (hmB2 : cb2 ≤ 140737488351232) :
    Calls Try.prog 8 #[.agg #[.slice A sl.length ca, .slice B rl.length cb_, .int .u8 (x.toNat : Int), .int .u8 (y.toNat : Int)], .agg #[.slice A2 sl2.length ca2, .slice B2 rl2.length cb2, .int .u8 (x2.toNat : Int), .int .u8 (y2.toNat : Int)]] w fun e w' => e = .returned (.bool true) ∧ Below w.heap.size w w' := by
  obtain ⟨P, hP⟩ : ∃ P, P = 1 + x.toNat % 8 := ⟨_, rfl⟩
  obtain ⟨T, hT⟩ : ∃ T, T = P + y.toNat % 9 := ⟨_, rfl⟩
  obtain ⟨P2, hP2⟩ : ∃ P, P = 1 + x2.toNat % 8 := ⟨_, rfl⟩
  obtain ⟨T2, hT2⟩ : ∃ T, T = P2 + y2.toNat % 9 := ⟨_, rfl⟩
  have hP1 : 1 ≤ P := by omega
  have hPT : P ≤ T := by omega
  have hT16 : T ≤ 16 := by omega
  have hzz : (decide (sl.length ≤ 40) && decide (rl.length ≤ 400)) = true := by simp [h1, h2]
  have hzz2 : (decide (sl2.length ≤ 40) && decide (rl2.length ≤ 400)) = true := by simp [h3, h4]
  obtain ⟨N, hN⟩ : ∃ N, N = sl.length := ⟨_, rfl⟩
  have hN2 : N = sl2.length := hN.trans he
  obtain ⟨R, hR⟩ : ∃ N, N = rl.length := ⟨_, rfl⟩
  obtain ⟨R2, hR2⟩ : ∃ N, N = rl2.length := ⟨_, rfl⟩
  have HF := Lib.hid (fun w1 => fits_is A B sl.length ca rl.length cb_ P T x y true w1 hP hT (by omega) (by omega) hzz)
  have HF2 := Lib.hid (fun w1 => fits_is A2 B2 sl2.length ca2 rl2.length cb2 P2 T2 x2 y2 true w1 hP2 hT2 (by omega) (by omega) hzz2)
  have HS : Hid (∀ w1, Below w.heap.size w w1 → Calls Try.prog 16 #[.slice A N ca, .slice B R cb_, .agg #[.int .i64 (P : Int), .int .i64 (T : Int)]] w1
      fun e w' => ∃ g, e = .returned (.tuple #[.slice (some ⟨g, 0, none⟩) T T, .int .i64 0]) ∧ ShL w' w'.heap.size (some ⟨g, 0, none⟩) (splitL sl rl P T) ∧ Below w1.heap.size w1 w') := fun w1 hb =>
    split_is A N ca sl B R cb_ rl P T w1 hN hR (hsA.up hb) (by omega) ⟨hcA, by omega⟩ (hsB.up hb) (by omega) ⟨hcB, by omega⟩ hP1 hPT (by omega)
  have HS2 : Hid (∀ w1, Below w.heap.size w w1 → Calls Try.prog 16 #[.slice A2 N ca2, .slice B2 R2 cb2, .agg #[.int .i64 (P : Int), .int .i64 (T : Int)]] w1
      fun e w' => ∃ g, e = .returned (.tuple #[.slice (some ⟨g, 0, none⟩) T T, .int .i64 0]) ∧ ShL w' w'.heap.size (some ⟨g, 0, none⟩) (splitL sl2 rl2 P T) ∧ Below w1.heap.size w1 w') := fun w1 hb =>
    split_is A2 N ca2 sl2 B2 R2 cb2 rl2 P T w1 hN2 hR2 (hsA2.up hb) (by omega) ⟨hcA2, by omega⟩ (hsB2.up hb) (by omega) ⟨hcB2, by omega⟩ hP1 hPT (by omega)
  have HA := Lib.hid hsA
  have HA2 := Lib.hid hsA2
  have HN := Lib.hid hN
  have HN2 := Lib.hid hN2
  have hN40 : N ≤ 40 := by omega
  have HC := Lib.hid (And.intro hcA (And.intro hmA (And.intro hcA2 hmA2)))
  have HSUM : Hid (∀ w1, Below w.heap.size w w1 → Calls Try.prog 27 #[.slice A N ca, .slice A2 N ca2] w1 fun e w' => ∃ A' c', e = .returned (.slice A' N c') ∧ Owns w' w1.heap.size (.slice A' N c') (sumL sl sl2) ∧ Below w1.heap.size w1 w') := fun w1 hb =>
    Sum_any A A2 N N ca ca2 sl sl2 w1 hN hN2 (hsA.up hb) (hsA2.up hb) (by omega) (by omega)
  have HLB := Lib.hid (lin_back (s1 := sl) (r1 := rl) (s2 := sl2) (r2 := rl2) hP1 hPT (by omega : T ≤ 255) he)
  rw [← hN, ← hR] at HF
  rw [← hN2, ← hR2] at HF2
  rw [← hN] at HLB
  rw [← hN, ← hR, ← hN2, ← hR2]
  clear hP hT hP2 hT2 hzz hzz2 hsA hsB hsA2 hsB2 hN hN2 hR hR2 h1 h2 h3 h4 he hcA hmA hcB hmB hcA2 hmA2 hcB2 hmB2
  go_enter Try.func8, Try.ntmps8
  go_wp2_with (first
    | ((with_reducible show Calls _ 11 _ _ _); refine (sane_box2 w _ _ _ _ _ _ _ _).mono ?_; rintro e w1 ⟨rfl, hx1, hb1⟩; have HB1 := Lib.hid hb1; have X1 := Lib.hid hx1; have c0 := hx1.d0; have c1 := hx1.d1; have c2 := hx1.d2; have c3 := hx1.d3; clear hb1 hx1)
    | ((with_reducible show Calls _ 24 #[.agg #[.slice A _ _, _, _, _]] _ _); refine (HF.out _).mono ?_; rintro e w2 ⟨rfl, hb2⟩; have HB2 := Lib.hid (step_al (step_al HB1.out hb2) (ba1 w2 (.cells #[.int .i64 (P : Int), .int .i64 (T : Int)] 30))); have X2 := Lib.hid (boxF (P := P) (T := T) X1.out hb2); have u0 := X2.out.x.e0; have u1 := X2.out.x.e1; have u2 := X2.out.x.e2; have u3 := X2.out.x.e3; clear hb2)
    | ((with_reducible show Calls _ 24 _ _ _); refine (HF2.out _).mono ?_; rintro e w3 ⟨rfl, hb3⟩; have HB3 := Lib.hid (step_al (step_al HB2.out hb3) (ba1 w3 (.cells #[.int .i64 (P2 : Int), .int .i64 (T2 : Int)] 30))); have X3 := Lib.hid (X2.out.up (step_al hb3 (ba1 w3 (.cells #[.int .i64 (P2 : Int), .int .i64 (T2 : Int)] 30)))); have v0 := X3.out.x.d0; have v1 := X3.out.x.e0; have v2 := X3.out.x.d1; have v3 := X3.out.f0; have v4 := X3.out.f1; clear hb3)
    | ((with_reducible show Calls _ 16 #[.slice A _ _, _, _] _ _); refine (HS.out _ HB3.out).mono ?_; rintro e w4 ⟨g4, rfl, hl4, hb4⟩; have HL4 := Lib.hid hl4; have HB4 := Lib.hid (step_al HB3.out hb4); have X4 := Lib.hid (X3.out.up hb4); have y0 := X4.out.x.e0; have y1 := X4.out.x.e1; have y2 := X4.out.f0; have y3 := X4.out.f1; clear hl4 hb4)
    | ((with_reducible show Calls _ 16 _ _ _); refine (HS2.out _ HB4.out).mono ?_; rintro e w5 ⟨g5, rfl, hl5, hb5⟩; have HL5 := Lib.hid hl5; have HL45 := Lib.hid (HL4.out.up hb5); have HB5 := Lib.hid (step_al HB4.out hb5); have X5 := Lib.hid (X4.out.up hb5); have z1 := X5.out.f1; clear hl5 hb5))
  have hown : Hid (OwnN (w5.alloc (.cells #[] 33)) w5.heap.size (.slice (some ⟨w5.heap.size, 0, none⟩) 0 0) (linL sl rl sl2 rl2 P 0)) := by unfold linL; exact own_newN w5
  have hbel : Hid (Below w5.heap.size w5 (w5.alloc (.cells #[] 33))) := ba1 w5 _
  generalize (w5.alloc (.cells #[] 33)) = w6 at *
  clear c0 c1 c2 c3 u0 u1 u2 u3 v0 v1 v2 v3 v4 y0 y1 y2 y3 z1
  go_loopw [14, 15] (fun v i wr => ∃ (k : Nat) (A' : Option Addr) (c' : Nat), k ≤ T ∧ i = .int .i64 k ∧ v = .slice A' k c' ∧ Hid (OwnN wr w5.heap.size (.slice A' k c') (linL sl rl sl2 rl2 P k)) ∧ Hid (Below w5.heap.size w5 wr)) (fun _ i _ => T - (intOf i).toNat)
  case atStart => exact ⟨0, _, _, by omega, rfl, rfl, hown, hbel⟩
  case round =>
    clear hown hbel
    obtain ⟨k, A', c', hk, rfl, rfl, hown, hbw⟩ := hrel
    obtain ⟨wo, hwo⟩ : ∃ wo : World, wo = wr := ⟨_, rfl⟩
    subst hwo
    have X6 := Lib.hid (X5.out.up hbw.out)
    by_cases hlt : k < T
    · have j1 : (k : Int) < (T : Int) := by omega
      obtain ⟨s, hs⟩ : ∃ s, s = linS sl rl sl2 rl2 P k := ⟨_, rfl⟩
      obtain ⟨p1, hp1⟩ : ∃ p, p = maskB (UInt8.ofNat (k + 1)) (P - 1) rl sl := ⟨_, rfl⟩
      obtain ⟨p2, hp2⟩ : ∃ p, p = maskB (UInt8.ofNat (k + 1)) (P - 1) rl2 sl2 := ⟨_, rfl⟩
      have e1 : (splitL sl rl P T)[k]? = some (s.1, p1) := by rw [hs, hp1]; exact split_get _ _ _ _ _ hlt
      have e2 : (splitL sl2 rl2 P T)[k]? = some (s.1, p2) := by rw [hs, hp2]; exact split_get _ _ _ _ _ hlt
      have n1 : N = p1.length := by rw [hp1, maskB_len]; exact HN.out
      have n2 : N = p2.length := by rw [hp2, maskB_len]; exact HN2.out
      have hsum : s.2 = sumL p1 p2 := by rw [hs, hp1, hp2]; rfl
      have HSM := Lib.hid hsum
      have HSL : Hid (N = s.2.length) := by show N = _; rw [hsum, sumL_len]; exact n1
      have HE : Hid (linL sl rl sl2 rl2 P k ++ [s] = linL sl rl sl2 rl2 P (k + 1)) := by show _ = _; rw [hs]; exact linL_snoc _ _ _ _ _ _
      obtain ⟨cx, Q1, b1, cy, hsh1, _, _⟩ := shl_at HL45.out e1
      obtain ⟨dx, Q2, b2, dy, hsh2, _, _⟩ := shl_at HL5.out e2
      have HSU : Hid (∀ w1, Below w5.heap.size w5 w1 → Calls Try.prog 27 #[.slice Q1 N b1, .slice Q2 N b2] w1 fun e w' => ∃ A' c', e = .returned (.slice A' N c') ∧ Owns w' w1.heap.size (.slice A' N c') (sumL p1 p2) ∧ Below w1.heap.size w1 w') := fun w1 hb =>
        Sum_any Q1 Q2 N N b1 b2 p1 p2 w1 n1 n2 (hsh1.up hb) (hsh2.up hb) (by omega) (by omega)
      simp only at cy dy cx dx
      rw [← n1] at cy
      rw [← n2] at dy
      clear hs hp1 hp2 e1 e2 n1 n2 hsum hsh1 hsh2
      have HCELL : Hid (∀ w1, Below w5.heap.size w5 w1 → w1.cell? ⟨g4, k * 2, none⟩ = some (.int .u8 (s.1.toNat : Int)) ∧ w1.cell? ⟨g4, k * 2 + 1, none⟩ = some (.slice Q1 N b1) ∧ w1.cell? ⟨g5, k * 2, none⟩ = some (.int .u8 (s.1.toNat : Int)) ∧ w1.cell? ⟨g5, k * 2 + 1, none⟩ = some (.slice Q2 N b2)) := fun w1 hb =>
        ⟨(hb.cell (p := ⟨g4, k * 2, none⟩) (World.block_lt_of_cell? w5 _ cx)).trans cx, (hb.cell (p := ⟨g4, k * 2 + 1, none⟩) (World.block_lt_of_cell? w5 _ cy)).trans cy, (hb.cell (p := ⟨g5, k * 2, none⟩) (World.block_lt_of_cell? w5 _ dx)).trans dx, (hb.cell (p := ⟨g5, k * 2 + 1, none⟩) (World.block_lt_of_cell? w5 _ dy)).trans dy⟩
      clear cx cy dx dy
      obtain ⟨cx, cy, dx, dy⟩ := HCELL.out wo hbw.out
      have q0 := X6.out.x.d0
      go_wp2
      go_quiet (fail)
      go_wp2
      clear HF HF2 HS HS2 HA HA2 HN HN2 HC HSUM HLB X1 X2 X3 HB1 HB2 HB3 HB4 HL4 HL5 HL45 cx cy dx dy q0 X6
      have hbd : Hid (Below w5.heap.size w5 (wo.drewN nq)) := below_drewN hbw.out nq
      have FF : FN w5.heap.size w5 (wo.drewN nq) (.slice A' k c') (linL sl rl sl2 rl2 P k) := ⟨hbd.out, hown.out.up (below_drewN (Below.refl _ _) nq), hbd.out.size⟩
      generalize wo.drewN nq = wd at *
      have FH := Lib.hid FF
      clear FF hown hbw
      obtain ⟨cx, cy, dx, dy⟩ := HCELL.out wd hbd.out
      have HLE := Lib.hid FH.out.top
      go_region_held_law (fun w' => w'.cell? ⟨g4, k * 2, none⟩ = some (.int .u8 (s.1.toNat : Int)) ∧ w'.cell? ⟨g4, k * 2 + 1, none⟩ = some (.slice Q1 N b1) ∧ w'.cell? ⟨g5, k * 2, none⟩ = some (.int .u8 (s.1.toNat : Int)) ∧ w'.cell? ⟨g5, k * 2 + 1, none⟩ = some (.slice Q2 N b2))
        (first | exact hS8 | exact hS7 | go_keep)
        (first
          | (go_at_call 27; refine (HSU.out _ (by first | exact hbd.out | exact hbd.out.drew | exact hbd.out.drew.drew | exact hbd.out.drew.drew.drew)).mono ?_; rintro e w7 ⟨A7, c7, rfl, ho7, hb7⟩; have HF7 : Hid (FN w5.heap.size w5 w7 (.slice A' k c') (linL sl rl sl2 rl2 P k)) := (by first | exact FH.out.up hb7 | exact FH.out.dr.up hb7 | exact FH.out.dr.dr.up hb7 | exact FH.out.dr.dr.dr.up hb7); have HO7 : Hid (Owns w7 w5.heap.size (.slice A7 N c7) s.2) := (by show Owns _ _ _ _; rw [HSM.out]; exact own_low ho7 HLE.out); have hS7 := HCELL.out w7 HF7.out.bel; clear ho7 hb7)
          | (refine step_growN rfl (.tmp 125) (.tmp 143) rfl w5.heap.size w5 _ (linL sl rl sl2 rl2 P k) s A7 c7 w7.heap.size rfl rfl (by first | exact al_n HF7.out s A7 c7 HSL.out HO7.out | exact (al_n HF7.out s A7 c7 HSL.out HO7.out).dr | exact al_n HF7.out.dr s A7 c7 HSL.out HO7.out | exact (al_n HF7.out.dr s A7 c7 HSL.out HO7.out).dr | exact al_n HF7.out.dr.dr s A7 c7 HSL.out HO7.out | exact (al_n HF7.out.dr.dr s A7 c7 HSL.out HO7.out).dr) (by rw [linL_len]; omega) ?_; intro A8 c8 w8 ho8 hb8; have HO8 := Lib.hid ho8; have HB8 := Lib.hid hb8; have hS8 := HCELL.out w8 hb8; clear ho8 hb8))
      go_wp2_with fail
      go_roundw
      case rel =>
        have h9 := HO8.out
        rw [HE.out, linL_len] at h9
        exact ⟨k + 1, A8, c8, by omega, by go_num, by simp [linL_len], h9, HB8⟩
      case measure => simp [intOf]; omega
    · have hkT : k = T := by omega
      have j1 : ¬ (k : Int) < (T : Int) := by omega
      subst hkT
      obtain ⟨-, hc1, hc2, hsl⟩ := hown.out.shl
      rw [linL_len] at hc1
      have hcm := combine_ok A' k c' (linL sl rl sl2 rl2 P k) P N wo (linL_len _ _ _ _ _ _).symm hsl (by rw [linL_len]; omega) ⟨hc1, hc2⟩ (fun s hs => by rw [linL_lens hs, HN.out]) (by omega) hP1 (by omega) HLB.out.1 hPT HLB.out.2.1
      rw [HLB.out.2.2] at hcm
      have HK := Lib.hid hcm
      have HB6 := Lib.hid (step_al HB5.out hbw.out)
      have q0 := X6.out.f0
      clear hcm hsl
      go_wp2_with (first
        | ((with_reducible show Calls _ 18 _ _ _); refine HK.out.mono ?_; rintro e w7 ⟨g7, rfl, hk7, _, hb7⟩; have HK7 := Lib.hid hk7; have HB7 := Lib.hid (step_al HB6.out hb7); have X7 := Lib.hid (X6.out.up hb7); have r0 := X7.out.x.d0; have r1 := X7.out.x.e0; clear hk7 hb7)
        | ((with_reducible show Calls _ 27 _ _ _); refine (HSUM.out _ HB7.out).mono ?_; rintro e w8 ⟨A8, c8, rfl, ho8, hb8⟩; have HO8 := Lib.hid ho8; have HK8 := Lib.hid (HK7.out.shows.up hb8); have HB8 := Lib.hid (step_al HB7.out hb8); clear ho8 hb8)
        | ((with_reducible show Calls _ 23 _ _ _); refine (Same_is (some ⟨g7, 0, none⟩) A8 N c8 N (sumL sl sl2) w8 (by rw [sumL_len]; exact HN.out) HK8.out HO8.out.shows.2.2 (by omega)).mono ?_; rintro e w9 ⟨rfl, hb9⟩; have HB9 := Lib.hid (step_al HB8.out hb9); clear hb9))
      go_ret
      exact ⟨rfl, HB9.out⟩

theorem walk (A : Option Addr) (ca : Nat) (sl : List UInt8) (B : Option Addr) (cb_ : Nat) (rl : List UInt8) (x y : UInt8) (A2 : Option Addr) (ca2 : Nat) (sl2 : List UInt8) (B2 : Option Addr) (cb2 : Nat) (rl2 : List UInt8) (x2 y2 : UInt8) (w : World)
    (hsA : Shows w w.heap.size A sl) (hcA : sl.length ≤ ca) (hmA : ca ≤ 140737488351232) (hsB : Shows w w.heap.size B rl) (hcB : rl.length ≤ cb_) (hmB : cb_ ≤ 140737488351232)
    (hsA2 : Shows w w.heap.size A2 sl2) (hcA2 : sl2.length ≤ ca2) (hmA2 : ca2 ≤ 140737488351232) (hsB2 : Shows w w.heap.size B2 rl2) (hcB2 : rl2.length ≤ cb2) (hmB2 : cb2 ≤ 140737488351232) :
    Calls Try.prog 8 #[.agg #[.slice A sl.length ca, .slice B rl.length cb_, .int .u8 (x.toNat : Int), .int .u8 (y.toNat : Int)], .agg #[.slice A2 sl2.length ca2, .slice B2 rl2.length cb2, .int .u8 (x2.toNat : Int), .int .u8 (y2.toNat : Int)]] w fun e w' => e = .returned (.bool true) ∧ Below w.heap.size w w' := by
  by_cases h : sl.length ≤ 40 ∧ rl.length ≤ 400 ∧ sl2.length ≤ 40 ∧ rl2.length ≤ 400 ∧ sl.length = sl2.length
  · exact walk_small A ca sl B cb_ rl x y A2 ca2 sl2 B2 cb2 rl2 x2 y2 w h.1 h.2.1 h.2.2.1 h.2.2.2.1 h.2.2.2.2 hsA hcA hmA hsB hcB hmB hsA2 hcA2 hmA2 hsB2 hcB2 hmB2
  · exact walk_big A ca sl B cb_ rl x y A2 ca2 sl2 B2 cb2 rl2 x2 y2 w (by omega) (by omega) (by omega) (by omega) h

set_option maxRecDepth 100000 in
theorem contract (H : Type) (enc : TypeId × Value → H) (W : World) (base : Nat) (args : Array Value) (ds gs : List (DataW H)) (before : List MemPlace)
    (hval : ∀ (j : Nat) t v, Try.f8.params[j]? = some t → args[j]? = some v → Value.okWide Try.prog W .any base t v)
    (hW : DataW.Whole enc Try.prog Try.f8.params.toList Rows.shareLinearSpec.vars false W args.toList ds gs before)
    (hsz : (DataW.weightsEach Try.prog (Try.f8.params.toList ++ Rows.shareLinearSpec.plain.varTypes Try.prog) (ds ++ gs)).all (· ≤ reachBytes) = true) :
    Calls Try.prog 8 args W fun e W' => ∃ v, e = .returned v ∧ Rows.shareLinearSpec.post enc Try.prog Try.f8 false true false false W args v W' := by
  have hW' := hW
  obtain ⟨p, q, hA0, hV, rfl, _, _⟩ := hW
  have hA : DataW.TrodAll enc Try.prog W 0 (fun _ => true) true Try.f8.params.toList args.toList ds p := hA0
  rw [Try.params8] at hA hval hsz
  obtain ⟨v0, vs0, d0, ds0, p0, q0, hargs, rfl, rfl, h0, r0⟩ := trodAll_cons hA
  obtain ⟨v1, vs1, d1, ds1, p1, q1, rfl, rfl, rfl, h1, r1⟩ := trodAll_cons r0
  obtain ⟨rfl, rfl, rfl⟩ := trodAll_nil r1
  obtain rfl : args = #[v0, v1] := by cases args; simp_all
  obtain ⟨rfl, rfl⟩ := trodVars_none hV
  have k0 := h0
  have lt0 : ∀ x ∈ p0, x.block < W.heap.size := by obtain ⟨m, hm⟩ := k0; exact DataW.trod_lt m _ _ _ hm
  have S0 : ∀ n ∈ d0.weights Try.prog 29, n ≤ 140737488351232 := weights_le hsz (j := 0) rfl rfl
  have k1 := h1
  have lt1 : ∀ x ∈ p1, x.block < W.heap.size := by obtain ⟨m, hm⟩ := k1; exact DataW.trod_lt m _ _ _ hm
  have S1 : ∀ n ∈ d1.weights Try.prog 29, n ≤ 140737488351232 := weights_le hsz (j := 1) rfl rfl
  obtain ⟨A0, ca0, sl0, B0, cb0, rl0, x0, y0, rfl, hsA0, hcA0, hsB0, hcB0, Y0⟩ := open_deal (hval 0 29 v0 rfl rfl) h0
  have Z0 := Y0 S0
  obtain ⟨A1, ca1, sl1, B1, cb1, rl1, x1, y1, rfl, hsA1, hcA1, hsB1, hcB1, Y1⟩ := open_deal (hval 1 29 v1 rfl rfl) h1
  have Z1 := Y1 S1
  refine (walk A0 ca0 sl0 B0 cb0 rl0 x0 y0 A1 ca1 sl1 B1 cb1 rl1 x1 y1 W hsA0 hcA0 Z0.1 hsB0 hcB0 Z0.2 hsA1 hcA1 Z1.1 hsB1 hcB1 Z1.2).mono fun e W' ⟨he, bel⟩ => ?_
  subst he
  exact ⟨_, rfl, _, _, _, [], _, [], hW', trodAll_mk1 (shut_bool Try.underlying4 _), (trodAll_cons_mk (Below.trod laidOut (by kernel_rfl) (of_decide_eq_true (by kernel_rfl)) k0 bel lt0) (trodAll_cons_mk (Below.trod laidOut (by kernel_rfl) (of_decide_eq_true (by kernel_rfl)) k1 bel lt1) trodAll_mk0)), rfl, bel.frame _, fun h => by cases h⟩

set_option maxRecDepth 100000 in
theorem lifted (os : Os) (started : os.Started) (H : Type) (enc : TypeId × Value → H) :
    ReturnsInHanded {} Try.checked os 8 .any (Rows.shareLinearSpec.pre6 enc Try.prog Try.f8 Rows.shareLinearRow.domain false) (Rows.shareLinearSpec.post enc Try.prog Try.f8 false true false false) := by
  refine returnsInHanded_of_change_sized (C := Try.checked) own started (by kernel_rfl) Try.func8
    (ChangeSpec.witness6 (enc := enc) (C := Try.checked) false ⟨#[], #[.agg #[.slice none 0 0, .slice none 0 0, .int .u8 0, .int .u8 0], .agg #[.slice none 0 0, .slice none 0 0, .int .u8 0, .int .u8 0]], []⟩ 8 (by kernel_rfl) (by kernel_rfl) (by kernel_rfl) (by kernel_rfl)) ?_
  intro W base args ds gs before hval hW _ hsz _
  exact contract H enc W base args ds gs before hval hW hsz

/-- The statement. -/
theorem proved : Rows.ShareLinearSaid :=
  OpenClaim.holds_of_wide 8 Try.f8 rfl rfl rfl rfl rfl rfl rfl ⟨rfl, rfl, rfl, rfl, rfl⟩ rfl rfl rfl rfl rfl (by kernel_rfl) Try.func8 (by kernel_rfl)
    (of_decide_eq_true (by kernel_rfl)) (by unfold Func.isWrapper; rw [if_neg (of_decide_eq_false (by kernel_rfl))]; exact ⟨rfl, rfl⟩)
    (fun os started H enc _ => lifted os started H enc)
end Go.Proofs.Ytpchhphfmkjbjaa.lin
