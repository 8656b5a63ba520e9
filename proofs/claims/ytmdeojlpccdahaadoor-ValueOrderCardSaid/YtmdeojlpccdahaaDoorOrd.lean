/-
  Compare is a total order on arbitrary values: the law's walk.
-/
import Derived.Test.YtmdeojlpccdahaaDoorStep
import Derived.Test.YtmdeojlpccdahaaDoorOrdM
import Derived.Test.YtmdeojlpccdahaaDoorEqV
import Derived.Test.YtmdeojlpccdahaaDoorHand
namespace Go.Proofs.YtmdeojlpccdahaaDoor.ord
open Go.RowKit Go.Lib

/-- the box of three values -/
def S9 (w : World) (g : Nat) (a b c : Va) : Prop :=
  w.cell? ⟨g, 0, none⟩ = some (.bool a.b) ∧ w.cell? ⟨g, 1, none⟩ = some (.int .i64 a.n) ∧ w.cell? ⟨g, 2, none⟩ = some (.string a.s) ∧ w.cell? ⟨g, 3, none⟩ = some (.bool b.b) ∧ w.cell? ⟨g, 4, none⟩ = some (.int .i64 b.n) ∧ w.cell? ⟨g, 5, none⟩ = some (.string b.s) ∧
  w.cell? ⟨g, 6, none⟩ = some (.bool c.b) ∧ w.cell? ⟨g, 7, none⟩ = some (.int .i64 c.n) ∧ w.cell? ⟨g, 8, none⟩ = some (.string c.s)
theorem S9.up {w w' : World} {g B : Nat} {a b c : Va} (h : S9 w g a b c) (hb : Below B w w') (hB : g < B) : S9 w' g a b c := by
  obtain ⟨h0, h1, h2, h3, h4, h5, h6, h7, h8⟩ := h
  exact ⟨(hb.cell (p := ⟨g, 0, none⟩) hB).trans h0, (hb.cell (p := ⟨g, 1, none⟩) hB).trans h1, (hb.cell (p := ⟨g, 2, none⟩) hB).trans h2, (hb.cell (p := ⟨g, 3, none⟩) hB).trans h3, (hb.cell (p := ⟨g, 4, none⟩) hB).trans h4, (hb.cell (p := ⟨g, 5, none⟩) hB).trans h5,
    (hb.cell (p := ⟨g, 6, none⟩) hB).trans h6, (hb.cell (p := ⟨g, 7, none⟩) hB).trans h7, (hb.cell (p := ⟨g, 8, none⟩) hB).trans h8⟩
theorem S9.new (w : World) (a b c : Va) (t : TypeId) : S9 (w.alloc (.cells #[.bool a.b, .int .i64 a.n, .string a.s, .bool b.b, .int .i64 b.n, .string b.s, .bool c.b, .int .i64 c.n, .string c.s] t)) w.heap.size a b c :=
  ⟨by simp, by simp, by simp, by simp, by simp, by simp, by simp, by simp, by simp⟩
def T9 (w : World) (g : Nat) (ab : Bool) (an : Int) (as' : ByteArray) (h : Nat) (bb : Bool) (bn : Int) (bs : ByteArray) (i : Nat) (cb : Bool) (cn : Int) (cs : ByteArray) : Prop :=
  w.cell? ⟨g, 0, none⟩ = some (.bool ab) ∧ w.cell? ⟨g, 1, none⟩ = some (.int .i64 an) ∧ w.cell? ⟨g, 2, none⟩ = some (.string as') ∧ w.cell? ⟨h, 0, none⟩ = some (.bool bb) ∧ w.cell? ⟨h, 1, none⟩ = some (.int .i64 bn) ∧ w.cell? ⟨h, 2, none⟩ = some (.string bs) ∧
  w.cell? ⟨i, 0, none⟩ = some (.bool cb) ∧ w.cell? ⟨i, 1, none⟩ = some (.int .i64 cn) ∧ w.cell? ⟨i, 2, none⟩ = some (.string cs)
def U6 (w : World) (g : Nat) (ab : Bool) (an : Int) (as' : ByteArray) (h : Nat) (bb : Bool) (bn : Int) (bs : ByteArray) : Prop :=
  w.cell? ⟨g, 0, none⟩ = some (.bool ab) ∧ w.cell? ⟨g, 1, none⟩ = some (.int .i64 an) ∧ w.cell? ⟨g, 2, none⟩ = some (.string as') ∧ w.cell? ⟨h, 0, none⟩ = some (.bool bb) ∧ w.cell? ⟨h, 1, none⟩ = some (.int .i64 bn) ∧ w.cell? ⟨h, 2, none⟩ = some (.string bs)
theorem cmp_at2 (x y : Bool) (a b : Int) (s t : ByteArray) (z : Int) (hz : cmpV ⟨x, a, s⟩ ⟨y, b, t⟩ = z) (w : World) :
    Calls Tryd.prog 9 #[.agg #[.bool x, .int .i64 a, .string s], .agg #[.bool y, .int .i64 b, .string t]] w fun e w' => e = .returned (.int .i64 z) ∧ Below w.heap.size w w' := Compare_b x y a b s t z w hz
theorem same_at2 (x y : Bool) (a b : Int) (s t : ByteArray) (q : Bool) (hz : (cmpV ⟨x, a, s⟩ ⟨y, b, t⟩ == 0) = q) (w : World) :
    Calls Tryd.prog 10 #[.agg #[.bool x, .int .i64 a, .string s], .agg #[.bool y, .int .i64 b, .string t]] w fun e w' => e = .returned (.bool q) ∧ Below w.heap.size w w' := by
  subst hz
  exact Same_b x y a b s t w

set_option maxHeartbeats 16000000 in
set_option maxRecDepth 100000 in
attribute [local irreducible] okV showL decL parV encL dateL str cmpV eqVa in
attribute [local go_sem high] run_eq_va in
theorem walk (a b c : Va) (w : World) (hG : Glob5 w) :
    Calls Tryd.prog 3 #[.agg #[.bool a.b, .int .i64 a.n, .string a.s, .bool b.b, .int .i64 b.n, .string b.s, .bool c.b, .int .i64 c.n, .string c.s]] w fun e w' => e = .returned (.bool true) ∧ Below w.heap.size w w' := by
  have HG := Lib.hid hG
  clear hG
  by_cases g1 : 400 < a.s.size
  · have i1 : 400 < (a.s.size : Int) := by omega
    go_enter Tryd.func3, Tryd.ntmps3
    go_wp2_with fail
    refine (sanity_any _ (HG.out.up (val_al w _))).mono ?_
    rintro e w1 ⟨rfl, hb⟩
    obtain ⟨c0, c1, c2, c3, c4, c5, c6, c7, c8⟩ := (S9.new w a b c 24).up hb (by simp)
    have B1 : Hid (Below w.heap.size w w1) := (val_al w _).trans (hb.mono (by simp))
    clear hb
    go_wp2_with fail
    go_ret
    exact ⟨rfl, B1.out⟩
  by_cases g2 : 400 < b.s.size
  · have i1 : ¬ 400 < (a.s.size : Int) := by omega
    have i2 : 400 < (b.s.size : Int) := by omega
    go_enter Tryd.func3, Tryd.ntmps3
    go_wp2_with fail
    refine (sanity_any _ (HG.out.up (val_al w _))).mono ?_
    rintro e w1 ⟨rfl, hb⟩
    obtain ⟨c0, c1, c2, c3, c4, c5, c6, c7, c8⟩ := (S9.new w a b c 24).up hb (by simp)
    have B1 : Hid (Below w.heap.size w w1) := (val_al w _).trans (hb.mono (by simp))
    clear hb
    go_wp2_with fail
    go_ret
    exact ⟨rfl, B1.out⟩
  by_cases g3 : 400 < c.s.size
  · have i1 : ¬ 400 < (a.s.size : Int) := by omega
    have i2 : ¬ 400 < (b.s.size : Int) := by omega
    have i3 : 400 < (c.s.size : Int) := by omega
    go_enter Tryd.func3, Tryd.ntmps3
    go_wp2_with fail
    refine (sanity_any _ (HG.out.up (val_al w _))).mono ?_
    rintro e w1 ⟨rfl, hb⟩
    obtain ⟨c0, c1, c2, c3, c4, c5, c6, c7, c8⟩ := (S9.new w a b c 24).up hb (by simp)
    have B1 : Hid (Below w.heap.size w w1) := (val_al w _).trans (hb.mono (by simp))
    clear hb
    go_wp2_with fail
    go_ret
    exact ⟨rfl, B1.out⟩
  have h1 : a.s.size ≤ 400 := by omega
  have h2 : b.s.size ≤ 400 := by omega
  have h3 : c.s.size ≤ 400 := by omega
  go_enter Tryd.func3, Tryd.ntmps3
  go_wp2_with fail
  refine (sanity_any _ (HG.out.up (val_al w _))).mono ?_
  rintro e w1 ⟨rfl, hb⟩
  have hS := (S9.new w a b c 24).up hb (by simp)
  have HS := Lib.hid hS
  obtain ⟨c0, c1, c2, c3, c4, c5, c6, c7, c8⟩ := hS
  have B1 : Hid (Below w.heap.size w w1) := (val_al w _).trans (hb.mono (by simp))
  have hww : w.heap.size < w1.heap.size := by have := hb.size; simp at this; omega
  clear hb
  go_wp2_with fail
  all_goals (first | (exfalso; omega) | skip)
  clear c0 c1 c2 c3 c4 c5 c6 c7 c8
  go_loopw [4] (fun i wr => ∃ k : Nat, k ≤ 3 ∧ i = .int .i64 k ∧ Hid (Below w1.heap.size w1 wr)) (fun i _ => 3 - (intOf i).toNat)
  case atStart => exact ⟨0, by omega, rfl, Below.refl _ _⟩
  case round =>
    obtain ⟨k, hk, rfl, hb⟩ := hrel
    by_cases hlt : k < 3
    · have hSr := HS.out.up hb.out hww
      have HSr := Lib.hid hSr
      have hwr : w.heap.size < wr.heap.size := by have := hb.out.size; omega
      obtain ⟨c0, c1, c2, c3, c4, c5, c6, c7, c8⟩ := hSr
      have i1 : (k : Int) < 3 := by omega
      have i2 : (0 : Int) ≤ (k : Int) := by omega
      have hq0 : ¬ w.heap.size = wr.heap.size := by omega
      have hq1 : ¬ wr.heap.size = w.heap.size := by omega
      go_wp2_with fail
      rename_i K hK
      have TAIL : ∀ {x2 x8 x9 x10 x32 x33 x34 x35 x36 x37 x38 x39 x40 x41 x42 x43 x44 x45 x46 x47 x48 x49 x50 x51 x52 x53 x54 x55 x56 x57 x58 x59 x60 x61 x62 x63 x64 x65 x66 x67 x68 x69 x70 x71 x72 x73 x74 x75 x76 x77 x78 x79 x80 x81 x82 x83 x84 x85 x86 x87 x88 x89 x90 x91 x92 x93 x94 x95 x96 x97 x98 x99 x100 x101 x102 x103 x104 x105 x106 x107 x108 x109 x110 x111 x112 x113 : Value} {g5 g6 g7 : Nat} {W : World} {pb : Bool} {pn : Int} {ps : ByteArray} {qb : Bool} {qn : Int} {qs : ByteArray} {rb : Bool} {rn : Int} {rs : ByteArray}, Hid (VB W g5 pb pn ps) → Hid (VB W g6 qb qn qs) → Hid (VB W g7 rb rn rs) → Hid (Below w1.heap.size w1 W) →
          K ⟨#[.agg #[.bool a.b, .int .i64 a.n, .string a.s, .bool b.b, .int .i64 b.n, .string b.s, .bool c.b, .int .i64 c.n, .string c.s], .pointer (some ⟨w.heap.size, 0, none⟩), x2, .bool true, .int .i64 (k : Int), .pointer (some ⟨g5, 0, none⟩), .pointer (some ⟨g6, 0, none⟩), .pointer (some ⟨g7, 0, none⟩), x8, x9, x10, .bool true, .pointer (some ⟨w.heap.size, 0, none⟩), .pointer (some ⟨w.heap.size, 2, none⟩), .string a.s, .int .i64 (a.s.size : Int), .bool false, .bool false, .pointer (some ⟨w.heap.size, 3, none⟩), .pointer (some ⟨w.heap.size, 5, none⟩), .string b.s, .int .i64 (b.s.size : Int), .bool false, .bool false, .bool false, .pointer (some ⟨w.heap.size, 6, none⟩), .pointer (some ⟨w.heap.size, 8, none⟩), .string c.s, .int .i64 (c.s.size : Int), .bool (decide (400 < (c.s.size : Int))), .bool (decide (400 < (c.s.size : Int))), undef, x32, x33, x34, x35, x36, x37, x38, x39, x40, x41, x42, x43, x44, x45, x46, x47, x48, x49, x50, x51, x52, x53, x54, x55, x56, x57, x58, x59, x60, x61, x62, x63, x64, x65, x66, x67, x68, x69, x70, x71, x72, x73, x74, x75, x76, x77, x78, x79, x80, x81, x82, x83, x84, x85, x86, x87, x88, x89, x90, x91, x92, x93, x94, x95, x96, x97, x98, x99, x100, x101, x102, x103, x104, x105, x106, x107, x108, x109, x110, x111, x112, x113, undef], []⟩ W := by
        clear c0 c1 c2 c3 c4 c5 c6 c7 c8 hq0 hq1 HSr hwr hb
        intro x2 x8 x9 x10 x32 x33 x34 x35 x36 x37 x38 x39 x40 x41 x42 x43 x44 x45 x46 x47 x48 x49 x50 x51 x52 x53 x54 x55 x56 x57 x58 x59 x60 x61 x62 x63 x64 x65 x66 x67 x68 x69 x70 x71 x72 x73 x74 x75 x76 x77 x78 x79 x80 x81 x82 x83 x84 x85 x86 x87 x88 x89 x90 x91 x92 x93 x94 x95 x96 x97 x98 x99 x100 x101 x102 x103 x104 x105 x106 x107 x108 x109 x110 x111 x112 x113 g5 g6 g7 W pb pn ps qb qn qs rb rn rs V5 V6 V7 HB
        refine hK _ _ ?_
        clear hK
        obtain ⟨x, hx⟩ : ∃ x, cmpV ⟨pb, pn, ps⟩ ⟨qb, qn, qs⟩ = x := ⟨_, rfl⟩
        obtain ⟨y, hy⟩ : ∃ y, cmpV ⟨qb, qn, qs⟩ ⟨rb, rn, rs⟩ = y := ⟨_, rfl⟩
        obtain ⟨z, hz⟩ : ∃ z, cmpV ⟨pb, pn, ps⟩ ⟨rb, rn, rs⟩ = z := ⟨_, rfl⟩
        have hxr := cmp_rng ⟨pb, pn, ps⟩ ⟨qb, qn, qs⟩
        have hsym := cmp_sym ⟨pb, pn, ps⟩ ⟨qb, qn, qs⟩
        have htr := cmp_tr ⟨pb, pn, ps⟩ ⟨qb, qn, qs⟩ ⟨rb, rn, rs⟩
        have hnl := cmp_null ⟨pb, pn, ps⟩ ⟨qb, qn, qs⟩
        have hnl2 := cmp_null ⟨qb, qn, qs⟩ ⟨pb, pn, ps⟩
        have hzr := cmp_zero ⟨pb, pn, ps⟩ ⟨qb, qn, qs⟩
        rw [← eqVa_iff] at hzr
        rw [hx] at hxr hsym htr hnl hzr
        rw [hy, hz] at htr
        rw [hsym] at hnl2
        simp only at hnl hnl2
        have HX := Lib.hid hx
        have HY := Lib.hid hy
        have HZ := Lib.hid hz
        clear hx hy hz
        have TT : Hid (∀ w', Below W.heap.size W w' → T9 w' g5 pb pn ps g6 qb qn qs g7 rb rn rs) := fun w' h => ⟨(V5.out.up h).c0, (V5.out.up h).c1, (V5.out.up h).c2, (V6.out.up h).c0, (V6.out.up h).c1, (V6.out.up h).c2, (V7.out.up h).c0, (V7.out.up h).c1, (V7.out.up h).c2⟩
        obtain ⟨a0, a1, a2⟩ := V5.out.s3
        obtain ⟨b0, b1, b2⟩ := V6.out.s3
        obtain ⟨d0, d1, d2⟩ := V7.out.s3
        have hxr := Lib.hid hxr
        have hsym := Lib.hid hsym
        have htr := Lib.hid htr
        have hnl := Lib.hid hnl
        have hnl2 := Lib.hid hnl2
        have hzr := Lib.hid hzr
        go_wp2_with fail
        go_region_held_law (fun w' => w'.cell? ⟨g5, 0, none⟩ = some (.bool pb) ∧ w'.cell? ⟨g5, 1, none⟩ = some (.int .i64 pn) ∧ w'.cell? ⟨g5, 2, none⟩ = some (.string ps) ∧ w'.cell? ⟨g6, 0, none⟩ = some (.bool qb) ∧ w'.cell? ⟨g6, 1, none⟩ = some (.int .i64 qn) ∧ w'.cell? ⟨g6, 2, none⟩ = some (.string qs) ∧ w'.cell? ⟨g7, 0, none⟩ = some (.bool rb) ∧ w'.cell? ⟨g7, 1, none⟩ = some (.int .i64 rn) ∧ w'.cell? ⟨g7, 2, none⟩ = some (.string rs))
          (first | exact hS7 | go_keep)
          (first
            | (go_at_call 9; with_reducible refine (cmp_at2 pb qb pn qn ps qs x HX.out _).mono ?_; rintro e w7 ⟨rfl, hb7⟩; have HB7 : Hid (Below W.heap.size W w7) := Lib.hid (by first | exact hb7 | exact bl_of_dr hb7); have hS7 := TT.out w7 HB7.out; clear hb7)
            | (go_at_call 9; with_reducible refine (cmp_at2 qb rb qn rn qs rs y HY.out _).mono ?_; rintro e w8 ⟨rfl, hb8⟩; have HB8 : Hid (Below W.heap.size W w8) := Lib.hid (HB7.out.trans (Below.mono (by first | exact hb8 | exact bl_of_dr hb8) HB7.out.size)); have hS7 := TT.out w8 HB8.out; clear hb8)
            | (go_at_call 9; with_reducible refine (cmp_at2 pb rb pn rn ps rs z HZ.out _).mono ?_; rintro e w9 ⟨rfl, hb9⟩; have HB9 : Hid (Below W.heap.size W w9) := Lib.hid (HB8.out.trans (Below.mono (by first | exact hb9 | exact bl_of_dr hb9) HB8.out.size)); have hS7 := TT.out w9 HB9.out; clear hb9)
            | fail)
        obtain ⟨a0, a1, a2, b0, b1, b2, -, -, -⟩ := hS7
        have T6 : Hid (∀ w', Below w9.heap.size w9 w' → U6 w' g5 pb pn ps g6 qb qn qs) := fun w' h => by
          obtain ⟨t0, t1, t2, t3, t4, t5, -, -, -⟩ := TT.out w' (HB9.out.trans (h.mono HB9.out.size))
          exact ⟨t0, t1, t2, t3, t4, t5⟩
        have HW : Hid (Below w1.heap.size w1 w9) := HB.out.trans (HB9.out.mono HB.out.size)
        clear TT V5 V6 V7 HB7 HB8 HB9 HB HY HZ
        go_wp2_with fail
        obtain ⟨nx, hnx0⟩ : ∃ nx, cmpV ⟨qb, qn, qs⟩ ⟨pb, pn, ps⟩ = nx := ⟨_, rfl⟩
        obtain ⟨E, hE⟩ : ∃ E, eqVa ⟨pb, pn, ps⟩ ⟨qb, qn, qs⟩ = E := ⟨_, rfl⟩
        obtain ⟨P, hP⟩ : ∃ P, decide (x ≤ 0) = P := ⟨_, rfl⟩
        obtain ⟨R, hR⟩ : ∃ R, decide (y ≤ 0) = R := ⟨_, rfl⟩
        obtain ⟨Z, hZ⟩ : ∃ Z, decide (0 < z) = Z := ⟨_, rfl⟩
        obtain ⟨M, hM⟩ : ∃ M, (x != -1) = M := ⟨_, rfl⟩
        have hb2 := hxr.out
        have hxE : (x == 0) = E := by
          rw [← hE, Bool.eq_iff_iff, beq_iff_eq]
          exact hzr.out
        have hnx : IntKind.i64.wrap (-nx) = x := by rw [← hnx0, hsym.out, Int.neg_neg, IntKind.wrap_i64]; omega
        have hxx : (x != x) = false := by simp
        have hl1 : decide (x < -1) = false := by simp; omega
        have hl2 : decide (1 < x) = false := by simp; omega
        have hEE : (E != E) = false := by simp
        have hPRZ : (P && R && Z) = false := by
          rw [← hP, ← hR, ← hZ]
          have := htr.out
          by_cases e1 : x ≤ 0
          · by_cases e2 : y ≤ 0
            · have := this e1 e2
              simp [e1, e2]; omega
            · simp [e2]
          · simp [e1]
        have hNU : (pb && !qb && M) = false := by
          rw [← hM]
          have := hnl.out
          cases pb
          · rfl
          · cases qb
            · rw [this rfl rfl]; rfl
            · rfl
        have HBA : Hid (∀ w', Calls Tryd.prog 9 #[.agg #[.bool qb, .int .i64 qn, .string qs], .agg #[.bool pb, .int .i64 pn, .string ps]] w' fun e w1 => e = .returned (.int .i64 nx) ∧ Below w'.heap.size w' w1) := cmp_at2 qb pb qn pn qs ps nx hnx0
        have HSM : Hid (∀ w', Calls Tryd.prog 10 #[.agg #[.bool pb, .int .i64 pn, .string ps], .agg #[.bool qb, .int .i64 qn, .string qs]] w' fun e w1 => e = .returned (.bool E) ∧ Below w'.heap.size w' w1) := same_at2 pb qb pn qn ps qs E (by rw [HX.out]; exact hxE)
        clear hb2 hxr hsym htr hnl hnl2 hzr HX hnx0
        have hs0 := T6.out w9.drew ((Below.refl _ _).drew)
        refine wp_region_held_drew (S := fun w' => U6 w' g5 pb pn ps g6 qb qn qs) (by kernel_rfl) hs0 (fun hHeld => ?_)
        clear hs0
        refine hand_take (i := 0) (v := ?_) rfl (by kernel_rfl) (by kernel_rfl) (by kernel_rfl) (fun _ _ _ h => h) (Or.inl ⟨by rfl, ?_⟩) (by assumption) ?_
        rotate_left
        · intro w hSw
          clear hSw
          go_simp
          try with_reducible rfl
        try simp only [Act.put, List.setIfInBounds_toArray, List.set_cons_zero, List.set_cons_succ]
        refine hand_take (i := 1) (v := ?_) rfl (by kernel_rfl) (by kernel_rfl) (by kernel_rfl) (fun _ _ _ h => h) (Or.inl ⟨by rfl, ?_⟩) (by assumption) ?_
        rotate_left
        · intro w hSw
          have ht := hSw; obtain ⟨t0, t1, t2, t3, t4, t5⟩ := ht
          clear hSw
          go_simp
          try with_reducible rfl
        try simp only [Act.put, List.setIfInBounds_toArray, List.set_cons_zero, List.set_cons_succ]
        refine hand_take (i := 2) (v := ?_) rfl (by kernel_rfl) (by kernel_rfl) (by kernel_rfl) (fun _ _ _ h => h) (Or.inl ⟨by rfl, ?_⟩) (by assumption) ?_
        rotate_left
        · intro w hSw
          have ht := hSw; obtain ⟨t0, t1, t2, t3, t4, t5⟩ := ht
          clear hSw
          go_simp
          try with_reducible rfl
        try simp only [Act.put, List.setIfInBounds_toArray, List.set_cons_zero, List.set_cons_succ]
        refine wpAnyH_ready (rs := [3]) (by kernel_rfl) (by simp) ?_
        refine hand_cons rfl (fun KK hK => ?_) AllReadyH.nil
        go_simp
        go_at_call 9
        with_reducible refine (HBA.out _).mono ?_
        rintro e w10 ⟨rfl, hb10⟩
        have HB10 : Hid (Below w9.heap.size w9 w10) := Lib.hid (by first | exact hb10 | exact bl_of_dr hb10)
        clear hb10
        go_wp2_with fail
        refine hK.out _ _ (T6.out w10 HB10.out) (fun hHeld => ?_)
        clear hK KK
        try simp only [Act.put, List.setIfInBounds_toArray, List.set_cons_zero, List.set_cons_succ]
        refine hand_take (i := 4) (v := ?_) rfl (by kernel_rfl) (by kernel_rfl) (by kernel_rfl) (fun _ _ _ h => h) (Or.inl ⟨by rfl, ?_⟩) (by assumption) ?_
        rotate_left
        · intro w hSw
          clear hSw
          go_simp
          try with_reducible rfl
        try simp only [Act.put, List.setIfInBounds_toArray, List.set_cons_zero, List.set_cons_succ]
        refine hand_take (i := 5) (v := .bool false) rfl (by kernel_rfl) (by kernel_rfl) (by kernel_rfl) (fun _ _ _ h => h) (Or.inl ⟨by rfl, ?_⟩) (by assumption) ?_
        · intro w hSw
          go_simp
          try first | with_reducible rfl | simp only [*]
        try simp only [Act.put, List.setIfInBounds_toArray, List.set_cons_zero, List.set_cons_succ]
        refine hand_take (i := 6) (v := ?_) rfl (by kernel_rfl) (by kernel_rfl) (by kernel_rfl) (fun _ _ _ h => h) (Or.inl ⟨by rfl, ?_⟩) (by assumption) ?_
        rotate_left
        · intro w hSw
          clear hSw
          go_simp
          try with_reducible rfl
        try simp only [Act.put, List.setIfInBounds_toArray, List.set_cons_zero, List.set_cons_succ]
        refine hand_take (i := 7) (v := ?_) rfl (by kernel_rfl) (by kernel_rfl) (by kernel_rfl) (fun _ _ _ h => h) (Or.inl ⟨by rfl, ?_⟩) (by assumption) ?_
        rotate_left
        · intro w hSw
          clear hSw
          go_simp
          try with_reducible rfl
        try simp only [Act.put, List.setIfInBounds_toArray, List.set_cons_zero, List.set_cons_succ]
        refine hand_take (i := 8) (v := .bool false) rfl (by kernel_rfl) (by kernel_rfl) (by kernel_rfl) (fun _ _ _ h => h) (Or.inl ⟨by rfl, ?_⟩) (by assumption) ?_
        · intro w hSw
          go_simp
          try first | with_reducible rfl | simp only [*]
        try simp only [Act.put, List.setIfInBounds_toArray, List.set_cons_zero, List.set_cons_succ]
        refine hand_take (i := 9) (v := ?_) rfl (by kernel_rfl) (by kernel_rfl) (by kernel_rfl) (fun _ _ _ h => h) (Or.inl ⟨by rfl, ?_⟩) (by assumption) ?_
        rotate_left
        · intro w hSw
          clear hSw
          go_simp
          try with_reducible rfl
        try simp only [Act.put, List.setIfInBounds_toArray, List.set_cons_zero, List.set_cons_succ]
        refine hand_take (i := 10) (v := ?_) rfl (by kernel_rfl) (by kernel_rfl) (by kernel_rfl) (fun _ _ _ h => h) (Or.inl ⟨by rfl, ?_⟩) (by assumption) ?_
        rotate_left
        · intro w hSw
          clear hSw
          go_simp
          try with_reducible rfl
        try simp only [Act.put, List.setIfInBounds_toArray, List.set_cons_zero, List.set_cons_succ]
        refine hand_take (i := 11) (v := ?_) rfl (by kernel_rfl) (by kernel_rfl) (by kernel_rfl) (fun _ _ _ h => h) (Or.inl ⟨by rfl, ?_⟩) (by assumption) ?_
        rotate_left
        · intro w hSw
          clear hSw
          go_simp
          try with_reducible rfl
        try simp only [Act.put, List.setIfInBounds_toArray, List.set_cons_zero, List.set_cons_succ]
        refine hand_take (i := 12) (v := .bool false) rfl (by kernel_rfl) (by kernel_rfl) (by kernel_rfl) (fun _ _ _ h => h) (Or.inl ⟨by rfl, ?_⟩) (by assumption) ?_
        · intro w hSw
          go_simp
          try first | with_reducible rfl | simp only [*]
        try simp only [Act.put, List.setIfInBounds_toArray, List.set_cons_zero, List.set_cons_succ]
        refine hand_take (i := 13) (v := ?_) rfl (by kernel_rfl) (by kernel_rfl) (by kernel_rfl) (fun _ _ _ h => h) (Or.inl ⟨by rfl, ?_⟩) (by assumption) ?_
        rotate_left
        · intro w hSw
          clear hSw
          go_simp
          try with_reducible rfl
        try simp only [Act.put, List.setIfInBounds_toArray, List.set_cons_zero, List.set_cons_succ]
        refine hand_take (i := 14) (v := ?_) rfl (by kernel_rfl) (by kernel_rfl) (by kernel_rfl) (fun _ _ _ h => h) (Or.inl ⟨by rfl, ?_⟩) (by assumption) ?_
        rotate_left
        · intro w hSw
          clear hSw
          go_simp
          try with_reducible rfl
        try simp only [Act.put, List.setIfInBounds_toArray, List.set_cons_zero, List.set_cons_succ]
        refine hand_take (i := 15) (v := ?_) rfl (by kernel_rfl) (by kernel_rfl) (by kernel_rfl) (fun _ _ _ h => h) (Or.inl ⟨by rfl, ?_⟩) (by assumption) ?_
        rotate_left
        · intro w hSw
          clear hSw
          go_simp
          try with_reducible rfl
        try simp only [Act.put, List.setIfInBounds_toArray, List.set_cons_zero, List.set_cons_succ]
        refine hand_take (i := 16) (v := .bool E) rfl (by kernel_rfl) (by kernel_rfl) (by kernel_rfl) (fun _ _ _ h => h) (Or.inl ⟨by rfl, ?_⟩) (by assumption) ?_
        · intro w hSw
          go_simp
          try first | with_reducible rfl | simp only [*]
        try simp only [Act.put, List.setIfInBounds_toArray, List.set_cons_zero, List.set_cons_succ]
        refine hand_take (i := 17) (v := ?_) rfl (by kernel_rfl) (by kernel_rfl) (by kernel_rfl) (fun _ _ _ h => h) (Or.inl ⟨by rfl, ?_⟩) (by assumption) ?_
        rotate_left
        · intro w hSw
          have ht := hSw; obtain ⟨t0, t1, t2, t3, t4, t5⟩ := ht
          clear hSw
          go_simp
          try with_reducible rfl
        try simp only [Act.put, List.setIfInBounds_toArray, List.set_cons_zero, List.set_cons_succ]
        refine hand_take (i := 18) (v := ?_) rfl (by kernel_rfl) (by kernel_rfl) (by kernel_rfl) (fun _ _ _ h => h) (Or.inl ⟨by rfl, ?_⟩) (by assumption) ?_
        rotate_left
        · intro w hSw
          have ht := hSw; obtain ⟨t0, t1, t2, t3, t4, t5⟩ := ht
          clear hSw
          go_simp
          try with_reducible rfl
        try simp only [Act.put, List.setIfInBounds_toArray, List.set_cons_zero, List.set_cons_succ]
        refine hand_take (i := 19) (v := .bool E) rfl (by kernel_rfl) (by kernel_rfl) (by kernel_rfl) (fun _ _ _ h => h) (Or.inl ⟨by rfl, ?_⟩) (by assumption) ?_
        · intro w hSw
          go_simp
          try first | with_reducible rfl | simp only [*]
        try simp only [Act.put, List.setIfInBounds_toArray, List.set_cons_zero, List.set_cons_succ]
        refine hand_take (i := 20) (v := .bool false) rfl (by kernel_rfl) (by kernel_rfl) (by kernel_rfl) (fun _ _ _ h => h) (Or.inl ⟨by rfl, ?_⟩) (by assumption) ?_
        · intro w hSw
          go_simp
          try first | with_reducible rfl | simp only [*]
        try simp only [Act.put, List.setIfInBounds_toArray, List.set_cons_zero, List.set_cons_succ]
        refine hand_take (i := 21) (v := ?_) rfl (by kernel_rfl) (by kernel_rfl) (by kernel_rfl) (fun _ _ _ h => h) (Or.inl ⟨by rfl, ?_⟩) (by assumption) ?_
        rotate_left
        · intro w hSw
          clear hSw
          go_simp
          try with_reducible rfl
        try simp only [Act.put, List.setIfInBounds_toArray, List.set_cons_zero, List.set_cons_succ]
        refine hand_take (i := 22) (v := ?_) rfl (by kernel_rfl) (by kernel_rfl) (by kernel_rfl) (fun _ _ _ h => h) (Or.inl ⟨by rfl, ?_⟩) (by assumption) ?_
        rotate_left
        · intro w hSw
          clear hSw
          go_simp
          try with_reducible rfl
        try simp only [Act.put, List.setIfInBounds_toArray, List.set_cons_zero, List.set_cons_succ]
        refine hand_take (i := 23) (v := ?_) rfl (by kernel_rfl) (by kernel_rfl) (by kernel_rfl) (fun _ _ _ h => h) (Or.inl ⟨by rfl, ?_⟩) (by assumption) ?_
        rotate_left
        · intro w hSw
          have ht := hSw; obtain ⟨t0, t1, t2, t3, t4, t5⟩ := ht
          clear hSw
          go_simp
          try with_reducible rfl
        try simp only [Act.put, List.setIfInBounds_toArray, List.set_cons_zero, List.set_cons_succ]
        refine hand_take (i := 24) (v := ?_) rfl (by kernel_rfl) (by kernel_rfl) (by kernel_rfl) (fun _ _ _ h => h) (Or.inl ⟨by rfl, ?_⟩) (by assumption) ?_
        rotate_left
        · intro w hSw
          have ht := hSw; obtain ⟨t0, t1, t2, t3, t4, t5⟩ := ht
          clear hSw
          go_simp
          try with_reducible rfl
        try simp only [Act.put, List.setIfInBounds_toArray, List.set_cons_zero, List.set_cons_succ]
        refine hand_take (i := 26) (v := ?_) rfl (by kernel_rfl) (by kernel_rfl) (by kernel_rfl) (fun _ _ _ h => h) (Or.inl ⟨by rfl, ?_⟩) (by assumption) ?_
        rotate_left
        · intro w hSw
          have ht := hSw; obtain ⟨t0, t1, t2, t3, t4, t5⟩ := ht
          clear hSw
          go_simp
          try with_reducible rfl
        try simp only [Act.put, List.setIfInBounds_toArray, List.set_cons_zero, List.set_cons_succ]
        refine hand_take (i := 27) (v := ?_) rfl (by kernel_rfl) (by kernel_rfl) (by kernel_rfl) (fun _ _ _ h => h) (Or.inl ⟨by rfl, ?_⟩) (by assumption) ?_
        rotate_left
        · intro w hSw
          have ht := hSw; obtain ⟨t0, t1, t2, t3, t4, t5⟩ := ht
          clear hSw
          go_simp
          try with_reducible rfl
        try simp only [Act.put, List.setIfInBounds_toArray, List.set_cons_zero, List.set_cons_succ]
        refine hand_take (i := 28) (v := .bool E) rfl (by kernel_rfl) (by kernel_rfl) (by kernel_rfl) (fun _ _ _ h => h) (Or.inl ⟨by rfl, ?_⟩) (by assumption) ?_
        · intro w hSw
          go_simp
          try first | with_reducible rfl | simp only [*]
        try simp only [Act.put, List.setIfInBounds_toArray, List.set_cons_zero, List.set_cons_succ]
        refine wpAnyH_ready (rs := [25]) (by kernel_rfl) (by simp) ?_
        refine hand_cons rfl (fun KK hK => ?_) AllReadyH.nil
        go_simp
        go_at_call 10
        with_reducible refine (HSM.out _).mono ?_
        rintro e w11 ⟨rfl, hb11⟩
        have HB11 : Hid (Below w9.heap.size w9 w11) := Lib.hid (HB10.out.trans (Below.mono (by first | exact hb11 | exact bl_of_dr hb11) HB10.out.size))
        clear hb11
        go_wp2_with fail
        refine hK.out _ _ (T6.out w11 HB11.out) (fun hHeld => ?_)
        clear hK KK
        try simp only [Act.put, List.setIfInBounds_toArray, List.set_cons_zero, List.set_cons_succ]
        refine hand_take (i := 29) (v := .bool false) rfl (by kernel_rfl) (by kernel_rfl) (by kernel_rfl) (fun _ _ _ h => h) (Or.inl ⟨by rfl, ?_⟩) (by assumption) ?_
        · intro w hSw
          go_simp
          try first | with_reducible rfl | simp only [*]
        try simp only [Act.put, List.setIfInBounds_toArray, List.set_cons_zero, List.set_cons_succ]
        refine hand_take (i := 30) (v := ?_) rfl (by kernel_rfl) (by kernel_rfl) (by kernel_rfl) (fun _ _ _ h => h) (Or.inl ⟨by rfl, ?_⟩) (by assumption) ?_
        rotate_left
        · intro w hSw
          clear hSw
          go_simp
          try with_reducible rfl
        try simp only [Act.put, List.setIfInBounds_toArray, List.set_cons_zero, List.set_cons_succ]
        refine hand_take (i := 31) (v := ?_) rfl (by kernel_rfl) (by kernel_rfl) (by kernel_rfl) (fun _ _ _ h => h) (Or.inl ⟨by rfl, ?_⟩) (by assumption) ?_
        rotate_left
        · intro w hSw
          clear hSw
          go_simp
          try with_reducible rfl
        try simp only [Act.put, List.setIfInBounds_toArray, List.set_cons_zero, List.set_cons_succ]
        refine hand_take (i := 32) (v := ?_) rfl (by kernel_rfl) (by kernel_rfl) (by kernel_rfl) (fun _ _ _ h => h) (Or.inl ⟨by rfl, ?_⟩) (by assumption) ?_
        rotate_left
        · intro w hSw
          clear hSw
          go_simp
          try with_reducible rfl
        try simp only [Act.put, List.setIfInBounds_toArray, List.set_cons_zero, List.set_cons_succ]
        refine hand_take (i := 33) (v := .bool P) rfl (by kernel_rfl) (by kernel_rfl) (by kernel_rfl) (fun _ _ _ h => h) (Or.inl ⟨by rfl, ?_⟩) (by assumption) ?_
        · intro w hSw
          go_simp
          try first | with_reducible rfl | simp only [*]
        try simp only [Act.put, List.setIfInBounds_toArray, List.set_cons_zero, List.set_cons_succ]
        refine hand_take (i := 34) (v := ?_) rfl (by kernel_rfl) (by kernel_rfl) (by kernel_rfl) (fun _ _ _ h => h) (Or.inl ⟨by rfl, ?_⟩) (by assumption) ?_
        rotate_left
        · intro w hSw
          clear hSw
          go_simp
          try with_reducible rfl
        try simp only [Act.put, List.setIfInBounds_toArray, List.set_cons_zero, List.set_cons_succ]
        refine hand_take (i := 35) (v := if P then .int .i64 y else undef) rfl (by kernel_rfl) (by kernel_rfl) (by kernel_rfl) (fun _ _ _ h => h) ?_ (by assumption) ?_
        · cases P
          · exact Or.inr ⟨by rfl, rfl⟩
          · exact Or.inl ⟨by rfl, by (intro w hSw; go_simp)⟩
        try simp only [Act.put, List.setIfInBounds_toArray, List.set_cons_zero, List.set_cons_succ]
        refine hand_take (i := 36) (v := if P then .bool R else undef) rfl (by kernel_rfl) (by kernel_rfl) (by kernel_rfl) (fun _ _ _ h => h) ?_ (by assumption) ?_
        · cases P
          · exact Or.inr ⟨by rfl, rfl⟩
          · exact Or.inl ⟨by rfl, by (intro w hSw; go_simp)⟩
        try simp only [Act.put, List.setIfInBounds_toArray, List.set_cons_zero, List.set_cons_succ]
        refine hand_take (i := 37) (v := .bool (P && R)) rfl (by kernel_rfl) (by kernel_rfl) (by kernel_rfl) (fun _ _ _ h => h) (Or.inl ⟨by rfl, ?_⟩) (by assumption) ?_
        · intro w hSw
          cases P <;> (go_simp; try first | with_reducible rfl | simp only [*])
        try simp only [Act.put, List.setIfInBounds_toArray, List.set_cons_zero, List.set_cons_succ]
        refine hand_take (i := 38) (v := ?_) rfl (by kernel_rfl) (by kernel_rfl) (by kernel_rfl) (fun _ _ _ h => h) (Or.inl ⟨by rfl, ?_⟩) (by assumption) ?_
        rotate_left
        · intro w hSw
          clear hSw
          go_simp
          try with_reducible rfl
        try simp only [Act.put, List.setIfInBounds_toArray, List.set_cons_zero, List.set_cons_succ]
        refine hand_take (i := 39) (v := if P && R then .int .i64 z else undef) rfl (by kernel_rfl) (by kernel_rfl) (by kernel_rfl) (fun _ _ _ h => h) ?_ (by assumption) ?_
        · cases P
          · exact Or.inr ⟨by rfl, rfl⟩
          · cases R
            · exact Or.inr ⟨by rfl, rfl⟩
            · exact Or.inl ⟨by rfl, by (intro w hSw; go_simp)⟩
        try simp only [Act.put, List.setIfInBounds_toArray, List.set_cons_zero, List.set_cons_succ]
        refine hand_take (i := 40) (v := if P && R then .bool Z else undef) rfl (by kernel_rfl) (by kernel_rfl) (by kernel_rfl) (fun _ _ _ h => h) ?_ (by assumption) ?_
        · cases P
          · exact Or.inr ⟨by rfl, rfl⟩
          · cases R
            · exact Or.inr ⟨by rfl, rfl⟩
            · exact Or.inl ⟨by rfl, by (intro w hSw; go_simp)⟩
        try simp only [Act.put, List.setIfInBounds_toArray, List.set_cons_zero, List.set_cons_succ]
        refine hand_take (i := 41) (v := .bool false) rfl (by kernel_rfl) (by kernel_rfl) (by kernel_rfl) (fun _ _ _ h => h) (Or.inl ⟨by rfl, ?_⟩) (by assumption) ?_
        · intro w hSw
          cases P <;> cases R <;> cases Z <;> (first | exact absurd hPRZ (by decide) | skip) <;> (go_simp; try first | with_reducible rfl | simp only [*])
        try simp only [Act.put, List.setIfInBounds_toArray, List.set_cons_zero, List.set_cons_succ]
        generalize (if P then Value.int IntKind.i64 y else undef) = j35
        generalize (if P then Value.bool R else undef) = j36
        generalize (if P && R then Value.int IntKind.i64 z else undef) = j39
        generalize (if P && R then Value.bool Z else undef) = j40
        generalize Value.bool (P && R) = j37
        refine hand_take (i := 42) (v := ?_) rfl (by kernel_rfl) (by kernel_rfl) (by kernel_rfl) (fun _ _ _ h => h) (Or.inl ⟨by rfl, ?_⟩) (by assumption) ?_
        rotate_left
        · intro w hSw
          clear hSw
          go_simp
          try with_reducible rfl
        try simp only [Act.put, List.setIfInBounds_toArray, List.set_cons_zero, List.set_cons_succ]
        refine hand_take (i := 43) (v := ?_) rfl (by kernel_rfl) (by kernel_rfl) (by kernel_rfl) (fun _ _ _ h => h) (Or.inl ⟨by rfl, ?_⟩) (by assumption) ?_
        rotate_left
        · intro w hSw
          clear hSw
          go_simp
          try with_reducible rfl
        try simp only [Act.put, List.setIfInBounds_toArray, List.set_cons_zero, List.set_cons_succ]
        refine hand_take (i := 44) (v := ?_) rfl (by kernel_rfl) (by kernel_rfl) (by kernel_rfl) (fun _ _ _ h => h) (Or.inl ⟨by rfl, ?_⟩) (by assumption) ?_
        rotate_left
        · intro w hSw
          clear hSw
          go_simp
          try with_reducible rfl
        try simp only [Act.put, List.setIfInBounds_toArray, List.set_cons_zero, List.set_cons_succ]
        refine hand_take (i := 45) (v := ?_) rfl (by kernel_rfl) (by kernel_rfl) (by kernel_rfl) (fun _ _ _ h => h) (Or.inl ⟨by rfl, ?_⟩) (by assumption) ?_
        rotate_left
        · intro w hSw
          have ht := hSw; obtain ⟨t0, t1, t2, t3, t4, t5⟩ := ht
          clear hSw
          go_simp
          try with_reducible rfl
        try simp only [Act.put, List.setIfInBounds_toArray, List.set_cons_zero, List.set_cons_succ]
        refine hand_take (i := 46) (v := ?_) rfl (by kernel_rfl) (by kernel_rfl) (by kernel_rfl) (fun _ _ _ h => h) (Or.inl ⟨by rfl, ?_⟩) (by assumption) ?_
        rotate_left
        · intro w hSw
          clear hSw
          go_simp
          try with_reducible rfl
        try simp only [Act.put, List.setIfInBounds_toArray, List.set_cons_zero, List.set_cons_succ]
        refine hand_take (i := 47) (v := if pb then .pointer (some ⟨g6, 0, none⟩) else undef) rfl (by kernel_rfl) (by kernel_rfl) (by kernel_rfl) (fun _ _ _ h => h) ?_ (by assumption) ?_
        · cases pb
          · exact Or.inr ⟨by rfl, rfl⟩
          · exact Or.inl ⟨by rfl, by (intro w hSw; go_simp)⟩
        try simp only [Act.put, List.setIfInBounds_toArray, List.set_cons_zero, List.set_cons_succ]
        refine hand_take (i := 48) (v := if pb then .bool qb else undef) rfl (by kernel_rfl) (by kernel_rfl) (by kernel_rfl) (fun _ _ _ h => h) ?_ (by assumption) ?_
        · cases pb
          · exact Or.inr ⟨by rfl, rfl⟩
          · exact Or.inl ⟨by rfl, by (intro w hSw; have ht := hSw; obtain ⟨t0, t1, t2, t3, t4, t5⟩ := ht; go_simp)⟩
        try simp only [Act.put, List.setIfInBounds_toArray, List.set_cons_zero, List.set_cons_succ]
        refine hand_take (i := 49) (v := if pb then .bool (!qb) else undef) rfl (by kernel_rfl) (by kernel_rfl) (by kernel_rfl) (fun _ _ _ h => h) ?_ (by assumption) ?_
        · cases pb
          · exact Or.inr ⟨by rfl, rfl⟩
          · exact Or.inl ⟨by rfl, by (intro w hSw; go_simp)⟩
        try simp only [Act.put, List.setIfInBounds_toArray, List.set_cons_zero, List.set_cons_succ]
        refine hand_take (i := 50) (v := .bool (pb && !qb)) rfl (by kernel_rfl) (by kernel_rfl) (by kernel_rfl) (fun _ _ _ h => h) (Or.inl ⟨by rfl, ?_⟩) (by assumption) ?_
        · intro w hSw
          cases pb <;> (go_simp; try first | with_reducible rfl | simp only [*])
        try simp only [Act.put, List.setIfInBounds_toArray, List.set_cons_zero, List.set_cons_succ]
        generalize (if pb then Value.pointer (some ⟨g6, 0, none⟩) else undef) = j47
        generalize (if pb then Value.bool qb else undef) = j48
        generalize (if pb then Value.bool (!qb) else undef) = j49
        refine hand_take (i := 51) (v := ?_) rfl (by kernel_rfl) (by kernel_rfl) (by kernel_rfl) (fun _ _ _ h => h) (Or.inl ⟨by rfl, ?_⟩) (by assumption) ?_
        rotate_left
        · intro w hSw
          clear hSw
          go_simp
          try with_reducible rfl
        try simp only [Act.put, List.setIfInBounds_toArray, List.set_cons_zero, List.set_cons_succ]
        refine hand_take (i := 52) (v := if pb && !qb then .int .i64 x else undef) rfl (by kernel_rfl) (by kernel_rfl) (by kernel_rfl) (fun _ _ _ h => h) ?_ (by assumption) ?_
        · cases pb
          · exact Or.inr ⟨by rfl, rfl⟩
          · cases qb
            · exact Or.inl ⟨by rfl, by (intro w hSw; go_simp)⟩
            · exact Or.inr ⟨by rfl, rfl⟩
        try simp only [Act.put, List.setIfInBounds_toArray, List.set_cons_zero, List.set_cons_succ]
        refine hand_take (i := 53) (v := if pb && !qb then .bool M else undef) rfl (by kernel_rfl) (by kernel_rfl) (by kernel_rfl) (fun _ _ _ h => h) ?_ (by assumption) ?_
        · cases pb
          · exact Or.inr ⟨by rfl, rfl⟩
          · cases qb
            · exact Or.inl ⟨by rfl, by (intro w hSw; go_simp; try simpa using hNU)⟩
            · exact Or.inr ⟨by rfl, rfl⟩
        try simp only [Act.put, List.setIfInBounds_toArray, List.set_cons_zero, List.set_cons_succ]
        refine hand_take (i := 54) (v := .bool false) rfl (by kernel_rfl) (by kernel_rfl) (by kernel_rfl) (fun _ _ _ h => h) (Or.inl ⟨by rfl, ?_⟩) (by assumption) ?_
        · intro w hSw
          cases pb <;> cases qb <;> cases M <;> (first | exact absurd hNU (by decide) | skip) <;> (go_simp; try first | with_reducible rfl | simp only [*])
        try simp only [Act.put, List.setIfInBounds_toArray, List.set_cons_zero, List.set_cons_succ]
        refine hand_take (i := 55) (v := ?_) rfl (by kernel_rfl) (by kernel_rfl) (by kernel_rfl) (fun _ _ _ h => h) (Or.inl ⟨by rfl, ?_⟩) (by assumption) ?_
        rotate_left
        · intro w hSw
          clear hSw
          go_simp
          try with_reducible rfl
        try simp only [Act.put, List.setIfInBounds_toArray, List.set_cons_zero, List.set_cons_succ]
        generalize (if pb && !qb then Value.int IntKind.i64 x else undef) = j52
        generalize (if pb && !qb then Value.bool M else undef) = j53
        generalize Value.bool (pb && !qb) = j51
        generalize Value.bool P = jP
        generalize Value.bool E = jE
        clear hNU hPRZ hEE hl1 hl2 hxx hnx hxE hE hP hR hZ hM
        refine wpAnyH_done (by kernel_rfl) ?_ _
        go_wp2_with fail
        go_roundw
        case rel => exact ⟨k + 1, by omega, by go_num, by (have hh := HW.out.trans (HB11.out.mono HW.out.size); first | exact hh | exact bl_dr hh)⟩
        case measure => simp [intOf]; omega
      have um0 : IntKind.i64.wrap 0 = 0 := by decide
      have um1 : IntKind.i64.wrap 1 = 1 := by decide
      have um2 : IntKind.i64.wrap 2 = 2 := by decide
      have um3 : IntKind.i64.wrap 3 = 3 := by decide
      have um4 : IntKind.i64.wrap 4 = 4 := by decide
      have tm1 : Int.tmod 1 3 = 1 := by decide
      have tm2 : Int.tmod 2 3 = 2 := by decide
      have tm3 : Int.tmod 3 3 = 0 := by decide
      have tm4 : Int.tmod 4 3 = 1 := by decide
      clear hK
      rcases (by omega : k = 0 ∨ k = 1 ∨ k = 2) with rfl | rfl | rfl
      · go_region_held_law (fun w' => w'.cell? ⟨w.heap.size, 0, none⟩ = some (Value.bool a.b) ∧ w'.cell? ⟨w.heap.size, 1, none⟩ = some (Value.int .i64 a.n) ∧ w'.cell? ⟨w.heap.size, 2, none⟩ = some (Value.string a.s) ∧ w'.cell? ⟨w.heap.size, 3, none⟩ = some (Value.bool b.b) ∧ w'.cell? ⟨w.heap.size, 4, none⟩ = some (Value.int .i64 b.n) ∧ w'.cell? ⟨w.heap.size, 5, none⟩ = some (Value.string b.s) ∧ w'.cell? ⟨w.heap.size, 6, none⟩ = some (Value.bool c.b) ∧ w'.cell? ⟨w.heap.size, 7, none⟩ = some (Value.int .i64 c.n) ∧ w'.cell? ⟨w.heap.size, 8, none⟩ = some (Value.string c.s))
          ((refine S9.up HSr.out ?_ hwr; repeat (first | exact Below.refl _ _ | with_reducible apply bl_al | with_reducible apply bl_dr | (refine bl_st ?_ (by simp <;> omega)))))
          (fail)
        all_goals
          show K _ _
          refine TAIL (pb := a.b) (pn := a.n) (ps := a.s) (qb := b.b) (qn := b.n) (qs := b.s) (rb := c.b) (rn := c.n) (rs := c.s) (Lib.hid ?_) (Lib.hid ?_) (Lib.hid ?_) (Lib.hid ?_)
          · refine VB.dr ?_
            repeat (first | (with_reducible refine VB.newAt _ _ _ _ _ ?_; simp; done) | (with_reducible refine VB.al ?_ _))
          · refine VB.dr ?_
            repeat (first | (with_reducible refine VB.newAt _ _ _ _ _ ?_; simp; done) | (with_reducible refine VB.al ?_ _))
          · refine VB.dr ?_
            repeat (first | (with_reducible refine VB.newAt _ _ _ _ _ ?_; simp; done) | (with_reducible refine VB.al ?_ _))
          · repeat (first | exact hb.out | with_reducible apply bl_dr | with_reducible apply bl_al)
      · go_region_held_law (fun w' => w'.cell? ⟨w.heap.size, 0, none⟩ = some (Value.bool a.b) ∧ w'.cell? ⟨w.heap.size, 1, none⟩ = some (Value.int .i64 a.n) ∧ w'.cell? ⟨w.heap.size, 2, none⟩ = some (Value.string a.s) ∧ w'.cell? ⟨w.heap.size, 3, none⟩ = some (Value.bool b.b) ∧ w'.cell? ⟨w.heap.size, 4, none⟩ = some (Value.int .i64 b.n) ∧ w'.cell? ⟨w.heap.size, 5, none⟩ = some (Value.string b.s) ∧ w'.cell? ⟨w.heap.size, 6, none⟩ = some (Value.bool c.b) ∧ w'.cell? ⟨w.heap.size, 7, none⟩ = some (Value.int .i64 c.n) ∧ w'.cell? ⟨w.heap.size, 8, none⟩ = some (Value.string c.s))
          ((refine S9.up HSr.out ?_ hwr; repeat (first | exact Below.refl _ _ | with_reducible apply bl_al | with_reducible apply bl_dr | (refine bl_st ?_ (by simp <;> omega)))))
          (fail)
        all_goals
          show K _ _
          refine TAIL (pb := b.b) (pn := b.n) (ps := b.s) (qb := c.b) (qn := c.n) (qs := c.s) (rb := a.b) (rn := a.n) (rs := a.s) (Lib.hid ?_) (Lib.hid ?_) (Lib.hid ?_) (Lib.hid ?_)
          · refine VB.dr ?_
            repeat (first | (with_reducible refine VB.newAt _ _ _ _ _ ?_; simp; done) | (with_reducible refine VB.al ?_ _))
          · refine VB.dr ?_
            repeat (first | (with_reducible refine VB.newAt _ _ _ _ _ ?_; simp; done) | (with_reducible refine VB.al ?_ _))
          · refine VB.dr ?_
            repeat (first | (with_reducible refine VB.newAt _ _ _ _ _ ?_; simp; done) | (with_reducible refine VB.al ?_ _))
          · repeat (first | exact hb.out | with_reducible apply bl_dr | with_reducible apply bl_al)
      · go_region_held_law (fun w' => w'.cell? ⟨w.heap.size, 0, none⟩ = some (Value.bool a.b) ∧ w'.cell? ⟨w.heap.size, 1, none⟩ = some (Value.int .i64 a.n) ∧ w'.cell? ⟨w.heap.size, 2, none⟩ = some (Value.string a.s) ∧ w'.cell? ⟨w.heap.size, 3, none⟩ = some (Value.bool b.b) ∧ w'.cell? ⟨w.heap.size, 4, none⟩ = some (Value.int .i64 b.n) ∧ w'.cell? ⟨w.heap.size, 5, none⟩ = some (Value.string b.s) ∧ w'.cell? ⟨w.heap.size, 6, none⟩ = some (Value.bool c.b) ∧ w'.cell? ⟨w.heap.size, 7, none⟩ = some (Value.int .i64 c.n) ∧ w'.cell? ⟨w.heap.size, 8, none⟩ = some (Value.string c.s))
          ((refine S9.up HSr.out ?_ hwr; repeat (first | exact Below.refl _ _ | with_reducible apply bl_al | with_reducible apply bl_dr | (refine bl_st ?_ (by simp <;> omega)))))
          (fail)
        all_goals
          show K _ _
          refine TAIL (pb := c.b) (pn := c.n) (ps := c.s) (qb := a.b) (qn := a.n) (qs := a.s) (rb := b.b) (rn := b.n) (rs := b.s) (Lib.hid ?_) (Lib.hid ?_) (Lib.hid ?_) (Lib.hid ?_)
          · refine VB.dr ?_
            repeat (first | (with_reducible refine VB.newAt _ _ _ _ _ ?_; simp; done) | (with_reducible refine VB.al ?_ _))
          · refine VB.dr ?_
            repeat (first | (with_reducible refine VB.newAt _ _ _ _ _ ?_; simp; done) | (with_reducible refine VB.al ?_ _))
          · refine VB.dr ?_
            repeat (first | (with_reducible refine VB.newAt _ _ _ _ _ ?_; simp; done) | (with_reducible refine VB.al ?_ _))
          · repeat (first | exact hb.out | with_reducible apply bl_dr | with_reducible apply bl_al)
    · obtain rfl : k = 3 := by omega
      go_wp2_with fail
      go_ret
      exact ⟨rfl, B1.out.trans (hb.out.mono B1.out.size)⟩
end Go.Proofs.YtmdeojlpccdahaaDoor.ord
namespace Go.Proofs.YtmdeojlpccdahaaDoor
open Go.RowKit Go.Lib
theorem walkOrd (a b c : Va) (w : World) (_ha : a.Fine) (_hb : b.Fine) (_hc : c.Fine) (hG : Glob5 w) :
    Calls Tryd.prog 3 #[.agg #[.bool a.b, .int .i64 a.n, .string a.s, .bool b.b, .int .i64 b.n, .string b.s, .bool c.b, .int .i64 c.n, .string c.s]] w fun e w' => e = .returned (.bool true) ∧ Below w.heap.size w w' :=
  ord.walk a b c w hG
end Go.Proofs.YtmdeojlpccdahaaDoor
