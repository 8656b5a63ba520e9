/-
  P4.6: a changed byte, a repeated point, the point 0 and shares of different lengths are noticed. For every input that the row lets in; no further condition.
-/
import Derived.Test.YteaaadccjnmacaaDetQ
import Derived.Deep.QuietTactic
import Derived.BigQuiet
import Derived.Deep.RegionHeldLaw
import Derived.RegionTactic
import Derived.Deep.Cut
namespace Go.Proofs.Yteaaadccjnmacaa.det
open Go.ChangeShapes Go.WideShapes Go.ChangeAt Go.RowKit

/-- the law's two arguments in their boxes -/
structure DW (w : World) (D E : Nat) (a b c d x0 x1 x2 : Value) : Prop where
  d0 : w.cell? ⟨D, 0, none⟩ = some a
  d1 : w.cell? ⟨D, 1, none⟩ = some b
  d2 : w.cell? ⟨D, 2, none⟩ = some c
  d3 : w.cell? ⟨D, 3, none⟩ = some d
  e0 : w.cell? ⟨E, 0, none⟩ = some x0
  e1 : w.cell? ⟨E, 1, none⟩ = some x1
  e2 : w.cell? ⟨E, 2, none⟩ = some x2
  lD : D < w.heap.size
  lE : E < w.heap.size
theorem DW.up {w w' : World} {D E : Nat} {a b c d x0 x1 x2 : Value} (h : DW w D E a b c d x0 x1 x2) (hb : Below w.heap.size w w') : DW w' D E a b c d x0 x1 x2 :=
  ⟨(hb.cell (p := ⟨D, 0, none⟩) h.lD).trans h.d0, (hb.cell (p := ⟨D, 1, none⟩) h.lD).trans h.d1, (hb.cell (p := ⟨D, 2, none⟩) h.lD).trans h.d2, (hb.cell (p := ⟨D, 3, none⟩) h.lD).trans h.d3,
    (hb.cell (p := ⟨E, 0, none⟩) h.lE).trans h.e0, (hb.cell (p := ⟨E, 1, none⟩) h.lE).trans h.e1, (hb.cell (p := ⟨E, 2, none⟩) h.lE).trans h.e2, Nat.lt_of_lt_of_le h.lD hb.size, Nat.lt_of_lt_of_le h.lE hb.size⟩
structure DF (w : World) (D E F : Nat) (a b c d x0 x1 x2 : Value) (P T : Nat) : Prop where
  x : DW w D E a b c d x0 x1 x2
  f0 : w.cell? ⟨F, 0, none⟩ = some (.int .i64 (P : Int))
  f1 : w.cell? ⟨F, 1, none⟩ = some (.int .i64 (T : Int))
  lF : F < w.heap.size
theorem DF.up {w w' : World} {D E F P T : Nat} {a b c d x0 x1 x2 : Value} (h : DF w D E F a b c d x0 x1 x2 P T) (hb : Below w.heap.size w w') : DF w' D E F a b c d x0 x1 x2 P T :=
  ⟨h.x.up hb, (hb.cell (p := ⟨F, 0, none⟩) h.lF).trans h.f0, (hb.cell (p := ⟨F, 1, none⟩) h.lF).trans h.f1, Nat.lt_of_lt_of_le h.lF hb.size⟩
theorem boxF {w1 w2 : World} {D E P T : Nat} {a b c d x0 x1 x2 : Value} (h : DW w1 D E a b c d x0 x1 x2) (hb : Below w1.heap.size w1 w2) :
    DF (w2.alloc (.cells #[.int .i64 (P : Int), .int .i64 (T : Int)] 25)) D E w2.heap.size a b c d x0 x1 x2 P T := by
  have hb2 := step_al hb (ba1 w2 (.cells #[.int .i64 (P : Int), .int .i64 (T : Int)] 25))
  have hn := heap_alloc_new w2 (.cells #[.int .i64 (P : Int), .int .i64 (T : Int)] 25)
  exact ⟨h.up hb2, cell_of_row _ w2.heap.size 0 _ _ (0, 0) hn, cell_of_row _ w2.heap.size 1 _ _ (0, 0) hn, by rw [hz]; exact Nat.lt_succ_self _⟩
theorem sane_boxes (w : World) (a b c d x0 x1 x2 : Value) : Calls Try.prog 6 #[] ((w.alloc (.cells #[a, b, c, d] 24)).alloc (.cells #[x0, x1, x2] 44)) fun e w' => e = .returned (.bool true) ∧
    DW w' w.heap.size (w.heap.size + 1) a b c d x0 x1 x2 ∧ Below w.heap.size w w' := by
  refine (sanity_any _).mono ?_
  rintro e w' ⟨h1, hb⟩
  obtain ⟨w0, hw0⟩ : ∃ w0, w0 = w.alloc (.cells #[a, b, c, d] 24) := ⟨_, rfl⟩
  have hn := heap_alloc_new w (.cells #[a, b, c, d] 24)
  rw [← hw0] at hb hn
  have hs : w0.heap.size = w.heap.size + 1 := by rw [hw0, hz]
  have hn2 := heap_alloc_new w0 (.cells #[x0, x1, x2] 44)
  have hb1 := ba1 w0 (.cells #[x0, x1, x2] 44)
  rw [hs] at hn2
  have l1 : w.heap.size < w0.heap.size := by omega
  have X : DW (w0.alloc (.cells #[x0, x1, x2] 44)) w.heap.size (w.heap.size + 1) a b c d x0 x1 x2 :=
    ⟨(hb1.cell (p := ⟨w.heap.size, 0, none⟩) l1).trans (cell_of_row _ w.heap.size 0 _ _ (0, 0) hn), (hb1.cell (p := ⟨w.heap.size, 1, none⟩) l1).trans (cell_of_row _ w.heap.size 1 _ _ (0, 0) hn),
      (hb1.cell (p := ⟨w.heap.size, 2, none⟩) l1).trans (cell_of_row _ w.heap.size 2 _ _ (0, 0) hn), (hb1.cell (p := ⟨w.heap.size, 3, none⟩) l1).trans (cell_of_row _ w.heap.size 3 _ _ (0, 0) hn),
      cell_of_row _ (w.heap.size + 1) 0 _ _ (0, 0) hn2, cell_of_row _ (w.heap.size + 1) 1 _ _ (0, 0) hn2, cell_of_row _ (w.heap.size + 1) 2 _ _ (0, 0) hn2, by rw [hz]; omega, by rw [hz]; omega⟩
  refine ⟨h1, X.up hb, step_al (step_al ?_ hb1) hb⟩
  rw [hw0]
  exact ba1 w _
theorem shl_at {w : World} {B g i : Nat} {l : List Sh} {s : Sh} (h : ShL w B (some ⟨g, 0, none⟩) l) (hi : l[i]? = some s) : ShAt w B g (i * 2) s := by
  obtain ⟨b, off, e, _, h2⟩ := h.one hi
  injection e with e
  injection e with e1 e2
  subst e1 e2
  rw [Nat.zero_add] at h2
  exact h2
theorem okWide_arr {P : Program} {w : World} {r : Reach} {base : Nat} {t e : TypeId} {n : Nat} {v : Value} (ht : P.underlying t = some (.array n e)) (h : Value.okWide P w r base t v) : ∃ cs, v = .agg cs := by
  unfold Value.okWide at h
  rw [ht] at h
  obtain ⟨cs, rfl, _⟩ := h
  exact ⟨cs, rfl⟩
theorem open_u8x3 {H : Type} {enc : TypeId × Value → H} {W : World} {base : Nat} {held : Bool} {v : Value} {d : DataW H} {p : List MemPlace}
    (hv : Value.okWide Try.prog W .any base 44 v) (h : DataW.Trod enc Try.prog W 0 (fun _ => true) held 44 v d p) :
    ∃ x y z : UInt8, v = .agg #[.int .u8 (x.toNat : Int), .int .u8 (y.toNat : Int), .int .u8 (z.toNat : Int)] := by
  obtain ⟨cs, rfl⟩ := okWide_arr Try.underlying44 hv
  obtain ⟨fu, hf⟩ := h
  obtain ⟨xs, m, rfl, hx, hl, hxl, hel⟩ := DataW.trod_array Try.underlying44 hf
  have cA : Try.prog.cellsOf 44 = 3 := by kernel_rfl
  rw [cA] at hl
  obtain ⟨l⟩ := cs
  match l, hl with
  | [a, b, c], _ =>
    have h0 := hel 0 (by decide)
    have h1 := hel 1 (by decide)
    have h2 := hel 2 (by decide)
    rw [cells5, List.getElem?_eq_getElem (by omega)] at h0 h1 h2
    obtain ⟨z0, e0, _, w0⟩ := DataW.trod_int Try.underlying5 h0
    obtain ⟨z1, e1, _, w1⟩ := DataW.trod_int Try.underlying5 h1
    obtain ⟨z2, e2, _, w2⟩ := DataW.trod_int Try.underlying5 h2
    have f0 : [a] = [Value.int .u8 z0] := e0
    have f1 : [b] = [Value.int .u8 z1] := e1
    have f2 : [c] = [Value.int .u8 z2] := e2
    simp only [List.cons.injEq, and_true] at f0 f1 f2
    subst f0 f1 f2
    obtain ⟨x, rfl⟩ := open_u8 w0
    obtain ⟨y, rfl⟩ := open_u8 w1
    obtain ⟨z, rfl⟩ := open_u8 w2
    exact ⟨x, y, z, rfl⟩
attribute [local irreducible] splitL interpB wfB maskB
set_option maxHeartbeats 4000000 in
set_option maxRecDepth 20000 in
theorem walk_small (A : Option Addr) (ca : Nat) (sl : List UInt8) (B : Option Addr) (cb_ : Nat) (rl : List UInt8) (x y : UInt8) (x0 x1 x2 : UInt8) (w : World)
    (h1 : sl.length ≤ 40) (h2 : rl.length ≤ 400) (h0 : 0 < sl.length) (hy : 0 < y.toNat % 9)
    (hsA : Shows w w.heap.size A sl) (hcA : sl.length ≤ ca) (hmA : ca ≤ 140737488351232) (hsB : Shows w w.heap.size B rl) (hcB : rl.length ≤ cb_) (hmB : cb_ ≤ 140737488351232) :
    Calls Try.prog 5 #[.agg #[.slice A sl.length ca, .slice B rl.length cb_, .int .u8 (x.toNat : Int), .int .u8 (y.toNat : Int)], .agg #[.int .u8 (x0.toNat : Int), .int .u8 (x1.toNat : Int), .int .u8 (x2.toNat : Int)]] w fun e w' => e = .returned (.bool true) ∧ Below w.heap.size w w' := by
  obtain ⟨P, hP⟩ : ∃ P, P = 1 + x.toNat % 8 := ⟨_, rfl⟩
  obtain ⟨T, hT⟩ : ∃ T, T = P + y.toNat % 9 := ⟨_, rfl⟩
  have hP1 : 1 ≤ P := by omega
  have hPT : P < T := by omega
  have hT16 : T ≤ 16 := by omega
  have hzz : (decide (sl.length ≤ 40) && decide (rl.length ≤ 400)) = true := by simp [h1, h2]
  obtain ⟨N, hN⟩ : ∃ N, N = sl.length := ⟨_, rfl⟩
  obtain ⟨R, hR⟩ : ∃ N, N = rl.length := ⟨_, rfl⟩
  have HF := Lib.hid (fun w1 => fits_is A B sl.length ca rl.length cb_ P T x y true w1 hP hT (by omega) (by omega) hzz)
  have HS : Hid (∀ w1, Below w.heap.size w w1 → Calls Try.prog 7 #[.slice A N ca, .slice B R cb_, .agg #[.int .i64 (P : Int), .int .i64 (T : Int)]] w1
      fun e w' => ∃ g, e = .returned (.tuple #[.slice (some ⟨g, 0, none⟩) T T, .int .i64 0]) ∧ ShL w' w'.heap.size (some ⟨g, 0, none⟩) (splitL sl rl P T) ∧ Below w1.heap.size w1 w') := fun w1 hb =>
    split_is A N ca sl B R cb_ rl P T w1 hN hR (hsA.up hb) (by omega) ⟨hcA, by omega⟩ (hsB.up hb) (by omega) ⟨hcB, by omega⟩ hP1 (by omega) (by omega)
  have HN := Lib.hid hN
  have hN40 : N ≤ 40 := by omega
  have hN0 : 0 < N := by omega
  rw [← hN, ← hR] at HF
  rw [← hN, ← hR]
  obtain ⟨k, hk⟩ : ∃ k, k = x0.toNat % T := ⟨_, rfl⟩
  obtain ⟨i, hi⟩ : ∃ i, i = x1.toNat % N := ⟨_, rfl⟩
  have hkT : k < T := by rw [hk]; exact Nat.mod_lt _ (by omega)
  have hiN : i < N := by rw [hi]; exact Nat.mod_lt _ (by omega)
  have t1 : (x0.toNat : Int).tmod (T : Int) = (k : Int) := by rw [Int.tmod_eq_emod_of_nonneg (by omega), hk]; exact (Int.natCast_emod _ _).symm
  have t2 : (x1.toNat : Int).tmod (N : Int) = (i : Int) := by rw [Int.tmod_eq_emod_of_nonneg (by omega), hi]; exact (Int.natCast_emod _ _).symm
  have b0 := x0.toNat_lt
  have b1 := x1.toNat_lt
  have b2 := x2.toNat_lt
  have c0 : IntKind.i64.wrap (x0.toNat : Int) = (x0.toNat : Int) := IntWalk.i64_in _ ⟨by omega, by omega⟩
  have c1 : IntKind.i64.wrap (x1.toNat : Int) = (x1.toNat : Int) := IntWalk.i64_in _ ⟨by omega, by omega⟩
  have n1 : ¬ (N : Int) = 0 := by omega
  have n2 : ¬ (T : Int) = 0 := by omega
  have n3 : ¬ (T : Int) = (P : Int) := by omega
  have HT := Lib.hid (And.intro t1 (And.intro t2 (And.intro c0 c1)))
  clear hP hT hzz hsA hsB hN hR h1 h2 h0 hy hcA hmA hcB hmB t1 t2 c0 c1 hk hi
  go_enter Try.func5, Try.ntmps5
  go_wp2_with (first
    | ((with_reducible show Calls _ 6 _ _ _); refine (sane_boxes w _ _ _ _ _ _ _).mono ?_; rintro e w1 ⟨rfl, hx1, hb1⟩; have HB1 := Lib.hid hb1; have X1 := Lib.hid hx1; have c0 := hx1.d0; have c1 := hx1.d1; have c2 := hx1.d2; have c3 := hx1.d3; clear hb1 hx1)
    | ((with_reducible show Calls _ 15 _ _ _); refine (HF.out _).mono ?_; rintro e w2 ⟨rfl, hb2⟩; have HB2 := Lib.hid (step_al (step_al HB1.out hb2) (ba1 w2 (.cells #[.int .i64 (P : Int), .int .i64 (T : Int)] 25))); have X2 := Lib.hid (boxF (P := P) (T := T) X1.out hb2); have u0 := X2.out.x.d0; have u1 := X2.out.x.d1; have u4 := X2.out.f0; have u5 := X2.out.f1; clear hb2 c0 c1 c2 c3)
    | ((with_reducible show Calls _ 7 _ _ _); refine (HS.out _ HB2.out).mono ?_; rintro e w4 ⟨g4, rfl, hl4, hb4⟩; have HL4 := Lib.hid hl4; have HB4 := Lib.hid (step_al HB2.out hb4); have X4 := Lib.hid (X2.out.up hb4); have y0 := X4.out.x.d0; have y1 := X4.out.x.e0; have y2 := X4.out.x.e1; have y3 := X4.out.f1; clear hl4 hb4 u0 u1 u4 u5))
  clear HF HS
  obtain ⟨t1, t2, c0, c1⟩ := HT.out
  go_quiet (fail)
  go_wp2_with fail
  have HBq : Hid (Below w.heap.size w (w4.drewN nq)) := below_drewN HB4.out nq
  have XQ := Lib.hid (X4.out.up (below_drewN (Below.refl _ _) nq))
  have HLQ := Lib.hid (HL4.out.up (below_drewN (Below.refl _ _) nq))
  clear HB2 HB4 HB1 X1 X2 X4 HL4 y0 y1 y2 y3
  generalize w4.drewN nq = w5 at *
  obtain ⟨b, hb⟩ : ∃ b, b = (shK sl rl P k).2 := ⟨_, rfl⟩
  have HGK : Hid ((splitL sl rl P T)[k]? = some ((shK sl rl P k).1, b)) := by show _ = _; rw [hb]; exact shK_get sl rl P T k hkT
  have HBL : Hid (N = b.length) := by show _ = _; rw [hb, shK_len]; exact HN.out
  obtain ⟨cx, Q1, q1, cy, hsh1, hq1, hq2⟩ := shl_at HLQ.out HGK.out
  simp only at cx cy hsh1 hq1
  rw [← HBL.out] at cy
  have y0 := XQ.out.x.d0
  trace "R8 done"
  go_quiet (fail)
  clear cx cy y0
  have HBr : Hid (Below w.heap.size w (w5.drewN nq)) := below_drewN HBq.out nq
  have XR := Lib.hid (XQ.out.up (below_drewN (Below.refl _ _) nq))
  have HLR := Lib.hid (HLQ.out.up (below_drewN (Below.refl _ _) nq))
  clear HBq XQ HLQ
  generalize w5.drewN nq = w6 at *
  obtain ⟨cx, Q2, q2, cy, hsh2, hq3, hq4⟩ := shl_at HLR.out HGK.out
  simp only at cx cy hsh2 hq3
  rw [← HBL.out] at cy
  have cy2 : ∀ o, (w6.alloc o).cell? ⟨g4, k * 2 + 1, none⟩ = some (.slice Q2 N q2) := fun o => ((ba1 w6 o).cell (p := ⟨g4, k * 2 + 1, none⟩) (World.block_lt_of_cell? w6 _ cy)).trans cy
  have HSH := Lib.hid hsh2
  have HBH := Lib.hid hb
  clear hb hsh1 hsh2 hq1 hq2
  go_wp2_with (at_builtin; refine wpList_clone rfl (.tmp 88) (.tmp 93) rfl w6.heap.size b Q2 N q2 _ rfl rfl rfl rfl HBL.out hN0 HSH.out (by omega) (Nat.le_refl _) ?_; intro g7 c7 w7 hg7 hc7 hm7 hrb7 hb7; have HG7 := Lib.hid hg7; have HRB := Lib.hid hrb7; have HB7 := Lib.hid hb7; clear hg7 hrb7 hb7)
  trace "R11 done"
  clear cx cy cy2
  have X7 := Lib.hid (XR.out.up HB7.out)
  have y4 := X7.out.x.e2
  have y5 := HRB.out.cell (i := i) (by rw [← HBL.out]; exact hiN)
  have y6 := HRB.out.frozen i
  obtain ⟨v0, hv0⟩ : ∃ v, v = byte b i := ⟨_, rfl⟩
  rw [← hv0] at y5
  obtain ⟨d, hd⟩ : ∃ d, d = x2.toNat % 255 := ⟨_, rfl⟩
  obtain ⟨v1, hv1⟩ : ∃ v1, v1 = v0 ^^^ UInt8.ofNat (1 + d) := ⟨_, rfl⟩
  have t3 : (x2.toNat : Int).tmod 255 = (d : Int) := by rw [Int.tmod_eq_emod_of_nonneg (by omega)]; omega
  have t4 : IntKind.u8.wrap (1 + (d : Int)) = 1 + (d : Int) := IntWalk.u8_in _ (by omega)
  have t5 : bits .xor .u8 (v0.toNat : Int) (1 + (d : Int)) = (v1.toNat : Int) := by
    have h := u8_xor v0 (UInt8.ofNat (1 + d))
    rw [UInt8.toNat_ofNat', Nat.mod_eq_of_lt (by omega : 1 + d < 2 ^ 8)] at h
    rw [hv1, ← h]
    congr 1
  have HV0 := Lib.hid hv0
  have HV1 : Hid (v1 ≠ v0) := by
    show v1 ≠ v0
    intro e
    rw [hv1] at e
    have e2 := congrArg (v0 ^^^ ·) e
    simp only [← UInt8.xor_assoc, UInt8.xor_self, UInt8.zero_xor] at e2
    have e3 := congrArg UInt8.toNat e2
    rw [UInt8.toNat_ofNat', Nat.mod_eq_of_lt (by omega : 1 + d < 2 ^ 8)] at e3
    simp at e3
  clear hv0 hv1 hd
  go_region
  all_goals (
    have HRB2 : Hid (Rb ((w7.setCell ⟨g7, i, none⟩ (.int .u8 (v1.toNat : Int))).drew) g7 (b.set i v1)) := HRB.out.set i v1 _ rfl (by rw [← HBL.out]; exact hiN)
    have HB8 : Hid (Below w6.heap.size w6 ((w7.setCell ⟨g7, i, none⟩ (.int .u8 (v1.toNat : Int))).drew)) := (HB7.out.setCell HG7.out _).drew
    clear HRB HB7 y4 y5 y6 X7 t3 t4 t5
    generalize (w7.setCell ⟨g7, i, none⟩ (.int .u8 (v1.toNat : Int))).drew = w8 at *
    have HBW : Hid (Below w.heap.size w w8) := step_al HBr.out HB8.out
    have X8 := Lib.hid (XR.out.up HB8.out)
    have HL8 := Lib.hid (HLR.out.up HB8.out)
    have HGL : Hid (g4 < w8.heap.size) := by
      obtain ⟨cx, _⟩ := shl_at HL8.out HGK.out
      exact World.block_lt_of_cell? w8 _ cx
    have hT0 : 0 < T := by omega
    clear HB8 HBr XR HLR HG7
    go_upto_region 14 with (first
      | (at_builtin; refine wpList_copy_sh rfl (.tmp 107) (.tmp 108) rfl w8.heap.size (splitL sl rl P T) (some ⟨g4, 0, none⟩) T T _ rfl rfl rfl rfl (splitL_len _ _ _ _).symm hT0 HL8.out (by omega) (Nat.le_refl _) ?_; intro g9 c9 w9 hg9 hc9 hm9 hrw9 hsi9 hb9; have HB9 := Lib.hid hb9; have HR9 := Lib.hid hrw9; have HI9 := Lib.hid hsi9; have HG9 := Lib.hid hg9; have HS9 : Hid (w8.heap.size ≤ w9.heap.size) := hb9.size; clear hb9 hrw9 hsi9 hg9)
      | (at_builtin; refine wpList_copy_sh rfl (.tmp 110) (.tmp 111) rfl w8.heap.size (splitL sl rl P T) (some ⟨g4, 0, none⟩) T T _ rfl rfl rfl rfl (splitL_len _ _ _ _).symm hT0 (HL8.out.below HB9.out) (by omega) HS9.out ?_; intro g10 c10 w10 hg10 hc10 hm10 hrw10 hsi10 hb10; have HB10 := Lib.hid (HB9.out.trans (hb10.mono HS9.out)); have HG10 : Hid (w8.heap.size ≤ g10 ∧ g9 < g10) := ⟨Nat.le_trans HS9.out hg10, Nat.lt_of_lt_of_le HR9.out.lt hg10⟩; have HI9 := Lib.hid (HI9.out.up hb10 HR9.out.lt HS9.out); have HR9 := Lib.hid (HR9.out.up hb10); have HR10 := Lib.hid hrw10; have HI10 := Lib.hid hsi10; have HS10 : Hid (w8.heap.size ≤ w10.heap.size) := HB10.out.size; clear hb10 hrw10 hsi10 hg10)
      | (at_builtin; refine wpList_copy_sh rfl (.tmp 113) (.tmp 114) rfl w8.heap.size (splitL sl rl P T) (some ⟨g4, 0, none⟩) T T _ rfl rfl rfl rfl (splitL_len _ _ _ _).symm hT0 (HL8.out.below HB10.out) (by omega) HS10.out ?_; intro g11 c11 w11 hg11 hc11 hm11 hrw11 hsi11 hb11; have HB11 := Lib.hid (HB10.out.trans (hb11.mono HS10.out)); have HG11 : Hid (w8.heap.size ≤ g11 ∧ g10 < g11) := ⟨Nat.le_trans HS10.out hg11, Nat.lt_of_lt_of_le HR10.out.lt hg11⟩; have HI9 := Lib.hid (HI9.out.up hb11 HR9.out.lt HS10.out); have HR9 := Lib.hid (HR9.out.up hb11); have HI10 := Lib.hid (HI10.out.up hb11 HR10.out.lt HS10.out); have HR10 := Lib.hid (HR10.out.up hb11); have HR11 := Lib.hid hrw11; have HI11 := Lib.hid hsi11; have HS11 : Hid (w8.heap.size ≤ w11.heap.size) := HB11.out.size; clear hb11 hrw11 hsi11 hg11)
      | (at_builtin; refine wpList_copy_sh rfl (.tmp 116) (.tmp 117) rfl w8.heap.size (splitL sl rl P T) (some ⟨g4, 0, none⟩) T T _ rfl rfl rfl rfl (splitL_len _ _ _ _).symm hT0 (HL8.out.below HB11.out) (by omega) HS11.out ?_; intro g12 c12 w12 hg12 hc12 hm12 hrw12 hsi12 hb12; have HB12 := Lib.hid (HB11.out.trans (hb12.mono HS11.out)); have HG12 : Hid (w8.heap.size ≤ g12 ∧ g11 < g12) := ⟨Nat.le_trans HS11.out hg12, Nat.lt_of_lt_of_le HR11.out.lt hg12⟩; have HI9 := Lib.hid (HI9.out.up hb12 HR9.out.lt HS11.out); have HR9 := Lib.hid (HR9.out.up hb12); have HI10 := Lib.hid (HI10.out.up hb12 HR10.out.lt HS11.out); have HR10 := Lib.hid (HR10.out.up hb12); have HI11 := Lib.hid (HI11.out.up hb12 HR11.out.lt HS11.out); have HR11 := Lib.hid (HR11.out.up hb12); have HR12 := Lib.hid hrw12; have HI12 := Lib.hid hsi12; have HS12 : Hid (w8.heap.size ≤ w12.heap.size) := HB12.out.size; clear hb12 hrw12 hsi12 hg12))
    obtain ⟨m, hm⟩ : ∃ m, m = (k + 1) % T := ⟨_, rfl⟩
    have hmT : m < T := by rw [hm]; exact Nat.mod_lt _ hT0
    have hmk : m ≠ k := by
      rw [hm]
      rcases Nat.lt_or_ge (k + 1) T with h | h
      · rw [Nat.mod_eq_of_lt h]; omega
      · obtain rfl : T = k + 1 := by omega
        rw [Nat.mod_self]; omega
    have t6 : ((k : Int) + 1).tmod (T : Int) = (m : Int) := by rw [Int.tmod_eq_emod_of_nonneg (by omega), hm]; exact (Int.natCast_emod _ _).symm
    clear hm
    obtain ⟨dx, Q3, q3, dy, hsh3, hq5, hq6⟩ := shl_at HL8.out (shK_get sl rl P T m hmT)
    obtain ⟨cx, Q4, q4, cy, hsh4, hq7, hq8⟩ := shl_at HL8.out HGK.out
    simp only at cx cy hsh4 hq7
    have HLM : Hid (N = (shK sl rl P m).2.length) := by show _ = _; rw [shK_len]; exact HN.out
    rw [← HBL.out] at cy hq7
    rw [← HLM.out] at dy hq5
    have HS3 := Lib.hid hsh3
    have HS4 := Lib.hid hsh4
    have HCELL : Hid (∀ w1, Below w8.heap.size w8 w1 → w1.cell? ⟨g4, k * 2, none⟩ = some (.int .u8 ((shK sl rl P k).1.toNat : Int)) ∧ w1.cell? ⟨g4, k * 2 + 1, none⟩ = some (.slice Q4 N q4) ∧ w1.cell? ⟨g4, m * 2, none⟩ = some (.int .u8 ((shK sl rl P m).1.toNat : Int)) ∧ w1.cell? ⟨g4, m * 2 + 1, none⟩ = some (.slice Q3 N q3)) := fun w1 hb =>
      ⟨(hb.cell (p := ⟨g4, k * 2, none⟩) HGL.out).trans cx, (hb.cell (p := ⟨g4, k * 2 + 1, none⟩) HGL.out).trans cy, (hb.cell (p := ⟨g4, m * 2, none⟩) HGL.out).trans dx, (hb.cell (p := ⟨g4, m * 2 + 1, none⟩) HGL.out).trans dy⟩
    clear cx cy dx dy hsh3 hsh4
    generalize hxk : (shK sl rl P k).1 = xk at *
    generalize hxm : (shK sl rl P m).1 = xm at *
    have HXK := Lib.hid hxk
    have HXM := Lib.hid hxm
    clear hxk hxm
    obtain ⟨b', hb'⟩ : ∃ b', b' = b.set i v1 := ⟨_, rfl⟩
    have HBS := Lib.hid hb'
    have HBL2 : Hid (N = b'.length) := by show _ = _; rw [hb', List.length_set]; exact HBL.out
    rw [← hb'] at HRB2
    clear hb'
    have HSB : Hid (Shows w8 w8.heap.size (some ⟨g7, 0, none⟩) b') := HRB2.out.shows HRB2.out.lt
    have HTL : Hid ((splitL sl rl P T).length = T) := splitL_len _ _ _ _
    -- region 14
    obtain ⟨cx, cy, dx, dy⟩ := HCELL.out w12 HB12.out
    obtain ⟨va, ha⟩ := HR9.out.cell (i := k * 2) (by omega)
    obtain ⟨vb, hb⟩ := HR9.out.cell (i := k * 2 + 1) (by omega)
    have fa := HR9.out.frozen (k * 2)
    have fb := HR9.out.frozen (k * 2 + 1)
    go_upto_region 15 with (fail)
    have HB13 : Hid (Below w8.heap.size w8 (put2 w12 g9 k (.int .u8 (xk.toNat : Int)) (.slice (some ⟨g7, 0, none⟩) N c7))) := put2_below HB12.out HG9.out k _ _
    have HI9 : Hid (ShIn (put2 w12 g9 k (.int .u8 (xk.toNat : Int)) (.slice (some ⟨g7, 0, none⟩) N c7)) w8.heap.size g9 ((splitL sl rl P T).set k (xk, b'))) := HI9.out.put HG9.out (Nat.le_refl _) (by rw [HTL.out]; exact HR9.out) (by rw [HTL.out]; exact hkT) xk b' (some ⟨g7, 0, none⟩) N c7 _ rfl HBL2.out (HSB.out.below HB13.out) hc7 hm7
    have HI10 := Lib.hid (HI10.out.put_other (j := g9) (k := k) HG9.out (by have := HG10.out; omega) (.int .u8 (xk.toNat : Int)) (.slice (some ⟨g7, 0, none⟩) N c7))
    have HI11 := Lib.hid (HI11.out.put_other (j := g9) (k := k) HG9.out (by have := HG10.out; have := HG11.out; omega) (.int .u8 (xk.toNat : Int)) (.slice (some ⟨g7, 0, none⟩) N c7))
    have HI12 := Lib.hid (HI12.out.put_other (j := g9) (k := k) HG9.out (by have := HG10.out; have := HG11.out; have := HG12.out; omega) (.int .u8 (xk.toNat : Int)) (.slice (some ⟨g7, 0, none⟩) N c7))
    have HR9 := Lib.hid (HR9.out.put2 g9 k (.int .u8 (xk.toNat : Int)) (.slice (some ⟨g7, 0, none⟩) N c7))
    have HR10 := Lib.hid (HR10.out.put2 g9 k (.int .u8 (xk.toNat : Int)) (.slice (some ⟨g7, 0, none⟩) N c7))
    have HR11 := Lib.hid (HR11.out.put2 g9 k (.int .u8 (xk.toNat : Int)) (.slice (some ⟨g7, 0, none⟩) N c7))
    have HR12 := Lib.hid (HR12.out.put2 g9 k (.int .u8 (xk.toNat : Int)) (.slice (some ⟨g7, 0, none⟩) N c7))
    clear cx cy dx dy ha hb fa fb
    unfold put2 at HB13 HI9 HI10 HI11 HI12 HR9 HR10 HR11 HR12
    generalize (w12.setCell ⟨g9, k * 2, none⟩ (.int .u8 (xk.toNat : Int))).setCell ⟨g9, k * 2 + 1, none⟩ (.slice (some ⟨g7, 0, none⟩) N c7) = w13 at *
    -- region 15
    obtain ⟨cx, cy, dx, dy⟩ := HCELL.out w13 HB13.out
    obtain ⟨va, ha⟩ := HR10.out.cell (i := k * 2) (by omega)
    obtain ⟨vb, hb⟩ := HR10.out.cell (i := k * 2 + 1) (by omega)
    have fa := HR10.out.frozen (k * 2)
    have fb := HR10.out.frozen (k * 2 + 1)
    go_upto_region 16 with (fail)
    have HB14 : Hid (Below w8.heap.size w8 (put2 w13 g10 k (.int .u8 (xm.toNat : Int)) (.slice Q3 N q3))) := put2_below HB13.out HG10.out.1 k _ _
    have HI10 : Hid (ShIn (put2 w13 g10 k (.int .u8 (xm.toNat : Int)) (.slice Q3 N q3)) w8.heap.size g10 ((splitL sl rl P T).set k (xm, (shK sl rl P m).2))) := HI10.out.put HG10.out.1 (Nat.le_refl _) (by rw [HTL.out]; exact HR10.out) (by rw [HTL.out]; exact hkT) xm (shK sl rl P m).2 Q3 N q3 _ rfl HLM.out (HS3.out.below HB14.out) hq5 hq6
    have HI9 := Lib.hid (HI9.out.put_other (j := g10) (k := k) HG10.out.1 (by have := HG10.out; omega) (.int .u8 (xm.toNat : Int)) (.slice Q3 N q3))
    have HI11 := Lib.hid (HI11.out.put_other (j := g10) (k := k) HG10.out.1 (by have := HG11.out; omega) (.int .u8 (xm.toNat : Int)) (.slice Q3 N q3))
    have HI12 := Lib.hid (HI12.out.put_other (j := g10) (k := k) HG10.out.1 (by have := HG11.out; have := HG12.out; omega) (.int .u8 (xm.toNat : Int)) (.slice Q3 N q3))
    have HR9 := Lib.hid (HR9.out.put2 g10 k (.int .u8 (xm.toNat : Int)) (.slice Q3 N q3))
    have HR10 := Lib.hid (HR10.out.put2 g10 k (.int .u8 (xm.toNat : Int)) (.slice Q3 N q3))
    have HR11 := Lib.hid (HR11.out.put2 g10 k (.int .u8 (xm.toNat : Int)) (.slice Q3 N q3))
    have HR12 := Lib.hid (HR12.out.put2 g10 k (.int .u8 (xm.toNat : Int)) (.slice Q3 N q3))
    clear cx cy dx dy ha hb fa fb
    unfold put2 at HB14 HI9 HI10 HI11 HI12 HR9 HR10 HR11 HR12
    generalize (w13.setCell ⟨g10, k * 2, none⟩ (.int .u8 (xm.toNat : Int))).setCell ⟨g10, k * 2 + 1, none⟩ (.slice Q3 N q3) = w14 at *
    -- region 16
    obtain ⟨cx, cy, dx, dy⟩ := HCELL.out w14 HB14.out
    obtain ⟨va, ha⟩ := HR11.out.cell (i := k * 2) (by omega)
    obtain ⟨vb, hb⟩ := HR11.out.cell (i := k * 2 + 1) (by omega)
    have fa := HR11.out.frozen (k * 2)
    have fb := HR11.out.frozen (k * 2 + 1)
    go_upto_region 17 with (fail)
    have HB15 : Hid (Below w8.heap.size w8 (put2 w14 g11 k (.int .u8 0) (.slice Q4 N q4))) := put2_below HB14.out HG11.out.1 k _ _
    have HI11 : Hid (ShIn (put2 w14 g11 k (.int .u8 0) (.slice Q4 N q4)) w8.heap.size g11 ((splitL sl rl P T).set k (0, b))) := HI11.out.put HG11.out.1 (Nat.le_refl _) (by rw [HTL.out]; exact HR11.out) (by rw [HTL.out]; exact hkT) 0 b Q4 N q4 _ rfl HBL.out (HS4.out.below HB15.out) hq7 hq8
    have HI9 := Lib.hid (HI9.out.put_other (j := g11) (k := k) HG11.out.1 (by have := HG10.out; have := HG11.out; omega) (.int .u8 0) (.slice Q4 N q4))
    have HI10 := Lib.hid (HI10.out.put_other (j := g11) (k := k) HG11.out.1 (by have := HG11.out; omega) (.int .u8 0) (.slice Q4 N q4))
    have HI12 := Lib.hid (HI12.out.put_other (j := g11) (k := k) HG11.out.1 (by have := HG12.out; omega) (.int .u8 0) (.slice Q4 N q4))
    have HR9 := Lib.hid (HR9.out.put2 g11 k (.int .u8 0) (.slice Q4 N q4))
    have HR10 := Lib.hid (HR10.out.put2 g11 k (.int .u8 0) (.slice Q4 N q4))
    have HR11 := Lib.hid (HR11.out.put2 g11 k (.int .u8 0) (.slice Q4 N q4))
    have HR12 := Lib.hid (HR12.out.put2 g11 k (.int .u8 0) (.slice Q4 N q4))
    clear cx cy dx dy ha hb fa fb
    unfold put2 at HB15 HI9 HI10 HI11 HI12 HR9 HR10 HR11 HR12
    generalize (w14.setCell ⟨g11, k * 2, none⟩ (.int .u8 0)).setCell ⟨g11, k * 2 + 1, none⟩ (.slice Q4 N q4) = w15 at *
    -- region 17
    obtain ⟨va, ha⟩ := HR12.out.cell (i := k * 2) (by omega)
    obtain ⟨vb, hb⟩ := HR12.out.cell (i := k * 2 + 1) (by omega)
    have fa := HR12.out.frozen (k * 2)
    have fb := HR12.out.frozen (k * 2 + 1)
    have HC15 : Hid (∀ w1, Below w15.heap.size w15 w1 → w1.cell? ⟨g4, k * 2, none⟩ = some (.int .u8 (xk.toNat : Int)) ∧ w1.cell? ⟨g12, k * 2, none⟩ = some va ∧ w1.cell? ⟨g12, k * 2 + 1, none⟩ = some vb ∧ w1.frozen? ⟨g12, k * 2, none⟩ = false ∧ w1.frozen? ⟨g12, k * 2 + 1, none⟩ = false) := fun w1 h1 =>
      ⟨(HCELL.out w1 (step_al HB15.out h1)).1, (h1.cell (p := ⟨g12, k * 2, none⟩) HR12.out.lt).trans ha, (h1.cell (p := ⟨g12, k * 2 + 1, none⟩) HR12.out.lt).trans hb, (h1.frozen (p := ⟨g12, k * 2, none⟩) HR12.out.lt).trans fa, (h1.frozen (p := ⟨g12, k * 2 + 1, none⟩) HR12.out.lt).trans fb⟩
    have HSB15 : Hid (∀ w1, Below w15.heap.size w15 w1 → Shows w1 w8.heap.size (some ⟨g7, 0, none⟩) b') := fun w1 h1 => HSB.out.below (step_al HB15.out h1)
    have HN1 : Hid (N + 1 = (b' ++ [0]).length) := by show _ = _; rw [List.length_append, ← HBL2.out]; rfl
    have HN2 : Hid (N = ([] ++ b').length) := by show _ = _; rw [List.nil_append, ← HBL2.out]
    have HNE : Hid (g4 ≠ g12) := (by have h1 := HGL.out; have h2 := HG12.out; show g4 ≠ g12; omega)
    obtain ⟨cx, -⟩ := HCELL.out w15 HB15.out
    clear ha hb fa fb
    go_region_held_law (fun w' => w'.cell? ⟨g4, k * 2, none⟩ = some (.int .u8 (xk.toNat : Int)))
      (first | exact hS18.1 | exact hS17.1 | exact (HC15.out _ (Below.refl _ _)).1 | exact (HC15.out _ (ba1 _ _)).1 | exact (HC15.out _ (ba2 _ _ _)).1 | exact (HC15.out _ (Below.refl _ _).drew).1 | exact (HC15.out _ (ba1 _ _).drew).1 | exact (HC15.out _ (ba2 _ _ _).drew).1 | exact (HC15.out _ (ba1 _ _).drew.drew).1 | exact (HC15.out _ (ba2 _ _ _).drew.drew).1 | exact (HC15.out _ (step_al HB17.out (ba1 _ _))).1 | exact (HC15.out _ (step_al HB17.out (ba1 _ _)).drew).1 | exact (HC15.out _ (step_al HB17.out (ba1 _ _)).drew.drew).1 | exact (put2_other w18 g12 k _ _ ⟨g4, k * 2, none⟩ HNE.out).trans hS18.1 | exact (put2_other w18.drew g12 k _ _ ⟨g4, k * 2, none⟩ HNE.out).trans hS18.1 | go_keep)
      (first
        | (refine step_growB rfl (.tmp 156) (.tmp 157) rfl w15.heap.size w15 (.slice (some ⟨_, 0, none⟩) 0 0) [] g7 0 b' N c7 w8.heap.size N rfl rfl HBL2.out hN0 (by first | exact ba1 _ _ | exact ba2 _ _ _ | exact (ba1 _ _).drew | exact (ba2 _ _ _).drew | exact (ba1 _ _).drew.drew | exact (ba2 _ _ _).drew.drew) (by first | exact own_e (Nat.le_refl _) rfl | exact own_e (w := w15.alloc _) (by simp) (by simp) | exact World.ownsRow.alloc (own_e (Nat.le_refl _) rfl) _) (by first | exact (ba1 _ _).size | exact (ba2 _ _ _).size) (HSB15.out _ (by first | exact ba1 _ _ | exact ba2 _ _ _ | exact (ba1 _ _).drew | exact (ba2 _ _ _).drew | exact (ba1 _ _).drew.drew | exact (ba2 _ _ _).drew.drew)) (by simp; omega) HN2.out ?_; intro A17 c17 w17 ho17 hb17 hgr17; have HO17 : Hid (Owns w17 w15.heap.size (.slice A17 N c17) b') := (by show Owns _ _ _ _; simpa using ho17); have HB17 := Lib.hid hb17; have hS17 := HC15.out w17 hb17; (first | (have HZ := Lib.hid (hgr17.cell (zA w15) (neA _))) | (have HZ := Lib.hid (hgr17.cell (zB w15) (neB _))) | skip); clear ho17 hb17 hgr17)
        | (refine step_growB rfl (.tmp 158) (.tmp 159) rfl w15.heap.size w15 (.slice A17 N c17) b' _ 0 [0] 1 _ _ (N + 1) rfl rfl rfl Nat.one_pos (by first | exact HB17.out | exact HB17.out.drew | exact step_al HB17.out (ba1 _ _) | exact (step_al HB17.out (ba1 _ _)).drew) (by first | exact HO17.out | exact World.ownsRow.alloc HO17.out _) (by first | exact HB17.out.size | exact Nat.le_trans HB17.out.size (by simp)) (by first | exact one_show HZ.out (World.block_lt_of_cell? w17 _ HZ.out) | exact show_z rfl) (by rw [← HBL2.out]; omega) HN1.out ?_; intro A18 c18 w18 ho18 hb18 hgr18; have HO18 := Lib.hid ho18; have HB18 := Lib.hid hb18; have hS18 := HC15.out w18 hb18; obtain ⟨_, e1, e2, e3, e4⟩ := HC15.out w18 hb18; clear ho18 hb18 hgr18))
    all_goals (
      clear e1 e2 e3 e4 cx
      have HB18w : Hid (Below w8.heap.size w8 w18) := step_al HB15.out HB18.out
      have HI9 := Lib.hid (HI9.out.up HB18.out HR9.out.lt HB15.out.size)
      have HI10 := Lib.hid (HI10.out.up HB18.out HR10.out.lt HB15.out.size)
      have HI11 := Lib.hid (HI11.out.up HB18.out HR11.out.lt HB15.out.size)
      have HI12 := Lib.hid (HI12.out.up HB18.out HR12.out.lt HB15.out.size)
      have HO19 := Lib.hid (own_put2 (k := k) (x := .int .u8 (xk.toNat : Int)) (u := .slice A18 (N + 1) c18) HO18.out HR12.out.lt)
      have HR9 := Lib.hid ((HR9.out.up HB18.out).put2 g12 k (.int .u8 (xk.toNat : Int)) (.slice A18 (N + 1) c18))
      have HR10 := Lib.hid ((HR10.out.up HB18.out).put2 g12 k (.int .u8 (xk.toNat : Int)) (.slice A18 (N + 1) c18))
      have HR11 := Lib.hid ((HR11.out.up HB18.out).put2 g12 k (.int .u8 (xk.toNat : Int)) (.slice A18 (N + 1) c18))
      have HR12b := Lib.hid (HR12.out.up HB18.out)
      have HR12 := Lib.hid (HR12b.out.put2 g12 k (.int .u8 (xk.toNat : Int)) (.slice A18 (N + 1) c18))
      have HI9 := Lib.hid (HI9.out.put_other (j := g12) (k := k) HG12.out.1 (by have := HG10.out; have := HG11.out; have := HG12.out; omega) (.int .u8 (xk.toNat : Int)) (.slice A18 (N + 1) c18))
      have HI10 := Lib.hid (HI10.out.put_other (j := g12) (k := k) HG12.out.1 (by have := HG11.out; have := HG12.out; omega) (.int .u8 (xk.toNat : Int)) (.slice A18 (N + 1) c18))
      have HI11 := Lib.hid (HI11.out.put_other (j := g12) (k := k) HG12.out.1 (by have := HG12.out; omega) (.int .u8 (xk.toNat : Int)) (.slice A18 (N + 1) c18))
      obtain ⟨hsl, hsc⟩ : (N + 1 ≤ c18 ∧ c18 ≤ 9223372036854775807) ∧ Shows (put2 w18 g12 k (.int .u8 (xk.toNat : Int)) (.slice A18 (N + 1) c18)) (put2 w18 g12 k (.int .u8 (xk.toNat : Int)) (.slice A18 (N + 1) c18)).heap.size A18 (b' ++ [0]) := by
        have h := HO19.out.shows
        rw [← HN1.out] at h
        refine ⟨⟨h.2.1, ?_⟩, h.2.2⟩
        rcases HO19.out.2 with ⟨e, _⟩ | ⟨g, cap, cur, e, _, _, _, hm, _⟩
        · injection e with _ e2 _
          omega
        · injection e with _ _ e3
          subst e3
          simpa [maxLen] using hm
      rw [put2_size] at hsc
      have HI12 : Hid (ShIn (put2 w18 g12 k (.int .u8 (xk.toNat : Int)) (.slice A18 (N + 1) c18)) w18.heap.size g12 ((splitL sl rl P T).set k (xk, b' ++ [0]))) := HI12.out.put HG12.out.1 HB18w.out.size (by rw [HTL.out]; exact HR12b.out) (by rw [HTL.out]; exact hkT) xk (b' ++ [0]) A18 (N + 1) c18 _ rfl HN1.out hsc hsl.1 hsl.2
      have HB19 : Hid (Below w8.heap.size w8 (put2 w18 g12 k (.int .u8 (xk.toNat : Int)) (.slice A18 (N + 1) c18))) := put2_below HB18w.out HG12.out.1 k _ _
      have HZ19 : Hid ((put2 w18 g12 k (.int .u8 (xk.toNat : Int)) (.slice A18 (N + 1) c18)).heap.size = w18.heap.size) := put2_size _ _ _ _ _
      clear hsl hsc HO19 HO18 HR12b
      unfold put2 at HI9 HI10 HI11 HI12 HR9 HR10 HR11 HR12 HB19 HZ19
      generalize (w18.setCell ⟨g12, k * 2, none⟩ (.int .u8 (xk.toNat : Int))).setCell ⟨g12, k * 2 + 1, none⟩ (.slice A18 (N + 1) c18) = w19 at *
      have HF0 : Hid (∀ w1, Below w8.heap.size w8 w1 → w1.cell? ⟨w2.heap.size, 0, none⟩ = some (.int .i64 (P : Int))) := fun w1 h1 => (h1.cell (p := ⟨w2.heap.size, 0, none⟩) X8.out.lF).trans X8.out.f0
      have HSL : Hid (b = (shK sl rl P k).2) := HBH
      have HDN : Hid (wfB ((splitL sl rl P T).set k (xk, b')) = true ∧ (∀ s ∈ (splitL sl rl P T).set k (xk, b'), s.2.length = N) ∧ ¬ Fits ((splitL sl rl P T).set k (xk, b')) P N) := by
        have h := det_no (sl := sl) (rl := rl) hP1 hPT (by omega : T ≤ 255) hkT (by rw [← HN.out]; exact hiN : i < sl.length) v1 (by rw [← HSL.out, ← HV0.out]; exact HV1.out)
        unfold chgL at h
        rw [HXK.out, ← HSL.out, ← HBS.out, ← HN.out] at h
        exact h
      have HLE : Hid (∀ (s : Sh), s.2.length ≤ N + 1 → ∀ t ∈ (splitL sl rl P T).set k s, t.2.length ≤ 140737488351232) := fun s hs t ht => by
        rcases set_mem ht with h | h
        · rw [split_lens h, ← HN.out]; omega
        · rw [h]; omega
      have HC9 : Hid (∀ w1, Below w19.heap.size w19 w1 → Calls Try.prog 9 #[.slice (some ⟨g9, 0, none⟩) T c9, .int .i64 (P : Int)] w1 fun e w' => e = .returned (.tuple #[.slice none 0 0, .int .i64 40]) ∧ Below w1.heap.size w1 w') := fun w1 h1 =>
        combine_no _ T c9 _ P N w1 (by rw [List.length_set]; exact HTL.out.symm) (((HI9.out.up h1 HR9.out.lt HB19.out.size).shl (HR9.out.up h1).lt (Nat.le_trans HB19.out.size h1.size))) (by rw [List.length_set, HTL.out]; omega) ⟨hc9, hm9⟩ HDN.out.2.1 (by omega) hP1 (by omega) HDN.out.1 (by omega) HDN.out.2.2
      have HC10 : Hid (∀ w1, Below w19.heap.size w19 w1 → Calls Try.prog 9 #[.slice (some ⟨g10, 0, none⟩) T c10, .int .i64 (P : Int)] w1 fun e w' => e = .returned (.tuple #[.slice none 0 0, .int .i64 40]) ∧ Below w1.heap.size w1 w') := fun w1 h1 =>
        combine_wf _ T c10 _ P w1 (by rw [List.length_set]; exact HTL.out.symm) (((HI10.out.up h1 HR10.out.lt HB19.out.size).shl (HR10.out.up h1).lt (Nat.le_trans HB19.out.size h1.size))) (by rw [List.length_set, HTL.out]; omega) (HLE.out _ (by rw [← HLM.out]; omega)) (by omega) (by omega) (.inl (by rw [← HXM.out]; exact det_rep hkT hmT hmk))
      have HC11 : Hid (∀ w1, Below w19.heap.size w19 w1 → Calls Try.prog 9 #[.slice (some ⟨g11, 0, none⟩) T c11, .int .i64 (P : Int)] w1 fun e w' => e = .returned (.tuple #[.slice none 0 0, .int .i64 40]) ∧ Below w1.heap.size w1 w') := fun w1 h1 =>
        combine_wf _ T c11 _ P w1 (by rw [List.length_set]; exact HTL.out.symm) (((HI11.out.up h1 HR11.out.lt HB19.out.size).shl (HR11.out.up h1).lt (Nat.le_trans HB19.out.size h1.size))) (by rw [List.length_set, HTL.out]; omega) (HLE.out _ (by rw [← HBL.out]; omega)) (by omega) (by omega) (.inl (det_zero hkT))
      have HC12 : Hid (∀ w1, Below w19.heap.size w19 w1 → Calls Try.prog 9 #[.slice (some ⟨g12, 0, none⟩) T c12, .int .i64 (P : Int)] w1 fun e w' => e = .returned (.tuple #[.slice none 0 0, .int .i64 40]) ∧ Below w1.heap.size w1 w') := fun w1 h1 =>
        combine_wf _ T c12 _ P w1 (by rw [List.length_set]; exact HTL.out.symm) (((HI12.out.up h1 HR12.out.lt (by rw [HZ19.out]; exact Nat.le_refl _)).shl (HR12.out.up h1).lt (Nat.le_trans (Nat.le_of_eq HZ19.out.symm) h1.size))) (by rw [List.length_set, HTL.out]; omega) (HLE.out _ (by rw [← HN1.out]; omega)) (by omega) (by omega) (.inl (det_long xk (by omega) hkT (by rw [← HN1.out, ← HN.out])))
      have HB19w : Hid (Below w.heap.size w w19) := step_al HBW.out HB19.out
      clear HI9 HI10 HI11 HI12 HR9 HR10 HR11 HR12 HDN HLE
      have f0 := HF0.out w19 HB19.out
      go_wp2_with (first
        | ((with_reducible show Calls _ 9 #[.slice (some ⟨g9, _, _⟩) _ _, _] _ _); refine (HC9.out _ (Below.refl _ _)).mono ?_; rintro e w20 ⟨rfl, hb20⟩; have HB20 := Lib.hid hb20; have f0 := HF0.out w20 (step_al HB19.out HB20.out); clear hb20)
        | ((with_reducible show Calls _ 9 #[.slice (some ⟨g10, _, _⟩) _ _, _] _ _); refine (HC10.out _ HB20.out).mono ?_; rintro e w21 ⟨rfl, hb21⟩; have HB21 := Lib.hid (step_al HB20.out hb21); have f0 := HF0.out w21 (step_al HB19.out HB21.out); clear hb21)
        | ((with_reducible show Calls _ 9 #[.slice (some ⟨g11, _, _⟩) _ _, _] _ _); refine (HC11.out _ HB21.out).mono ?_; rintro e w22 ⟨rfl, hb22⟩; have HB22 := Lib.hid (step_al HB21.out hb22); have f0 := HF0.out w22 (step_al HB19.out HB22.out); clear hb22)
        | ((with_reducible show Calls _ 9 #[.slice (some ⟨g12, _, _⟩) _ _, _] _ _); refine (HC12.out _ HB22.out).mono ?_; rintro e w23 ⟨rfl, hb23⟩; have HB23 := Lib.hid (step_al HB22.out hb23); clear hb23))
      go_ret
      exact ⟨rfl, step_al HB19w.out HB23.out⟩))
set_option maxHeartbeats 2000000 in
set_option maxRecDepth 20000 in
/-- The deal is too great, or there is nothing to change, or no share is more than required: nothing is asked. -/
theorem walk_big (A : Option Addr) (ca : Nat) (sl : List UInt8) (B : Option Addr) (cb_ : Nat) (rl : List UInt8) (x y : UInt8) (x0 x1 x2 : UInt8) (w : World)
    (hsl : sl.length ≤ 9223372036854775807) (hrl : rl.length ≤ 9223372036854775807) (hbig : ¬ (sl.length ≤ 40 ∧ rl.length ≤ 400 ∧ 0 < sl.length ∧ 0 < y.toNat % 9)) :
    Calls Try.prog 5 #[.agg #[.slice A sl.length ca, .slice B rl.length cb_, .int .u8 (x.toNat : Int), .int .u8 (y.toNat : Int)], .agg #[.int .u8 (x0.toNat : Int), .int .u8 (x1.toNat : Int), .int .u8 (x2.toNat : Int)]] w fun e w' => e = .returned (.bool true) ∧ Below w.heap.size w w' := by
  obtain ⟨P, hP⟩ : ∃ P, P = 1 + x.toNat % 8 := ⟨_, rfl⟩
  obtain ⟨T, hT⟩ : ∃ T, T = P + y.toNat % 9 := ⟨_, rfl⟩
  obtain ⟨z, hzz⟩ : ∃ z, (decide (sl.length ≤ 40) && decide (rl.length ≤ 400)) = z := ⟨_, rfl⟩
  have HF := Lib.hid (fun w1 => fits_is A B sl.length ca rl.length cb_ P T x y z w1 hP hT hsl hrl hzz)
  have hzn : z = true → sl.length = 0 ∨ (¬ sl.length = 0 ∧ T = P) := by
    intro h
    rw [h] at hzz
    simp at hzz
    omega
  generalize sl.length = N at *
  generalize rl.length = R at *
  clear hzz hbig
  cases z with
  | false =>
    clear hzn hP hT
    go_enter Try.func5, Try.ntmps5
    go_wp2_with (first
      | ((with_reducible show Calls _ 6 _ _ _); refine (sane_boxes w _ _ _ _ _ _ _).mono ?_; rintro e w1 ⟨rfl, hx1, hb1⟩; have HB1 := Lib.hid hb1; have X1 := Lib.hid hx1; have c0 := hx1.d0; have c1 := hx1.d1; have c2 := hx1.d2; have c3 := hx1.d3; clear hb1 hx1)
      | ((with_reducible show Calls _ 15 _ _ _); refine (HF.out _).mono ?_; rintro e w2 ⟨rfl, hb2⟩; have HB2 := Lib.hid (step_al (step_al HB1.out hb2) (ba1 w2 (.cells #[.int .i64 (P : Int), .int .i64 (T : Int)] 25))); clear hb2 c0 c1 c2 c3))
    go_ret
    exact ⟨rfl, HB2.out⟩
  | true =>
    rcases hzn rfl with h | ⟨h, h2⟩
    · subst h
      clear hzn hP hT
      go_enter Try.func5, Try.ntmps5
      go_wp2_with (first
        | ((with_reducible show Calls _ 6 _ _ _); refine (sane_boxes w _ _ _ _ _ _ _).mono ?_; rintro e w1 ⟨rfl, hx1, hb1⟩; have HB1 := Lib.hid hb1; have X1 := Lib.hid hx1; have c0 := hx1.d0; have c1 := hx1.d1; have c2 := hx1.d2; have c3 := hx1.d3; clear hb1 hx1)
        | ((with_reducible show Calls _ 15 _ _ _); refine (HF.out _).mono ?_; rintro e w2 ⟨rfl, hb2⟩; have HB2 := Lib.hid (step_al (step_al HB1.out hb2) (ba1 w2 (.cells #[.int .i64 (P : Int), .int .i64 (T : Int)] 25))); have X2 := Lib.hid (boxF (P := P) (T := T) X1.out hb2); have u0 := X2.out.x.d0; clear hb2 c0 c1 c2 c3))
      go_ret
      exact ⟨rfl, HB2.out⟩
    · subst h2
      have n1 : ¬ (N : Int) = 0 := by omega
      have n3 : ((T : Int) == (T : Int)) = true := by simp
      clear hzn hP hT h
      go_enter Try.func5, Try.ntmps5
      go_wp2_with (first
        | ((with_reducible show Calls _ 6 _ _ _); refine (sane_boxes w _ _ _ _ _ _ _).mono ?_; rintro e w1 ⟨rfl, hx1, hb1⟩; have HB1 := Lib.hid hb1; have X1 := Lib.hid hx1; have c0 := hx1.d0; have c1 := hx1.d1; have c2 := hx1.d2; have c3 := hx1.d3; clear hb1 hx1)
        | ((with_reducible show Calls _ 15 _ _ _); refine (HF.out _).mono ?_; rintro e w2 ⟨rfl, hb2⟩; have HB2 := Lib.hid (step_al (step_al HB1.out hb2) (ba1 w2 (.cells #[.int .i64 (T : Int), .int .i64 (T : Int)] 25))); have X2 := Lib.hid (boxF (P := T) (T := T) X1.out hb2); have u0 := X2.out.x.d0; have u4 := X2.out.f0; have u5 := X2.out.f1; clear hb2 c0 c1 c2 c3))
      go_ret
      exact ⟨rfl, HB2.out⟩
theorem walk (A : Option Addr) (ca : Nat) (sl : List UInt8) (B : Option Addr) (cb_ : Nat) (rl : List UInt8) (x y : UInt8) (x0 x1 x2 : UInt8) (w : World)
    (hsA : Shows w w.heap.size A sl) (hcA : sl.length ≤ ca) (hmA : ca ≤ 140737488351232) (hsB : Shows w w.heap.size B rl) (hcB : rl.length ≤ cb_) (hmB : cb_ ≤ 140737488351232) :
    Calls Try.prog 5 #[.agg #[.slice A sl.length ca, .slice B rl.length cb_, .int .u8 (x.toNat : Int), .int .u8 (y.toNat : Int)], .agg #[.int .u8 (x0.toNat : Int), .int .u8 (x1.toNat : Int), .int .u8 (x2.toNat : Int)]] w fun e w' => e = .returned (.bool true) ∧ Below w.heap.size w w' := by
  by_cases h : sl.length ≤ 40 ∧ rl.length ≤ 400 ∧ 0 < sl.length ∧ 0 < y.toNat % 9
  · exact walk_small A ca sl B cb_ rl x y x0 x1 x2 w h.1 h.2.1 h.2.2.1 h.2.2.2 hsA hcA hmA hsB hcB hmB
  · exact walk_big A ca sl B cb_ rl x y x0 x1 x2 w (by omega) (by omega) h

set_option maxRecDepth 100000 in
theorem contract (H : Type) (enc : TypeId × Value → H) (W : World) (base : Nat) (args : Array Value) (ds gs : List (DataW H)) (before : List MemPlace)
    (hval : ∀ (j : Nat) t v, Try.f5.params[j]? = some t → args[j]? = some v → Value.okWide Try.prog W .any base t v)
    (hW : DataW.Whole enc Try.prog Try.f5.params.toList Rows.shareDetectSpec.vars false W args.toList ds gs before)
    (hsz : (DataW.weightsEach Try.prog (Try.f5.params.toList ++ Rows.shareDetectSpec.plain.varTypes Try.prog) (ds ++ gs)).all (· ≤ reachBytes) = true) :
    Calls Try.prog 5 args W fun e W' => ∃ v, e = .returned v ∧ Rows.shareDetectSpec.post enc Try.prog Try.f5 false true false false W args v W' := by
  have hW' := hW
  obtain ⟨p, q, hA0, hV, rfl, _, _⟩ := hW
  have hA : DataW.TrodAll enc Try.prog W 0 (fun _ => true) true Try.f5.params.toList args.toList ds p := hA0
  rw [Try.params5] at hA hval hsz
  obtain ⟨v0, vs0, d0, ds0, p0, q0, hargs, rfl, rfl, h0, r0⟩ := trodAll_cons hA
  obtain ⟨v1, vs1, d1, ds1, p1, q1, rfl, rfl, rfl, h1, r1⟩ := trodAll_cons r0
  obtain ⟨rfl, rfl, rfl⟩ := trodAll_nil r1
  obtain rfl : args = #[v0, v1] := by cases args; simp_all
  obtain ⟨rfl, rfl⟩ := trodVars_none hV
  have k0 := h0
  have lt0 : ∀ x ∈ p0, x.block < W.heap.size := by obtain ⟨m, hm⟩ := k0; exact DataW.trod_lt m _ _ _ hm
  have S0 : ∀ n ∈ d0.weights Try.prog 24, n ≤ 140737488351232 := weights_le hsz (j := 0) rfl rfl
  have k1 := h1
  have lt1 : ∀ x ∈ p1, x.block < W.heap.size := by obtain ⟨m, hm⟩ := k1; exact DataW.trod_lt m _ _ _ hm
  have S1 : ∀ n ∈ d1.weights Try.prog 44, n ≤ 140737488351232 := weights_le hsz (j := 1) rfl rfl
  obtain ⟨A0, ca0, sl0, B0, cb0, rl0, x0, y0, rfl, hsA0, hcA0, hsB0, hcB0, Y0⟩ := open_deal (hval 0 24 v0 rfl rfl) h0
  have Z0 := Y0 S0
  obtain ⟨x1, y1, z1, rfl⟩ := open_u8x3 (hval 1 44 v1 rfl rfl) h1
  refine (walk A0 ca0 sl0 B0 cb0 rl0 x0 y0 x1 y1 z1 W hsA0 hcA0 Z0.1 hsB0 hcB0 Z0.2).mono fun e W' ⟨he, bel⟩ => ?_
  subst he
  exact ⟨_, rfl, _, _, _, [], _, [], hW', trodAll_mk1 (shut_bool Try.underlying4 _), (trodAll_cons_mk (Below.trod laidOut (by kernel_rfl) (of_decide_eq_true (by kernel_rfl)) k0 bel lt0) (trodAll_cons_mk (Below.trod laidOut (by kernel_rfl) (of_decide_eq_true (by kernel_rfl)) k1 bel lt1) trodAll_mk0)), rfl, bel.frame _, fun h => by cases h⟩

set_option maxRecDepth 100000 in
theorem lifted (os : Os) (started : os.Started) (H : Type) (enc : TypeId × Value → H) :
    ReturnsInHanded {} Try.checked os 5 .any (Rows.shareDetectSpec.pre6 enc Try.prog Try.f5 Rows.shareDetectRow.domain false) (Rows.shareDetectSpec.post enc Try.prog Try.f5 false true false false) := by
  refine returnsInHanded_of_change_sized (C := Try.checked) own started (by kernel_rfl) Try.func5
    (ChangeSpec.witness6 (enc := enc) (C := Try.checked) false ⟨#[], #[.agg #[.slice none 0 0, .slice none 0 0, .int .u8 0, .int .u8 0], .agg #[.int .u8 0, .int .u8 0, .int .u8 0]], []⟩ 8 (by kernel_rfl) (by kernel_rfl) (by kernel_rfl) (by kernel_rfl)) ?_
  intro W base args ds gs before hval hW _ hsz _
  exact contract H enc W base args ds gs before hval hW hsz

/-- The statement. -/
theorem proved : Rows.ShareDetectSaid :=
  OpenClaim.holds_of_wide 5 Try.f5 rfl rfl rfl rfl rfl rfl rfl ⟨rfl, rfl, rfl, rfl, rfl⟩ rfl rfl rfl rfl rfl (by kernel_rfl) Try.func5 (by kernel_rfl)
    (of_decide_eq_true (by kernel_rfl)) (by unfold Func.isWrapper; rw [if_neg (of_decide_eq_false (by kernel_rfl))]; exact ⟨rfl, rfl⟩)
    (fun os started H enc _ => lifted os started H enc)

end Go.Proofs.Yteaaadccjnmacaa.det
