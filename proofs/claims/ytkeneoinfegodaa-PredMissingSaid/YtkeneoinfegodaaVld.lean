/-
  The program's Valid, by a contract.
-/
import Derived.Test.YtkeneoinfegodaaWf
import Derived.Test.YtkeneoinfegodaaSet
namespace Go.Proofs.Ytkeneoinfegodaa
open Go.RowKit Go.Shelf
attribute [local go_sem] Oper.semAt_some

/-- what Valid asks of a predicate besides -/
def okF (l : List Fd) (x : Int × Pr) : Bool := !(decide (1 ≤ x.2.op ∧ x.2.op ≤ 4)) || fitsG l x.2.op x.2.id x.2.set
/-- whether a predicate is well-formed and fits fields -/
def validP (l : List Fd) (p : Pr) : Bool := (preO 1 p).all okW && (preO 1 p).all (okF l)
set_option maxHeartbeats 8000000 in
set_option maxRecDepth 20000 in
theorem validP_any (A : Option Addr) (nf c : Nat) (x : Int) (l : List Fd) (p : Pr) (w : World) (hn : nf = l.length) (hs : Fds w w.heap.size A l) (hl : nf ≤ 9223372036854775807) (hp : PrAt w w.heap.size p) (hdp : dep p ≤ 999999999) :
    Calls Try.prog 23 #[.agg #[.slice A nf c, .int .i64 x], .agg #[.int .i64 p.op, .int .i64 p.id, .int .i64 p.lo, .int .i64 p.hi, .slice p.S p.set.length p.sc, .string p.tx, .slice p.K p.kids.length p.kc]] w fun e w' => e = .returned (.bool (validP l p)) ∧ Below w.heap.size w w' := by
  refine (callsIn_wide (n := 6)).1 ?_
  have HP := Li hp
  have HN := Li hn
  have HS := Li hs
  obtain ⟨L, hL⟩ : ∃ L, L = preO 1 p := ⟨_, rfl⟩
  obtain ⟨bw, hbw⟩ : ∃ b, (preO 1 p).all okW = b := ⟨_, rfl⟩
  obtain ⟨zv, hzv⟩ : ∃ b, validP l p = b := ⟨_, rfl⟩
  rw [hzv]
  unfold validP at hzv
  rw [hbw, ← hL] at hzv
  have HBW := Li hbw
  have HLq := Li hL
  have HAT := Li (show ∀ i : Fin L.length, PrAt w w.heap.size (L[i.1]).2 from fun i => preO_at p 1 hp _ (by rw [← hL]; exact List.getElem_mem i.2))
  have B0 := Li (al3 w (.cells #[.slice A nf c, .int .i64 x] 63) (.cells #[.int .i64 p.op, .int .i64 p.id, .int .i64 p.lo, .int .i64 p.hi, .slice p.S p.set.length p.sc, .string p.tx, .slice p.K p.kids.length p.kc] 25) (.cells #[.bool false] 4))
  have S0 := Li (((CB.new w 63 [.slice A nf c, .int .i64 x]).alloc (.cells #[.int .i64 p.op, .int .i64 p.id, .int .i64 p.lo, .int .i64 p.hi, .slice p.S p.set.length p.sc, .string p.tx, .slice p.K p.kids.length p.kc] 25)).alloc (.cells #[.bool false] 4))
  have P0 := Li ((CB.new1 w (.cells #[.slice A nf c, .int .i64 x] 63) 25 [.int .i64 p.op, .int .i64 p.id, .int .i64 p.lo, .int .i64 p.hi, .slice p.S p.set.length p.sc, .string p.tx, .slice p.K p.kids.length p.kc]).alloc (.cells #[.bool false] 4))
  have N0 := Li (CB.new2 w (.cells #[.slice A nf c, .int .i64 x] 63) (.cells #[.int .i64 p.op, .int .i64 p.id, .int .i64 p.lo, .int .i64 p.hi, .slice p.S p.set.length p.sc, .string p.tx, .slice p.K p.kids.length p.kc] 25) 4 [.bool false])
  have HP0 := Li (PrAt.up HP.out B0.out)
  clear hp hL hn hs hbw
  refine callsIn_of_wp_marks Try.func23 rfl trivial ?_ rfl
  simp only [Try.ntmps23, List.size_toArray, List.length_cons, List.length_nil, Nat.reduceAdd, Nat.reduceSub, Array.replicate_succ, Array.replicate_zero, List.push_toArray, List.append_toArray, List.nil_append, List.cons_append]
  cases bw with
  | false =>
    simp only [Bool.false_and] at hzv
    subst hzv
    gi_wp2_with (refine ⟨trivial, ?_⟩; gi_at_call 35; refine (callsIn_wide.2 (wf_any p _ HP0.out hdp)).mono ?_; rintro e w1 ⟨rfl, hb1⟩; rw [HBW.out]; have BW := Li hb1; have B1 := Li (below_step B0.out B0.out.size hb1); have N1 := Li (N0.out.up hb1); have zn1 := N1.out.lt; have n1 := N1.out.cell 0 rfl; have nf1 := N1.out.frozen 0; have P1 := Li (P0.out.up BW.out); have S1 := Li (S0.out.up BW.out); have p0 := P1.out.c7; have zp := P1.out.lt; clear hb1)
    refine ⟨.bool false, ?_, ?_, by exact B1.out.setCell (p := ⟨w.heap.size + 1 + 1, 0, none⟩) (by show w.heap.size ≤ w.heap.size + 1 + 1; omega) _⟩
    · simp [results, Try.results23, go_sem, (N1.out.set_ 0 (.bool false)).cell 0 rfl]
    · rfl
  | true =>
    gi_wp2_with (first | (refine ⟨trivial, ?_⟩; gi_at_call 35; refine (callsIn_wide.2 (wf_any p _ HP0.out hdp)).mono ?_; rintro e w1 ⟨rfl, hb1⟩; rw [HBW.out]; have BW := Li hb1; have B1 := Li (below_step B0.out B0.out.size hb1); have N1 := Li (N0.out.up hb1); have zn1 := N1.out.lt; have n1 := N1.out.cell 0 rfl; have nf1 := N1.out.frozen 0; have P1 := Li (P0.out.up BW.out); have S1 := Li (S0.out.up BW.out); have p0 := P1.out.c7; have zp := P1.out.lt; clear hb1) | (refine ⟨trivial, ?_⟩; gi_at_call 25; refine (all_in Fence.wide (6 - 1) trivial rfl p _).mono ?_; rintro e w' ⟨rfl, rfl⟩))
    simp only [Bool.true_and] at hzv
    have N2 := Li (N1.out.alloc (.cells #[.int .i64 p.op, .int .i64 p.id, .int .i64 p.lo, .int .i64 p.hi, .slice p.S p.set.length p.sc, .string p.tx, .slice p.K p.kids.length p.kc] 25))
    have S2 := Li (S1.out.alloc (.cells #[.int .i64 p.op, .int .i64 p.id, .int .i64 p.lo, .int .i64 p.hi, .slice p.S p.set.length p.sc, .string p.tx, .slice p.K p.kids.length p.kc] 25))
    have Q2 := Li (CB.new w1 25 [.int .i64 p.op, .int .i64 p.id, .int .i64 p.lo, .int .i64 p.hi, .slice p.S p.set.length p.sc, .string p.tx, .slice p.K p.kids.length p.kc])
    have B2 := Li (B1.out.alloc B1.out.size (.cells #[.int .i64 p.op, .int .i64 p.id, .int .i64 p.lo, .int .i64 p.hi, .slice p.S p.set.length p.sc, .string p.tx, .slice p.K p.kids.length p.kc] 25))
    have HP2 := Li (PrAt.bel B2.out p HP.out)
    obtain ⟨g1, hg1⟩ : ∃ g, w1.heap.size = g := ⟨_, rfl⟩
    have zz : (w1.alloc (.cells #[.int .i64 p.op, .int .i64 p.id, .int .i64 p.lo, .int .i64 p.hi, .slice p.S p.set.length p.sc, .string p.tx, .slice p.K p.kids.length p.kc] 25)).heap.size = g1 + 1 := by rw [asz, hg1]
    have z1 : w.heap.size + 1 + 1 + 1 ≤ g1 := by rw [← hg1]; have := BW.out.size; rw [asz, asz, asz] at this; exact this
    simp only [hg1] at Q2 ⊢
    clear p0 zp
    generalize w1.alloc (.cells #[.int .i64 p.op, .int .i64 p.id, .int .i64 p.lo, .int .i64 p.hi, .slice p.S p.set.length p.sc, .string p.tx, .slice p.K p.kids.length p.kc] 25) = wz at *
    refine wpIn_rangeFunc_ownH rfl (by decide) (gf := 39) (lb := #[.pointer (some ⟨g1, 0, none⟩)]) rfl trivial (enters_of Try.func39 (by kernel_rfl) rfl)
      (all_stops Fence.wide rfl (6 - 1) trivial trivial rfl g1 w.heap.size p L HLq.out wz Q2.out (by omega) HP2.out hdp) KV.trans (fun W l o o' hl ho hc _ => KV.put W l o o' (by omega) ho hc) (Below.refl _ _) (fun _ => rfl)
      (fun pre W => (∀ i ∈ pre, okF l (L[i.1]) = true) ∧ CB W (w.heap.size + 1 + 1) 4 [.bool false] ∧ CB W w.heap.size 63 [.slice A nf c, .int .i64 x] ∧ (Below w.heap.size w W ∧ wz.heap.size ≤ W.heap.size))
      (fun cc pre W => (cc = .ret ∧ ∃ i ∈ pre, okF l (L[i.1]) = false) ∧ CB W (w.heap.size + 1 + 1) 4 [.bool false] ∧ CB W w.heap.size 63 [.slice A nf c, .int .i64 x] ∧ (Below w.heap.size w W ∧ wz.heap.size ≤ W.heap.size))
      (fun pre X Y row hs hg hr => ⟨hs.1, cbs_keep hs.2.1 hg (fun r e => (hr r e).2), cbs_keep hs.2.2.1 hg (fun r e => (hr r e).2), hs.2.2.2.1.grown hg (Nat.le_trans (by omega) hs.2.2.2.2) (fun k e => Nat.le_trans (by omega) (hr k e).1), Nat.le_trans hs.2.2.2.2 hg.size⟩)
      (fun cc pre X Y row hs hg hr => ⟨hs.1, cbs_keep hs.2.1 hg (fun r e => (hr r e).2), cbs_keep hs.2.2.1 hg (fun r e => (hr r e).2), hs.2.2.2.1.grown hg (Nat.le_trans (by omega) hs.2.2.2.2) (fun k e => Nat.le_trans (by omega) (hr k e).1), Nat.le_trans hs.2.2.2.2 hg.size⟩)
      ⟨fun _ h => (by cases h), N2.out, S2.out, B2.out, Nat.le_refl _⟩
      (fun i a' W => ∃ Bx, g1 < Bx ∧ CB W Bx 25 [.int .i64 (L[i.1]).2.op, .int .i64 (L[i.1]).2.id, .int .i64 (L[i.1]).2.lo, .int .i64 (L[i.1]).2.hi, .slice (L[i.1]).2.S (L[i.1]).2.set.length (L[i.1]).2.sc, .string (L[i.1]).2.tx, .slice (L[i.1]).2.K (L[i.1]).2.kids.length (L[i.1]).2.kc] ∧ a' = { tmps := #[.agg #[.slice A nf c, .int .i64 x], .agg #[.int .i64 p.op, .int .i64 p.id, .int .i64 p.lo, .int .i64 p.hi, .slice p.S p.set.length p.sc, .string p.tx, .slice p.K p.kids.length p.kc], .pointer (some ⟨w.heap.size, 0, none⟩), .pointer (some ⟨w.heap.size + 1, 0, none⟩), .pointer (some ⟨w.heap.size + 1 + 1, 0, none⟩), undef, .pointer (some ⟨Bx, 0, none⟩), .agg #[.int .i64 p.op, .int .i64 p.id, .int .i64 p.lo, .int .i64 p.hi, .slice p.S p.set.length p.sc, .string p.tx, .slice p.K p.kids.length p.kc], .bool true, .bool false, .agg #[.int .i64 p.op, .int .i64 p.id, .int .i64 p.lo, .int .i64 p.hi, .slice p.S p.set.length p.sc, .string p.tx, .slice p.K p.kids.length p.kc], .func (.func 39) #[] #[.pointer (some ⟨g1, 0, none⟩)], .int .i64 (L[i.1]).1, .agg #[.int .i64 (L[i.1]).2.op, .int .i64 (L[i.1]).2.id, .int .i64 (L[i.1]).2.lo, .int .i64 (L[i.1]).2.hi, .slice (L[i.1]).2.S (L[i.1]).2.set.length (L[i.1]).2.sc, .string (L[i.1]).2.tx, .slice (L[i.1]).2.K (L[i.1]).2.kids.length (L[i.1]).2.kc], undef, undef, undef, undef, undef, undef, undef, undef], defers := [] })
      (fun i a' _ X Y row hs hg hr => by obtain ⟨Bx, h1, h2, h3⟩ := hs; exact ⟨Bx, h1, cbs_keep h2 hg (fun r e => (hr r e).2), h3⟩)
      ?assign ?body ?done ?stop
    case assign =>
      rintro y pre i W K ⟨hI, hc, hsb, hB, hz⟩ hK
      have HC := Li hc
      have HSB := Li hsb
      clear hc hsb
      simp only [encN, encP]
      gi_wp2
      have ha := al1 W (.cells #[.int .i64 (L[i.1]).2.op, .int .i64 (L[i.1]).2.id, .int .i64 (L[i.1]).2.lo, .int .i64 (L[i.1]).2.hi, .slice (L[i.1]).2.S (L[i.1]).2.set.length (L[i.1]).2.sc, .string (L[i.1]).2.tx, .slice (L[i.1]).2.K (L[i.1]).2.kids.length (L[i.1]).2.kc] 25)
      exact hK _ _ ((KeepsOthers.alloc _ _).from _) (KV.alloc (Nat.le_trans (by omega) hz) _) ⟨hI, HC.out.up ha, HSB.out.up ha, hB.alloc hB.size _, by rw [asz]; omega⟩ ⟨W.heap.size, by omega, CB.new W 25 [.int .i64 (L[i.1]).2.op, .int .i64 (L[i.1]).2.id, .int .i64 (L[i.1]).2.lo, .int .i64 (L[i.1]).2.hi, .slice (L[i.1]).2.S (L[i.1]).2.set.length (L[i.1]).2.sc, .string (L[i.1]).2.tx, .slice (L[i.1]).2.K (L[i.1]).2.kids.length (L[i.1]).2.kc], rfl⟩
    case body =>
      rintro y pre i a' W hy ⟨rr, hrr⟩ ⟨hI, hc, hsb, hB, hz⟩ ⟨Bx, hBx, hX, rfl⟩ hlt
      have HI := Li hI
      have zX := hX.lt
      have x7 := hX.c7
      have HC := Li hc
      have HX := Li hX
      have HSB := Li hsb
      have HA := Li (HAT.out i)
      have HW0 := Li hz
      have HB := Li hB
      obtain ⟨bz, hbz⟩ : ∃ b, okF l (L[i.1]) = b := ⟨_, rfl⟩
      have HZ := Li hbz
      unfold okF at hbz
      obtain ⟨b1, h1⟩ : ∃ b, decide (1 ≤ (L[i.1]).2.op ∧ (L[i.1]).2.op ≤ 4) = b := ⟨_, rfl⟩
      obtain ⟨b2, h2⟩ : ∃ b, fitsG l (L[i.1]).2.op (L[i.1]).2.id (L[i.1]).2.set = b := ⟨_, rfl⟩
      rw [h1, h2] at hbz
      have H1 := Li h1
      have H2 := Li h2
      clear hI hc hX h1 h2 hz hsb
      cases b1 with
      | false =>
        simp only [Bool.not_false, Bool.true_or] at hbz
        subst hbz
        gi_wp2_with (refine ⟨trivial, ?_⟩; gi_at_call 26; refine (CallsIn.inRound y (callsIn_wide.2 (about_any (L[i.1]).2 _))).mono ?_; rintro e w5 ⟨rfl, hb5⟩; rw [H1.out]; have BP := Li hb5; have C5 := Li (HC.out.up hb5); have X5 := Li (HX.out.up hb5); have S5 := Li (HSB.out.up hb5); have c5 := C5.out.cell 0 rfl; have cf5 := C5.out.frozen 0; have zc5 := C5.out.lt; have zX5 := X5.out.lt; have y7 := X5.out.c7; have s5 := S5.out.c2; have zs5 := S5.out.lt; clear hb5)
        refine ⟨trivial, ?_⟩
        gi_wp2
        exact ⟨(keeps_below BP.out).from _, KV.of_below (Nat.le_trans (by omega) HW0.out) BP.out, fun j hj => (List.mem_append.1 hj).elim (HI.out j) (fun h => by rw [List.mem_singleton] at h; subst h; exact HZ.out), C5.out, S5.out, below_step HB.out HB.out.size BP.out, Nat.le_trans HW0.out BP.out.size⟩
      | true =>
        simp only [Bool.not_true, Bool.false_or] at hbz
        subst hbz
        cases b2 with
        | false =>
          gi_wp2_with (first | (refine ⟨trivial, ?_⟩; gi_at_call 26; refine (CallsIn.inRound y (callsIn_wide.2 (about_any (L[i.1]).2 _))).mono ?_; rintro e w5 ⟨rfl, hb5⟩; rw [H1.out]; have BP := Li hb5; have C5 := Li (HC.out.up hb5); have X5 := Li (HX.out.up hb5); have S5 := Li (HSB.out.up hb5); have c5 := C5.out.cell 0 rfl; have cf5 := C5.out.frozen 0; have zc5 := C5.out.lt; have zX5 := X5.out.lt; have y7 := X5.out.c7; have s5 := S5.out.c2; have zs5 := S5.out.lt; clear hb5) | (refine ⟨trivial, ?_⟩; gi_at_call 38; refine (CallsIn.inRound y (callsIn_wide.2 (fits_any A nf c x l (L[i.1]).2.op (L[i.1]).2.id (L[i.1]).2.lo (L[i.1]).2.hi (L[i.1]).2.S _ (L[i.1]).2.sc (L[i.1]).2.set (L[i.1]).2.tx (L[i.1]).2.K _ (L[i.1]).2.kc _ HN.out (RowAt.up (RowAt.up HS.out HB.out) BP.out) hl rfl (RowAt.up (RowAt.up HA.out.hs HB.out) BP.out) HA.out.hv (Nat.le_trans HA.out.hsc HA.out.hsm)))).mono ?_; rintro e w6 ⟨rfl, hb6⟩; rw [H2.out]; have BQ := Li (below_step BP.out BP.out.size hb6); have C6 := Li (C5.out.up hb6); have S6 := Li (S5.out.up hb6); have c6 := C6.out.cell 0 rfl; have cf6 := C6.out.frozen 0; have zc6 := C6.out.lt; clear hb6))
          exact ⟨((keeps_below BQ.out).trans (KeepsOthers.setCell _ _ _)).from _, ⟨rfl, i, by simp, HZ.out⟩, by simpa using C6.out.set_ 0 (.bool false), S6.out.set_other 0 _ (by omega), (below_step HB.out HB.out.size BQ.out).setCell (p := ⟨w.heap.size + 1 + 1, 0, none⟩) (by show w.heap.size ≤ w.heap.size + 1 + 1; omega) _, by simpa [World.setCell] using Nat.le_trans HW0.out BQ.out.size⟩
        | true =>
          gi_wp2_with (first | (refine ⟨trivial, ?_⟩; gi_at_call 26; refine (CallsIn.inRound y (callsIn_wide.2 (about_any (L[i.1]).2 _))).mono ?_; rintro e w5 ⟨rfl, hb5⟩; rw [H1.out]; have BP := Li hb5; have C5 := Li (HC.out.up hb5); have X5 := Li (HX.out.up hb5); have S5 := Li (HSB.out.up hb5); have c5 := C5.out.cell 0 rfl; have cf5 := C5.out.frozen 0; have zc5 := C5.out.lt; have zX5 := X5.out.lt; have y7 := X5.out.c7; have s5 := S5.out.c2; have zs5 := S5.out.lt; clear hb5) | (refine ⟨trivial, ?_⟩; gi_at_call 38; refine (CallsIn.inRound y (callsIn_wide.2 (fits_any A nf c x l (L[i.1]).2.op (L[i.1]).2.id (L[i.1]).2.lo (L[i.1]).2.hi (L[i.1]).2.S _ (L[i.1]).2.sc (L[i.1]).2.set (L[i.1]).2.tx (L[i.1]).2.K _ (L[i.1]).2.kc _ HN.out (RowAt.up (RowAt.up HS.out HB.out) BP.out) hl rfl (RowAt.up (RowAt.up HA.out.hs HB.out) BP.out) HA.out.hv (Nat.le_trans HA.out.hsc HA.out.hsm)))).mono ?_; rintro e w6 ⟨rfl, hb6⟩; rw [H2.out]; have BQ := Li (below_step BP.out BP.out.size hb6); have C6 := Li (C5.out.up hb6); have S6 := Li (S5.out.up hb6); have c6 := C6.out.cell 0 rfl; have cf6 := C6.out.frozen 0; have zc6 := C6.out.lt; clear hb6))
          exact ⟨(keeps_below BQ.out).from _, KV.of_below (Nat.le_trans (by omega) HW0.out) BQ.out, fun j hj => (List.mem_append.1 hj).elim (HI.out j) (fun h => by rw [List.mem_singleton] at h; subst h; exact HZ.out), C6.out, S6.out, below_step HB.out HB.out.size BQ.out, Nat.le_trans HW0.out BQ.out.size⟩
    case done =>
      rintro D ys W hD rfl ⟨hI, hc, hsb, hB, hz⟩ hK
      have c0 := hc.cell 0 rfl
      have cf := hc.frozen 0
      have zc := hc.lt
      have HC := Li hc
      have HK := Li hK
      have HD := Li hD
      clear hc hK hD hsb
      gi_wp2
      have hK9 := (KeepsOthers.setCell W ⟨w.heap.size + 1 + 1, 0, none⟩ (.bool true)).same D _ HK.out rfl
      have T9 := (cbs_keep (HC.out.set_ 0 (.bool true)) (grownBy_putObj' _ D (.deferred none)) (fun r e => by cases e; exact ⟨_, hK9, rfl⟩)).cell 0 rfl
      refine ⟨by simp, .inl ⟨_, _, rfl, run_takeDeferred hK9, ?_⟩⟩
      refine ⟨.bool true, ?_, ?_, (hB.setCell (p := ⟨w.heap.size + 1 + 1, 0, none⟩) (by show w.heap.size ≤ w.heap.size + 1 + 1; omega) _).trans (belowK_b (w := w) (Nat.le_refl _) _ D _ _ (by have := HD.out; omega) hK9 rfl rfl)⟩
      · simp [results, Try.results23, go_sem, T9]
      · rw [← hzv, List.all_eq_true.2 (fun x hx => by
          obtain ⟨k, hk, rfl⟩ := List.getElem_of_mem hx
          exact hI ⟨k, hk⟩ (List.mem_finRange _))]
    case stop =>
      rintro D cc pre W hD _ ⟨⟨rfl, i, _, hi⟩, hc, hsb, hB, hz⟩ hK
      gi_wp2
      have T9 := (cbs_keep hc (grownBy_putObj' _ D (.deferred none)) (fun r e => by cases e; exact ⟨_, hK, rfl⟩)).cell 0 rfl
      refine ⟨by simp, .inl ⟨_, _, rfl, run_takeDeferred hK, ?_⟩⟩
      refine ⟨.bool false, ?_, ?_, hB.trans (belowK_b (w := w) (Nat.le_refl _) W D _ _ (by omega) hK rfl rfl)⟩
      · simp [results, Try.results23, go_sem, T9]
      · rw [← hzv, show L.all (okF l) = false from List.all_eq_false.2 ⟨_, List.getElem_mem i.2, by rw [hi]; decide⟩]
end Go.Proofs.Ytkeneoinfegodaa
