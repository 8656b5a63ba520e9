/-
  The program's isWellFormed, by a contract.
-/
import Derived.Test.YtkeneoinfegodaaLim
namespace Go.Proofs.Ytkeneoinfegodaa
open Go.RowKit Go.Shelf
attribute [local go_sem] Oper.semAt_some

/-- what isWellFormed asks of a predicate at its level -/
def okW (x : Int × Pr) : Bool := !(decide ((8 : Int) < x.1)) && (concG x.2.op x.2.id x.2.lo x.2.hi x.2.set.length x.2.tx x.2.kids.length && limG x.2.op x.2.set.length x.2.set x.2.tx x.2.kids.length)
theorem keeps_below {W W' : World} (hb : Below W.heap.size W W') : KeepsOthers W W' := ⟨hb.size, fun k o hk _ => (hb.block k (Array.getElem?_eq_some_iff.1 hk).1).trans hk⟩
theorem preO_at {w : World} {n₀ : Nat} : ∀ p : Pr, ∀ lv, PrAt w n₀ p → ∀ x ∈ preO lv p, PrAt w n₀ x.2 := Pr.induct fun p ih lv hp x hx => by
  rw [preO_eq] at hx
  rcases List.mem_cons.1 hx with rfl | hx
  · exact hp
  · have h : ∀ ks : List Pr, (∀ k ∈ ks, k ∈ p.kids) → x ∈ preOs (lv + 1) ks → PrAt w n₀ x.2 := fun ks => by
      induction ks with
      | nil => intro _ h; rw [preOs] at h; cases h
      | cons k ks ihk =>
        intro hm h
        rw [preOs] at h
        rcases List.mem_append.1 h with h | h
        · exact ih k (hm k (by simp)) (lv + 1) (hp.hp k (hm k (by simp))) x h
        · exact ihk (fun q hq => hm q (by simp [hq])) h
    exact h p.kids (fun _ h => h) hx
set_option maxHeartbeats 8000000 in
set_option maxRecDepth 20000 in
theorem wf_any (p : Pr) (w : World) (hp : PrAt w w.heap.size p) (hdp : dep p ≤ 999999999) :
    Calls Try.prog 35 #[.agg #[.int .i64 p.op, .int .i64 p.id, .int .i64 p.lo, .int .i64 p.hi, .slice p.S p.set.length p.sc, .string p.tx, .slice p.K p.kids.length p.kc]] w fun e w' => e = .returned (.bool ((preO 1 p).all okW)) ∧ Below w.heap.size w w' := by
  refine (callsIn_wide (n := 6)).1 ?_
  have HP := Li hp
  obtain ⟨L, hL⟩ : ∃ L, L = preO 1 p := ⟨_, rfl⟩
  rw [← hL]
  have HLq := Li hL
  have HAT := Li (show ∀ i : Fin L.length, PrAt w w.heap.size (L[i.1]).2 from fun i => preO_at p 1 hp _ (by rw [← hL]; exact List.getElem_mem i.2))
  have B0 := Li (al3 w (.cells #[.int .i64 p.op, .int .i64 p.id, .int .i64 p.lo, .int .i64 p.hi, .slice p.S p.set.length p.sc, .string p.tx, .slice p.K p.kids.length p.kc] 25) (.cells #[.bool false] 4) (.cells #[.int .i64 p.op, .int .i64 p.id, .int .i64 p.lo, .int .i64 p.hi, .slice p.S p.set.length p.sc, .string p.tx, .slice p.K p.kids.length p.kc] 25))
  have N0 := Li ((CB.new1 w (.cells #[.int .i64 p.op, .int .i64 p.id, .int .i64 p.lo, .int .i64 p.hi, .slice p.S p.set.length p.sc, .string p.tx, .slice p.K p.kids.length p.kc] 25) 4 [.bool false]).alloc (.cells #[.int .i64 p.op, .int .i64 p.id, .int .i64 p.lo, .int .i64 p.hi, .slice p.S p.set.length p.sc, .string p.tx, .slice p.K p.kids.length p.kc] 25))
  have P0 := Li (CB.new2 w (.cells #[.int .i64 p.op, .int .i64 p.id, .int .i64 p.lo, .int .i64 p.hi, .slice p.S p.set.length p.sc, .string p.tx, .slice p.K p.kids.length p.kc] 25) (.cells #[.bool false] 4) 25 [.int .i64 p.op, .int .i64 p.id, .int .i64 p.lo, .int .i64 p.hi, .slice p.S p.set.length p.sc, .string p.tx, .slice p.K p.kids.length p.kc])
  clear hp hL
  refine callsIn_of_wp_marks Try.func35 rfl trivial ?_ rfl
  simp only [Try.ntmps35, List.size_toArray, List.length_cons, List.length_nil, Nat.reduceAdd, Nat.reduceSub, Array.replicate_succ, Array.replicate_zero, List.push_toArray, List.append_toArray, List.nil_append, List.cons_append]
  gi_wp2_with (refine ⟨trivial, ?_⟩; gi_at_call 25; refine (all_in Fence.wide (6 - 1) trivial rfl p _).mono ?_; rintro e w' ⟨rfl, rfl⟩)
  have zz : (((w.alloc (.cells #[.int .i64 p.op, .int .i64 p.id, .int .i64 p.lo, .int .i64 p.hi, .slice p.S p.set.length p.sc, .string p.tx, .slice p.K p.kids.length p.kc] 25)).alloc (.cells #[.bool false] 4)).alloc (.cells #[.int .i64 p.op, .int .i64 p.id, .int .i64 p.lo, .int .i64 p.hi, .slice p.S p.set.length p.sc, .string p.tx, .slice p.K p.kids.length p.kc] 25)).heap.size = w.heap.size + 1 + 1 + 1 := by rw [asz, asz, asz]
  have HP0 := Li (PrAt.bel B0.out p HP.out)
  generalize (((w.alloc (.cells #[.int .i64 p.op, .int .i64 p.id, .int .i64 p.lo, .int .i64 p.hi, .slice p.S p.set.length p.sc, .string p.tx, .slice p.K p.kids.length p.kc] 25)).alloc (.cells #[.bool false] 4)).alloc (.cells #[.int .i64 p.op, .int .i64 p.id, .int .i64 p.lo, .int .i64 p.hi, .slice p.S p.set.length p.sc, .string p.tx, .slice p.K p.kids.length p.kc] 25)) = w0 at *
  refine wpIn_rangeFunc_ownH rfl (by decide) (gf := 39) (lb := #[.pointer (some ⟨w.heap.size + 1 + 1, 0, none⟩)]) rfl trivial (enters_of Try.func39 (by kernel_rfl) rfl)
    (all_stops Fence.wide rfl (6 - 1) trivial trivial rfl (w.heap.size + 1 + 1) w.heap.size p L HLq.out w0 P0.out (by omega) HP0.out hdp) KV.trans (fun W l o o' hl ho hc _ => KV.put W l o o' (by omega) ho hc) (Below.refl _ _) (fun _ => rfl)
    (fun pre W => (∀ i ∈ pre, okW (L[i.1]) = true) ∧ CB W (w.heap.size + 1) 4 [.bool false] ∧ (Below w.heap.size w W ∧ w0.heap.size ≤ W.heap.size))
    (fun c pre W => (c = .ret ∧ ∃ i ∈ pre, okW (L[i.1]) = false) ∧ CB W (w.heap.size + 1) 4 [.bool false] ∧ (Below w.heap.size w W ∧ w0.heap.size ≤ W.heap.size))
    (fun pre X Y row hs hg hr => ⟨hs.1, cbs_keep hs.2.1 hg (fun r e => (hr r e).2), hs.2.2.1.grown hg (Nat.le_trans (by omega) hs.2.2.2) (fun k e => Nat.le_trans (by omega) (hr k e).1), Nat.le_trans hs.2.2.2 hg.size⟩)
    (fun c pre X Y row hs hg hr => ⟨hs.1, cbs_keep hs.2.1 hg (fun r e => (hr r e).2), hs.2.2.1.grown hg (Nat.le_trans (by omega) hs.2.2.2) (fun k e => Nat.le_trans (by omega) (hr k e).1), Nat.le_trans hs.2.2.2 hg.size⟩)
    ⟨fun _ h => (by cases h), N0.out, B0.out, Nat.le_refl _⟩
    (fun x a' W => ∃ Bx, w.heap.size + 1 + 1 < Bx ∧ CB W Bx 25 [.int .i64 (L[x.1]).2.op, .int .i64 (L[x.1]).2.id, .int .i64 (L[x.1]).2.lo, .int .i64 (L[x.1]).2.hi, .slice (L[x.1]).2.S (L[x.1]).2.set.length (L[x.1]).2.sc, .string (L[x.1]).2.tx, .slice (L[x.1]).2.K (L[x.1]).2.kids.length (L[x.1]).2.kc] ∧ a' = { tmps := #[.agg #[.int .i64 p.op, .int .i64 p.id, .int .i64 p.lo, .int .i64 p.hi, .slice p.S p.set.length p.sc, .string p.tx, .slice p.K p.kids.length p.kc], .pointer (some ⟨w.heap.size, 0, none⟩), .pointer (some ⟨w.heap.size + 1, 0, none⟩), .int .i64 (L[x.1]).1, .pointer (some ⟨Bx, 0, none⟩), .agg #[.int .i64 p.op, .int .i64 p.id, .int .i64 p.lo, .int .i64 p.hi, .slice p.S p.set.length p.sc, .string p.tx, .slice p.K p.kids.length p.kc], .func (.func 39) #[] #[.pointer (some ⟨w.heap.size + 1 + 1, 0, none⟩)], .int .i64 (L[x.1]).1, .agg #[.int .i64 (L[x.1]).2.op, .int .i64 (L[x.1]).2.id, .int .i64 (L[x.1]).2.lo, .int .i64 (L[x.1]).2.hi, .slice (L[x.1]).2.S (L[x.1]).2.set.length (L[x.1]).2.sc, .string (L[x.1]).2.tx, .slice (L[x.1]).2.K (L[x.1]).2.kids.length (L[x.1]).2.kc], undef, undef, undef, undef, undef, undef, undef, undef, undef, undef, undef, undef], defers := [] })
    (fun x a' _ X Y row hs hg hr => by obtain ⟨Bx, h1, h2, h3⟩ := hs; exact ⟨Bx, h1, cbs_keep h2 hg (fun r e => (hr r e).2), h3⟩)
    ?assign ?body ?done ?stop
  case assign =>
    rintro y pre x W K ⟨hI, hc, hB, hz⟩ hK
    have HC := Li hc
    clear hc
    simp only [encN, encP]
    gi_wp2
    have ha := al1 W (.cells #[.int .i64 (L[x.1]).2.op, .int .i64 (L[x.1]).2.id, .int .i64 (L[x.1]).2.lo, .int .i64 (L[x.1]).2.hi, .slice (L[x.1]).2.S (L[x.1]).2.set.length (L[x.1]).2.sc, .string (L[x.1]).2.tx, .slice (L[x.1]).2.K (L[x.1]).2.kids.length (L[x.1]).2.kc] 25)
    exact hK _ _ ((KeepsOthers.alloc _ _).from _) (KV.alloc (Nat.le_trans (by omega) hz) _) ⟨hI, HC.out.up ha, hB.alloc hB.size _, by rw [asz]; omega⟩ ⟨W.heap.size, by omega, CB.new W 25 [.int .i64 (L[x.1]).2.op, .int .i64 (L[x.1]).2.id, .int .i64 (L[x.1]).2.lo, .int .i64 (L[x.1]).2.hi, .slice (L[x.1]).2.S (L[x.1]).2.set.length (L[x.1]).2.sc, .string (L[x.1]).2.tx, .slice (L[x.1]).2.K (L[x.1]).2.kids.length (L[x.1]).2.kc], rfl⟩
  case body =>
    rintro y pre x a' W hy ⟨rr, hrr⟩ ⟨hI, hc, hB, hz⟩ ⟨Bx, hBx, hX, rfl⟩ hlt
    have HI := Li hI
    have zX := hX.lt
    have x0 := hX.cell 0 rfl
    have x1 := hX.cell 1 rfl
    have x2 := hX.cell 2 rfl
    have x3 := hX.cell 3 rfl
    have x4 := hX.cell 4 rfl
    have x5 := hX.cell 5 rfl
    have x6 := hX.cell 6 rfl
    have c0 := hc.cell 0 rfl
    have cf := hc.frozen 0
    have zc := hc.lt
    have HC := Li hc
    have HX := Li hX
    have HA := Li (HAT.out x)
    have HW0 := Li hz
    obtain ⟨bz, hbz⟩ : ∃ b, okW (L[x.1]) = b := ⟨_, rfl⟩
    have HZ := Li hbz
    unfold okW at hbz
    obtain ⟨b1, h1⟩ : ∃ b, concG (L[x.1]).2.op (L[x.1]).2.id (L[x.1]).2.lo (L[x.1]).2.hi (L[x.1]).2.set.length (L[x.1]).2.tx (L[x.1]).2.kids.length = b := ⟨_, rfl⟩
    obtain ⟨b2, h2⟩ : ∃ b, limG (L[x.1]).2.op (L[x.1]).2.set.length (L[x.1]).2.set (L[x.1]).2.tx (L[x.1]).2.kids.length = b := ⟨_, rfl⟩
    rw [h1, h2] at hbz
    have H1 := Li h1
    have H2 := Li h2
    clear hI hc hX h1 h2 hz
    cases e8 : decide ((8 : Int) < (L[x.1]).1) with
    | true =>
      simp only [e8, Bool.not_true, Bool.false_and] at hbz
      subst hbz
      gi_wp2
      refine ⟨trivial, ?_⟩
      gi_wp2
      refine ⟨trivial, ?_⟩
      gi_wp2
      exact ⟨(KeepsOthers.setCell _ _ _).from _, ⟨rfl, x, by simp, HZ.out⟩, by simpa using HC.out.set_ 0 (.bool false), hB.setCell (p := ⟨w.heap.size + 1, 0, none⟩) (by show w.heap.size ≤ w.heap.size + 1; omega) _, by simpa [World.setCell] using HW0.out⟩
    | false =>
      simp only [e8, Bool.not_false, Bool.true_and] at hbz
      cases b1 with
      | false =>
        simp only [Bool.false_and] at hbz
        subst hbz
        gi_wp2_with (refine ⟨trivial, ?_⟩; gi_at_call 46; refine (CallsIn.inRound y (callsIn_wide.2 (conc_any _ _ _ _ _ _ _ _ _ _ _ _))).mono ?_; rintro e w5 ⟨rfl, hb5⟩; rw [H1.out]; have BP := Li hb5; have C5 := Li (HC.out.up hb5); have X5 := Li (HX.out.up hb5); have c5 := C5.out.cell 0 rfl; have cf5 := C5.out.frozen 0; have zc5 := C5.out.lt; have zX5 := X5.out.lt; have y0 := X5.out.cell 0 rfl; have y1 := X5.out.cell 1 rfl; have y2 := X5.out.cell 2 rfl; have y3 := X5.out.cell 3 rfl; have y4 := X5.out.cell 4 rfl; have y5 := X5.out.cell 5 rfl; have y6 := X5.out.cell 6 rfl; clear hb5)
        refine ⟨trivial, ?_⟩
        gi_wp2
        exact ⟨((keeps_below BP.out).trans (KeepsOthers.setCell _ _ _)).from _, ⟨rfl, x, by simp, HZ.out⟩, by simpa using C5.out.set_ 0 (.bool false), (below_step hB hB.size BP.out).setCell (p := ⟨w.heap.size + 1, 0, none⟩) (by show w.heap.size ≤ w.heap.size + 1; omega) _, by simpa [World.setCell] using Nat.le_trans HW0.out BP.out.size⟩
      | true =>
        simp only [Bool.true_and] at hbz
        subst hbz
        cases b2 with
        | false =>
          gi_wp2_with (first | (refine ⟨trivial, ?_⟩; gi_at_call 46; refine (CallsIn.inRound y (callsIn_wide.2 (conc_any _ _ _ _ _ _ _ _ _ _ _ _))).mono ?_; rintro e w5 ⟨rfl, hb5⟩; rw [H1.out]; have BP := Li hb5; have C5 := Li (HC.out.up hb5); have X5 := Li (HX.out.up hb5); have c5 := C5.out.cell 0 rfl; have cf5 := C5.out.frozen 0; have zc5 := C5.out.lt; have zX5 := X5.out.lt; have y0 := X5.out.cell 0 rfl; have y1 := X5.out.cell 1 rfl; have y2 := X5.out.cell 2 rfl; have y3 := X5.out.cell 3 rfl; have y4 := X5.out.cell 4 rfl; have y5 := X5.out.cell 5 rfl; have y6 := X5.out.cell 6 rfl; clear hb5) | (refine ⟨trivial, ?_⟩; gi_at_call 47; refine (CallsIn.inRound y (callsIn_wide.2 (lim_any _ _ _ _ _ _ _ (L[x.1]).2.set _ _ _ _ _ rfl (RowAt.up (RowAt.up HA.out.hs hB) BP.out) (Nat.le_trans HA.out.hsc HA.out.hsm)))).mono ?_; rintro e w6 ⟨rfl, hb6⟩; rw [H2.out]; have BQ := Li (below_step BP.out BP.out.size hb6); have C6 := Li (C5.out.up hb6); have c6 := C6.out.cell 0 rfl; have cf6 := C6.out.frozen 0; have zc6 := C6.out.lt; clear hb6))
          exact ⟨((keeps_below BQ.out).trans (KeepsOthers.setCell _ _ _)).from _, ⟨rfl, x, by simp, HZ.out⟩, by simpa using C6.out.set_ 0 (.bool false), (below_step hB hB.size BQ.out).setCell (p := ⟨w.heap.size + 1, 0, none⟩) (by show w.heap.size ≤ w.heap.size + 1; omega) _, by simpa [World.setCell] using Nat.le_trans HW0.out BQ.out.size⟩
        | true =>
          gi_wp2_with (first | (refine ⟨trivial, ?_⟩; gi_at_call 46; refine (CallsIn.inRound y (callsIn_wide.2 (conc_any _ _ _ _ _ _ _ _ _ _ _ _))).mono ?_; rintro e w5 ⟨rfl, hb5⟩; rw [H1.out]; have BP := Li hb5; have C5 := Li (HC.out.up hb5); have X5 := Li (HX.out.up hb5); have c5 := C5.out.cell 0 rfl; have cf5 := C5.out.frozen 0; have zc5 := C5.out.lt; have zX5 := X5.out.lt; have y0 := X5.out.cell 0 rfl; have y1 := X5.out.cell 1 rfl; have y2 := X5.out.cell 2 rfl; have y3 := X5.out.cell 3 rfl; have y4 := X5.out.cell 4 rfl; have y5 := X5.out.cell 5 rfl; have y6 := X5.out.cell 6 rfl; clear hb5) | (refine ⟨trivial, ?_⟩; gi_at_call 47; refine (CallsIn.inRound y (callsIn_wide.2 (lim_any _ _ _ _ _ _ _ (L[x.1]).2.set _ _ _ _ _ rfl (RowAt.up (RowAt.up HA.out.hs hB) BP.out) (Nat.le_trans HA.out.hsc HA.out.hsm)))).mono ?_; rintro e w6 ⟨rfl, hb6⟩; rw [H2.out]; have BQ := Li (below_step BP.out BP.out.size hb6); have C6 := Li (C5.out.up hb6); have c6 := C6.out.cell 0 rfl; have cf6 := C6.out.frozen 0; have zc6 := C6.out.lt; clear hb6))
          exact ⟨(keeps_below BQ.out).from _, KV.of_below (Nat.le_trans (by omega) HW0.out) BQ.out, fun i hi => (List.mem_append.1 hi).elim (HI.out i) (fun h => by rw [List.mem_singleton] at h; subst h; exact HZ.out), C6.out, below_step hB hB.size BQ.out, Nat.le_trans HW0.out BQ.out.size⟩
  case done =>
    rintro D ys W hD rfl ⟨hI, hc, hB, hz⟩ hK
    have c0 := hc.cell 0 rfl
    have cf := hc.frozen 0
    have zc := hc.lt
    have HC := Li hc
    have HK := Li hK
    have HD := Li hD
    clear hc hK hD
    gi_wp2
    have hK9 := (KeepsOthers.setCell W ⟨w.heap.size + 1, 0, none⟩ (.bool true)).same D _ HK.out rfl
    have T9 := (cbs_keep (HC.out.set_ 0 (.bool true)) (grownBy_putObj' _ D (.deferred none)) (fun r e => by cases e; exact ⟨_, hK9, rfl⟩)).cell 0 rfl
    refine ⟨by simp, .inl ⟨_, _, rfl, run_takeDeferred hK9, ?_⟩⟩
    refine ⟨.bool true, ?_, ?_, (hB.setCell (p := ⟨w.heap.size + 1, 0, none⟩) (by show w.heap.size ≤ w.heap.size + 1; omega) _).trans (belowK_b (w := w) (Nat.le_refl _) _ D _ _ (by have := HD.out; omega) hK9 rfl rfl)⟩
    · simp [results, Try.results35, go_sem, T9]
    · rw [List.all_eq_true.2 (fun x hx => by
        obtain ⟨k, hk, rfl⟩ := List.getElem_of_mem hx
        exact hI ⟨k, hk⟩ (List.mem_finRange _))]
  case stop =>
    rintro D c pre W hD _ ⟨⟨rfl, i, _, hi⟩, hc, hB, hz⟩ hK
    gi_wp2
    have T9 := (cbs_keep hc (grownBy_putObj' _ D (.deferred none)) (fun r e => by cases e; exact ⟨_, hK, rfl⟩)).cell 0 rfl
    refine ⟨by simp, .inl ⟨_, _, rfl, run_takeDeferred hK, ?_⟩⟩
    refine ⟨.bool false, ?_, ?_, hB.trans (belowK_b (w := w) (Nat.le_refl _) W D _ _ (by omega) hK rfl rfl)⟩
    · simp [results, Try.results35, go_sem, T9]
    · rw [show L.all okW = false from List.all_eq_false.2 ⟨_, List.getElem_mem i.2, by rw [hi]; decide⟩]
end Go.Proofs.Ytkeneoinfegodaa
