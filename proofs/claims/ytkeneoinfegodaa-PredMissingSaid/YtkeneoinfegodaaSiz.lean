/-
  How many predicates a predicate consists of; whether an operator is about a field: by contracts.
-/
import Derived.Test.YtkeneoinfegodaaVis
namespace Go.Proofs.Ytkeneoinfegodaa
open Go.RowKit Go.Shelf
attribute [local go_sem] Oper.semAt_some

theorem cb_ne {w : World} {g g' : Nat} {t t' : TypeId} {l l' : List Value} (h : CB w g t l) (h' : CB w g' t' l') (ht : t ≠ t') : g ≠ g' := fun e => by
  subst e
  unfold CB at h h'
  rw [h] at h'
  have := Option.some.inj h'
  injection this with _ h2
  exact ht h2
theorem CB.set_other {w : World} {g : Nat} {t : TypeId} {l : List Value} (h : CB w g t l) {g' : Nat} (i : Nat) (v : Value) (hg : ¬ g = g') : CB (w.setCell ⟨g', i, none⟩ v) g t l :=
  (Below.heap_setCell w ⟨g', i, none⟩ v g (fun e => hg e)).trans h
theorem cbs_keep {W W' : World} {g : Nat} {t : TypeId} {l : List Value} {row : Option Nat} (h : CB W g t l) (hg : W.grownBy W' row) (hr : ∀ r, row = some r → ∃ o : Obj, W.heap[r]? = some o ∧ o.isCells = false) : CB W' g t l := h.grown hg (fun e => by
  obtain ⟨o, ho, hc⟩ := hr g e.symm
  unfold CB at h
  rw [h] at ho
  cases ho
  cases hc)
/-- a variable of the call's own, of another type, is written -/
theorem KV.set_ {W : World} {n₀ g : Nat} {t : TypeId} {l : List Value} (h : CB W g t l) (ht : t ≠ 25) (hg : n₀ ≤ g) (v : Value) : KV n₀ W (W.setCell ⟨g, 0, none⟩ v) :=
  ⟨(Below.refl n₀ W).setCell (p := ⟨g, 0, none⟩) hg v, fun _ _ x => x.set_other 0 v (cb_ne x h (Ne.symm ht))⟩
theorem about_any (p : Pr) (w : World) : Calls Try.prog 26 #[.agg #[.int .i64 p.op, .int .i64 p.id, .int .i64 p.lo, .int .i64 p.hi, .slice p.S p.set.length p.sc, .string p.tx, .slice p.K p.kids.length p.kc]] w fun e w' => e = .returned (.bool (decide (1 ≤ p.op ∧ p.op ≤ 4))) ∧ Below w.heap.size w w' := by
  have B0 := Li (al1 w (.cells #[.int .i64 p.op, .int .i64 p.id, .int .i64 p.lo, .int .i64 p.hi, .slice p.S p.set.length p.sc, .string p.tx, .slice p.K p.kids.length p.kc] 25))
  obtain ⟨z, hz⟩ : ∃ z, decide (1 ≤ p.op ∧ p.op ≤ 4) = z := ⟨_, rfl⟩
  rw [hz]
  by_cases h1 : 1 ≤ p.op
  · have e1 : decide (1 ≤ p.op) = true := decide_eq_true h1
    have hz2 : decide (p.op ≤ 4) = z := by rw [← hz]; simp [h1]
    clear hz h1
    go_enter Try.func26, Try.ntmps26
    go_wp2
    go_ret
    exact ⟨by first | rfl | (rw [← hz2]; rfl), B0.out⟩
  · have e1 : decide (1 ≤ p.op) = false := decide_eq_false h1
    have hz2 : z = false := by rw [← hz]; simp [h1]
    subst hz2
    clear hz h1
    go_enter Try.func26, Try.ntmps26
    go_wp2
    go_ret
    exact ⟨rfl, B0.out⟩
set_option maxHeartbeats 8000000 in
set_option maxRecDepth 20000 in
theorem Size_any (p : Pr) (w : World) (hp : PrAt w w.heap.size p) (hdp : dep p ≤ 999999999) (hN : (preO 1 p).length ≤ 1000000000) :
    Calls Try.prog 19 #[.agg #[.int .i64 p.op, .int .i64 p.id, .int .i64 p.lo, .int .i64 p.hi, .slice p.S p.set.length p.sc, .string p.tx, .slice p.K p.kids.length p.kc]] w fun e w' => e = .returned (.int .i64 ((preO 1 p).length : Int)) ∧ Below w.heap.size w w' := by
  refine (callsIn_wide (n := 6)).1 ?_
  have HP := Li hp
  obtain ⟨L, hL⟩ : ∃ L, L = preO 1 p := ⟨_, rfl⟩
  rw [← hL] at hN ⊢
  have HL := Li hN
  have HLq := Li hL
  clear hL
  have B0 := Li (al3 w (.cells #[.int .i64 p.op, .int .i64 p.id, .int .i64 p.lo, .int .i64 p.hi, .slice p.S p.set.length p.sc, .string p.tx, .slice p.K p.kids.length p.kc] 25) (.cells #[.int .i64 0] 3) (.cells #[.int .i64 p.op, .int .i64 p.id, .int .i64 p.lo, .int .i64 p.hi, .slice p.S p.set.length p.sc, .string p.tx, .slice p.K p.kids.length p.kc] 25))
  have N0 := Li ((CB.new1 w (.cells #[.int .i64 p.op, .int .i64 p.id, .int .i64 p.lo, .int .i64 p.hi, .slice p.S p.set.length p.sc, .string p.tx, .slice p.K p.kids.length p.kc] 25) 3 [.int .i64 0]).alloc (.cells #[.int .i64 p.op, .int .i64 p.id, .int .i64 p.lo, .int .i64 p.hi, .slice p.S p.set.length p.sc, .string p.tx, .slice p.K p.kids.length p.kc] 25))
  have P0 := Li (CB.new2 w (.cells #[.int .i64 p.op, .int .i64 p.id, .int .i64 p.lo, .int .i64 p.hi, .slice p.S p.set.length p.sc, .string p.tx, .slice p.K p.kids.length p.kc] 25) (.cells #[.int .i64 0] 3) 25 [.int .i64 p.op, .int .i64 p.id, .int .i64 p.lo, .int .i64 p.hi, .slice p.S p.set.length p.sc, .string p.tx, .slice p.K p.kids.length p.kc])
  clear hp hN
  refine callsIn_of_wp_marks Try.func19 rfl trivial ?_ rfl
  simp only [Try.ntmps19, List.size_toArray, List.length_cons, List.length_nil, Nat.reduceAdd, Nat.reduceSub, Array.replicate_succ, Array.replicate_zero, List.push_toArray, List.append_toArray, List.nil_append, List.cons_append]
  gi_wp2_with (refine ⟨trivial, ?_⟩; gi_at_call 25; refine (all_in Fence.wide (6 - 1) trivial rfl p _).mono ?_; rintro e w' ⟨rfl, rfl⟩)
  have zz : (((w.alloc (.cells #[.int .i64 p.op, .int .i64 p.id, .int .i64 p.lo, .int .i64 p.hi, .slice p.S p.set.length p.sc, .string p.tx, .slice p.K p.kids.length p.kc] 25)).alloc (.cells #[.int .i64 0] 3)).alloc (.cells #[.int .i64 p.op, .int .i64 p.id, .int .i64 p.lo, .int .i64 p.hi, .slice p.S p.set.length p.sc, .string p.tx, .slice p.K p.kids.length p.kc] 25)).heap.size = w.heap.size + 1 + 1 + 1 := by rw [asz, asz, asz]
  have HP0 := Li (PrAt.bel B0.out p HP.out)
  generalize (((w.alloc (.cells #[.int .i64 p.op, .int .i64 p.id, .int .i64 p.lo, .int .i64 p.hi, .slice p.S p.set.length p.sc, .string p.tx, .slice p.K p.kids.length p.kc] 25)).alloc (.cells #[.int .i64 0] 3)).alloc (.cells #[.int .i64 p.op, .int .i64 p.id, .int .i64 p.lo, .int .i64 p.hi, .slice p.S p.set.length p.sc, .string p.tx, .slice p.K p.kids.length p.kc] 25)) = w0 at *
  refine wpIn_rangeFunc_ownF rfl (by decide) (gf := 39) (lb := #[.pointer (some ⟨w.heap.size + 1 + 1, 0, none⟩)]) rfl trivial (enters_of Try.func39 (by kernel_rfl) rfl)
    (all_stops Fence.wide rfl (6 - 1) trivial trivial rfl (w.heap.size + 1 + 1) w.heap.size p L HLq.out w0 P0.out (by omega) HP0.out hdp) KV.trans (fun W l o o' hl ho hc _ => KV.put W l o o' (by omega) ho hc) (Below.refl _ _) (fun _ => rfl)
    (fun pre W => CB W (w.heap.size + 1) 3 [.int .i64 (pre.length : Int)] ∧ (Below w.heap.size w W ∧ w0.heap.size ≤ W.heap.size))
    (fun _ _ _ => False)
    (fun pre X Y row hs hg hr => ⟨cbs_keep hs.1 hg (fun r e => (hr r e).2), hs.2.1.grown hg (Nat.le_trans (by omega) hs.2.2) (fun k e => Nat.le_trans (by omega) (hr k e).1), Nat.le_trans hs.2.2 hg.size⟩)
    (fun _ _ _ _ _ hs _ _ => hs)
    ⟨N0.out, B0.out, Nat.le_refl _⟩
    (fun x => { tmps := #[.agg #[.int .i64 p.op, .int .i64 p.id, .int .i64 p.lo, .int .i64 p.hi, .slice p.S p.set.length p.sc, .string p.tx, .slice p.K p.kids.length p.kc], .pointer (some ⟨w.heap.size, 0, none⟩), .int .i64 0, .pointer (some ⟨w.heap.size + 1, 0, none⟩), .agg #[.int .i64 p.op, .int .i64 p.id, .int .i64 p.lo, .int .i64 p.hi, .slice p.S p.set.length p.sc, .string p.tx, .slice p.K p.kids.length p.kc], .func (.func 39) #[] #[.pointer (some ⟨w.heap.size + 1 + 1, 0, none⟩)], .int .i64 (L[x.1]).1, .agg #[.int .i64 (L[x.1]).2.op, .int .i64 (L[x.1]).2.id, .int .i64 (L[x.1]).2.lo, .int .i64 (L[x.1]).2.hi, .slice (L[x.1]).2.S (L[x.1]).2.set.length (L[x.1]).2.sc, .string (L[x.1]).2.tx, .slice (L[x.1]).2.K (L[x.1]).2.kids.length (L[x.1]).2.kc], undef, undef, undef], defers := [] })
    ?assign ?body ?done ?stop
  case assign =>
    intro l x W K hK
    simp only [encN, encP]
    gi_wp2
    simpa using hK
  case body =>
    rintro l pre x W ⟨hc, hB, hz⟩ hlt
    have hln := HL.out
    have c0 := hc.cell 0 rfl
    have cf := hc.frozen 0
    have zc := hc.lt
    have HC := Li hc
    clear hc
    gi_wp2
    exact ⟨KeepsOthers.setCell _ _ _, KV.set_ HC.out (by decide) (by omega) _, by simpa using HC.out.set_ 0 (.int .i64 ((pre.length : Int) + 1)), hB.setCell (p := ⟨w.heap.size + 1, 0, none⟩) (by show w.heap.size ≤ w.heap.size + 1; omega) _, by simpa [World.setCell] using hz⟩
  case done =>
    rintro D ys W hD rfl ⟨hc, hB, hz⟩ hK
    rw [List.length_finRange] at hc
    have c0 := hc.cell 0 rfl
    have zc := hc.lt
    gi_wp2
    refine ⟨by simp, .inl ⟨_, _, rfl, run_takeDeferred hK, ?_⟩⟩
    exact ⟨_, results_tmp rfl _ _ _, rfl, hB.trans (belowK_b (w := w) (Nat.le_refl _) W D _ _ (by omega) hK rfl rfl)⟩
  case stop =>
    rintro D c pre W _ _ h _
    exact h.elim
end Go.Proofs.Ytkeneoinfegodaa
