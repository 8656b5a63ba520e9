/-
  PredLocal, walked: a predicate's truth value depends on the cells of its fields alone.
-/
import Derived.Test.YtkeneoinfegodaaSanW
import Derived.Test.YtkeneoinfegodaaLoM
import Derived.Test.YtkeneoinfegodaaHdm
namespace Go.Proofs.Ytkeneoinfegodaa
open Go.RowKit
theorem one_c4 (d : Ce) : ∀ u ∈ d.cells, u.oneCell' = true := one_ce d
theorem len_c4 (l : List Ce) : ∀ vs ∈ l.map Ce.cells, vs.length = 4 := fun vs h => len_ce h
theorem ones_c4 (l : List Ce) : ∀ vs ∈ l.map Ce.cells, ∀ u ∈ vs, u.oneCell' = true := fun vs h => by
  obtain ⟨f, _, rfl⟩ := List.mem_map.1 h
  exact one_c4 f
theorem step_push_ce {w : World} {ops : Array Oper} {o : Oper} {a : Act} {K : Act → World → Prop} {Q : Exit → Act → World → Prop} {F : Prop} (hgd : o.guard = none) (d x : Operand)
    (ho : o.op = .call { callee := .builtin .append, args := #[d, x], argTypes := #[27, 27] }) (base : Nat) (v : Value) (acc : List Ce) (f : Ce) (g n : Nat) (hs : a.eval d = v) (hx : a.eval x = .slice (some ⟨g, 0, none⟩) 1 1) (hn : n = acc.length)
    (hr : Own 39 4 w base v (acc.map Ce.cells)) (hg : CB w g 39 f.cells) (hroom : n ≤ 1000000) (hbase : base ≤ w.heap.size)
    (hK : ∀ A' c' w', Own 39 4 w' base (.slice A' (n + 1) c') ((acc ++ [f]).map Ce.cells) → w.grownBy w' v.ownBlock → Below base w w' → K (a.put o.dst (.slice A' (n + 1) c')) w') : if Region.wanted o (yielded ops a.tmps) = true then Oper.wp Try.prog o a w K Q else F := by
  subst hn
  refine step_push hgd d x ho Try.underlying27 infoCe rfl (by decide) base v (acc.map Ce.cells) f.cells g hs hx hr hg rfl (one_ce f) (by rw [List.length_map]; omega) (by decide) hbase ?_
  intro A' c' w' h1 h2 h3
  rw [List.length_map] at h1 ⊢
  exact hK A' c' w' (by simpa using h1) h2 h3
theorem cat_c4 {w : World} {ops : Array Oper} {rest : List Oper} {o : Oper} {a : Act} {Q : Exit → Act → World → Prop} (hgd : o.guard = none) (d x : Operand)
    (ho : o.op = .call { callee := .builtin .append, args := #[d, x], argTypes := #[27, 27] }) (base : Nat) (v : Value) (acc : List Ce) (A : Option Addr) (n c B : Nat) (l : List Ce) (hs : a.eval d = v) (hx : a.eval x = .slice A n c)
    (hn : n = l.length) (hr : Own 39 4 w base v (acc.map Ce.cells)) (h2 : Ces w B A l) (hroom : acc.length + n ≤ 1000000) (hbase : base ≤ w.heap.size)
    (hK : ∀ A' c' w', Own 39 4 w' base (.slice A' (acc.length + n) c') ((acc ++ l).map Ce.cells) → w.grownBy w' v.ownBlock → Below base w w' → wpList Try.prog ops Q rest (a.put o.dst (.slice A' (acc.length + n) c')) w') : wpList Try.prog ops Q (o :: rest) a w := by
  refine wpList_cat hgd d x ho Try.underlying27 infoCe rfl (by decide) base v (acc.map Ce.cells) A n c B (l.map Ce.cells) hs hx (by simpa using hn) hr h2 (len_c4 l) (ones_c4 l) (by simp; omega) (by decide) hbase ?_
  intro A' c' w' h1 h2 h3
  rw [List.length_map, ← List.map_append] at h1
  rw [List.length_map]
  exact hK A' c' w' h1 h2 h3
/-- a row of one element that a literal made -/
theorem own_lit {E : TypeId} {k : Nat} (w : World) (vs : List Value) (hk : vs.length = k) : Own E k (w.alloc (.cells vs.toArray E)) w.heap.size (.slice (some ⟨w.heap.size, 0, none⟩) 1 1) [vs] :=
  ⟨⟨by simp [hk], .inr ⟨w.heap.size, 1, vs.toArray, rfl, Nat.le_refl _, heap_alloc_new w _, Nat.le_refl _, by simp [maxLen], by simp [hk], by subst hk; simp⟩⟩, fun _ h => by rw [List.mem_singleton] at h; subst h; exact hk⟩
theorem small_at (p : Pr) (m : Int) (b : Bool) (X : World) (h0 : 0 ≤ m) (h1 : m ≤ 1000000) (ht : Tame p) (hb : decide (wt p m ≤ m) = b) (hp : PrAt X X.heap.size p) :
    Calls Try.prog 8 #[.agg #[.int .i64 p.op, .int .i64 p.id, .int .i64 p.lo, .int .i64 p.hi, .slice p.S p.set.length p.sc, .string p.tx, .slice p.K p.kids.length p.kc], .int .i64 m] X fun e w' => e = .returned (.bool b) ∧ Below X.heap.size X w' := by
  subst hb
  exact Small_any p m X h0 h1 hp ht
namespace loc
/-- the law's boxes -/
structure LB (w : World) (A : Option Addr) (n c : Nat) (p : Pr) (d : Ce) (X : World) : Prop where
  bp : CB X w.heap.size 25 [.int .i64 p.op, .int .i64 p.id, .int .i64 p.lo, .int .i64 p.hi, .slice p.S p.set.length p.sc, .string p.tx, .slice p.K p.kids.length p.kc]
  br : CB X (w.heap.size + 1) 29 [.slice A n c]
  bc : CB X (w.heap.size + 1 + 1) 39 [.int .i64 d.id, .bool d.v.b, .int .i64 d.v.n, .string d.v.s]
  d : Below w.heap.size w X
section
variable {w X X' : World} {A : Option Addr} {n c : Nat} {p : Pr} {d : Ce}
theorem LB.up (h : LB w A n c p d X) (hb : Below X.heap.size X X') : LB w A n c p d X' := ⟨h.bp.up hb, h.br.up hb, h.bc.up hb, below_step h.d h.d.size hb⟩
theorem LB.below {B : Nat} (h : LB w A n c p d X) (hB : B = X.heap.size) (hb : Below B X X') : LB w A n c p d X' := by subst hB; exact h.up hb
end
theorem LB.new (w : World) (A : Option Addr) (n c : Nat) (p : Pr) (d : Ce) : LB w A n c p d (((w.alloc (.cells #[.int .i64 p.op, .int .i64 p.id, .int .i64 p.lo, .int .i64 p.hi, .slice p.S p.set.length p.sc, .string p.tx, .slice p.K p.kids.length p.kc] 25)).alloc (.cells #[.slice A n c] 29)).alloc (.cells #[.int .i64 d.id, .bool d.v.b, .int .i64 d.v.n, .string d.v.s] 39)) :=
  ⟨((CB.new w _ _).alloc _).alloc _, (CB.new1 w _ _ _).alloc _, CB.new2 w _ _ _ _, al3 w _ _ _⟩
set_option maxHeartbeats 8000000 in
set_option maxRecDepth 40000 in
theorem out0 (A : Option Addr) (n c : Nat) (r : List Ce) (p : Pr) (d : Ce) (w : World) (hn : n = r.length) (hp : PrAt w w.heap.size p) (tp : Tame p) (h0 : decide (wt p 300 ≤ 300) = false) : Calls Try.prog 4 #[.agg #[.int .i64 p.op, .int .i64 p.id, .int .i64 p.lo, .int .i64 p.hi, .slice p.S p.set.length p.sc, .string p.tx, .slice p.K p.kids.length p.kc], .agg #[.slice A n c], .agg #[.int .i64 d.id, .bool d.v.b, .int .i64 d.v.n, .string d.v.s]] w fun e w' => e = .returned (.bool true) ∧ Below w.heap.size w w' := by
  clear hn
  have tk0 : Hid True := Li trivial
  go_enter Try.func4, Try.ntmps4
  go_wp2_with (first | (have tok := tk0; go_at_call 7; refine (sanity_any _).mono ?_; rintro e w1 ⟨rfl, hb⟩; have L1 := Li ((LB.new w A n c p d).up hb); have g7 := L1.out.bp.c7; have zg := L1.out.bp.lt; have tk1 : Hid True := Li trivial; clear tok tk0 hb) | (have tok := tk1; go_at_call 8; refine (small_at p 300 false _ (by decide) (by decide) tp h0 (PrAt.up hp L1.out.d)).mono ?_; rintro e w2 ⟨rfl, hb⟩; have L2 := Li (L1.out.up hb); clear g7 zg; have r1 := L2.out.br.c1; have zr := L2.out.br.lt; have g7 := L2.out.bp.c7; have zg := L2.out.bp.lt; have tk2 : Hid True := Li trivial; clear tok tk1 hb))
  go_ret
  exact ⟨rfl, L2.out.d⟩
set_option maxHeartbeats 8000000 in
set_option maxRecDepth 40000 in
theorem out1 (A : Option Addr) (n c : Nat) (r : List Ce) (p : Pr) (d : Ce) (w : World) (hn : n = r.length) (hp : PrAt w w.heap.size p) (tp : Tame p) (h0 : decide (wt p 300 ≤ 300) = true) (h3 : decide ((60 : Int) < (n : Int)) = true) : Calls Try.prog 4 #[.agg #[.int .i64 p.op, .int .i64 p.id, .int .i64 p.lo, .int .i64 p.hi, .slice p.S p.set.length p.sc, .string p.tx, .slice p.K p.kids.length p.kc], .agg #[.slice A n c], .agg #[.int .i64 d.id, .bool d.v.b, .int .i64 d.v.n, .string d.v.s]] w fun e w' => e = .returned (.bool true) ∧ Below w.heap.size w w' := by
  clear hn
  have tk0 : Hid True := Li trivial
  go_enter Try.func4, Try.ntmps4
  go_wp2_with (first | (have tok := tk0; go_at_call 7; refine (sanity_any _).mono ?_; rintro e w1 ⟨rfl, hb⟩; have L1 := Li ((LB.new w A n c p d).up hb); have g7 := L1.out.bp.c7; have zg := L1.out.bp.lt; have tk1 : Hid True := Li trivial; clear tok tk0 hb) | (have tok := tk1; go_at_call 8; refine (small_at p 300 true _ (by decide) (by decide) tp h0 (PrAt.up hp L1.out.d)).mono ?_; rintro e w2 ⟨rfl, hb⟩; have L2 := Li (L1.out.up hb); clear g7 zg; have r1 := L2.out.br.c1; have zr := L2.out.br.lt; have g7 := L2.out.bp.c7; have zg := L2.out.bp.lt; have tk2 : Hid True := Li trivial; clear tok tk1 hb))
  go_ret
  exact ⟨rfl, L2.out.d⟩
theorem nolt {B : Nat} {X X' : World} (hb : Below X.heap.size X X') (h : B < X.heap.size) : B < X'.heap.size := Nat.lt_of_lt_of_le h hb.size
set_option maxHeartbeats 40000000 in
set_option maxRecDepth 40000 in
theorem main (A : Option Addr) (n c : Nat) (r : List Ce) (p : Pr) (d : Ce) (w : World) (hn : n = r.length) (hp : PrAt w w.heap.size p) (tp : Tame p) (hs : Ces w w.heap.size A r) (hl : n ≤ 60) (hw : wt p 300 ≤ 300) : Calls Try.prog 4 #[.agg #[.int .i64 p.op, .int .i64 p.id, .int .i64 p.lo, .int .i64 p.hi, .slice p.S p.set.length p.sc, .string p.tx, .slice p.K p.kids.length p.kc], .agg #[.slice A n c], .agg #[.int .i64 d.id, .bool d.v.b, .int .i64 d.v.n, .string d.v.s]] w fun e w' => e = .returned (.bool true) ∧ Below w.heap.size w w' := by
  have h0 : decide (wt p 300 ≤ 300) = true := decide_eq_true hw
  have hpre := pre_wt p 1 300 hw
  have hdp := dep_wt p 300 hw
  have hfl := fld_len p
  obtain ⟨l, hl9⟩ : ∃ l, fldL p = l := ⟨_, rfl⟩
  obtain ⟨nl, hnl⟩ : ∃ k, l.length = k := ⟨_, rfl⟩
  have HFL := Li (show ∀ X : World, PrAt X X.heap.size p → Calls Try.prog 12 #[.agg #[.int .i64 p.op, .int .i64 p.id, .int .i64 p.lo, .int .i64 p.hi, .slice p.S p.set.length p.sc, .string p.tx, .slice p.K p.kids.length p.kc]] X fun e w' => (∃ A c, e = .returned (.slice A nl c) ∧ Ints w' w'.heap.size A l) ∧ Below X.heap.size X w' from fun X h => by
    have := Fields_any p X h (by omega) (by omega)
    rw [hl9, hnl] at this
    exact this)
  have hnl3 : nl ≤ 300 := by rw [hl9, hnl] at hfl; omega
  have HL := Li hl9
  have HNL := Li hnl
  have HEV := Li (show ∀ (X : World) (B : Option Addr) (m e : Nat) (s : List Ce), m = s.length → m ≤ 9223372036854775807 → PrAt X X.heap.size p → Ces X X.heap.size B s → ev s p = ev r p → Calls Try.prog 13 #[.agg #[.int .i64 p.op, .int .i64 p.id, .int .i64 p.lo, .int .i64 p.hi, .slice p.S p.set.length p.sc, .string p.tx, .slice p.K p.kids.length p.kc], .agg #[.slice B m e]] X fun e w' => e = .returned (.int .i64 (ev r p)) ∧ Below X.heap.size X w' from fun X B m e s h1 h2 h3 h4 h5 => by
    have := Eval_any B m e s h1 h2 p X h3 h4
    rwa [h5] at this)
  have HS := Li hs
  have HP := Li hp
  have HNR := Li hn
  have h3 : decide ((60 : Int) < (n : Int)) = false := decide_eq_false (by omega)
  clear hn hs hw hpre hdp hfl hl9 hnl
  have tk0 : Hid True := Li trivial
  go_enter Try.func4, Try.ntmps4
  go_wp2_with (first | (have tok := tk0; go_at_call 7; refine (sanity_any _).mono ?_; rintro e w1 ⟨rfl, hb⟩; have L1 := Li ((LB.new w A n c p d).up hb); have g7 := L1.out.bp.c7; have zg := L1.out.bp.lt; have tk1 : Hid True := Li trivial; clear tok tk0 hb) | (have tok := tk1; go_at_call 8; refine (small_at p 300 true _ (by decide) (by decide) tp h0 (PrAt.up hp L1.out.d)).mono ?_; rintro e w2 ⟨rfl, hb⟩; have L2 := Li (L1.out.up hb); clear g7 zg; have r1 := L2.out.br.c1; have zr := L2.out.br.lt; have g7 := L2.out.bp.c7; have zg := L2.out.bp.lt; have tk2 : Hid True := Li trivial; clear tok tk1 hb) | (have tok := tk2; go_at_call 12; refine (HFL.out _ (PrAt.up HP.out L2.out.d)).mono ?_; rintro e w3 ⟨⟨AF, cF, rfl, hI⟩, hb⟩; have L3 := Li (L2.out.up hb); have I3 := Li hI; have HN3 := Li (nolt hb L2.out.bc.lt); clear r1 zr g7 zg hI; have tk3 : Hid True := Li trivial; clear tok tk2 hb))
  have GO := Li (CB.new w3 29 [.slice none 0 0])
  have BB := Li (al1 w3 (.cells #[.slice none 0 0] 29))
  have OW := Li (Own.nil 39 4 (w3.alloc (.cells #[.slice none 0 0] 29)) (w3.heap.size + 1))
  clear h0 tp hp h3 tk3 L1 L2
  generalize w3.alloc (.cells #[.slice none 0 0] 29) = V0 at *
  go_loopw [10] (fun i wr => ∃ (k : Nat) (A' : Option Addr) (c' m : Nat), k ≤ n ∧ i = .int .i64 k ∧ m ≤ k * 300 ∧ Hid (m = (ownL l (r.take k)).length) ∧ Hid (CB wr w3.heap.size 29 [.slice A' m c']) ∧ Hid (Own 39 4 wr (w3.heap.size + 1) (.slice A' m c') ((ownL l (r.take k)).map Ce.cells)) ∧ Hid (Below w3.heap.size w3 wr)) (fun i _ => n - (intOf i).toNat)
  case atStart => exact ⟨0, none, 0, 0, by omega, rfl, by omega, Li rfl, GO, OW, BB⟩
  case round =>
    clear GO BB OW
    obtain ⟨k, A', c', m, hk, rfl, hm3, HM, O, OWN, BB⟩ := hrel
    generalize wr = W1 at *
    have r1 := (L3.out.below rfl BB.out).br.c1
    have zr := (L3.out.below rfl BB.out).br.lt
    by_cases hlt : k < n
    · have j1 : (k : Int) < (n : Int) := by omega
      obtain ⟨f, hf⟩ := getE_of (l := r) (k := k) (by rw [← HNR.out]; exact hlt)
      have HF := Li hf
      clear hf
      go_wp2_with fail
      clear r1 zr
      go_loopw [11] (fun j wx => ∃ (q : Nat) (A' : Option Addr) (c' m : Nat), q ≤ nl ∧ j = .int .i64 q ∧ m ≤ k * 300 + q ∧ Hid (m = (ownQ l r k q f).length) ∧ Hid (CB wx w3.heap.size 29 [.slice A' m c']) ∧ Hid (Own 39 4 wx (w3.heap.size + 1) (.slice A' m c') ((ownQ l r k q f).map Ce.cells)) ∧ Hid (Below w3.heap.size w3 wx)) (fun j _ => nl - (intOf j).toNat)
      case atStart => exact ⟨0, A', c', m, by omega, rfl, by omega, Li (by rw [ownQ_zero]; exact HM.out), O, Li (by rw [ownQ_zero]; exact OWN.out), BB⟩
      case round =>
        clear HM O OWN BB hm3
        obtain ⟨q, A', c', m, hq, rfl, hm3, HM, O, OWN, BB⟩ := hrel
        generalize wr = W2 at *
        have r1 := (L3.out.below rfl BB.out).br.c1
        have zr := (L3.out.below rfl BB.out).br.lt
        by_cases hqt : q < nl
        · have j2 : (q : Int) < (nl : Int) := by omega
          obtain ⟨li, hli⟩ := getI_of (l := l) (k := q) (by rw [HNL.out]; exact hqt)
          have HLI := Li hli
          obtain ⟨b, off, rfl, hb, g0⟩ := ints_at (show Ints W2 w3.heap.size AF l from RowAt.below I3.out BB.out) hli
          obtain ⟨br, offr, rfl, hbr, d0, d1, d2, d3⟩ := (show Ces W2 w.heap.size A r from RowAt.below HS.out (L3.out.below rfl BB.out).d).one HF.out
          have HBZ := Li (Nat.lt_of_lt_of_le hbr L3.out.d.size)
          have zb : b < W2.heap.size := Nat.lt_of_lt_of_le hb BB.out.size
          have zbr : br < W2.heap.size := Nat.lt_of_lt_of_le hbr (L3.out.below rfl BB.out).d.size
          have HBR := Li (Nat.lt_of_lt_of_le hbr L3.out.d.size)
          clear hli hb hbr
          by_cases he : li = f.id
          · have e1 : (li == f.id) = true := by simp [he]
            have HE := Li he
            clear he
            go_wp2_with fail
            go_quiet (fail)
            go_upto_region 13 with fail
            have HDD := Li (show w3.cell? ⟨br, offr + k * 4, none⟩ = some (.int .i64 f.id) ∧ w3.cell? ⟨br, offr + k * 4 + 1, none⟩ = some (.bool f.v.b) ∧ w3.cell? ⟨br, offr + k * 4 + 2, none⟩ = some (.int .i64 f.v.n) ∧ w3.cell? ⟨br, offr + k * 4 + 3, none⟩ = some (.string f.v.s) from ⟨(BB.out.cell (p := ⟨br, offr + k * 4, none⟩) HBZ.out).symm.trans d0, (BB.out.cell (p := ⟨br, offr + k * 4 + 1, none⟩) HBZ.out).symm.trans d1, (BB.out.cell (p := ⟨br, offr + k * 4 + 2, none⟩) HBZ.out).symm.trans d2, (BB.out.cell (p := ⟨br, offr + k * 4 + 3, none⟩) HBZ.out).symm.trans d3⟩)
            replace O := Li (show CB (W2.drewN nq) w3.heap.size 29 [.slice A' m c'] from O.out)
            replace OWN := Li (show Own 39 4 (W2.drewN nq) (w3.heap.size + 1) (.slice A' m c') ((ownQ l r k q f).map Ce.cells) from OWN.out)
            replace BB := Li (below_drewN BB.out nq)
            clear d0 d1 d2 d3 g0 zb zbr r1 zr
            generalize W2.drewN nq = V0 at *
            replace O := Li (show CB V0.drew w3.heap.size 29 [.slice A' m c'] from O.out)
            replace OWN := Li (show Own 39 4 V0.drew (w3.heap.size + 1) (.slice A' m c') ((ownQ l r k q f).map Ce.cells) from OWN.out)
            replace BB := Li (below_drewN BB.out 1)
            refine wp_region_held_drew (S := fun X => Hid (Below w3.heap.size w3 X)) (by kernel_rfl) BB (fun hHeld => ?_)
            revert hHeld O OWN BB
            change Hid (CB V0.drew _ _ _) → Hid (Own _ _ V0.drew _ _ _) → Hid (Below _ _ V0.drew) → _ → _
            generalize V0.drew = V1
            intro O OWN BB hHeld
            refine htk 0 ?_
            refine htk 2 ?_
            refine htf 3 (fun X h => And.intro (L3.out.below rfl h.out).br.c1 (L3.out.below rfl h.out).br.lt) ?_
            refine htk 4 ?_
            refine htk 5 ?_
            refine htf 6 (fun X h => And.intro ((h.out.cell (p := ⟨br, offr + k * 4, none⟩) HBZ.out).trans HDD.out.1) (And.intro ((h.out.cell (p := ⟨br, offr + k * 4 + 1, none⟩) HBZ.out).trans HDD.out.2.1) (And.intro ((h.out.cell (p := ⟨br, offr + k * 4 + 2, none⟩) HBZ.out).trans HDD.out.2.2.1) (And.intro ((h.out.cell (p := ⟨br, offr + k * 4 + 3, none⟩) HBZ.out).trans HDD.out.2.2.2) (Nat.lt_of_lt_of_le HBZ.out h.out.size))))) ?_
            refine rd2 1 7 (fun KK hK => ?_) (fun KK hK => ?_)
            · have o1 := O.out.c1
              have zo := O.out.lt
              go_simp
              clear o1 zo
              refine hK.out _ _ (BB) (fun hHeld => ?_)
              clear hK KK
              try simp only [pnz]
              refine rd1 7 fun KK hK => ?_
              go_simp
              have SB := Li (CB.new V1 39 [.int .i64 f.id, .bool f.v.b, .int .i64 f.v.n, .string f.v.s])
              have hb9 : Below V1.heap.size V1 (V1.alloc (.cells #[.int .i64 f.id, .bool f.v.b, .int .i64 f.v.n, .string f.v.s] 39)) := al1 V1 (.cells #[.int .i64 f.id, .bool f.v.b, .int .i64 f.v.n, .string f.v.s] 39)
              replace O := Li (O.out.up hb9)
              replace OWN := Li (OWN.out.alloc (.cells #[.int .i64 f.id, .bool f.v.b, .int .i64 f.v.n, .string f.v.s] 39))
              replace BB := Li (below_step BB.out BB.out.size hb9)
              clear hb9
              refine hK.out _ _ (BB) (fun hHeld => ?_)
              clear hK KK
              try simp only [pnz]
              generalize V1.alloc (.cells #[.int .i64 f.id, .bool f.v.b, .int .i64 f.v.n, .string f.v.s] 39) = V7 at *
              refine rd1 8 fun KK hK => ?_
              refine step_push_ce rfl (.tmp 54) (.tmp 60) rfl (w3.heap.size + 1) (.slice A' m c') (ownQ l r k q f) f V1.heap.size m rfl rfl HM.out OWN.out SB.out (by omega) O.out.lt ?_
              intro A8 c8 w8 ho hg hb
              replace O := Li (O.out.grown hg (OWN.out.below_ne (by omega)))
              replace BB := Li (BB.out.trans (hb.mono (by omega)))
              replace OWN := Li ho
              clear ho hg hb
              refine hK.out _ _ (BB) (fun hHeld => ?_)
              clear hK KK
              try simp only [pnz]
              refine htk 9 ?_
              refine rd1 10 fun KK hK => ?_
              have y0 := O.out.cell 0 rfl
              have y1 := O.out.frozen 0
              have zo := O.out.lt
              go_simp
              replace OWN := Li (OWN.out.set_ (g := w3.heap.size) 0 (.slice A8 (m + 1) c8) (OWN.out.below_ne (by omega)))
              replace O := Li (O.out.set_ 0 (.slice A8 (m + 1) c8))
              replace BB := Li (BB.out.setCell (p := ⟨w3.heap.size, 0, none⟩) (Nat.le_refl _) (.slice A8 (m + 1) c8))
              clear y0 y1 zo
              refine hK.out _ _ (BB) (fun hHeld => ?_)
              clear hK KK
              try simp only [pnz]
              refine wpAnyH_done (by kernel_rfl) ?_ _
              go_wp2_with fail
              go_roundw
              case rel => exact ⟨q + 1, A8, c8, m + 1, by omega, by go_num, by omega, Li (by rw [ownQ_yes HLI.out HE.out, List.length_append, ← HM.out]; rfl), O, Li (by rw [ownQ_yes HLI.out HE.out]; exact OWN.out), BB⟩
              case measure => simp [intOf]; omega
            · go_simp
              have SB := Li (CB.new V1 39 [.int .i64 f.id, .bool f.v.b, .int .i64 f.v.n, .string f.v.s])
              have hb9 : Below V1.heap.size V1 (V1.alloc (.cells #[.int .i64 f.id, .bool f.v.b, .int .i64 f.v.n, .string f.v.s] 39)) := al1 V1 (.cells #[.int .i64 f.id, .bool f.v.b, .int .i64 f.v.n, .string f.v.s] 39)
              replace O := Li (O.out.up hb9)
              replace OWN := Li (OWN.out.alloc (.cells #[.int .i64 f.id, .bool f.v.b, .int .i64 f.v.n, .string f.v.s] 39))
              replace BB := Li (below_step BB.out BB.out.size hb9)
              clear hb9
              refine hK.out _ _ (BB) (fun hHeld => ?_)
              clear hK KK
              try simp only [pnz]
              generalize V1.alloc (.cells #[.int .i64 f.id, .bool f.v.b, .int .i64 f.v.n, .string f.v.s] 39) = V7 at *
              refine rd1 1 fun KK hK => ?_
              have o1 := O.out.c1
              have zo := O.out.lt
              go_simp
              clear o1 zo
              refine hK.out _ _ (BB) (fun hHeld => ?_)
              clear hK KK
              try simp only [pnz]
              refine rd1 8 fun KK hK => ?_
              refine step_push_ce rfl (.tmp 54) (.tmp 60) rfl (w3.heap.size + 1) (.slice A' m c') (ownQ l r k q f) f V1.heap.size m rfl rfl HM.out OWN.out SB.out (by omega) O.out.lt ?_
              intro A8 c8 w8 ho hg hb
              replace O := Li (O.out.grown hg (OWN.out.below_ne (by omega)))
              replace BB := Li (BB.out.trans (hb.mono (by omega)))
              replace OWN := Li ho
              clear ho hg hb
              refine hK.out _ _ (BB) (fun hHeld => ?_)
              clear hK KK
              try simp only [pnz]
              refine htk 9 ?_
              refine rd1 10 fun KK hK => ?_
              have y0 := O.out.cell 0 rfl
              have y1 := O.out.frozen 0
              have zo := O.out.lt
              go_simp
              replace OWN := Li (OWN.out.set_ (g := w3.heap.size) 0 (.slice A8 (m + 1) c8) (OWN.out.below_ne (by omega)))
              replace O := Li (O.out.set_ 0 (.slice A8 (m + 1) c8))
              replace BB := Li (BB.out.setCell (p := ⟨w3.heap.size, 0, none⟩) (Nat.le_refl _) (.slice A8 (m + 1) c8))
              clear y0 y1 zo
              refine hK.out _ _ (BB) (fun hHeld => ?_)
              clear hK KK
              try simp only [pnz]
              refine wpAnyH_done (by kernel_rfl) ?_ _
              go_wp2_with fail
              go_roundw
              case rel => exact ⟨q + 1, A8, c8, m + 1, by omega, by go_num, by omega, Li (by rw [ownQ_yes HLI.out HE.out, List.length_append, ← HM.out]; rfl), O, Li (by rw [ownQ_yes HLI.out HE.out]; exact OWN.out), BB⟩
              case measure => simp [intOf]; omega
          · have e1 : (li == f.id) = false := by simp [he]
            have HE := Li he
            clear he
            go_wp2_with fail
            go_quiet (fail)
            go_wp2_with fail
            go_roundw
            case rel => exact ⟨q + 1, A', c', m, by omega, by go_num, by omega, Li (by rw [ownQ_no HLI.out HE.out]; exact HM.out), O, Li (by rw [ownQ_no HLI.out HE.out]; exact OWN.out), Li (below_drewN BB.out nq)⟩
            case measure => simp [intOf]; omega
        · have j2 : ¬ (q : Int) < (nl : Int) := by omega
          go_wp2_with fail
          go_roundw
          case rel => exact ⟨k + 1, A', c', m, by omega, by go_num, by omega, Li (by rw [← ownQ_end (q := q) (by rw [HNL.out]; omega) HF.out]; exact HM.out), O, Li (by rw [← ownQ_end (q := q) (by rw [HNL.out]; omega) HF.out]; exact OWN.out), BB⟩
          case measure => simp [intOf]; omega
    · have j1 : ¬ (k : Int) < (n : Int) := by omega
      have BW := Li BB.out.size
      obtain rfl : k = n := by omega
      replace OWN := Li (show Own 39 4 W1 (w3.heap.size + 1) (.slice A' m c') ((ownL l r).map Ce.cells) by have h := OWN.out; rw [HNR.out, own_all] at h; exact h)
      replace HM := Li (show m = (ownL l r).length by have h := HM.out; rw [HNR.out, own_all] at h; exact h)
      have HOE := Li (show ev (ownL l r) p = ev r p from ev_fld p fun i hi => getL_own (by rw [HL.out] at hi; exact hi) r)
      have c4 := (L3.out.below rfl BB.out).bc.c4
      have z4 := (L3.out.below rfl BB.out).bc.lt
      have OLT := Li (own_lit (E := 39) (k := 4) W1 [.int .i64 d.id, .bool d.v.b, .int .i64 d.v.n, .string d.v.s] rfl)
      have tk9 : Hid True := Li trivial
      have zr2 : w.heap.size + 1 < W1.heap.size + 1 := by omega
      go_wp2_with (have tok := tk9; at_builtin; refine cat_c4 rfl (.tmp 67) (.tmp 69) rfl W1.heap.size (.slice (some ⟨W1.heap.size, 0, none⟩) 1 1) [d] A k c w.heap.size r rfl rfl HNR.out (OLT.out.alloc (.cells #[.slice (some ⟨W1.heap.size, 0, none⟩) 1 1] 29)) (RowAt.below HS.out ((((L3.out.below rfl BB.out).d.alloc (L3.out.below rfl BB.out).d.size (.cells #[.int .i64 d.id, .bool d.v.b, .int .i64 d.v.n, .string d.v.s] 39)).alloc (by have := (L3.out.below rfl BB.out).d.size; rw [asz]; omega) (.cells #[.slice (some ⟨W1.heap.size, 0, none⟩) 1 1] 29)))) (by simp; omega) (by rw [asz, asz]; omega) ?_; intro A8 c8 w8 ho hg hb; have OWM := Li ho; have GM := Li ((CB.new1 W1 (.cells #[.int .i64 d.id, .bool d.v.b, .int .i64 d.v.n, .string d.v.s] 39) 29 [.slice (some ⟨W1.heap.size, 0, none⟩) 1 1]).grown hg (show some (W1.heap.size + 1) ≠ some W1.heap.size by simp)); have olt := O.out.lt; replace O := Li (((O.out.alloc (.cells #[.int .i64 d.id, .bool d.v.b, .int .i64 d.v.n, .string d.v.s] 39)).alloc (.cells #[.slice (some ⟨W1.heap.size, 0, none⟩) 1 1] 29)).grown hg (show some w3.heap.size ≠ some W1.heap.size by intro h; injection h with h; omega)); replace OWN := Li (((OWN.out.alloc (.cells #[.int .i64 d.id, .bool d.v.b, .int .i64 d.v.n, .string d.v.s] 39)).alloc (.cells #[.slice (some ⟨W1.heap.size, 0, none⟩) 1 1] 29)).kept hg (by right; intro h; have := (OWN.out.lt W1.heap.size h).2; omega)); replace BB := Li (((BB.out.alloc BB.out.size (.cells #[.int .i64 d.id, .bool d.v.b, .int .i64 d.v.n, .string d.v.s] 39)).alloc (by have := BB.out.size; rw [asz]; omega) (.cells #[.slice (some ⟨W1.heap.size, 0, none⟩) 1 1] 29)).trans (hb.mono BB.out.size)); have y0 := GM.out.cell 0 rfl; have y1 := GM.out.frozen 0; have zy := GM.out.lt; clear tok tk9 ho hg hb olt)
      have hne9 := OWM.out.ne GM.out (by decide)
      have hne8 := OWN.out.ne GM.out (by decide)
      replace OWM := Li (OWM.out.set_ (g := W1.heap.size + 1) 0 (.slice A8 (1 + k) c8) hne9)
      replace OWN := Li (OWN.out.set_ (g := W1.heap.size + 1) 0 (.slice A8 (1 + k) c8) hne8)
      have zg3 : w3.heap.size < W1.heap.size + 1 := by have := BW.out; omega
      replace O := Li (O.out.set_other (g' := W1.heap.size + 1) 0 (.slice A8 (1 + k) c8) (by omega))
      replace GM := Li (GM.out.set_ 0 (.slice A8 (1 + k) c8))
      replace BB := Li (BB.out.setCell (p := ⟨W1.heap.size + 1, 0, none⟩) (by show w3.heap.size ≤ W1.heap.size + 1; omega) (.slice A8 (1 + k) c8))
      clear y0 y1 zy hne9 hne8 c4 z4 OLT r1 zr zr2
      generalize w8.setCell _ _ = V8 at *
      go_loopw [13] (fun j wr => ∃ (q : Nat) (Am : Option Addr) (nm cm : Nat), q ≤ nl ∧ j = .int .i64 q ∧ Hid ((Am = A8 ∧ nm = 1 + k ∧ cm = c8 ∧ ∀ i ∈ l.take q, i ≠ d.id) ∨ (Am = A ∧ nm = k ∧ cm = c ∧ d.id ∈ l)) ∧ Hid (CB wr (W1.heap.size + 1) 29 [.slice Am nm cm]) ∧ Hid (Own 39 4 wr W1.heap.size (.slice A8 (1 + k) c8) ((d :: r).map Ce.cells)) ∧ Hid (CB wr w3.heap.size 29 [.slice A' m c']) ∧ Hid (Own 39 4 wr (w3.heap.size + 1) (.slice A' m c') ((ownL l r).map Ce.cells)) ∧ Hid (Below w3.heap.size w3 wr)) (fun j _ => nl - (intOf j).toNat)
      case atStart => exact ⟨0, A8, 1 + k, c8, by omega, rfl, Li (.inl ⟨rfl, rfl, rfl, fun i hi => by simp at hi⟩), GM, OWM, O, OWN, BB⟩
      case round =>
        clear GM OWM O OWN BB
        obtain ⟨q, Am, nm, cm, hq, rfl, HC, GM, OWM, O, OWN, BB⟩ := hrel
        generalize wr = W2 at *
        by_cases hqt : q < nl
        · have j2 : (q : Int) < (nl : Int) := by omega
          obtain ⟨li, hli⟩ := getI_of (l := l) (k := q) (by rw [HNL.out]; exact hqt)
          have HLI := Li hli
          clear hli
          have c4 := (L3.out.below rfl BB.out).bc.c4
          have z4 := (L3.out.below rfl BB.out).bc.lt
          by_cases hq0 : q = 0
          · subst hq0
            obtain ⟨b, off, rfl, hb, g0⟩ := ints_at (show Ints W2 w3.heap.size AF l from RowAt.below I3.out BB.out) HLI.out
            have zb : b < W2.heap.size := Nat.lt_of_lt_of_le hb BB.out.size
            rw [Nat.add_zero] at g0
            have j5 : (0 : Int) < (nl : Int) := by omega
            by_cases he : li = d.id
            · have e1 : (li == d.id) = true := by simp [he]
              have HE := Li he
              have y0 := GM.out.cell 0 rfl
              have y1 := GM.out.frozen 0
              have zy := GM.out.lt
              have r1 := (L3.out.below rfl BB.out).br.c1
              have zr := (L3.out.below rfl BB.out).br.lt
              have hne9 := OWM.out.ne GM.out (by decide)
              have hne8 := OWN.out.ne GM.out (by decide)
              have HN9 := Li hne9
              have HN8 := Li hne8
              clear he hne9 hne8
              go_wp2_with fail
              go_quiet (fail)
              go_wp2_with fail
              go_quiet (fail)
              go_wp2_with fail
              go_roundw
              case rel => exact ⟨0 + 1, A, k, c, by omega, by go_num, Li (.inr ⟨rfl, rfl, rfl, HE.out ▸ List.mem_of_getElem? HLI.out⟩), Li ((GM.out.drewN _).set_ 0 _), Li ((OWM.out.drewN _).set_ (g := W1.heap.size + 1) 0 _ HN9.out), Li ((O.out.drewN _).set_other 0 _ (by have := BW.out; omega)), Li ((OWN.out.drewN _).set_ (g := W1.heap.size + 1) 0 _ HN8.out), Li ((below_drewN BB.out _).setCell (p := ⟨W1.heap.size + 1, 0, none⟩) (by have := BW.out; show w3.heap.size ≤ W1.heap.size + 1; omega) _)⟩
              case measure => simp [intOf]; omega
            · have e1 : (li == d.id) = false := by simp [he]
              have HE := Li he
              clear he
              go_wp2_with fail
              go_quiet (fail)
              go_wp2_with fail
              go_quiet (fail)
              go_wp2_with fail
              go_roundw
              case rel => exact ⟨0 + 1, Am, nm, cm, by omega, by go_num, Li (HC.out.imp (fun h => ⟨h.1, h.2.1, h.2.2.1, take_ne h.2.2.2 HLI.out HE.out⟩) fun h => h), Li (GM.out.drewN _), Li (OWM.out.drewN _), Li (O.out.drewN _), Li (OWN.out.drewN _), Li (below_drewN BB.out _)⟩
              case measure => simp [intOf]; omega
          · obtain ⟨q9, rfl⟩ : ∃ q9, q = q9 + 1 := ⟨q - 1, by omega⟩
            obtain ⟨lj, hlj⟩ := getI_of (l := l) (k := q9) (by rw [HNL.out]; omega)
            have hlt9 : lj < li := lt_at (HL.out ▸ fld_lt p) hlj HLI.out
            have e2 : decide (li ≤ lj) = false := decide_eq_false (by omega)
            have j3 : (0 : Int) < ((q9 + 1 : Nat) : Int) := by omega
            have hw9 : IntKind.i64.wrap (((q9 + 1 : Nat) : Int) - 1) = (q9 : Int) := by rw [IntKind.wrap_i64]; omega
            have j4 : (q9 : Int) < (nl : Int) := by omega
            obtain ⟨b, off, rfl, hb, g0⟩ := ints_at (show Ints W2 w3.heap.size AF l from RowAt.below I3.out BB.out) HLI.out
            obtain ⟨b', off', e9, hb', g1⟩ := ints_at (show Ints W2 w3.heap.size (some ⟨b, off, none⟩) l from RowAt.below I3.out BB.out) hlj
            injection e9 with e9
            injection e9 with e9 e8
            subst e9 e8
            have zb : b < W2.heap.size := Nat.lt_of_lt_of_le hb BB.out.size
            by_cases he : li = d.id
            · have e1 : (li == d.id) = true := by simp [he]
              have HE := Li he
              have y0 := GM.out.cell 0 rfl
              have y1 := GM.out.frozen 0
              have zy := GM.out.lt
              have r1 := (L3.out.below rfl BB.out).br.c1
              have zr := (L3.out.below rfl BB.out).br.lt
              have hne9 := OWM.out.ne GM.out (by decide)
              have hne8 := OWN.out.ne GM.out (by decide)
              have HN9 := Li hne9
              have HN8 := Li hne8
              clear he hne9 hne8
              go_wp2_with fail
              go_quiet (fail)
              go_wp2_with fail
              go_quiet (fail)
              go_wp2_with fail
              go_roundw
              case rel => exact ⟨(q9 + 1) + 1, A, k, c, by omega, by go_num, Li (.inr ⟨rfl, rfl, rfl, HE.out ▸ List.mem_of_getElem? HLI.out⟩), Li ((GM.out.drewN _).set_ 0 _), Li ((OWM.out.drewN _).set_ (g := W1.heap.size + 1) 0 _ HN9.out), Li ((O.out.drewN _).set_other 0 _ (by have := BW.out; omega)), Li ((OWN.out.drewN _).set_ (g := W1.heap.size + 1) 0 _ HN8.out), Li ((below_drewN BB.out _).setCell (p := ⟨W1.heap.size + 1, 0, none⟩) (by have := BW.out; show w3.heap.size ≤ W1.heap.size + 1; omega) _)⟩
              case measure => simp [intOf]; omega
            · have e1 : (li == d.id) = false := by simp [he]
              have HE := Li he
              clear he
              go_wp2_with fail
              go_quiet (fail)
              go_wp2_with fail
              go_quiet (fail)
              go_wp2_with fail
              go_roundw
              case rel => exact ⟨(q9 + 1) + 1, Am, nm, cm, by omega, by go_num, Li (HC.out.imp (fun h => ⟨h.1, h.2.1, h.2.2.1, take_ne h.2.2.2 HLI.out HE.out⟩) fun h => h), Li (GM.out.drewN _), Li (OWM.out.drewN _), Li (O.out.drewN _), Li (OWN.out.drewN _), Li (below_drewN BB.out _)⟩
              case measure => simp [intOf]; omega
        · have j2 : ¬ (q : Int) < (nl : Int) := by omega
          rcases HC.out with ⟨rfl, rfl, rfl, hno⟩ | ⟨rfl, rfl, rfl, hin⟩
          · have HDE := Li (show ev (d :: r) p = ev r p from ev_fld p fun i hi => by
              rw [getL, if_neg]
              intro e
              rw [HL.out, ← List.take_of_length_le (i := q) (l := l) (by rw [HNL.out]; omega)] at hi
              exact hno i hi e.symm)
            clear hno HC
            have te1 : Hid True := Li trivial
            have c7 := (L3.out.below rfl BB.out).bp.c7
            have z7 := (L3.out.below rfl BB.out).bp.lt
            have cr := (L3.out.below rfl BB.out).br.c1
            have zr := (L3.out.below rfl BB.out).br.lt
            go_wp2_with (first | (have tok := te1; go_at_call 13; refine (HEV.out _ _ _ _ r HNR.out (by omega) (PrAt.up HP.out (L3.out.below rfl BB.out).d) (RowAt.up HS.out (L3.out.below rfl BB.out).d) rfl).mono ?_; rintro e y1 ⟨rfl, hb⟩; replace GM := Li (GM.out.up hb); replace OWM := Li (OWM.out.up hb); replace O := Li (O.out.up hb); replace OWN := Li (OWN.out.up hb); replace BB := Li (below_step BB.out BB.out.size hb); clear c7 z7 cr zr; have c7 := (L3.out.below rfl BB.out).bp.c7; have z7 := (L3.out.below rfl BB.out).bp.lt; have cr := O.out.c1; have zr := O.out.lt; have te2 : Hid True := Li trivial; clear tok te1 hb) | (have tok := te2; go_at_call 13; refine (HEV.out _ A' m c' (ownL l r) HM.out (by have := OWN.out.row.2.1; omega) (PrAt.up HP.out (L3.out.below rfl BB.out).d) OWN.out.row.2.2.2 HOE.out).mono ?_; rintro e y2 ⟨rfl, hb⟩; replace GM := Li (GM.out.up hb); replace OWM := Li (OWM.out.up hb); replace O := Li (O.out.up hb); replace OWN := Li (OWN.out.up hb); replace BB := Li (below_step BB.out BB.out.size hb); clear c7 z7 cr zr; have c7 := (L3.out.below rfl BB.out).bp.c7; have z7 := (L3.out.below rfl BB.out).bp.lt; have cr := GM.out.c1; have zr := GM.out.lt; have te3 : Hid True := Li trivial; clear tok te2 hb) | (have tok := te3; go_at_call 13; refine (HEV.out _ _ _ _ (d :: r) (by rw [List.length_cons, ← HNR.out]; omega) (by omega) (PrAt.up HP.out (L3.out.below rfl BB.out).d) OWM.out.row.2.2.2 HDE.out).mono ?_; rintro e y3 ⟨rfl, hb⟩; replace GM := Li (GM.out.up hb); replace OWM := Li (OWM.out.up hb); replace O := Li (O.out.up hb); replace OWN := Li (OWN.out.up hb); replace BB := Li (below_step BB.out BB.out.size hb); clear c7 z7 cr zr; have c7 := (L3.out.below rfl BB.out).bp.c7; have z7 := (L3.out.below rfl BB.out).bp.lt; have cr := GM.out.c1; have zr := GM.out.lt; have te4 : Hid True := Li trivial; clear tok te3 hb))
            go_ret
            exact ⟨rfl, (L3.out.below rfl BB.out).d⟩
          · clear hin HC
            have te1 : Hid True := Li trivial
            have c7 := (L3.out.below rfl BB.out).bp.c7
            have z7 := (L3.out.below rfl BB.out).bp.lt
            have cr := (L3.out.below rfl BB.out).br.c1
            have zr := (L3.out.below rfl BB.out).br.lt
            go_wp2_with (first | (have tok := te1; go_at_call 13; refine (HEV.out _ _ _ _ r HNR.out (by omega) (PrAt.up HP.out (L3.out.below rfl BB.out).d) (RowAt.up HS.out (L3.out.below rfl BB.out).d) rfl).mono ?_; rintro e y1 ⟨rfl, hb⟩; replace GM := Li (GM.out.up hb); replace OWM := Li (OWM.out.up hb); replace O := Li (O.out.up hb); replace OWN := Li (OWN.out.up hb); replace BB := Li (below_step BB.out BB.out.size hb); clear c7 z7 cr zr; have c7 := (L3.out.below rfl BB.out).bp.c7; have z7 := (L3.out.below rfl BB.out).bp.lt; have cr := O.out.c1; have zr := O.out.lt; have te2 : Hid True := Li trivial; clear tok te1 hb) | (have tok := te2; go_at_call 13; refine (HEV.out _ A' m c' (ownL l r) HM.out (by have := OWN.out.row.2.1; omega) (PrAt.up HP.out (L3.out.below rfl BB.out).d) OWN.out.row.2.2.2 HOE.out).mono ?_; rintro e y2 ⟨rfl, hb⟩; replace GM := Li (GM.out.up hb); replace OWM := Li (OWM.out.up hb); replace O := Li (O.out.up hb); replace OWN := Li (OWN.out.up hb); replace BB := Li (below_step BB.out BB.out.size hb); clear c7 z7 cr zr; have c7 := (L3.out.below rfl BB.out).bp.c7; have z7 := (L3.out.below rfl BB.out).bp.lt; have cr := GM.out.c1; have zr := GM.out.lt; have te3 : Hid True := Li trivial; clear tok te2 hb) | (have tok := te3; go_at_call 13; refine (HEV.out _ _ _ _ r HNR.out (by omega) (PrAt.up HP.out (L3.out.below rfl BB.out).d) (RowAt.up HS.out (L3.out.below rfl BB.out).d) rfl).mono ?_; rintro e y3 ⟨rfl, hb⟩; replace GM := Li (GM.out.up hb); replace OWM := Li (OWM.out.up hb); replace O := Li (O.out.up hb); replace OWN := Li (OWN.out.up hb); replace BB := Li (below_step BB.out BB.out.size hb); clear c7 z7 cr zr; have c7 := (L3.out.below rfl BB.out).bp.c7; have z7 := (L3.out.below rfl BB.out).bp.lt; have cr := GM.out.c1; have zr := GM.out.lt; have te4 : Hid True := Li trivial; clear tok te3 hb))
            go_ret
            exact ⟨rfl, (L3.out.below rfl BB.out).d⟩
theorem walk (A : Option Addr) (n c : Nat) (r : List Ce) (p : Pr) (d : Ce) (w : World) (hn : n = r.length) (hp : PrAt w w.heap.size p) (tp : Tame p) (hs : Ces w w.heap.size A r) : Calls Try.prog 4 #[.agg #[.int .i64 p.op, .int .i64 p.id, .int .i64 p.lo, .int .i64 p.hi, .slice p.S p.set.length p.sc, .string p.tx, .slice p.K p.kids.length p.kc], .agg #[.slice A n c], .agg #[.int .i64 d.id, .bool d.v.b, .int .i64 d.v.n, .string d.v.s]] w fun e w' => e = .returned (.bool true) ∧ Below w.heap.size w w' := by
  by_cases h0 : wt p 300 ≤ 300
  · by_cases h3 : n ≤ 60
    · exact main A n c r p d w hn hp tp hs h3 h0
    · exact out1 A n c r p d w hn hp tp (decide_eq_true h0) (decide_eq_true (by omega))
  · exact out0 A n c r p d w hn hp tp (decide_eq_false h0)
end loc
end Go.Proofs.Ytkeneoinfegodaa
