/-
  Go's slices.Clone of bytes, the program's Encode, by contracts.
-/
import Derived.Test.YtkeneoinfegodaaHed
namespace Go.Proofs.Ytkeneoinfegodaa
open Go.RowKit Go.Shelf Go.Lib
attribute [local go_sem] Oper.semAt_some

def RetN (w w' : World) (l : List UInt8) (e : Ending) : Prop := ∃ A c, e = .returned (.slice A l.length c) ∧ Owns w' w.heap.size (.slice A l.length c) l
theorem owns_nil (w : World) (b : Nat) : Owns w b (.slice none 0 0) [] := World.ownsRow_nil w b 5 1
theorem owns_new (w : World) : Owns (w.alloc (.cells #[] 5)) w.heap.size (.slice (some ⟨w.heap.size, 0, none⟩) 0 0) [] := (own_empty (E := 5) (k := 1) w #[] rfl).1
theorem run_isnil (n c : Nat) (w : World) : (binOp .eql 54 (.slice none n c) (.slice none 0 0)).run Try.prog w = .ok (.bool true) w := by kernel_rfl
theorem run_notnil (a : Addr) (n c : Nat) (w : World) : (binOp .eql 54 (.slice (some a) n c) (.slice none 0 0)).run Try.prog w = .ok (.bool false) w := by kernel_rfl
attribute [local go_sem high] run_isnil run_notnil in
set_option maxHeartbeats 4000000 in
set_option maxRecDepth 20000 in
theorem clone_any (A : Option Addr) (cap : Nat) (l : List UInt8) (w : World) (hs : Shows w w.heap.size A l) (hl : l.length ≤ 1000000000) :
    Calls Try.prog 34 #[.slice A l.length cap] w fun e w' => RetN w w' l e ∧ Below w.heap.size w w' := by
  have HS := Li hs
  have HL := Li hl
  cases A with
  | none =>
    have h0 : l = [] := by
      rcases Nat.eq_zero_or_pos l.length with h0 | h0
      · exact List.eq_nil_of_length_eq_zero h0
      · obtain ⟨b, off, h, _⟩ := hs h0
        cases h
    subst h0
    clear hs hl
    go_enter Try.func34, Try.ntmps34
    go_wp2
    go_ret
    exact ⟨⟨none, 0, rfl, owns_nil _ _⟩, Below.refl _ _⟩
  | some ad =>
    have O0 := Li (owns_new w)
    have B0 := Li (al1 w (.cells #[] 5))
    have SH := Li (show Shows (w.alloc (.cells #[] 5)) w.heap.size (some ad) l from HS.out.below B0.out)
    clear hs hl
    go_enter Try.func34, Try.ntmps34
    go_wp2_with (at_builtin; refine wpList_growB rfl (.tmp 5) (.tmp 6) 54 rfl Try.underlying54 info5 w.heap.size (.slice (some ⟨w.heap.size, 0, none⟩) 0 0) [] (some ad) l cap w.heap.size rfl rfl O0.out SH.out (by have := HL.out; simp; omega) B0.out.size ?_; intro A6 c6 w6 ho6 hg6; have O6 := Li ho6; have B6 := Li (B0.out.grown hg6 B0.out.size (fun k e => (World.ownsRow.lt O0.out k e).1)); clear ho6 hg6)
    go_ret
    exact ⟨⟨A6, c6, rfl, O6.out⟩, B6.out⟩
theorem owns_ne {w : World} {base U : Nat} {v : Value} {l : List UInt8} {t : TypeId} {x : List Value} (h : Owns w base v l) (hU : CB w U t x) (ht : t ≠ 5) : some U ≠ v.ownBlock := by
  rcases h.2 with ⟨e, _⟩ | ⟨g, cap, cur, e, _, hg, _⟩
  · rw [e]
    simp [Value.ownBlock]
  · rw [e]
    intro hx
    have hx' : some U = some g := hx
    injection hx' with hx'
    subst hx'
    unfold CB at hU
    rw [hU] at hg
    have := Option.some.inj hg
    injection this with _ h2
    exact ht h2
theorem owns_cells {w : World} {base : Nat} {v : Value} {l : List UInt8} (h : Owns w base v l) : ∀ (j : Nat) (o : Obj), v.ownBlock = some j → w.heap[j]? = some o → o.isCells = true := fun j o hj ho => by
  rcases h.2 with ⟨e, _⟩ | ⟨g, cap, cur, e, _, hg, _⟩
  · rw [e] at hj
    cases hj
  · rw [e] at hj
    have hj' : some g = some j := hj
    injection hj' with hj'
    subst hj'
    rw [hg] at ho
    cases ho
    rfl
theorem owns_kept {w w1 : World} {base g : Nat} {v : Value} {l : List UInt8} (h : Owns w base v l) (hg : w.grownBy w1 (some g)) (hne : some g ≠ v.ownBlock) : Owns w1 base v l := World.ownsRow.kept h hg (.inr (Ne.symm hne))
theorem owns_keep {W W' : World} {base : Nat} {v : Value} {l : List UInt8} {row : Option Nat} (h : Owns W base v l) (hg : W.grownBy W' row) (hr : ∀ r, row = some r → ∃ o : Obj, W.heap[r]? = some o ∧ o.isCells = false) : Owns W' base v l := by
  refine World.ownsRow.kept h hg ?_
  cases hv : v.ownBlock with
  | none => exact .inl rfl
  | some j =>
    refine .inr (fun e => ?_)
    obtain ⟨o, ho, hc⟩ := hr j e.symm
    rw [owns_cells h j o hv ho] at hc
    cases hc
theorem owns_low {w : World} {b b' : Nat} {v : Value} {l : List UInt8} (h : Owns w b v l) (hb : b' ≤ b) : Owns w b' v l :=
  ⟨h.1, h.2.imp id fun ⟨g, cap, cur, h1, h2, h3⟩ => ⟨g, cap, cur, h1, by omega, h3⟩⟩
/-- append(v, p...) in a round, p in memory -/
theorem opIn_growB {F : Fence} {n : Nat} {P : Program} (w : World) {o : Oper} {a : Act} {K : Act → World → Prop} {Q : Exit → Act → World → Prop} (d x : Operand) (t : TypeId)
    (ho : o.op = .call { callee := .builtin .append, args := #[d, x], argTypes := #[t, t] }) (ht : P.underlying t = some (.slice 5))
    (h2 : (P.info? 5).map (fun i => (i.zero, i.size, i.bytes)) = some (some (.int .u8 0), 1, 1)) (base : Nat) (v : Value) (l : List UInt8) (ad : Addr) (p : List UInt8) (c B : Nat)
    (hs : a.eval d = v) (hx : a.eval x = .slice (some ad) p.length c) (hr : Owns w base v l) (hp : Shows w B (some ad) p) (hroom : l.length + p.length ≤ 140737488355328) (hbase : base ≤ w.heap.size)
    (hK : ∀ A' c' w', Owns w' base (.slice A' (l ++ p).length c') (l ++ p) → w.grownBy w' v.ownBlock → K (a.put o.dst (.slice A' (l ++ p).length c')) w') : Oper.wpIn F n P o a w K Q := by
  obtain ⟨i, hi, hz, hsz, hb⟩ := info_parts h2
  have e : (l ++ p).length = l.length + p.length := by simp
  obtain ⟨v', w', hrun, h1, h3, _⟩ := run_append_own (P := P) w base t o.type 5 i (.int .u8 0) 1 1 ht hi hz hsz hb rfl (by decide) v l.length (cb l) hr ad p.length c (cb p) (by rw [cb_len, Nat.mul_one]) (by
    intro j u hj
    obtain ⟨v, hv, rfl⟩ := cb_get hj
    obtain ⟨b, off, h, _, hc⟩ := hp (by have := (List.getElem?_eq_some_iff.1 hv).1; omega)
    injection h with h
    subst h
    simpa [Addr.add_lit] using hc j v hv) (cb_one p) (by simp only [maxLen]; omega) (by omega) hbase
  unfold Oper.wpIn
  refine ⟨?_, ?_⟩
  · simp [Oper.about, ho, resolve, Target.leads, Sem.run_pure]
  · rw [Oper.semAt_plain F _ _ (by rw [ho]; intro c hc'; cases hc')]
    simp [execOp, ho, resolve, invoke, builtin, hs, hx, hrun, Result.andThen]
    have ho' : Owns w' base v' (l ++ p) := by unfold Owns; rw [cb_app, e]; exact h1
    obtain ⟨A', c', rfl⟩ := ho'.slice
    exact hK A' c' w' ho' h3
/-- the encoding of a predicate; nothing if it is not well-formed -/
def encL (p : Pr) : List UInt8 := if (preO 1 p).all okW = true then ((preO 1 p).map fun x => headB x.2).flatten else []
theorem hdok {x : Int × Pr} (h : okW x = true) : HdOk x.2 := by
  unfold okW at h
  simp only [Bool.and_eq_true] at h
  obtain ⟨_, hc, hl⟩ := h
  unfold limG at hl
  simp only [Bool.and_eq_true, decide_eq_true_eq, Bool.not_eq_true'] at hl
  obtain ⟨h1, _, h3, h4, h5⟩ := hl
  refine ⟨?_, by omega, fun v hv => ?_, by omega, by omega⟩
  · unfold concG at hc
    by_cases h0 : x.2.op = 0 ∨ x.2.op = 1 ∨ x.2.op = 2 ∨ x.2.op = 3 ∨ x.2.op = 4 ∨ x.2.op = 5 ∨ x.2.op = 6 ∨ x.2.op = 7
    · omega
    · rw [if_neg (by omega), if_neg (by omega), if_neg (by omega), if_neg (by omega), if_neg (by omega), if_neg (by omega)] at hc
      cases hc
  · have := List.any_eq_false.1 h4 v hv
    simp at this
    omega
theorem headB_len {w : World} {n₀ : Nat} {x : Int × Pr} (h : okW x = true) (hp : PrAt w n₀ x.2) : (headB x.2).length ≤ 10000 := by
  have ho := hdok h
  have h' := h
  unfold okW at h'
  simp only [Bool.and_eq_true] at h'
  obtain ⟨_, _, hl⟩ := h'
  unfold limG at hl
  simp only [Bool.and_eq_true, decide_eq_true_eq, Bool.not_eq_true'] at hl
  obtain ⟨h1, _, h3, h4, h5⟩ := hl
  have a1 := svar_len hp.hf.i0 hp.hf.i1
  have a2 := svar_len hp.hf.l0 hp.hf.l1
  have a3 := svar_len hp.hf.h0 hp.hf.h1
  have a4 : (uvarint x.2.set.length).length ≤ 10 := uvarint_length64 (by omega)
  have a5 : (uvarint x.2.kids.length).length ≤ 10 := uvarint_length64 (by omega)
  have a6 := counted_len x.2.tx.data.toList (by simp; omega)
  have a7 : x.2.tx.data.toList.length = x.2.tx.size := by simp
  have a8 : ∀ l : List Va, (∀ v ∈ l, v.Fine) → (∀ v ∈ l, v.s.size ≤ 200) → ((l.map elB).flatten).length ≤ l.length * 230 := fun l => by
    induction l with
    | nil => intro _ _; simp
    | cons v l ih =>
      intro g1 g2
      have e1 := ih (fun u hu => g1 u (by simp [hu])) (fun u hu => g2 u (by simp [hu]))
      have e2 := svar_len (g1 v (by simp)).lo (g1 v (by simp)).hi
      have e3 := counted_len v.s.data.toList (by have := g2 v (by simp); simp; omega)
      have e4 : v.s.data.toList.length = v.s.size := by simp
      have e5 := g2 v (by simp)
      have e6 : (elB v).length = 1 + (svar v.n).length + (counted v.s.data.toList).length := by
        unfold elB
        simp only [List.length_append, List.length_cons, List.length_nil] <;> omega
      simp only [List.map_cons, List.flatten_cons, List.length_append, List.length_cons]
      omega
  have a9 := a8 x.2.set hp.hv (fun v hv => by
    have := List.any_eq_false.1 h4 v hv
    simp at this
    omega)
  unfold headB
  simp only [List.length_append, List.length_cons, List.length_nil]
  repeat' split
  all_goals (try simp only [List.length_append, List.length_nil])
  all_goals omega
theorem KV.grow {W W' : World} {n₀ base : Nat} {v : Value} {l : List UInt8} (h : Owns W base v l) (hg : W.grownBy W' v.ownBlock) (hn : n₀ ≤ base) (hz : n₀ ≤ W.heap.size) : KV n₀ W W' :=
  ⟨(Below.refl n₀ W).grown hg hz (fun k e => Nat.le_trans hn (World.ownsRow.lt h k e).1), fun g q x => x.grown hg (owns_ne h x (by decide))⟩
theorem flat_bd {α : Type} (f : α → List UInt8) (m : Nat) : ∀ l : List α, (∀ x ∈ l, (f x).length ≤ m) → ((l.map f).flatten).length ≤ l.length * m
  | [], _ => by simp
  | x :: l, h => by
    have h1 := flat_bd f m l (fun y hy => h y (by simp [hy]))
    have h2 := h x (by simp)
    simp only [List.map_cons, List.flatten_cons, List.length_append, List.length_cons, Nat.add_mul]
    omega
set_option maxHeartbeats 16000000 in
set_option maxRecDepth 20000 in
theorem Encode_any (A : Option Addr) (cap : Nat) (b : List UInt8) (p : Pr) (w : World) (hs : Shows w w.heap.size A b) (hb : b.length ≤ 100000000) (hp : PrAt w w.heap.size p) (hdp : dep p ≤ 999999999) (hN : (preO 1 p).length ≤ 100000) :
    Calls Try.prog 21 #[.slice A b.length cap, .agg #[.int .i64 p.op, .int .i64 p.id, .int .i64 p.lo, .int .i64 p.hi, .slice p.S p.set.length p.sc, .string p.tx, .slice p.K p.kids.length p.kc]] w fun e w' => RetN w w' (b ++ encL p) e ∧ Below w.heap.size w w' := by
  refine (callsIn_wide (n := 6)).1 ?_
  have HP := Li hp
  have HS := Li hs
  have HBl := Li hb
  obtain ⟨L, hL⟩ : ∃ L, L = preO 1 p := ⟨_, rfl⟩
  have HLq := Li hL
  have HLn := Li (show L.length ≤ 100000 by rw [hL]; exact hN)
  have HAT := Li (show ∀ i : Fin L.length, PrAt w w.heap.size (L[i.1]).2 from fun i => preO_at p 1 hp _ (by rw [← hL]; exact List.getElem_mem i.2))
  have B0 := Li (al2 w (.cells #[.slice A b.length cap] 54) (.cells #[.int .i64 p.op, .int .i64 p.id, .int .i64 p.lo, .int .i64 p.hi, .slice p.S p.set.length p.sc, .string p.tx, .slice p.K p.kids.length p.kc] 25))
  have X0 := Li ((CB.new w 54 [.slice A b.length cap]).alloc (.cells #[.int .i64 p.op, .int .i64 p.id, .int .i64 p.lo, .int .i64 p.hi, .slice p.S p.set.length p.sc, .string p.tx, .slice p.K p.kids.length p.kc] 25))
  have P0 := Li (CB.new1 w (.cells #[.slice A b.length cap] 54) 25 [.int .i64 p.op, .int .i64 p.id, .int .i64 p.lo, .int .i64 p.hi, .slice p.S p.set.length p.sc, .string p.tx, .slice p.K p.kids.length p.kc])
  obtain ⟨Z, hZ⟩ : ∃ Z, b ++ encL p = Z := ⟨_, rfl⟩
  rw [hZ]
  have HZ := Li hZ
  obtain ⟨ok, hok⟩ : ∃ ok, (preO 1 p).all okW = ok := ⟨_, rfl⟩
  have HOK := Li hok
  clear hp hs hb hL hZ hok hN
  refine callsIn_of_wp_marks Try.func21 rfl trivial ?_ rfl
  simp only [Try.ntmps21, List.size_toArray, List.length_cons, List.length_nil, Nat.reduceAdd, Nat.reduceSub, Array.replicate_succ, Array.replicate_zero, List.push_toArray, List.append_toArray, List.nil_append, List.cons_append]
  cases ok with
  | false =>
    have HZ2 := Li (show b = Z by rw [← HZ.out, encL, if_neg (by rw [HOK.out]; decide), List.append_nil])
    gi_wp2_with (first | (refine ⟨trivial, ?_⟩; gi_at_call 34; refine (callsIn_wide.2 (clone_any A cap b _ (HS.out.up B0.out) (by have := HBl.out; omega))).mono ?_; rintro e w1 ⟨⟨A1, c1, rfl, ho1⟩, hb1⟩; have O1 := Li (owns_low ho1 (b' := w.heap.size) (by simp; omega)); have B1 := Li (below_step B0.out B0.out.size hb1); have X1 := Li (X0.out.up hb1); have P1 := Li (P0.out.up hb1); have x10 := X1.out.cell 0 rfl; have x1f := X1.out.frozen 0; have zx1 := X1.out.lt; have p10 := P1.out.cell 0 rfl; have p11 := P1.out.cell 1 rfl; have p12 := P1.out.cell 2 rfl; have p13 := P1.out.cell 3 rfl; have p14 := P1.out.cell 4 rfl; have p15 := P1.out.cell 5 rfl; have p16 := P1.out.cell 6 rfl; have zp1 := P1.out.lt; clear ho1 hb1) | (refine ⟨trivial, ?_⟩; gi_at_call 35; refine (callsIn_wide.2 (wf_any p _ (HP.out.up (B1.out.setCell (p := ⟨w.heap.size, 0, none⟩) (Nat.le_refl _) _)) hdp)).mono ?_; rintro e w2 ⟨rfl, hb2⟩; rw [HOK.out]; have B2 := Li (below_step (B1.out.setCell (p := ⟨w.heap.size, 0, none⟩) (Nat.le_refl _) (.slice A1 b.length c1)) (B1.out.setCell (p := ⟨w.heap.size, 0, none⟩) (Nat.le_refl _) (.slice A1 b.length c1)).size hb2); have X2 := Li ((X1.out.set_ 0 (.slice A1 b.length c1)).up hb2); have P2 := Li ((P1.out.set_other 0 (.slice A1 b.length c1) (by omega)).up hb2); have O2 := Li (owns_up (owns_kept O1.out (grown_set w1 w.heap.size 0 (.slice A1 b.length c1)) (owns_ne O1.out X1.out (by decide))) hb2); have x20 := X2.out.cell 0 rfl; have x2f := X2.out.frozen 0; have zx2 := X2.out.lt; have p20 := P2.out.cell 0 rfl; have p21 := P2.out.cell 1 rfl; have p22 := P2.out.cell 2 rfl; have p23 := P2.out.cell 3 rfl; have p24 := P2.out.cell 4 rfl; have p25 := P2.out.cell 5 rfl; have p26 := P2.out.cell 6 rfl; have zp2 := P2.out.lt; clear hb2))
    exact ⟨_, results_tmp rfl _ _ _, by rw [← HZ2.out]; exact ⟨⟨A1, c1, rfl, O2.out⟩, B2.out⟩⟩
  | true =>
    gi_wp2_with (first | (refine ⟨trivial, ?_⟩; gi_at_call 34; refine (callsIn_wide.2 (clone_any A cap b _ (HS.out.up B0.out) (by have := HBl.out; omega))).mono ?_; rintro e w1 ⟨⟨A1, c1, rfl, ho1⟩, hb1⟩; have O1 := Li (owns_low ho1 (b' := w.heap.size) (by simp; omega)); have B1 := Li (below_step B0.out B0.out.size hb1); have X1 := Li (X0.out.up hb1); have P1 := Li (P0.out.up hb1); have x10 := X1.out.cell 0 rfl; have x1f := X1.out.frozen 0; have zx1 := X1.out.lt; have p10 := P1.out.cell 0 rfl; have p11 := P1.out.cell 1 rfl; have p12 := P1.out.cell 2 rfl; have p13 := P1.out.cell 3 rfl; have p14 := P1.out.cell 4 rfl; have p15 := P1.out.cell 5 rfl; have p16 := P1.out.cell 6 rfl; have zp1 := P1.out.lt; clear ho1 hb1) | (refine ⟨trivial, ?_⟩; gi_at_call 35; refine (callsIn_wide.2 (wf_any p _ (HP.out.up (B1.out.setCell (p := ⟨w.heap.size, 0, none⟩) (Nat.le_refl _) _)) hdp)).mono ?_; rintro e w2 ⟨rfl, hb2⟩; rw [HOK.out]; have B2 := Li (below_step (B1.out.setCell (p := ⟨w.heap.size, 0, none⟩) (Nat.le_refl _) (.slice A1 b.length c1)) (B1.out.setCell (p := ⟨w.heap.size, 0, none⟩) (Nat.le_refl _) (.slice A1 b.length c1)).size hb2); have X2 := Li ((X1.out.set_ 0 (.slice A1 b.length c1)).up hb2); have P2 := Li ((P1.out.set_other 0 (.slice A1 b.length c1) (by omega)).up hb2); have O2 := Li (owns_up (owns_kept O1.out (grown_set w1 w.heap.size 0 (.slice A1 b.length c1)) (owns_ne O1.out X1.out (by decide))) hb2); have x20 := X2.out.cell 0 rfl; have x2f := X2.out.frozen 0; have zx2 := X2.out.lt; have p20 := P2.out.cell 0 rfl; have p21 := P2.out.cell 1 rfl; have p22 := P2.out.cell 2 rfl; have p23 := P2.out.cell 3 rfl; have p24 := P2.out.cell 4 rfl; have p25 := P2.out.cell 5 rfl; have p26 := P2.out.cell 6 rfl; have zp2 := P2.out.lt; clear hb2) | (refine ⟨trivial, ?_⟩; gi_at_call 25; refine (all_in Fence.wide (6 - 1) trivial rfl p _).mono ?_; rintro e w3 ⟨rfl, rfl⟩))
    have X3 := Li (X2.out.alloc (.cells #[.int .i64 p.op, .int .i64 p.id, .int .i64 p.lo, .int .i64 p.hi, .slice p.S p.set.length p.sc, .string p.tx, .slice p.K p.kids.length p.kc] 25))
    have O3 := Li (show Owns (w2.alloc (.cells #[.int .i64 p.op, .int .i64 p.id, .int .i64 p.lo, .int .i64 p.hi, .slice p.S p.set.length p.sc, .string p.tx, .slice p.K p.kids.length p.kc] 25)) w.heap.size (.slice A1 b.length c1) b from World.ownsRow.alloc O2.out _)
    have P3 := Li (CB.new w2 25 [.int .i64 p.op, .int .i64 p.id, .int .i64 p.lo, .int .i64 p.hi, .slice p.S p.set.length p.sc, .string p.tx, .slice p.K p.kids.length p.kc])
    have B3 := Li (B2.out.alloc B2.out.size (.cells #[.int .i64 p.op, .int .i64 p.id, .int .i64 p.lo, .int .i64 p.hi, .slice p.S p.set.length p.sc, .string p.tx, .slice p.K p.kids.length p.kc] 25))
    have zz : (w2.alloc (.cells #[.int .i64 p.op, .int .i64 p.id, .int .i64 p.lo, .int .i64 p.hi, .slice p.S p.set.length p.sc, .string p.tx, .slice p.K p.kids.length p.kc] 25)).heap.size = w2.heap.size + 1 := asz _ _
    have zn : w.heap.size + 1 < w2.heap.size := zp2
    have HP3 := Li (PrAt.bel B3.out p HP.out)
    have HALL := Li (show ∀ i : Fin L.length, okW (L[i.1]) = true from fun i => List.all_eq_true.1 HOK.out _ (by rw [← HLq.out]; exact List.getElem_mem i.2))
    have HZ3 := Li (show b ++ (((List.finRange L.length).map fun i => headB (L[i.1]).2).flatten) = Z by
      rw [← HZ.out, encL, if_pos HOK.out, ← HLq.out]
      congr 2
      apply List.ext_getElem
      · simp
      · intro i h1 h2
        simp)
    clear X0 P0 B0 X1 P1 B1 O1 X2 P2 B2 O2 x10 x1f zx1 p10 p11 p12 p13 p14 p15 p16 zp1 x20 x2f zx2 p20 p21 p22 p23 p24 p25 p26 zp2 HZ HOK
    generalize w2.heap.size = N2 at *
    generalize w2.alloc (.cells #[.int .i64 p.op, .int .i64 p.id, .int .i64 p.lo, .int .i64 p.hi, .slice p.S p.set.length p.sc, .string p.tx, .slice p.K p.kids.length p.kc] 25) = w3 at *
    refine wpIn_rangeFunc_ownH rfl (by decide) (gf := 39) (lb := #[.pointer (some ⟨N2, 0, none⟩)]) rfl trivial (enters_of Try.func39 (by kernel_rfl) rfl)
      (all_stops Fence.wide rfl (6 - 1) trivial trivial rfl N2 w.heap.size p L HLq.out w3 P3.out (by omega) HP3.out hdp) KV.trans (fun W l o o' hl ho hc _ => KV.put W l o o' (by omega) ho hc) (Below.refl _ _) (fun _ => rfl)
      (fun pre W => (∃ (A' : Option Addr) (c' : Nat) (acc : List UInt8), acc = b ++ ((pre.map fun i => headB (L[i.1]).2).flatten) ∧ CB W w.heap.size 54 [.slice A' acc.length c'] ∧ Owns W w.heap.size (.slice A' acc.length c') acc) ∧ (Below w.heap.size w W ∧ w3.heap.size ≤ W.heap.size))
      (fun _ _ _ => False)
      (fun pre X Y row hs hg hr => by
        obtain ⟨⟨A', c', acc, h1, h2, h3⟩, h4, h5⟩ := hs
        exact ⟨⟨A', c', acc, h1, cbs_keep h2 hg (fun r e => (hr r e).2), owns_keep h3 hg (fun r e => (hr r e).2)⟩, h4.grown hg (Nat.le_trans (by omega) h5) (fun k e => Nat.le_trans (by omega) (hr k e).1), Nat.le_trans h5 hg.size⟩)
      (fun _ _ _ _ _ hs _ _ => hs)
      ⟨⟨A1, c1, b, by simp, X3.out, O3.out⟩, B3.out, Nat.le_refl _⟩
      (fun x a' W => ∃ Bx, N2 < Bx ∧ CB W Bx 25 [.int .i64 (L[x.1]).2.op, .int .i64 (L[x.1]).2.id, .int .i64 (L[x.1]).2.lo, .int .i64 (L[x.1]).2.hi, .slice (L[x.1]).2.S (L[x.1]).2.set.length (L[x.1]).2.sc, .string (L[x.1]).2.tx, .slice (L[x.1]).2.K (L[x.1]).2.kids.length (L[x.1]).2.kc] ∧ a' = { tmps := #[.slice A b.length cap, .agg #[.int .i64 p.op, .int .i64 p.id, .int .i64 p.lo, .int .i64 p.hi, .slice p.S p.set.length p.sc, .string p.tx, .slice p.K p.kids.length p.kc], .pointer (some ⟨w.heap.size, 0, none⟩), .pointer (some ⟨w.heap.size + 1, 0, none⟩), .slice none 0 0, undef, .pointer (some ⟨Bx, 0, none⟩), .slice A b.length cap, .slice A1 b.length c1, .agg #[.int .i64 p.op, .int .i64 p.id, .int .i64 p.lo, .int .i64 p.hi, .slice p.S p.set.length p.sc, .string p.tx, .slice p.K p.kids.length p.kc], .bool true, .bool false, undef, .agg #[.int .i64 p.op, .int .i64 p.id, .int .i64 p.lo, .int .i64 p.hi, .slice p.S p.set.length p.sc, .string p.tx, .slice p.K p.kids.length p.kc], .func (.func 39) #[] #[.pointer (some ⟨N2, 0, none⟩)], .int .i64 (L[x.1]).1, .agg #[.int .i64 (L[x.1]).2.op, .int .i64 (L[x.1]).2.id, .int .i64 (L[x.1]).2.lo, .int .i64 (L[x.1]).2.hi, .slice (L[x.1]).2.S (L[x.1]).2.set.length (L[x.1]).2.sc, .string (L[x.1]).2.tx, .slice (L[x.1]).2.K (L[x.1]).2.kids.length (L[x.1]).2.kc], undef, undef, undef, undef, undef], defers := [] })
      (fun x a' _ X Y row hs hg hr => by obtain ⟨Bx, h1, h2, h3⟩ := hs; exact ⟨Bx, h1, cbs_keep h2 hg (fun r e => (hr r e).2), h3⟩)
      ?assign ?body ?done ?stop
    case assign =>
      rintro y pre x W K ⟨⟨A', c', acc, hq, hc, ho⟩, hB, hz⟩ hK
      have HC := Li hc
      have HO := Li ho
      have HQ := Li hq
      clear hc ho hq
      simp only [encN, encP]
      gi_wp2
      have ha := al1 W (.cells #[.int .i64 (L[x.1]).2.op, .int .i64 (L[x.1]).2.id, .int .i64 (L[x.1]).2.lo, .int .i64 (L[x.1]).2.hi, .slice (L[x.1]).2.S (L[x.1]).2.set.length (L[x.1]).2.sc, .string (L[x.1]).2.tx, .slice (L[x.1]).2.K (L[x.1]).2.kids.length (L[x.1]).2.kc] 25)
      exact hK _ _ ((KeepsOthers.alloc _ _).from _) (KV.alloc (Nat.le_trans (by omega) hz) _) ⟨⟨A', c', acc, HQ.out, HC.out.up ha, owns_up HO.out ha⟩, hB.alloc hB.size _, by rw [asz]; omega⟩ ⟨W.heap.size, by omega, CB.new W 25 [.int .i64 (L[x.1]).2.op, .int .i64 (L[x.1]).2.id, .int .i64 (L[x.1]).2.lo, .int .i64 (L[x.1]).2.hi, .slice (L[x.1]).2.S (L[x.1]).2.set.length (L[x.1]).2.sc, .string (L[x.1]).2.tx, .slice (L[x.1]).2.K (L[x.1]).2.kids.length (L[x.1]).2.kc], rfl⟩
    case body =>
      rintro y pre x a' W hy ⟨rr, hrr⟩ ⟨⟨A', c', acc, hq, hc, ho⟩, hB, hz⟩ ⟨Bx, hBx, hX, rfl⟩ hlt
      have zX := hX.lt
      have x0 := hX.cell 0 rfl
      have x1 := hX.cell 1 rfl
      have x2 := hX.cell 2 rfl
      have x3 := hX.cell 3 rfl
      have x4 := hX.cell 4 rfl
      have x5 := hX.cell 5 rfl
      have x6 := hX.cell 6 rfl
      have c0 := hc.cell 0 rfl
      have cf := hc.frozen 0
      have zc := hc.lt
      have HC := Li hc
      have HO := Li ho
      have HQ := Li hq
      have HA := Li (HAT.out x)
      have HOx := Li (HALL.out x)
      have HZ0 := Li (show w.heap.size ≤ W.heap.size from hB.size)
      have HZw := Li hz
      have HAL := Li (show acc.length ≤ 1100000000 by
        have h1 := flat_bd (fun i : Fin L.length => headB (L[i.1]).2) 10000 pre (fun i _ => headB_len (HALL.out i) (HAT.out i))
        have h2 := HBl.out
        have h3 := HLn.out
        rw [hq, List.length_append]
        omega)
      obtain ⟨pb, hpb⟩ : ∃ l, headB (L[x.1]).2 = l := ⟨_, rfl⟩
      have HPB := Li hpb
      have HPL := Li (show pb.length ≤ 10000 by rw [← hpb]; exact headB_len HOx.out HA.out)
      clear hc ho hq hX hpb hz
      have hmx : Try.prog.follows .mixedOrders = true := by kernel_rfl
      have hBd : Below w.heap.size w W.drew := below_drewN hB 1
      have HCd := Li HC.out.dr
      have HOd := Li (show Owns W.drew w.heap.size (.slice A' acc.length c') acc from HO.out)
      gi_wp2
      refine wpIn_region_any hmx ?_
      refine wpAnyIn_ready (rs := [0, 1]) (by kernel_rfl) (by simp) ?_
      refine AllReadyIn.cons rfl (fun KK hK => ?_) (AllReadyIn.cons rfl (fun KK hK => ?_) AllReadyIn.nil)
      · go_simp
        refine hK _ _ ?_
        clear hK KK
        try simp only [pnz]
        refine wpAnyIn_ready (rs := [1]) (by kernel_rfl) (by simp) ?_
        refine AllReadyIn.cons rfl (fun KK hK => ?_) AllReadyIn.nil
        go_simp
        refine hK _ _ ?_
        clear hK KK
        try simp only [pnz]
        refine wpAnyIn_ready (rs := [2]) (by kernel_rfl) (by simp) ?_
        refine AllReadyIn.cons rfl (fun KK hK => ?_) AllReadyIn.nil
        go_simp
        refine ⟨trivial, ?_⟩
        gi_at_call 36
        refine (CallsIn.inRound y (callsIn_wide.2 (head_any (L[x.1]).2 _ (HA.out.up hBd) (hdok HOx.out)))).mono ?_
        rintro e w5 ⟨⟨ge, ce, rfl, hre⟩, hb5⟩
        rw [HPB.out] at hre ⊢
        have BP := Li (show Below W.heap.size W w5 from below_step (below_drewN (Below.refl W.heap.size W) 1) (Nat.le_refl _) hb5)
        have SP := Li hre.shows.2
        have O5 := Li (owns_up HOd.out hb5)
        have C5 := Li (HCd.out.up hb5)
        have c5 := C5.out.cell 0 rfl
        have cf5 := C5.out.frozen 0
        have zc5 := C5.out.lt
        clear hre hb5
        gi_wp2
        try simp only [pnz]
        refine wpAnyIn_ready (rs := [3]) (by kernel_rfl) (by simp) ?_
        refine AllReadyIn.cons rfl (fun KK hK => ?_) AllReadyIn.nil
        rw [if_pos (by rfl)]
        refine opIn_growB _ (.tmp 17) (.tmp 19) 54 rfl Try.underlying54 info5 w.heap.size (.slice A' acc.length c') acc ⟨ge, 0, none⟩ pb ce w5.heap.size rfl rfl O5.out SP.out (by have := HAL.out; have := HPL.out; omega) (Nat.le_trans HZ0.out BP.out.size) ?_
        intro A6 c6 w6 ho6 hg6
        have O6 := Li ho6
        have G6 := Li hg6
        have C6 := Li (C5.out.grown hg6 (owns_ne O5.out C5.out (by decide)))
        have c60 := C6.out.cell 0 rfl
        have cf6 := C6.out.frozen 0
        have zc6 := C6.out.lt
        clear ho6 hg6
        refine hK _ _ ?_
        clear hK KK
        try simp only [pnz]
        refine wpAnyIn_ready (rs := [4]) (by kernel_rfl) (by simp) ?_
        refine AllReadyIn.cons rfl (fun KK hK => ?_) AllReadyIn.nil
        go_simp
        refine hK _ _ ?_
        clear hK KK
        try simp only [pnz]
        refine wpAnyIn_done (by kernel_rfl) ?_ _
        gi_wp2
        exact ⟨((keeps_below BP.out).trans ((KeepsOthers.of_grownBy G6.out (fun j o e h => owns_cells O5.out j o e h)).trans (KeepsOthers.setCell _ _ _))).from _, (KV.of_below HZ0.out BP.out).trans ((KV.grow O5.out G6.out (Nat.le_refl _) (Nat.le_trans HZ0.out BP.out.size)).trans (KV.set_ C6.out (by decide) (Nat.le_refl _) _)), ⟨A6, c6, acc ++ pb, by rw [HQ.out, List.map_append, List.flatten_append, ← HPB.out]; simp, by simpa using C6.out.set_ 0 (.slice A6 (acc ++ pb).length c6), owns_kept O6.out (grown_set w6 w.heap.size 0 _) (owns_ne O6.out C6.out (by decide))⟩, ((below_step hB hB.size BP.out).grown G6.out (Nat.le_trans HZ0.out BP.out.size) (fun k e => (World.ownsRow.lt O5.out k e).1)).setCell (p := ⟨w.heap.size, 0, none⟩) (Nat.le_refl _) _, by simpa [World.setCell] using Nat.le_trans HZw.out (Nat.le_trans BP.out.size G6.out.size)⟩
      · go_simp
        refine hK _ _ ?_
        clear hK KK
        try simp only [pnz]
        refine wpAnyIn_ready (rs := [0, 2]) (by kernel_rfl) (by simp) ?_
        refine AllReadyIn.cons rfl (fun KK hK => ?_) (AllReadyIn.cons rfl (fun KK hK => ?_) AllReadyIn.nil)
        · go_simp
          refine hK _ _ ?_
          clear hK KK
          try simp only [pnz]
          refine wpAnyIn_ready (rs := [2]) (by kernel_rfl) (by simp) ?_
          refine AllReadyIn.cons rfl (fun KK hK => ?_) AllReadyIn.nil
          go_simp
          refine ⟨trivial, ?_⟩
          gi_at_call 36
          refine (CallsIn.inRound y (callsIn_wide.2 (head_any (L[x.1]).2 _ (HA.out.up hBd) (hdok HOx.out)))).mono ?_
          rintro e w5 ⟨⟨ge, ce, rfl, hre⟩, hb5⟩
          rw [HPB.out] at hre ⊢
          have BP := Li (show Below W.heap.size W w5 from below_step (below_drewN (Below.refl W.heap.size W) 1) (Nat.le_refl _) hb5)
          have SP := Li hre.shows.2
          have O5 := Li (owns_up HOd.out hb5)
          have C5 := Li (HCd.out.up hb5)
          have c5 := C5.out.cell 0 rfl
          have cf5 := C5.out.frozen 0
          have zc5 := C5.out.lt
          clear hre hb5
          gi_wp2
          try simp only [pnz]
          refine wpAnyIn_ready (rs := [3]) (by kernel_rfl) (by simp) ?_
          refine AllReadyIn.cons rfl (fun KK hK => ?_) AllReadyIn.nil
          rw [if_pos (by rfl)]
          refine opIn_growB _ (.tmp 17) (.tmp 19) 54 rfl Try.underlying54 info5 w.heap.size (.slice A' acc.length c') acc ⟨ge, 0, none⟩ pb ce w5.heap.size rfl rfl O5.out SP.out (by have := HAL.out; have := HPL.out; omega) (Nat.le_trans HZ0.out BP.out.size) ?_
          intro A6 c6 w6 ho6 hg6
          have O6 := Li ho6
          have G6 := Li hg6
          have C6 := Li (C5.out.grown hg6 (owns_ne O5.out C5.out (by decide)))
          have c60 := C6.out.cell 0 rfl
          have cf6 := C6.out.frozen 0
          have zc6 := C6.out.lt
          clear ho6 hg6
          refine hK _ _ ?_
          clear hK KK
          try simp only [pnz]
          refine wpAnyIn_ready (rs := [4]) (by kernel_rfl) (by simp) ?_
          refine AllReadyIn.cons rfl (fun KK hK => ?_) AllReadyIn.nil
          go_simp
          refine hK _ _ ?_
          clear hK KK
          try simp only [pnz]
          refine wpAnyIn_done (by kernel_rfl) ?_ _
          gi_wp2
          exact ⟨((keeps_below BP.out).trans ((KeepsOthers.of_grownBy G6.out (fun j o e h => owns_cells O5.out j o e h)).trans (KeepsOthers.setCell _ _ _))).from _, (KV.of_below HZ0.out BP.out).trans ((KV.grow O5.out G6.out (Nat.le_refl _) (Nat.le_trans HZ0.out BP.out.size)).trans (KV.set_ C6.out (by decide) (Nat.le_refl _) _)), ⟨A6, c6, acc ++ pb, by rw [HQ.out, List.map_append, List.flatten_append, ← HPB.out]; simp, by simpa using C6.out.set_ 0 (.slice A6 (acc ++ pb).length c6), owns_kept O6.out (grown_set w6 w.heap.size 0 _) (owns_ne O6.out C6.out (by decide))⟩, ((below_step hB hB.size BP.out).grown G6.out (Nat.le_trans HZ0.out BP.out.size) (fun k e => (World.ownsRow.lt O5.out k e).1)).setCell (p := ⟨w.heap.size, 0, none⟩) (Nat.le_refl _) _, by simpa [World.setCell] using Nat.le_trans HZw.out (Nat.le_trans BP.out.size G6.out.size)⟩
        · go_simp
          refine ⟨trivial, ?_⟩
          gi_at_call 36
          refine (CallsIn.inRound y (callsIn_wide.2 (head_any (L[x.1]).2 _ (HA.out.up hBd) (hdok HOx.out)))).mono ?_
          rintro e w5 ⟨⟨ge, ce, rfl, hre⟩, hb5⟩
          rw [HPB.out] at hre ⊢
          have BP := Li (show Below W.heap.size W w5 from below_step (below_drewN (Below.refl W.heap.size W) 1) (Nat.le_refl _) hb5)
          have SP := Li hre.shows.2
          have O5 := Li (owns_up HOd.out hb5)
          have C5 := Li (HCd.out.up hb5)
          have c5 := C5.out.cell 0 rfl
          have cf5 := C5.out.frozen 0
          have zc5 := C5.out.lt
          clear hre hb5
          gi_wp2
          try simp only [pnz]
          refine wpAnyIn_ready (rs := [0]) (by kernel_rfl) (by simp) ?_
          refine AllReadyIn.cons rfl (fun KK hK => ?_) AllReadyIn.nil
          go_simp
          refine hK _ _ ?_
          clear hK KK
          try simp only [pnz]
          refine wpAnyIn_ready (rs := [3]) (by kernel_rfl) (by simp) ?_
          refine AllReadyIn.cons rfl (fun KK hK => ?_) AllReadyIn.nil
          rw [if_pos (by rfl)]
          refine opIn_growB _ (.tmp 17) (.tmp 19) 54 rfl Try.underlying54 info5 w.heap.size (.slice A' acc.length c') acc ⟨ge, 0, none⟩ pb ce w5.heap.size rfl rfl O5.out SP.out (by have := HAL.out; have := HPL.out; omega) (Nat.le_trans HZ0.out BP.out.size) ?_
          intro A6 c6 w6 ho6 hg6
          have O6 := Li ho6
          have G6 := Li hg6
          have C6 := Li (C5.out.grown hg6 (owns_ne O5.out C5.out (by decide)))
          have c60 := C6.out.cell 0 rfl
          have cf6 := C6.out.frozen 0
          have zc6 := C6.out.lt
          clear ho6 hg6
          refine hK _ _ ?_
          clear hK KK
          try simp only [pnz]
          refine wpAnyIn_ready (rs := [4]) (by kernel_rfl) (by simp) ?_
          refine AllReadyIn.cons rfl (fun KK hK => ?_) AllReadyIn.nil
          go_simp
          refine hK _ _ ?_
          clear hK KK
          try simp only [pnz]
          refine wpAnyIn_done (by kernel_rfl) ?_ _
          gi_wp2
          exact ⟨((keeps_below BP.out).trans ((KeepsOthers.of_grownBy G6.out (fun j o e h => owns_cells O5.out j o e h)).trans (KeepsOthers.setCell _ _ _))).from _, (KV.of_below HZ0.out BP.out).trans ((KV.grow O5.out G6.out (Nat.le_refl _) (Nat.le_trans HZ0.out BP.out.size)).trans (KV.set_ C6.out (by decide) (Nat.le_refl _) _)), ⟨A6, c6, acc ++ pb, by rw [HQ.out, List.map_append, List.flatten_append, ← HPB.out]; simp, by simpa using C6.out.set_ 0 (.slice A6 (acc ++ pb).length c6), owns_kept O6.out (grown_set w6 w.heap.size 0 _) (owns_ne O6.out C6.out (by decide))⟩, ((below_step hB hB.size BP.out).grown G6.out (Nat.le_trans HZ0.out BP.out.size) (fun k e => (World.ownsRow.lt O5.out k e).1)).setCell (p := ⟨w.heap.size, 0, none⟩) (Nat.le_refl _) _, by simpa [World.setCell] using Nat.le_trans HZw.out (Nat.le_trans BP.out.size G6.out.size)⟩
    case done =>
      rintro D ys W hD rfl ⟨⟨A', c', acc, hq, hc, ho⟩, hB, hz⟩ hK
      have hE : acc = Z := by rw [hq, HZ3.out]
      have c0 := hc.cell 0 rfl
      have zc := hc.lt
      have HO := Li ho
      clear ho hq
      gi_wp2
      refine ⟨by simp, .inl ⟨_, _, rfl, run_takeDeferred hK, ?_⟩⟩
      refine ⟨_, results_tmp rfl _ _ _, ?_, hB.trans (belowK_b (w := w) (Nat.le_refl _) W D _ _ (by omega) hK rfl rfl)⟩
      rw [← hE]
      exact ⟨A', c', rfl, owns_keep HO.out (grownBy_putObj' W D (.deferred none)) (fun q e => by cases e; exact ⟨_, hK, rfl⟩)⟩
    case stop =>
      rintro D c pre W _ _ h _
      exact h.elim
end Go.Proofs.Ytkeneoinfegodaa
