/-
  Own rows of numbers, sorted and made compact by the library; the program's Fields, by contracts.
-/
import Derived.Test.YtkeneoinfegodaaEnc
import Derived.Test.YtkeneoinfegodaaLay2
import Derived.Sort.OwnSortedInts
namespace Go.Proofs.Ytkeneoinfegodaa
open Go.RowKit Go.Shelf Go.Lib Go.Sort
attribute [local go_sem] Oper.semAt_some

/-- the call's own row of numbers -/
def OwI (w : World) (base : Nat) (v : Value) (zs : List Int) : Prop := w.ownsRow base 3 1 v zs.length (zs.map (Value.int .i64))
theorem owI_shape {w : World} {b : Nat} {v : Value} {zs : List Int} (h : OwI w b v zs) : (v = .slice none 0 0 ∧ zs = []) ∨ ∃ g cap cur, v = .slice (some ⟨g, 0, none⟩) zs.length cap ∧ b ≤ g ∧ w.heap[g]? = some (.cells cur 3 (0, 0)) ∧ zs.length ≤ cap ∧ cap ≤ maxLen ∧ cur.size = cap * 1 ∧ cur.toList.take zs.length = zs.map (Value.int .i64) := by
  rcases h.2 with ⟨h1, h2⟩ | ⟨g, cap, cur, h1, h2, h3, h4, h5, h6, h7⟩
  · exact .inl ⟨h1, List.eq_nil_of_length_eq_zero h2⟩
  · exact .inr ⟨g, cap, cur, h1, h2, h3, h4, h5, h6, by simpa using h7⟩
theorem owI_ne {w : World} {base U : Nat} {v : Value} {zs : List Int} {t : TypeId} {x : List Value} (h : OwI w base v zs) (hU : CB w U t x) (ht : t ≠ 3) : some U ≠ v.ownBlock := by
  rcases owI_shape h with ⟨e, _⟩ | ⟨g, cap, cur, e, _, hg, _⟩
  · rw [e]
    simp [Value.ownBlock]
  · rw [e]
    intro hx
    have hx' : some U = some g := hx
    injection hx' with hx'
    subst hx'
    unfold CB at hU
    rw [hU] at hg
    have := Option.some.inj hg
    injection this with _ h2
    exact ht h2
theorem owI_cells {w : World} {base : Nat} {v : Value} {zs : List Int} (h : OwI w base v zs) : ∀ (j : Nat) (o : Obj), v.ownBlock = some j → w.heap[j]? = some o → o.isCells = true := fun j o hj ho => by
  rcases owI_shape h with ⟨e, _⟩ | ⟨g, cap, cur, e, _, hg, _⟩
  · rw [e] at hj
    cases hj
  · rw [e] at hj
    have hj' : some g = some j := hj
    injection hj' with hj'
    subst hj'
    rw [hg] at ho
    cases ho
    rfl
theorem owI_keep {W W' : World} {base : Nat} {v : Value} {zs : List Int} {row : Option Nat} (h : OwI W base v zs) (hg : W.grownBy W' row) (hr : ∀ r, row = some r → ∃ o : Obj, W.heap[r]? = some o ∧ o.isCells = false) : OwI W' base v zs := by
  refine World.ownsRow.kept h hg ?_
  cases hv : v.ownBlock with
  | none => exact .inl rfl
  | some j =>
    refine .inr (fun e => ?_)
    obtain ⟨o, ho, hc⟩ := hr j e.symm
    rw [owI_cells h j o hv ho] at hc
    cases hc
theorem owI_up {w w1 : World} {b : Nat} {v : Value} {zs : List Int} (h : OwI w b v zs) (hb : Below w.heap.size w w1) : OwI w1 b v zs :=
  World.ownsRow.kept (row := none) h ⟨hb.os, hb.tape, hb.output, hb.size, fun i hi _ => hb.block i hi⟩ (by cases v.ownBlock <;> simp)
theorem KV.growI {W W' : World} {n₀ base : Nat} {v : Value} {zs : List Int} (h : OwI W base v zs) (hg : W.grownBy W' v.ownBlock) (hn : n₀ ≤ base) (hz : n₀ ≤ W.heap.size) : KV n₀ W W' :=
  ⟨(Below.refl n₀ W).grown hg hz (fun k e => Nat.le_trans hn (World.ownsRow.lt h k e).1), fun g q x => x.grown hg (owI_ne h x (by decide))⟩
def srt (zs : List Int) : List Int := zs.mergeSort fun x y => decide (x ≤ y)
theorem Sort_any (base : Nat) (v : Value) (zs : List Int) (w : World) (h : OwI w base v zs) (hl : zs.length ≤ 1000000000) :
    Calls Try.prog 27 #[v] w fun e w' => e = .returned (.tuple #[]) ∧ OwI w' base v (srt zs) ∧ w.grownBy w' v.ownBlock := by
  rcases owI_shape h with ⟨rfl, rfl⟩ | ⟨g, cap, cur, rfl, hb, hg, h1, h2, h3, h4⟩
  · refine (Try.slices_Sort_int_none none 0 w).mono ?_
    rintro e w' ⟨rfl, rfl⟩
    exact ⟨rfl, by simpa [srt, OwI] using h, World.grownBy.refl _ _⟩
  · refine (Try.slices_Sort_int g 0 cap zs w (holds_of_blockI hg h4) (Array.getElem?_eq_some_iff.1 hg).1 (by omega)).mono ?_
    rintro e w' ⟨rfl, n, os, rfl⟩
    have hl' : (srt zs).length = zs.length := by simp [srt]
    refine ⟨rfl, ?_, grownBy_sortedI _⟩
    have := ownsRow_sortedI (n := n) (os := os) (ts := srt zs) hl' hb hg h1 h2 h3
    unfold OwI
    rw [hl']
    exact this
/-- numbers in memory -/
def Ints (w : World) (B : Nat) (A : Option Addr) (l : List Int) : Prop := RowAt 1 w B A (l.map fun i => [.int .i64 i])
theorem compact_le (zs : List Int) : (Lib.compact zs).length ≤ zs.length := by
  unfold Lib.compact compactUpTo
  rw [List.length_map]
  exact Nat.le_trans (List.length_filter_le _ _) (by simp)
theorem Compact_any (base : Nat) (v : Value) (zs : List Int) (w : World) (h : OwI w base v zs) (hl : zs.length ≤ 1000000000) :
    Calls Try.prog 28 #[v] w fun e w' => (∃ A c, e = .returned (.slice A (Lib.compact zs).length c) ∧ Ints w' w'.heap.size A (Lib.compact zs)) ∧ w.grownBy w' v.ownBlock := by
  rcases owI_shape h with ⟨rfl, rfl⟩ | ⟨g, cap, cur, rfl, hb, hg, h1, h2, h3, h4⟩
  · refine (Try.slices_Compact_int_empty none 0 w).mono ?_
    rintro e w' ⟨rfl, rfl⟩
    exact ⟨⟨none, 0, rfl, RowAt.nil⟩, World.grownBy.refl _ _⟩
  · have hc := compact_le zs
    refine (Try.slices_Compact_int g 0 cap zs w (holds_of_blockI hg h4) (by omega) h1).mono ?_
    rintro e w' ⟨rfl, q, rfl⟩
    have hgr := grownBy_sortedI (w := w) (g := g) (n := q) (os := #[]) (Lib.compact zs ++ List.replicate (zs.length - (Lib.compact zs).length) 0).toArray
    rw [grow_empty] at hgr
    refine ⟨⟨some ⟨g, 0, none⟩, cap, rfl, fun hl0 => ⟨g, 0, rfl, ?_, ?_⟩⟩, hgr⟩
    · exact Nat.lt_of_lt_of_le (Array.getElem?_eq_some_iff.1 hg).1 hgr.size
    · intro i vs hi j u hj
      rw [List.getElem?_map] at hi
      obtain ⟨z, hz, rfl⟩ := Option.map_eq_some_iff.1 hi
      match j, hj with
      | 0, hj =>
        injection hj with hj
        subst hj
        have hi' := (List.getElem?_eq_some_iff.1 hz).1
        have hs : (Lib.compact zs ++ List.replicate (zs.length - (Lib.compact zs).length) 0).toArray.size = zs.toArray.size := by simp; omega
        have hh := (cell?_putRow (Value.int .i64) (Sort.ahead w q) g 0 zs.toArray (Lib.compact zs ++ List.replicate (zs.length - (Lib.compact zs).length) 0).toArray (holds_of_blockI hg h4) hs i (by simp; omega))
        simp only [Nat.mul_one, Nat.add_zero]
        rw [hh]
        congr 2
        have e1 : (Lib.compact zs ++ List.replicate (zs.length - (Lib.compact zs).length) 0)[i]? = some z := by rw [List.getElem?_append_left hi']; exact hz
        simp [e1]
/-- the fields of a predicate -/
def idsL (l : List (Int × Pr)) : List Int := (l.filter fun x => decide (1 ≤ x.2.op ∧ x.2.op ≤ 4)).map fun x => x.2.id
def fldL (p : Pr) : List Int := Lib.compact (srt (idsL (preO 1 p)))
theorem rowAt_keep {k : Nat} {W W' : World} {A : Option Addr} {L : List (List Value)} {row : Option Nat} (h : RowAt k W W.heap.size A L) (hg : W.grownBy W' row) (hr : ∀ r, row = some r → ∃ o : Obj, W.heap[r]? = some o ∧ o.isCells = false) : RowAt k W' W'.heap.size A L := fun hl => by
  obtain ⟨b, off, e, hlt, hc⟩ := h hl
  exact ⟨b, off, e, Nat.lt_of_lt_of_le hlt hg.size, fun i vs hi j v hj => cell_kept (hc i vs hi j v hj) hg hr⟩
set_option maxHeartbeats 4000000 in
set_option maxRecDepth 20000 in
theorem wpListIn_pushI {F : Fence} {n : Nat} {w wr : World} {ops : Array Oper} {rest : List Oper} {o : Oper} {a : Act} {Q : Exit → Act → World → Prop} (hgd : o.guard = none) (d x : Operand)
    (ho : o.op = .call { callee := .builtin .append, args := #[d, x], argTypes := #[40, 40] }) (base : Nat) (v : Value) (zs : List Int) (z : Int) (N : Nat) (hs : a.eval d = v) (hx : a.eval x = .slice (some ⟨N, 0, none⟩) 1 1)
    (hN : N = wr.heap.size) (hw : w = wr.alloc (.cells #[.int .i64 z] 3)) (hr : OwI wr base v zs) (hroom : zs.length ≤ 1000000000) (hbase : base ≤ wr.heap.size)
    (hK : ∀ A' c' w', OwI w' base (.slice A' (zs.length + 1) c') (zs ++ [z]) → wr.grownBy w' v.ownBlock → wpListIn F n Try.prog ops Q rest (a.put o.dst (.slice A' (zs.length + 1) c')) w') : wpListIn F n Try.prog ops Q (o :: rest) a w := by
  subst hw hN
  have h2 : (Try.prog.info? 3).map (fun i => (i.zero, i.size, i.bytes)) = some (some (.int .i64 0), 1, 8) := by kernel_rfl
  obtain ⟨i, hi, hz, hsz, hb⟩ := info_parts h2
  refine wpListIn_append_own _ hgd d x 40 ho base 3 i (.int .i64 0) 1 8 Try.underlying40 hi hz hsz hb rfl (by decide) v zs.length (zs.map (Value.int .i64)) hs (World.ownsRow.alloc hr _) ⟨wr.heap.size, 0, none⟩ 1 1 [.int .i64 z] hx (by simp) ?_ (by simp [Value.oneCell']) (by simp only [maxLen]; omega) (by omega) (by rw [asz]; omega) ?_
  · intro j u hj
    match j, hj with
    | 0, hj =>
      injection hj with hj
      subst hj
      exact (CB.new wr 3 [.int .i64 z]).cell 0 rfl
  · intro v' w' h1 h3 _
    have ho' : OwI w' base v' (zs ++ [z]) := by unfold OwI; simpa using h1
    have hg : wr.grownBy w' v.ownBlock := grown_step (World.grownBy_alloc wr _ v.ownBlock) h3
    rcases owI_shape ho' with ⟨_, h⟩ | ⟨g, cap, cur, rfl, _⟩
    · exact absurd h (by simp)
    · have e : (zs ++ [z]).length = zs.length + 1 := by simp
      rw [e] at ho' ⊢
      exact hK _ _ w' ho' hg
theorem idsL_len (l : List (Int × Pr)) : (idsL l).length ≤ l.length := by unfold idsL; rw [List.length_map]; exact List.length_filter_le _ _
theorem idsL_yes {l : List (Int × Pr)} {x : Int × Pr} (h : decide (1 ≤ x.2.op ∧ x.2.op ≤ 4) = true) : idsL (l ++ [x]) = idsL l ++ [x.2.id] := by simp [idsL, List.filter_append, h, of_decide_eq_true h]
theorem idsL_no {l : List (Int × Pr)} {x : Int × Pr} (h : decide (1 ≤ x.2.op ∧ x.2.op ≤ 4) = false) : idsL (l ++ [x]) = idsL l := by simp [idsL, List.filter_append, of_decide_eq_false h]
set_option maxHeartbeats 16000000 in
set_option maxRecDepth 20000 in
theorem Fields_any (p : Pr) (w : World) (hp : PrAt w w.heap.size p) (hdp : dep p ≤ 999999999) (hN : (preO 1 p).length ≤ 1000000) :
    Calls Try.prog 12 #[.agg #[.int .i64 p.op, .int .i64 p.id, .int .i64 p.lo, .int .i64 p.hi, .slice p.S p.set.length p.sc, .string p.tx, .slice p.K p.kids.length p.kc]] w fun e w' => (∃ A c, e = .returned (.slice A (fldL p).length c) ∧ Ints w' w'.heap.size A (fldL p)) ∧ Below w.heap.size w w' := by
  refine (callsIn_wide (n := 6)).1 ?_
  have HP := Li hp
  obtain ⟨L, hL⟩ : ∃ L, L = preO 1 p := ⟨_, rfl⟩
  have HLq := Li hL
  have HLn := Li (show L.length ≤ 1000000 by rw [hL]; exact hN)
  obtain ⟨Z, hZ⟩ : ∃ Z, fldL p = Z := ⟨_, rfl⟩
  rw [hZ]
  have HZ := Li hZ
  have B0 := Li (al3 w (.cells #[.int .i64 p.op, .int .i64 p.id, .int .i64 p.lo, .int .i64 p.hi, .slice p.S p.set.length p.sc, .string p.tx, .slice p.K p.kids.length p.kc] 25) (.cells #[.slice none 0 0] 40) (.cells #[.int .i64 p.op, .int .i64 p.id, .int .i64 p.lo, .int .i64 p.hi, .slice p.S p.set.length p.sc, .string p.tx, .slice p.K p.kids.length p.kc] 25))
  have N0 := Li ((CB.new1 w (.cells #[.int .i64 p.op, .int .i64 p.id, .int .i64 p.lo, .int .i64 p.hi, .slice p.S p.set.length p.sc, .string p.tx, .slice p.K p.kids.length p.kc] 25) 40 [.slice none 0 0]).alloc (.cells #[.int .i64 p.op, .int .i64 p.id, .int .i64 p.lo, .int .i64 p.hi, .slice p.S p.set.length p.sc, .string p.tx, .slice p.K p.kids.length p.kc] 25))
  have P0 := Li (CB.new2 w (.cells #[.int .i64 p.op, .int .i64 p.id, .int .i64 p.lo, .int .i64 p.hi, .slice p.S p.set.length p.sc, .string p.tx, .slice p.K p.kids.length p.kc] 25) (.cells #[.slice none 0 0] 40) 25 [.int .i64 p.op, .int .i64 p.id, .int .i64 p.lo, .int .i64 p.hi, .slice p.S p.set.length p.sc, .string p.tx, .slice p.K p.kids.length p.kc])
  clear hp hL hN hZ
  refine callsIn_of_wp_marks Try.func12 rfl trivial ?_ rfl
  simp only [Try.ntmps12, List.size_toArray, List.length_cons, List.length_nil, Nat.reduceAdd, Nat.reduceSub, Array.replicate_succ, Array.replicate_zero, List.push_toArray, List.append_toArray, List.nil_append, List.cons_append]
  gi_wp2_with (refine ⟨trivial, ?_⟩; gi_at_call 25; refine (all_in Fence.wide (6 - 1) trivial rfl p _).mono ?_; rintro e w' ⟨rfl, rfl⟩)
  have zz : (((w.alloc (.cells #[.int .i64 p.op, .int .i64 p.id, .int .i64 p.lo, .int .i64 p.hi, .slice p.S p.set.length p.sc, .string p.tx, .slice p.K p.kids.length p.kc] 25)).alloc (.cells #[.slice none 0 0] 40)).alloc (.cells #[.int .i64 p.op, .int .i64 p.id, .int .i64 p.lo, .int .i64 p.hi, .slice p.S p.set.length p.sc, .string p.tx, .slice p.K p.kids.length p.kc] 25)).heap.size = w.heap.size + 1 + 1 + 1 := by rw [asz, asz, asz]
  have HP0 := Li (PrAt.bel B0.out p HP.out)
  generalize (((w.alloc (.cells #[.int .i64 p.op, .int .i64 p.id, .int .i64 p.lo, .int .i64 p.hi, .slice p.S p.set.length p.sc, .string p.tx, .slice p.K p.kids.length p.kc] 25)).alloc (.cells #[.slice none 0 0] 40)).alloc (.cells #[.int .i64 p.op, .int .i64 p.id, .int .i64 p.lo, .int .i64 p.hi, .slice p.S p.set.length p.sc, .string p.tx, .slice p.K p.kids.length p.kc] 25)) = w0 at *
  refine wpIn_rangeFunc_ownH rfl (by decide) (gf := 39) (lb := #[.pointer (some ⟨w.heap.size + 1 + 1, 0, none⟩)]) rfl trivial (enters_of Try.func39 (by kernel_rfl) rfl)
    (all_stops Fence.wide rfl (6 - 1) trivial trivial rfl (w.heap.size + 1 + 1) w.heap.size p L HLq.out w0 P0.out (by omega) HP0.out hdp) KV.trans (fun W l o o' hl ho hc _ => KV.put W l o o' (by omega) ho hc) (Below.refl _ _) (fun _ => rfl)
    (fun pre W => (∃ (A' : Option Addr) (c' : Nat) (zs : List Int), zs = idsL (pre.map fun i => L[i.1]) ∧ CB W (w.heap.size + 1) 40 [.slice A' zs.length c'] ∧ OwI W w.heap.size (.slice A' zs.length c') zs) ∧ (Below w.heap.size w W ∧ w0.heap.size ≤ W.heap.size))
    (fun _ _ _ => False)
    (fun pre X Y row hs hg hr => by
      obtain ⟨⟨A', c', zs, h1, h2, h3⟩, h4, h5⟩ := hs
      exact ⟨⟨A', c', zs, h1, cbs_keep h2 hg (fun r e => (hr r e).2), owI_keep h3 hg (fun r e => (hr r e).2)⟩, h4.grown hg (Nat.le_trans (by omega) h5) (fun k e => Nat.le_trans (by omega) (hr k e).1), Nat.le_trans h5 hg.size⟩)
    (fun _ _ _ _ _ hs _ _ => hs)
    ⟨⟨none, 0, [], rfl, N0.out, World.ownsRow_nil _ _ _ _⟩, B0.out, Nat.le_refl _⟩
    (fun x a' W => ∃ Bx, w.heap.size + 1 + 1 < Bx ∧ CB W Bx 25 [.int .i64 (L[x.1]).2.op, .int .i64 (L[x.1]).2.id, .int .i64 (L[x.1]).2.lo, .int .i64 (L[x.1]).2.hi, .slice (L[x.1]).2.S (L[x.1]).2.set.length (L[x.1]).2.sc, .string (L[x.1]).2.tx, .slice (L[x.1]).2.K (L[x.1]).2.kids.length (L[x.1]).2.kc] ∧ a' = { tmps := #[.agg #[.int .i64 p.op, .int .i64 p.id, .int .i64 p.lo, .int .i64 p.hi, .slice p.S p.set.length p.sc, .string p.tx, .slice p.K p.kids.length p.kc], .pointer (some ⟨w.heap.size, 0, none⟩), .slice none 0 0, .pointer (some ⟨w.heap.size + 1, 0, none⟩), undef, .pointer (some ⟨Bx, 0, none⟩), .agg #[.int .i64 p.op, .int .i64 p.id, .int .i64 p.lo, .int .i64 p.hi, .slice p.S p.set.length p.sc, .string p.tx, .slice p.K p.kids.length p.kc], .func (.func 39) #[] #[.pointer (some ⟨w.heap.size + 1 + 1, 0, none⟩)], .int .i64 (L[x.1]).1, .agg #[.int .i64 (L[x.1]).2.op, .int .i64 (L[x.1]).2.id, .int .i64 (L[x.1]).2.lo, .int .i64 (L[x.1]).2.hi, .slice (L[x.1]).2.S (L[x.1]).2.set.length (L[x.1]).2.sc, .string (L[x.1]).2.tx, .slice (L[x.1]).2.K (L[x.1]).2.kids.length (L[x.1]).2.kc], undef, undef, undef, undef, undef, undef, undef, undef, undef, undef, undef], defers := [] })
    (fun x a' _ X Y row hs hg hr => by obtain ⟨Bx, h1, h2, h3⟩ := hs; exact ⟨Bx, h1, cbs_keep h2 hg (fun r e => (hr r e).2), h3⟩)
    ?assign ?body ?done ?stop
  case assign =>
    rintro y pre x W K ⟨⟨A', c', zs, hq, hc, ho⟩, hB, hz⟩ hK
    have HC := Li hc
    have HO := Li ho
    have HQ := Li hq
    clear hc ho hq
    simp only [encN, encP]
    gi_wp2
    have ha := al1 W (.cells #[.int .i64 (L[x.1]).2.op, .int .i64 (L[x.1]).2.id, .int .i64 (L[x.1]).2.lo, .int .i64 (L[x.1]).2.hi, .slice (L[x.1]).2.S (L[x.1]).2.set.length (L[x.1]).2.sc, .string (L[x.1]).2.tx, .slice (L[x.1]).2.K (L[x.1]).2.kids.length (L[x.1]).2.kc] 25)
    exact hK _ _ ((KeepsOthers.alloc _ _).from _) (KV.alloc (Nat.le_trans (by omega) hz) _) ⟨⟨A', c', zs, HQ.out, HC.out.up ha, owI_up HO.out ha⟩, hB.alloc hB.size _, by rw [asz]; omega⟩ ⟨W.heap.size, by omega, CB.new W 25 [.int .i64 (L[x.1]).2.op, .int .i64 (L[x.1]).2.id, .int .i64 (L[x.1]).2.lo, .int .i64 (L[x.1]).2.hi, .slice (L[x.1]).2.S (L[x.1]).2.set.length (L[x.1]).2.sc, .string (L[x.1]).2.tx, .slice (L[x.1]).2.K (L[x.1]).2.kids.length (L[x.1]).2.kc], rfl⟩
  case body =>
    rintro y pre x a' W hy ⟨rr, hrr⟩ ⟨⟨A', c', zs, hq, hc, ho⟩, hB, hz⟩ ⟨Bx, hBx, hX, rfl⟩ hlt
    have zX := hX.lt
    have x0 := hX.cell 0 rfl
    have x1 := hX.cell 1 rfl
    have x2 := hX.cell 2 rfl
    have x3 := hX.cell 3 rfl
    have x4 := hX.cell 4 rfl
    have x5 := hX.cell 5 rfl
    have x6 := hX.cell 6 rfl
    have HC := Li hc
    have HO := Li ho
    have HQ := Li hq
    have HX := Li hX
    have HZ0 := Li (show w.heap.size ≤ W.heap.size from hB.size)
    have HZw := Li hz
    have HAL := Li (show zs.length ≤ 1000000 by
      have h1 := idsL_len (pre.map fun i => L[i.1])
      rw [List.length_map] at h1
      have h2 := HLn.out
      rw [hq]
      omega)
    obtain ⟨ab, hab⟩ : ∃ b, decide (1 ≤ (L[x.1]).2.op ∧ (L[x.1]).2.op ≤ 4) = b := ⟨_, rfl⟩
    have HAb := Li hab
    clear hc ho hq hX hab hz
    cases ab with
    | false =>
      gi_wp2_with (refine ⟨trivial, ?_⟩; gi_at_call 26; refine (CallsIn.inRound y (callsIn_wide.2 (about_any (L[x.1]).2 _))).mono ?_; rintro e w5 ⟨rfl, hb5⟩; rw [HAb.out]; have BP := Li hb5; have C5 := Li (HC.out.up hb5); have X5 := Li (HX.out.up hb5); have O5 := Li (owI_up HO.out hb5); have c5 := C5.out.cell 0 rfl; have cf5 := C5.out.frozen 0; have zc5 := C5.out.lt; have zX5 := X5.out.lt; have y1 := X5.out.cell 1 rfl; clear hb5)
      exact ⟨(keeps_below BP.out).from _, KV.of_below HZ0.out BP.out, ⟨A', c', zs, by rw [HQ.out, List.map_append]; exact (idsL_no HAb.out).symm, C5.out, O5.out⟩, below_step hB hB.size BP.out, Nat.le_trans HZw.out BP.out.size⟩
    | true =>
      gi_wp2_with (first | (refine ⟨trivial, ?_⟩; gi_at_call 26; refine (CallsIn.inRound y (callsIn_wide.2 (about_any (L[x.1]).2 _))).mono ?_; rintro e w5 ⟨rfl, hb5⟩; rw [HAb.out]; have BP := Li hb5; have C5 := Li (HC.out.up hb5); have X5 := Li (HX.out.up hb5); have O5 := Li (owI_up HO.out hb5); have c5 := C5.out.cell 0 rfl; have cf5 := C5.out.frozen 0; have zc5 := C5.out.lt; have zX5 := X5.out.lt; have y1 := X5.out.cell 1 rfl; clear hb5) | (gi_at_builtin; refine wpListIn_pushI (wr := w5) rfl (.tmp 12) (.tmp 15) rfl w.heap.size (.slice A' zs.length c') zs (L[x.1]).2.id w5.heap.size rfl rfl rfl rfl O5.out (by have := HAL.out; omega) (Nat.le_trans HZ0.out BP.out.size) ?_; intro A6 c6 w6 ho6 hg6; have O6 := Li ho6; have G6 := Li hg6; have C6 := Li (C5.out.grown hg6 (owI_ne O5.out C5.out (by decide))); have c60 := C6.out.cell 0 rfl; have cf6 := C6.out.frozen 0; have zc6 := C6.out.lt; clear ho6 hg6))
      exact ⟨((keeps_below BP.out).trans ((KeepsOthers.of_grownBy G6.out (fun j o e h => owI_cells O5.out j o e h)).trans (KeepsOthers.setCell _ _ _))).from _, (KV.of_below HZ0.out BP.out).trans ((KV.growI O5.out G6.out (Nat.le_refl _) (Nat.le_trans HZ0.out BP.out.size)).trans (KV.set_ C6.out (by decide) (by omega) _)), ⟨A6, c6, zs ++ [(L[x.1]).2.id], by rw [HQ.out, List.map_append]; exact (idsL_yes HAb.out).symm, by simpa using C6.out.set_ 0 (.slice A6 (zs.length + 1) c6), by rw [List.length_append]; exact World.ownsRow.kept O6.out (grown_set w6 (w.heap.size + 1) 0 _) (.inr (Ne.symm (owI_ne O6.out C6.out (by decide))))⟩, ((below_step hB hB.size BP.out).grown G6.out (Nat.le_trans HZ0.out BP.out.size) (fun k e => (World.ownsRow.lt O5.out k e).1)).setCell (p := ⟨w.heap.size + 1, 0, none⟩) (by show w.heap.size ≤ w.heap.size + 1; omega) _, by simpa [World.setCell] using Nat.le_trans HZw.out (Nat.le_trans BP.out.size G6.out.size)⟩
  case done =>
    rintro D ys W hD rfl ⟨⟨A', c', zs, hq, hc, ho⟩, hB, hz⟩ hK
    have hE : Lib.compact (srt zs) = Z := by
      rw [hq, ← HZ.out, fldL, ← HLq.out]
      congr 3
      apply List.ext_getElem
      · simp
      · intro i h1 h2
        simp
    have HZL := Li (show zs.length ≤ 1000000000 by
      have h1 := idsL_len ((List.finRange L.length).map fun i => L[i.1])
      rw [List.length_map, List.length_finRange] at h1
      have h2 := HLn.out
      rw [hq]
      omega)
    have c0 := hc.cell 0 rfl
    have zc := hc.lt
    have HC := Li hc
    have HO := Li ho
    have HK := Li hK
    clear hc ho hq hK
    gi_wp2_with (first | (refine ⟨trivial, ?_⟩; gi_at_call 27; refine (callsIn_wide.2 (Sort_any w.heap.size _ zs _ HO.out HZL.out)).mono ?_; rintro e w5 ⟨rfl, ho5, hg5⟩; have O5 := Li ho5; have G5 := Li hg5; have C5 := Li (HC.out.grown hg5 (owI_ne HO.out HC.out (by decide))); have c5 := C5.out.cell 0 rfl; have zc5 := C5.out.lt; clear ho5 hg5) | (refine ⟨trivial, ?_⟩; gi_at_call 28; refine (callsIn_wide.2 (Compact_any w.heap.size _ (srt zs) _ O5.out (by have := HZL.out; simp [srt]; omega))).mono ?_; rintro e w6 ⟨⟨A7, c7, rfl, hi7⟩, hg6⟩; have I7 := Li hi7; have G6 := Li hg6; clear hi7 hg6))
    have hK5 := (KeepsOthers.of_grownBy G5.out (fun j o e h => owI_cells HO.out j o e h)).same D _ HK.out rfl
    have hK6 := (KeepsOthers.of_grownBy G6.out (fun j o e h => owI_cells O5.out j o e h)).same D _ hK5 rfl
    have B5 := hB.grown G5.out hB.size (fun k e => (World.ownsRow.lt HO.out k e).1)
    have B6 := B5.grown G6.out B5.size (fun k e => (World.ownsRow.lt O5.out k e).1)
    refine ⟨by simp, .inl ⟨_, _, rfl, run_takeDeferred hK6, ?_⟩⟩
    refine ⟨_, results_tmp rfl _ _ _, ?_, B6.trans (belowK_b (w := w) (Nat.le_refl _) w6 D _ _ (by omega) hK6 rfl rfl)⟩
    rw [← hE]
    exact ⟨A7, c7, rfl, rowAt_keep I7.out (grownBy_putObj' w6 D (.deferred none)) (fun q e => by cases e; exact ⟨_, hK6, rfl⟩)⟩
  case stop =>
    rintro D c pre W _ _ h _
    exact h.elim
end Go.Proofs.Ytkeneoinfegodaa
