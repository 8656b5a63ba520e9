/-
 slices.Grow of a nil slice of cells, slices.Concat and slices.Clone of cells, by contracts.
-/
import Derived.Test.YtfeemipnalgjnaaGreatHb
import Derived.Test.YtfeemipnalgjnaaGreatRowL
import Derived.Shelf.Spec.SlicesGrow
import Derived.Lib.AppendZerosOnto
namespace Go.Proofs.YtfeemipnalgjnaaGreat
open Go.RowKit

theorem infoC4 : (Tryz.prog.info? 66).map (fun i => (i.zero, i.size, i.bytes)) = some (some (.agg #[.int .i64 0, .bool false, .int .i64 0, .string ⟨#[]⟩]), 4, 40) := by kernel_rfl
theorem sizeRw : (Tryz.prog.info? 30).map (·.size) = some 1 := by kernel_rfl
theorem sizeVa : (Tryz.prog.info? 62).map (·.size) = some 3 := by kernel_rfl
theorem one_c4 (d : Ce) : ∀ u ∈ d.cells, u.oneCell' = true := by
 intro u hu
 simp only [Ce.cells, List.mem_cons, List.not_mem_nil, or_false] at hu
 rcases hu with rfl | rfl | rfl | rfl <;> rfl
theorem one_va (b : Bool) (n : Int) (s : ByteArray) : ∀ z ∈ [Value.bool b, .int .i64 n, .string s], z.oneCell' = true := by
 intro u hu
 simp only [List.mem_cons, List.not_mem_nil, or_false] at hu
 rcases hu with rfl | rfl | rfl <;> rfl
theorem one_rw (A : Option Addr) (n c : Nat) : ∀ z ∈ [Value.slice A n c], z.oneCell' = true := by
 intro u hu
 rw [List.mem_singleton] at hu
 subst hu
 rfl
theorem len_c4 (l : List Ce) : ∀ vs ∈ l.map Ce.cells, vs.length = 4 := fun vs h => by
 obtain ⟨f, _, rfl⟩ := List.mem_map.1 h
 rfl
theorem ones_c4 (l : List Ce) : ∀ vs ∈ l.map Ce.cells, ∀ u ∈ vs, u.oneCell' = true := fun vs h => by
 obtain ⟨f, _, rfl⟩ := List.mem_map.1 h
 exact one_c4 f
/-- append(v, x...): v the call's own row of cells. -/
theorem cat_c4 {w : World} {ops : Array Oper} {rest : List Oper} {o : Oper} {a : Act} {Q : Exit → Act → World → Prop} (hgd : o.guard = none) (d x : Operand)
  (ho : o.op = .call { callee := .builtin .append, args := #[d, x], argTypes := #[28, 28] }) (base : Nat) (v : Value) (acc : List Ce) (A : Option Addr) (n c B : Nat) (l : List Ce) (hs : a.eval d = v) (hx : a.eval x = .slice A n c)
  (hn : n = l.length) (hr : Own 66 4 w base v (acc.map Ce.cells)) (h2 : Ces w B A l) (hroom : acc.length + n ≤ 1000000) (hbase : base ≤ w.heap.size)
  (hK : ∀ A' c' w', Own 66 4 w' base (.slice A' (acc ++ l).length c') ((acc ++ l).map Ce.cells) → w.grownBy w' v.ownBlock → Below base w w' → wpList Tryz.prog ops Q rest (a.put o.dst (.slice A' (acc ++ l).length c')) w') : wpList Tryz.prog ops Q (o :: rest) a w := by
 refine wpList_cat hgd d x ho Tryz.underlying28 infoC4 rfl (by decide) base v (acc.map Ce.cells) A n c B (l.map Ce.cells) hs hx (by simpa using hn) hr h2 (len_c4 l) (ones_c4 l) (by simp; omega) (by decide) hbase ?_
 intro A' c' w' h1 h2 h3
 have e : (acc.map Ce.cells).length + n = (acc ++ l).length := by simp [hn]
 rw [e, ← List.map_append] at h1
 rw [e]
 exact hK A' c' w' h1 h2 h3

set_option maxHeartbeats 1000000 in
set_option maxRecDepth 100000 in
theorem GrowC_any (n : Nat) (w : World) (hn : n ≤ 1000000) :
  Calls Tryz.prog 114 #[.slice none 0 0, .int .i64 (n : Int)] w fun e w' => ∃ A c, e = .returned (.slice A 0 c) ∧ Own 66 4 w' w.heap.size (.slice A 0 c) [] ∧ Below w.heap.size w w' := by
 by_cases h0 : n = 0
 ·
  subst h0
  go_enter Tryz.func114, Tryz.ntmps114
  go_wp2
  go_ret
  exact ⟨none, 0, rfl, Own.nil _ _ _ _, Below.refl _ _⟩
 ·
  obtain ⟨i, hi, hz, hs, hb⟩ := info_parts infoC4
  have hrz : ∀ ty, (Builtin.append_ #[28, 3] ty #[.slice none 0 0, .int .i64 (n : Int)]).run Tryz.prog w =
    .ok (.slice (some ⟨w.heap.size, 0, none⟩) n (grownCap w n 0 66)) (w.drew.alloc (.cells (#[] ++ Builtin.zeroCells (Value.agg #[.int .i64 0, .bool false, .int .i64 0, .string ⟨#[]⟩]).cells n ++ Builtin.zeroCells (Value.agg #[.int .i64 0, .bool false, .int .i64 0, .string ⟨#[]⟩]).cells (grownCap w n 0 66 - n)) 66)) := fun ty => by
   have h := Lib.run_append_grow_zeros w 28 3 ty 66 i _ .i64 .i64 Tryz.underlying28 Tryz.underlying3 hi hz none 0 0 [] (run_firstCells_none w.drew i.size 0 0 0) n (by omega) (by omega) (by omega) (by omega) (by rw [hb]; omega) (growslice_fits (by omega) (by rw [hb]; omega))
   rw [Nat.zero_add] at h
   exact h
  obtain ⟨G, hG⟩ : ∃ G, G = grownCap w n 0 66 := ⟨_, rfl⟩
  have hGn : n ≤ G := by rw [hG]; exact grownCap_ge w n 0 _
  have hGm : G ≤ maxLen := by rw [hG]; exact grownCap_le_maxLen w n 0 _ (by unfold maxLen; omega)
  have hGm2 : G ≤ 9223372036854775807 := by unfold maxLen at hGm; omega
  rw [← hG] at hrz
  have j1 : (n : Int) > 0 := by omega
  have j0 : ¬ ((n : Int) < 0) := by omega
  have HG := Li hGm
  clear hi hz hs hb hG hGm h0
  go_enter Tryz.func114, Tryz.ntmps114
  go_wp2_with (at_builtin; refine Lib.wpList_append_run _ rfl _ _ _ _ rfl _ _ rfl rfl _ _ (hrz _) ?_)
  all_goals
   go_ret
   refine ⟨_, _, rfl, ⟨⟨by simp, .inr ⟨w.heap.size, G, _, rfl, Nat.le_refl _, heap_alloc_new w.drew _, Nat.zero_le _, HG.out, ?_, by simp⟩⟩, fun _ h => by simp at h⟩, (Below.refl _ _).drew.alloc (Nat.le_refl _) _⟩
   rw [Array.size_append, size_zeroCells, size_zeroCells]
   show n * 4 + (G - n) * 4 = G * 4
   omega

/-- rows of cells: addresses, capacities, cells -/
abbrev PtC := Option Addr × Nat × List Ce
def flatC (ps : List PtC) : List Ce := (ps.map (·.2.2)).flatten
theorem flatC_snoc (ps : List PtC) (k : Nat) (p : PtC) (h : ps[k]? = some p) : flatC (ps.take (k + 1)) = flatC (ps.take k) ++ p.2.2 := by
 unfold flatC
 rw [List.take_add_one, h]
 simp
theorem flatC_app (a b : List PtC) : flatC (a ++ b) = flatC a ++ flatC b := by simp [flatC]
theorem flatC_le (ps : List PtC) (k : Nat) : (flatC (ps.take k)).length ≤ (flatC ps).length := by
 have h := flatC_app (ps.take k) (ps.drop k)
 rw [List.take_append_drop] at h
 rw [h, List.length_append]
 omega
theorem flatC_step (ps : List PtC) (k : Nat) (p : PtC) (h : ps[k]? = some p) : (flatC (ps.take k)).length + p.2.2.length ≤ (flatC ps).length := by
 have h1 := flatC_le ps (k + 1)
 rw [flatC_snoc ps k p h] at h1
 simpa using h1
structure PtAtC (w : World) (B g : Nat) (ps : List PtC) : Prop where
 at_ : ∀ i p, ps[i]? = some p → w.cell? ⟨g, i, none⟩ = some (.slice p.1 p.2.2.length p.2.1) ∧ Ces w B p.1 p.2.2
set_option maxHeartbeats 2000000 in
theorem ConcatC_any (g n : Nat) (ps : List PtC) (w : World) (hn : n = ps.length) (hg : g < w.heap.size) (hp : PtAtC w w.heap.size g ps) (hlen : n ≤ 1000000) (htot : (flatC ps).length ≤ 1000000) :
  Calls Tryz.prog 104 #[.slice (some ⟨g, 0, none⟩) n n] w fun e w' => ∃ A c, e = .returned (.slice A (flatC ps).length c) ∧ Own 66 4 w' w.heap.size (.slice A (flatC ps).length c) ((flatC ps).map Ce.cells) ∧ Below w.heap.size w w' := by
 have HP := Li hp
 have HN := Li hn
 clear hp hn
 go_enter Tryz.func104, Tryz.ntmps104
 go_wp2_with fail
 go_loop [3, 5, 11] (fun z _ i => ∃ k : Nat, k ≤ n ∧ i = .int .i64 k ∧ z = .int .i64 (flatC (ps.take k)).length) (fun _ _ i => n - (RowKit.intOf i).toNat)
 case atStart => exact ⟨0, Nat.zero_le _, rfl, rfl⟩
 case round =>
  obtain ⟨k, hk, rfl, rfl⟩ := hrel
  by_cases hlt : k < n
  ·
   obtain ⟨p, hpk⟩ : ∃ p, ps[k]? = some p := ⟨_, List.getElem?_eq_getElem (by rw [← HN.out]; exact hlt)⟩
   obtain ⟨hc, -⟩ := HP.out.at_ k p hpk
   have h1 := flatC_step ps k p hpk
   have h2 := flatC_snoc ps k p hpk
   have H2 : Hid ((flatC (ps.take (k + 1))).length = (flatC (ps.take k)).length + p.2.2.length) := by show _ = _; rw [h2, List.length_append]
   have j1 : (k : Int) < (n : Int) := by omega
   have j2 : 0 ≤ ((flatC (ps.take k)).length : Int) + (p.2.2.length : Int) := by omega
   clear hpk h2
   generalize (flatC (ps.take k)).length = a at *
   generalize p.2.2.length = b at *
   go_wp2_with fail
   go_round
   case rel => exact ⟨k + 1, by omega, by go_num, by rw [H2.out]; go_num⟩
   case measure => simp [RowKit.intOf]; omega
  ·
   have hkn : k = n := by omega
   have j1 : ¬ (k : Int) < (n : Int) := by omega
   have hall : Hid (ps.take k = ps) := by show _ = _; rw [hkn, HN.out, List.take_length]
   rw [hall.out]
   clear hall hk hlt
   subst hkn
   go_wp2_with (go_at_call 114; refine (GrowC_any _ w htot).mono ?_; rintro e w1 ⟨A1, c1, rfl, ho1, hb1⟩)
   have HO1 : Hid (Own 66 4 w1 w.heap.size (.slice A1 0 c1) ((flatC (ps.take 0)).map Ce.cells)) := ho1
   have HB1 := Li hb1
   clear ho1 hb1
   go_loopw [6, 8, 27] (fun v _ i wr => ∃ (j : Nat) (A' : Option Addr) (c' : Nat), j ≤ k ∧ i = .int .i64 j ∧ v = .slice A' (flatC (ps.take j)).length c' ∧ Hid (Own 66 4 wr w.heap.size (.slice A' (flatC (ps.take j)).length c') ((flatC (ps.take j)).map Ce.cells)) ∧ Hid (Below w.heap.size w wr)) (fun _ _ i _ => k - (RowKit.intOf i).toNat)
   case atStart => exact ⟨0, A1, c1, Nat.zero_le _, rfl, rfl, HO1, HB1⟩
   case round =>
    clear HO1 HB1
    obtain ⟨j, A', c', hj, rfl, rfl, ho, hb⟩ := hrel
    by_cases hlt : j < k
    ·
     obtain ⟨p, hpk⟩ : ∃ p, ps[j]? = some p := ⟨_, List.getElem?_eq_getElem (by rw [← HN.out]; exact hlt)⟩
     obtain ⟨hc, hs⟩ := HP.out.at_ j p hpk
     have h1 := flatC_step ps j p hpk
     have H2 : Hid (flatC (ps.take (j + 1)) = flatC (ps.take j) ++ p.2.2) := flatC_snoc ps j p hpk
     have hc' := (hb.out.cell (p := ⟨g, j, none⟩) hg).trans hc
     have HS : Hid (Ces wr w.heap.size p.1 p.2.2) := hs.below hb.out
     have j1 : (j : Int) < (k : Int) := by omega
     obtain ⟨pa, pc, pl⟩ := p
     clear hpk hc hs
     go_wp2_with (at_builtin; refine cat_c4 rfl (.tmp 31) (.tmp 32) rfl w.heap.size _ (flatC (ps.take j)) pa pl.length pc w.heap.size pl rfl rfl rfl ho.out HS.out (by simp only at h1; omega) hb.out.size ?_; intro A2 c2 w2 ho2 hg2 hb2)
     have HB2 : Hid (Below w.heap.size w w2) := hb.out.trans hb2
     have HO2 : Hid (Own 66 4 w2 w.heap.size (.slice A2 (flatC (ps.take (j + 1))).length c2) ((flatC (ps.take (j + 1))).map Ce.cells)) := by
      show Own _ _ _ _ _ _
      rw [H2.out]
      exact ho2
     clear ho2 hg2 hb2
     go_wp2_with fail
     go_roundw
     case rel => exact ⟨j + 1, A2, c2, by omega, by go_num, by rw [H2.out, List.length_append], HO2, HB2⟩
     case measure => simp [RowKit.intOf]; omega
    ·
     have hjk : j = k := by omega
     have j1 : ¬ (j : Int) < (k : Int) := by omega
     have hall : Hid (ps.take j = ps) := by show _ = _; rw [hjk, HN.out, List.take_length]
     rw [hall.out] at ho ⊢
     clear hall
     go_wp2_with fail
     go_ret
     exact ⟨A', c', rfl, ho.out, hb.out⟩

set_option maxHeartbeats 1000000 in
set_option maxRecDepth 20000 in
/-- slices.Clone: the same cells in memory of the call's own -/
theorem CloneC_any (A : Option Addr) (n c : Nat) (r : List Ce) (w : World) (hn : n = r.length) (hs : Ces w w.heap.size A r) (hl : n ≤ 1000000) :
  Calls Tryz.prog 71 #[.slice A n c] w fun e w' => ∃ A' c', e = .returned (.slice A' r.length c') ∧ Own 66 4 w' w.heap.size (.slice A' r.length c') (r.map Ce.cells) ∧ Below w.heap.size w w' := by
 have HN := Li hn
 have HS := Li hs
 clear hs hn
 cases A with
 | none =>
  have hr : r = [] := by
   rcases Nat.eq_zero_or_pos r.length with h | h
   ·
    exact List.eq_nil_of_length_eq_zero h
   ·
    obtain ⟨_, _, h, _⟩ := HS.out (by simpa using h); cases h
  subst hr
  clear HS HN
  have he := fun (w : World) => Lib.run_eql_slice_nil (P := Tryz.prog) w 28 66 none n c 0 0 Tryz.underlying28
  go_enter Tryz.func71, Tryz.ntmps71
  go_wp2
  go_ret
  exact ⟨none, 0, rfl, Own.nil _ _ _ _, Below.refl _ _⟩
 | some a =>
  have he := fun (w : World) => Lib.run_eql_slice_nil (P := Tryz.prog) w 28 66 (some a) n c 0 0 Tryz.underlying28
  go_enter Tryz.func71, Tryz.ntmps71
  go_wp2_with (at_builtin; refine cat_c4 rfl (.tmp 5) (.tmp 6) rfl w.heap.size (.slice (some ⟨w.heap.size, 0, none⟩) 0 0) [] (some a) n c w.heap.size r rfl rfl HN.out (own_empty w _ rfl) (HS.out.below (al1 w _)) (by simp; omega) (by rw [asz]; omega) ?_; intro A2 c2 w2 ho2 hg2 hb2; have HO2 := Li ho2; have HB2 := Li ((al1 w _).trans hb2); clear ho2 hg2 hb2)
  go_ret
  exact ⟨A2, c2, rfl, HO2.out, HB2.out⟩
end Go.Proofs.YtfeemipnalgjnaaGreat
