/-
  The reference's with, plus, by contracts.
-/
import Derived.Test.YtpgbpfdedpppeaaRWit
import Derived.Test.YtpgbpfdedpppeaaHand
namespace Go.Proofs.Ytpgbpfdedpppeaa
open Go.RowKit

theorem put_snoc {l : List Fd} {k : Nat} {f g : Fd} (h : l.take (k + 1) = l.take k ++ [f]) : putF (l.take (k + 1)) g = putF (l.take k) g ++ [if f.id = g.id then g else f] := by
  unfold putF
  rw [h, List.map_append]
  rfl
theorem put_len' (l : List Fd) (g : Fd) : (putF l g).length = l.length := by unfold putF; simp

section
variable {P : Program} {w : World} {ops : Array Oper} {o : Oper} {a : Act} {K : Act → World → Prop} {Q : Exit → Act → World → Prop} {F : Prop}
/-- append(v, x...) within a region that draws its order. -/
theorem step_cat {E T : TypeId} {k : Nat} {z : Value} {by_ : Nat} (hgd : o.guard = none) (d x : Operand) (ho : o.op = .call { callee := .builtin .append, args := #[d, x], argTypes := #[T, T] })
    (hT : P.underlying T = some (.slice E)) (hE : (P.info? E).map (fun i => (i.zero, i.size, i.bytes)) = some (some z, k, by_)) (hz : z.cells.size = k) (hk : 0 < k)
    (base : Nat) (v : Value) (L : List (List Value)) (A : Option Addr) (n c B : Nat) (L2 : List (List Value)) (hs : a.eval d = v) (hx : a.eval x = .slice A n c) (hn : n = L2.length)
    (hr : Own E k w base v L) (h2 : RowAt k w B A L2) (hvs : ∀ vs ∈ L2, vs.length = k) (h1 : ∀ vs ∈ L2, ∀ u ∈ vs, u.oneCell' = true) (hroom : L.length + n ≤ 1000000000) (hby : by_ ≤ 1000) (hbase : base ≤ w.heap.size)
    (hK : ∀ A' c' w', Own E k w' base (.slice A' (L.length + n) c') (L ++ L2) → w.grownBy w' v.ownBlock → Below base w w' → K (a.put o.dst (.slice A' (L.length + n) c')) w') : if Region.wanted o (yielded ops a.tmps) = true then Oper.wp P o a w K Q else F := by
  rw [if_pos (by simp [Region.wanted, hgd])]
  subst hn
  obtain ⟨i, hi, hz0, hsz, hb⟩ := info_parts hE
  cases A with
  | none =>
    have h0 : L2 = [] := by
      rcases Nat.eq_zero_or_pos L2.length with h0 | h0
      · exact List.eq_nil_of_length_eq_zero h0
      · obtain ⟨b, off, h, _⟩ := h2 h0
        cases h
    subst h0
    obtain ⟨A', c', rfl, _⟩ := hr.slice
    have hrun : (Builtin.append_ #[T, T] o.type #[.slice A' L.length c', .slice none 0 c]).run P w = .ok (.slice A' L.length c') w := by
      rcases hr.shape with ⟨e, rfl⟩ | ⟨g, cap, e, _, _, hcap, _⟩
      · injection e with e1 e2 e3
        subst e1 e3
        simp [Builtin.append_, run_underlying hT, sizeOf, typeInfo, hi, Builtin.lenOf, Builtin.firstCells]
      · injection e with e1 e2 e3
        subst e1 e3
        exact run_append_none w T o.type E i hT hi g L.length c' c hcap
    unfold Oper.wp execOp
    simp only [ho, resolve, invoke, builtin, Sem.run_bind, Sem.run_pure, Result.andThen_ok, List.map_toArray, List.map_cons, List.map_nil, hs, hx, List.length_nil, hrun]
    have h := hK A' c' w (by simpa using hr) (World.grownBy.refl _ _) (Below.refl _ _)
    simp only [List.length_nil, Nat.add_zero] at h
    exact h
  | some ad =>
    refine wp_append_own _ d x T ho base E i z k by_ hT hi hz0 hsz hb hz hk v L.length L.flatten hs hr.1 ad L2.length c L2.flatten hx (flat_len hvs) ?_ ?_ (by simp only [maxLen]; omega) ?_ hbase ?_
    · intro j u hj
      rcases Nat.eq_zero_or_pos L2.length with h0 | h0
      · rw [List.eq_nil_of_length_eq_zero h0] at hj
        simp at hj
      · obtain ⟨b, off, e, hlt, hc⟩ := h2 h0
        injection e with e
        subst e
        rw [Addr.add_lit]
        have hjl : j < L2.length * k := by rw [← flat_len hvs]; exact (List.getElem?_eq_some_iff.1 hj).1
        have hq : j / k < L2.length := (Nat.div_lt_iff_lt_mul hk).2 hjl
        have hm : j % k < k := Nat.mod_lt _ hk
        have hvl : L2[j / k].length = k := hvs _ (List.getElem_mem hq)
        have hg := flat_get hvs (List.getElem?_eq_getElem hq) (List.getElem?_eq_getElem (l := L2[j / k]) (i := j % k) (by omega))
        have e : j / k * k + j % k = j := by rw [Nat.mul_comm]; exact Nat.div_add_mod j k
        rw [e, hj] at hg
        have hcc := hc (j / k) _ (List.getElem?_eq_getElem hq) (j % k) _ (List.getElem?_eq_getElem (by omega))
        rw [Nat.add_assoc, e] at hcc
        rw [hcc, ← Option.some.inj hg]
    · intro u hu
      obtain ⟨vs, hv, hu'⟩ := List.mem_flatten.1 hu
      exact h1 vs hv u hu'
    · exact Nat.le_trans (Nat.mul_le_mul hroom hby) (by decide)
    · intro v' w' g1 g2 _
      have ho' : Own E k w' base v' (L ++ L2) := by
        refine ⟨by simpa using g1, fun u hu => ?_⟩
        rcases List.mem_append.1 hu with hu | hu
        · exact hr.2 u hu
        · exact hvs u hu
      obtain ⟨A', c', rfl, _⟩ := ho'.slice
      rw [List.length_append] at ho' ⊢
      exact hK A' c' w' ho' g2 ((Below.refl base w).grown g2 hbase (fun g hg => (World.ownsRow.lt hr.1 g hg).1))
end
theorem step_cat_fd {w : World} {ops : Array Oper} {o : Oper} {a : Act} {K : Act → World → Prop} {Q : Exit → Act → World → Prop} {F : Prop} (hgd : o.guard = none) (d x : Operand)
    (ho : o.op = .call { callee := .builtin .append, args := #[d, x], argTypes := #[28, 28] }) (base : Nat) (v : Value) (acc : List Fd) (A : Option Addr) (n c B : Nat) (l : List Fd) (hs : a.eval d = v) (hx : a.eval x = .slice A n c)
    (hn : n = l.length) (hr : Own 41 4 w base v (acc.map Fd.cells)) (h2 : Fds w B A l) (hroom : acc.length + n ≤ 1000000) (hbase : base ≤ w.heap.size)
    (hK : ∀ A' c' w', Own 41 4 w' base (.slice A' (acc.length + n) c') ((acc ++ l).map Fd.cells) → w.grownBy w' v.ownBlock → Below base w w' → K (a.put o.dst (.slice A' (acc.length + n) c')) w') : if Region.wanted o (yielded ops a.tmps) = true then Oper.wp Try.prog o a w K Q else F := by
  refine step_cat hgd d x ho Try.underlying28 infoF rfl (by decide) base v (acc.map Fd.cells) A n c B (l.map Fd.cells) hs hx (by simpa using hn) hr h2 (fds_len l) (fds_one l) (by rw [List.length_map]; omega) (by decide) hbase ?_
  intro A' c' w' h1 h2 h3
  rw [List.length_map] at h1 ⊢
  exact hK A' c' w' (by simpa using h1) h2 h3

set_option maxHeartbeats 2000000 in
set_option maxRecDepth 20000 in
theorem Rwith_any (A : Option Addr) (n c : Nat) (x : Int) (l : List Fd) (g : Fd) (w : World) (hn : n = l.length) (hs : Fds w w.heap.size A l) (hl : n ≤ 1000000) :
    Calls Try.prog 65 #[.agg #[.slice A n c, .int .i64 x], .agg #[.int .i64 g.id, .string g.nm, .int .i64 g.ty, .int .i64 g.pa]] w fun e w' => (∃ A' c', e = .returned (.agg #[.slice A' (putF l g).length c', .int .i64 x]) ∧ Own 41 4 w' w.heap.size (.slice A' (putF l g).length c') ((putF l g).map Fd.cells)) ∧ Below w.heap.size w w' := by
  have HN := Lib.hid hn
  have HS := Lib.hid hs
  clear hn hs
  go_enter Try.func65, Try.ntmps65
  go_wp2
  go_loopw [6] (fun j wr => ∃ (k n' c' : Nat) (A' : Option Addr), k ≤ n ∧ j = .int .i64 k ∧ Hid (n' = (putF (l.take k) g).length) ∧ Hid (Own 41 4 wr (w.heap.size + 1 + 1 + 1 + 1) (.slice A' n' c') ((putF (l.take k) g).map Fd.cells)) ∧ Hid (Below w.heap.size w wr) ∧ Hid (CB wr w.heap.size 30 [.slice A n c, .int .i64 x]) ∧ Hid (CB wr (w.heap.size + 1) 41 [.int .i64 g.id, .string g.nm, .int .i64 g.ty, .int .i64 g.pa]) ∧ Hid (CB wr (w.heap.size + 1 + 1) 30 [.slice none 0 0, .int .i64 0]) ∧ Hid (CB wr (w.heap.size + 1 + 1 + 1) 30 [.slice A' n' c', .int .i64 x])) (fun j _ => n - (intOf j).toNat)
  case atStart => exact ⟨0, 0, 0, none, by omega, rfl, rfl, Own.nil _ _ _ _, al4 _ _ _ _ _, ((CB.new _ _ _).alloc _ |>.alloc _).alloc _, ((CB.new1 _ _ _ _).alloc _).alloc _, (CB.new2 _ _ _ _ _).alloc _, CB.new3 _ _ _ _ _ _⟩
  case round =>
    obtain ⟨k, n', c', A', hk, rfl, hln, hown, hbel, hcs, hca, hcr, hco⟩ := hrel
    have hz3 := hco.out.lt
    have hz2 := hcr.out.lt
    have hz1 := hca.out.lt
    have hz0 := hcs.out.lt
    have q0 := hcs.out.cell 0 rfl
    have a0 := hca.out.cell 0 rfl
    have a1 := hca.out.cell 1 rfl
    have a2 := hca.out.cell 2 rfl
    have a3 := hca.out.cell 3 rfl
    have o0 := hco.out.cell 0 rfl
    have o1 := hco.out.cell 1 rfl
    by_cases hlt : k < n
    · have i1 : (k : Int) < (n : Int) := by omega
      have i0 : (0 : Int) ≤ (k : Int) := by omega
      obtain ⟨f, hf⟩ := getD_of (l := l) (k := k) (by rw [← HN.out]; exact hlt)
      obtain ⟨bl, off, rfl, hb, c0, c1, c2, c3⟩ := (HS.out.below hbel.out).one hf
      have ht := Lib.hid (take_snoc' hf)
      have hll : n' ≤ 1000000 := by rw [hln.out, put_len']; simp; omega
      clear hf
      by_cases he : f.id = g.id
      · have e1 : (f.id == g.id) = true := by simpa using he
        have HE := Lib.hid he
        clear he
        go_wp2
        go_quiet (fail)
        have hnq := al1 (wr.drewN nq) (.cells #[.int .i64 g.id, .string g.nm, .int .i64 g.ty, .int .i64 g.pa] 41)
        have hne3 := hown.out.below_ne (show w.heap.size < w.heap.size + 1 + 1 + 1 + 1 by omega)
        have hne4 := hown.out.below_ne (show w.heap.size + 1 < w.heap.size + 1 + 1 + 1 + 1 by omega)
        have hne5 := hown.out.below_ne (show w.heap.size + 1 + 1 < w.heap.size + 1 + 1 + 1 + 1 by omega)
        have hne6 := hown.out.below_ne (show w.heap.size + 1 + 1 + 1 < w.heap.size + 1 + 1 + 1 + 1 by omega)
        go_wp2_with ((at_builtin; refine push_fd (wr := wr.drewN nq) rfl (.tmp 27) (.tmp 29) rfl (w.heap.size + 1 + 1 + 1 + 1) _ (putF (l.take k) g) g wr.heap.size rfl rfl rfl rfl (hown.out.drewN nq) (hln.out ▸ hll) (by show _ ≤ wr.heap.size; omega) ?_; intro A8 c8 w8 ho8 hg8 hb8; have HO8 := Lib.hid ho8; have R3 := Lib.hid ((hcs.out.drewN nq).grown hg8 hne3); have R4 := Lib.hid ((hca.out.drewN nq).grown hg8 hne4); have R5 := Lib.hid ((hcr.out.drewN nq).grown hg8 hne5); have R6 := Lib.hid ((hco.out.drewN nq).grown hg8 hne6); have HB8 := Lib.hid ((below_drewN hbel.out nq).trans (hb8.mono (show w.heap.size ≤ w.heap.size + 1 + 1 + 1 + 1 by omega))); have y0 := R6.out.cell 0 rfl; have y1 := R6.out.frozen 0; clear ho8 hg8 hb8))
        go_roundw
        case rel =>
          have HX := put_snoc (g := g) ht.out
          rw [if_pos HE.out] at HX
          refine ⟨k + 1, (putF (l.take k) g).length + 1, c8, A8, by omega, by go_num, ?_, ?_, HB8.out.setCell (p := ⟨w.heap.size + 1 + 1 + 1, 0, none⟩) (by show w.heap.size ≤ w.heap.size + 1 + 1 + 1; omega) _, R3.out.set_other _ _ (by omega), R4.out.set_other _ _ (by omega), R5.out.set_other _ _ (by omega), R6.out.set_ 0 _⟩
          · show _ = _
            rw [HX]
            simp
          · rw [HX]
            exact HO8.out.set_ 0 _ (HO8.out.ne R6.out (by decide))
        case measure => simp [intOf]; omega
      · have e1 : (f.id == g.id) = false := by simpa using he
        have HE := Lib.hid he
        clear he
        go_wp2
        go_quiet (fail)
        go_wp2
        have h1 := Lib.hid (hown.out.drewN nq)
        have h2 := Lib.hid (below_drewN hbel.out nq)
        have h3 := Lib.hid (hcs.out.drewN nq)
        have h4 := Lib.hid (hca.out.drewN nq)
        have h5 := Lib.hid (hcr.out.drewN nq)
        have h6 := Lib.hid (hco.out.drewN nq)
        have d0 : (wr.drewN nq).cell? ⟨bl, off + k * 4, none⟩ = some (.int .i64 f.id) := c0
        have d1 : (wr.drewN nq).cell? ⟨bl, off + k * 4 + 1, none⟩ = some (.string f.nm) := c1
        have d2 : (wr.drewN nq).cell? ⟨bl, off + k * 4 + 2, none⟩ = some (.int .i64 f.ty) := c2
        have d3 : (wr.drewN nq).cell? ⟨bl, off + k * 4 + 3, none⟩ = some (.int .i64 f.pa) := c3
        have p0 : (wr.drewN nq).cell? ⟨w.heap.size, 0, none⟩ = some (.slice (some ⟨bl, off, none⟩) n c) := q0
        have p1 : (wr.drewN nq).cell? ⟨w.heap.size + 1 + 1 + 1, 0, none⟩ = some (.slice A' n' c') := o0
        clear hown hbel hcs hca hcr hco c0 c1 c2 c3 q0 a0 a1 a2 a3 o0 o1 hz0 hz1 hz2 hz3
        generalize wr.drewN nq = W0 at *
        have hz3 := h6.out.lt
        have hz0 := h3.out.lt
        have hbl : bl < W0.heap.size := by omega
        have hne3 := h1.out.below_ne (show w.heap.size < w.heap.size + 1 + 1 + 1 + 1 by omega)
        have hne4 := h1.out.below_ne (show w.heap.size + 1 < w.heap.size + 1 + 1 + 1 + 1 by omega)
        have hne5 := h1.out.below_ne (show w.heap.size + 1 + 1 < w.heap.size + 1 + 1 + 1 + 1 by omega)
        have hne6 := h1.out.below_ne (show w.heap.size + 1 + 1 + 1 < w.heap.size + 1 + 1 + 1 + 1 by omega)
        have hbn3 : ¬ bl = w.heap.size + 1 + 1 + 1 := by omega
        refine wp_region_held_drew (S := fun w' => Hid (w'.cell? ⟨w.heap.size, 0, none⟩ = some (.slice (some ⟨bl, off, none⟩) n c) ∧ w'.cell? ⟨bl, off + k * 4, none⟩ = some (.int .i64 f.id) ∧ w'.cell? ⟨bl, off + k * 4 + 1, none⟩ = some (.string f.nm) ∧ w'.cell? ⟨bl, off + k * 4 + 2, none⟩ = some (.int .i64 f.ty) ∧ w'.cell? ⟨bl, off + k * 4 + 3, none⟩ = some (.int .i64 f.pa))) (by kernel_rfl) (Lib.hid ⟨p0, d0, d1, d2, d3⟩) (fun hHeld => ?_)
        replace h1 := Lib.hid h1.out.dr
        replace h2 := Lib.hid h2.out.drew
        replace h3 := Lib.hid h3.out.dr
        replace h4 := Lib.hid h4.out.dr
        replace h5 := Lib.hid h5.out.dr
        replace h6 := Lib.hid h6.out.dr
        replace p1 : W0.drew.cell? ⟨w.heap.size + 1 + 1 + 1, 0, none⟩ = some (.slice A' n' c') := p1
        replace d0 : W0.drew.cell? ⟨bl, off + k * 4, none⟩ = _ := d0
        replace d1 : W0.drew.cell? ⟨bl, off + k * 4 + 1, none⟩ = _ := d1
        replace d2 : W0.drew.cell? ⟨bl, off + k * 4 + 2, none⟩ = _ := d2
        replace d3 : W0.drew.cell? ⟨bl, off + k * 4 + 3, none⟩ = _ := d3
        replace hz0 : w.heap.size < W0.drew.heap.size := hz0
        replace hz3 : w.heap.size + 1 + 1 + 1 < W0.drew.heap.size := hz3
        replace hbl : bl < W0.drew.heap.size := hbl
        clear p0
        revert hHeld h1 h2 h3 h4 h5 h6 p1 d0 d1 d2 d3 hz0 hz3 hbl
        generalize W0.drew = W1
        intro hHeld h1 h2 h3 h4 h5 h6 p1 d0 d1 d2 d3 hz0 hz3 hbl
        refine hand_take (i := 0) (v := ?_) rfl (by kernel_rfl) (by kernel_rfl) (by kernel_rfl) (fun _ _ _ h => h) (Or.inl ⟨by rfl, ?_⟩) (by assumption) ?_
        rotate_left
        · intro wS hSw
          clear hSw
          go_simp
          try with_reducible rfl
        try simp only [Act.put, List.setIfInBounds_toArray, List.set_cons_zero, List.set_cons_succ]
        refine hand_take (i := 2) (v := ?_) rfl (by kernel_rfl) (by kernel_rfl) (by kernel_rfl) (fun _ _ _ h => h) (Or.inl ⟨by rfl, ?_⟩) (by assumption) ?_
        rotate_left
        · intro wS hSw
          clear hSw
          go_simp
          try with_reducible rfl
        try simp only [Act.put, List.setIfInBounds_toArray, List.set_cons_zero, List.set_cons_succ]
        refine hand_take (i := 3) (v := ?_) rfl (by kernel_rfl) (by kernel_rfl) (by kernel_rfl) (fun _ _ _ h => h) (Or.inl ⟨by rfl, ?_⟩) (by assumption) ?_
        rotate_left
        · intro wS hSw
          obtain ⟨u0, u1, u2, u3, u4⟩ := hSw.out
          clear hSw
          go_simp
          try with_reducible rfl
        try simp only [Act.put, List.setIfInBounds_toArray, List.set_cons_zero, List.set_cons_succ]
        refine hand_take (i := 4) (v := ?_) rfl (by kernel_rfl) (by kernel_rfl) (by kernel_rfl) (fun _ _ _ h => h) (Or.inl ⟨by rfl, ?_⟩) (by assumption) ?_
        rotate_left
        · intro wS hSw
          clear hSw
          go_simp
          try with_reducible rfl
        try simp only [Act.put, List.setIfInBounds_toArray, List.set_cons_zero, List.set_cons_succ]
        refine hand_take (i := 5) (v := ?_) rfl (by kernel_rfl) (by kernel_rfl) (by kernel_rfl) (fun _ _ _ h => h) (Or.inl ⟨by rfl, ?_⟩) (by assumption) ?_
        rotate_left
        · intro wS hSw
          clear hSw
          go_simp
          try with_reducible rfl
        try simp only [Act.put, List.setIfInBounds_toArray, List.set_cons_zero, List.set_cons_succ]
        refine hand_take (i := 6) (v := ?_) rfl (by kernel_rfl) (by kernel_rfl) (by kernel_rfl) (fun _ _ _ h => h) (Or.inl ⟨by rfl, ?_⟩) (by assumption) ?_
        rotate_left
        · intro wS hSw
          obtain ⟨u0, u1, u2, u3, u4⟩ := hSw.out
          clear hSw
          go_simp
          try with_reducible rfl
        try simp only [Act.put, List.setIfInBounds_toArray, List.set_cons_zero, List.set_cons_succ]
        refine wpAnyH_ready (rs := [1, 7]) (by kernel_rfl) (by simp) ?_
        refine (hand_cons rfl (fun KK hK => ?_) (hand_cons rfl (fun KK hK => ?_) AllReadyH.nil))
        · go_simp
          skip
          refine hK.out _ _ (hHeld) (fun hHeld => ?_)
          clear hK KK
          try simp only [Act.put, List.setIfInBounds_toArray, List.set_cons_zero, List.set_cons_succ]
          refine wpAnyH_ready (rs := [7]) (by kernel_rfl) (by simp) ?_
          refine hand_cons rfl (fun KK hK => ?_) AllReadyH.nil
          go_simp
          skip
          refine hK.out _ _ ((Lib.hid ⟨((al1 _ _).cell (p := ⟨w.heap.size, 0, none⟩) hz0).trans hHeld.out.1, ((al1 _ _).cell (p := ⟨bl, off + k * 4, none⟩) hbl).trans hHeld.out.2.1, ((al1 _ _).cell (p := ⟨bl, off + k * 4 + 1, none⟩) hbl).trans hHeld.out.2.2.1, ((al1 _ _).cell (p := ⟨bl, off + k * 4 + 2, none⟩) hbl).trans hHeld.out.2.2.2.1, ((al1 _ _).cell (p := ⟨bl, off + k * 4 + 3, none⟩) hbl).trans hHeld.out.2.2.2.2⟩)) (fun hHeld => ?_)
          clear hK KK
          try simp only [Act.put, List.setIfInBounds_toArray, List.set_cons_zero, List.set_cons_succ]
          refine wpAnyH_ready (rs := [8]) (by kernel_rfl) (by simp) ?_
          refine hand_cons rfl (fun KK hK => ?_) AllReadyH.nil
          refine step_push_fd rfl (.tmp 33) (.tmp 39) rfl (w.heap.size + 1 + 1 + 1 + 1) (.slice A' n' c') (putF (l.take k) g) f W1.heap.size n' rfl rfl hln.out (h1.out.alloc _) (CB.new _ _ _) hll (Nat.lt_of_lt_of_le hz3 (al1 _ _).size) ?_
          intro A8 c8 w8 ho8 hg8 hb8
          have HO8 := Lib.hid ho8
          have R3 := Lib.hid ((h3.out.up (al1 _ _)).grown hg8 hne3)
          have R4 := Lib.hid ((h4.out.up (al1 _ _)).grown hg8 hne4)
          have R5 := Lib.hid ((h5.out.up (al1 _ _)).grown hg8 hne5)
          have R6 := Lib.hid ((h6.out.up (al1 _ _)).grown hg8 hne6)
          have hb9 : Below w.heap.size W1 w8 := (Below.mono (al1 _ _) (Nat.le_of_lt hz0)).trans (hb8.mono (show w.heap.size ≤ w.heap.size + 1 + 1 + 1 + 1 by omega))
          have HB9 := Lib.hid hb9
          have HB8 := Lib.hid (h2.out.trans hb9)
          have y0 := R6.out.cell 0 rfl
          have y1 := R6.out.frozen 0
          clear ho8 hg8 hb8 hb9
          refine hK.out _ _ ((Lib.hid ⟨R3.out.cell 0 rfl, (HB9.out.cell (p := ⟨bl, off + k * 4, none⟩) hb).trans d0, (HB9.out.cell (p := ⟨bl, off + k * 4 + 1, none⟩) hb).trans d1, (HB9.out.cell (p := ⟨bl, off + k * 4 + 2, none⟩) hb).trans d2, (HB9.out.cell (p := ⟨bl, off + k * 4 + 3, none⟩) hb).trans d3⟩)) (fun hHeld => ?_)
          clear hK KK
          try simp only [Act.put, List.setIfInBounds_toArray, List.set_cons_zero, List.set_cons_succ]
          refine hand_take (i := 9) (v := ?_) rfl (by kernel_rfl) (by kernel_rfl) (by kernel_rfl) (fun _ _ _ h => h) (Or.inl ⟨by rfl, ?_⟩) (by assumption) ?_
          rotate_left
          · intro wS hSw
            clear hSw
            go_simp
            try with_reducible rfl
          try simp only [Act.put, List.setIfInBounds_toArray, List.set_cons_zero, List.set_cons_succ]
          refine wpAnyH_ready (rs := [10]) (by kernel_rfl) (by simp) ?_
          refine hand_cons rfl (fun KK hK => ?_) AllReadyH.nil
          go_simp
          skip
          refine hK.out _ _ ((Lib.hid ⟨(R3.out.set_other 0 _ (by omega)).cell 0 rfl, ((HB9.out.setCell (p := ⟨w.heap.size + 1 + 1 + 1, 0, none⟩) (by show w.heap.size ≤ w.heap.size + 1 + 1 + 1; omega) (.slice A8 (n' + 1) c8)).cell (p := ⟨bl, off + k * 4, none⟩) hb).trans d0, ((HB9.out.setCell (p := ⟨w.heap.size + 1 + 1 + 1, 0, none⟩) (by show w.heap.size ≤ w.heap.size + 1 + 1 + 1; omega) (.slice A8 (n' + 1) c8)).cell (p := ⟨bl, off + k * 4 + 1, none⟩) hb).trans d1, ((HB9.out.setCell (p := ⟨w.heap.size + 1 + 1 + 1, 0, none⟩) (by show w.heap.size ≤ w.heap.size + 1 + 1 + 1; omega) (.slice A8 (n' + 1) c8)).cell (p := ⟨bl, off + k * 4 + 2, none⟩) hb).trans d2, ((HB9.out.setCell (p := ⟨w.heap.size + 1 + 1 + 1, 0, none⟩) (by show w.heap.size ≤ w.heap.size + 1 + 1 + 1; omega) (.slice A8 (n' + 1) c8)).cell (p := ⟨bl, off + k * 4 + 3, none⟩) hb).trans d3⟩)) (fun hHeld => ?_)
          clear hK KK
          try simp only [Act.put]
          refine wpAnyH_done (by kernel_rfl) ?_ _
          go_wp2
          go_roundw
          case rel =>
            have HX := put_snoc (g := g) ht.out
            rw [if_neg HE.out] at HX
            refine ⟨k + 1, n' + 1, c8, A8, by omega, by go_num, ?_, ?_, HB8.out.setCell (p := ⟨w.heap.size + 1 + 1 + 1, 0, none⟩) (by show w.heap.size ≤ w.heap.size + 1 + 1 + 1; omega) _, R3.out.set_other _ _ (by omega), R4.out.set_other _ _ (by omega), R5.out.set_other _ _ (by omega), R6.out.set_ 0 _⟩
            · show _ = _
              rw [HX, hln.out]
              simp
            · rw [HX]
              exact HO8.out.set_ 0 _ (HO8.out.ne R6.out (by decide))
          case measure => simp [intOf]; omega
        · go_simp
          skip
          refine hK.out _ _ ((Lib.hid ⟨((al1 _ _).cell (p := ⟨w.heap.size, 0, none⟩) hz0).trans hHeld.out.1, ((al1 _ _).cell (p := ⟨bl, off + k * 4, none⟩) hbl).trans hHeld.out.2.1, ((al1 _ _).cell (p := ⟨bl, off + k * 4 + 1, none⟩) hbl).trans hHeld.out.2.2.1, ((al1 _ _).cell (p := ⟨bl, off + k * 4 + 2, none⟩) hbl).trans hHeld.out.2.2.2.1, ((al1 _ _).cell (p := ⟨bl, off + k * 4 + 3, none⟩) hbl).trans hHeld.out.2.2.2.2⟩)) (fun hHeld => ?_)
          clear hK KK
          try simp only [Act.put, List.setIfInBounds_toArray, List.set_cons_zero, List.set_cons_succ]
          refine wpAnyH_ready (rs := [1]) (by kernel_rfl) (by simp) ?_
          refine hand_cons rfl (fun KK hK => ?_) AllReadyH.nil
          go_simp
          skip
          refine hK.out _ _ (hHeld) (fun hHeld => ?_)
          clear hK KK
          try simp only [Act.put, List.setIfInBounds_toArray, List.set_cons_zero, List.set_cons_succ]
          refine wpAnyH_ready (rs := [8]) (by kernel_rfl) (by simp) ?_
          refine hand_cons rfl (fun KK hK => ?_) AllReadyH.nil
          refine step_push_fd rfl (.tmp 33) (.tmp 39) rfl (w.heap.size + 1 + 1 + 1 + 1) (.slice A' n' c') (putF (l.take k) g) f W1.heap.size n' rfl rfl hln.out (h1.out.alloc _) (CB.new _ _ _) hll (Nat.lt_of_lt_of_le hz3 (al1 _ _).size) ?_
          intro A8 c8 w8 ho8 hg8 hb8
          have HO8 := Lib.hid ho8
          have R3 := Lib.hid ((h3.out.up (al1 _ _)).grown hg8 hne3)
          have R4 := Lib.hid ((h4.out.up (al1 _ _)).grown hg8 hne4)
          have R5 := Lib.hid ((h5.out.up (al1 _ _)).grown hg8 hne5)
          have R6 := Lib.hid ((h6.out.up (al1 _ _)).grown hg8 hne6)
          have hb9 : Below w.heap.size W1 w8 := (Below.mono (al1 _ _) (Nat.le_of_lt hz0)).trans (hb8.mono (show w.heap.size ≤ w.heap.size + 1 + 1 + 1 + 1 by omega))
          have HB9 := Lib.hid hb9
          have HB8 := Lib.hid (h2.out.trans hb9)
          have y0 := R6.out.cell 0 rfl
          have y1 := R6.out.frozen 0
          clear ho8 hg8 hb8 hb9
          refine hK.out _ _ ((Lib.hid ⟨R3.out.cell 0 rfl, (HB9.out.cell (p := ⟨bl, off + k * 4, none⟩) hb).trans d0, (HB9.out.cell (p := ⟨bl, off + k * 4 + 1, none⟩) hb).trans d1, (HB9.out.cell (p := ⟨bl, off + k * 4 + 2, none⟩) hb).trans d2, (HB9.out.cell (p := ⟨bl, off + k * 4 + 3, none⟩) hb).trans d3⟩)) (fun hHeld => ?_)
          clear hK KK
          try simp only [Act.put, List.setIfInBounds_toArray, List.set_cons_zero, List.set_cons_succ]
          refine hand_take (i := 9) (v := ?_) rfl (by kernel_rfl) (by kernel_rfl) (by kernel_rfl) (fun _ _ _ h => h) (Or.inl ⟨by rfl, ?_⟩) (by assumption) ?_
          rotate_left
          · intro wS hSw
            clear hSw
            go_simp
            try with_reducible rfl
          try simp only [Act.put, List.setIfInBounds_toArray, List.set_cons_zero, List.set_cons_succ]
          refine wpAnyH_ready (rs := [10]) (by kernel_rfl) (by simp) ?_
          refine hand_cons rfl (fun KK hK => ?_) AllReadyH.nil
          go_simp
          skip
          refine hK.out _ _ ((Lib.hid ⟨(R3.out.set_other 0 _ (by omega)).cell 0 rfl, ((HB9.out.setCell (p := ⟨w.heap.size + 1 + 1 + 1, 0, none⟩) (by show w.heap.size ≤ w.heap.size + 1 + 1 + 1; omega) (.slice A8 (n' + 1) c8)).cell (p := ⟨bl, off + k * 4, none⟩) hb).trans d0, ((HB9.out.setCell (p := ⟨w.heap.size + 1 + 1 + 1, 0, none⟩) (by show w.heap.size ≤ w.heap.size + 1 + 1 + 1; omega) (.slice A8 (n' + 1) c8)).cell (p := ⟨bl, off + k * 4 + 1, none⟩) hb).trans d1, ((HB9.out.setCell (p := ⟨w.heap.size + 1 + 1 + 1, 0, none⟩) (by show w.heap.size ≤ w.heap.size + 1 + 1 + 1; omega) (.slice A8 (n' + 1) c8)).cell (p := ⟨bl, off + k * 4 + 2, none⟩) hb).trans d2, ((HB9.out.setCell (p := ⟨w.heap.size + 1 + 1 + 1, 0, none⟩) (by show w.heap.size ≤ w.heap.size + 1 + 1 + 1; omega) (.slice A8 (n' + 1) c8)).cell (p := ⟨bl, off + k * 4 + 3, none⟩) hb).trans d3⟩)) (fun hHeld => ?_)
          clear hK KK
          try simp only [Act.put]
          refine wpAnyH_done (by kernel_rfl) ?_ _
          go_wp2
          go_roundw
          case rel =>
            have HX := put_snoc (g := g) ht.out
            rw [if_neg HE.out] at HX
            refine ⟨k + 1, n' + 1, c8, A8, by omega, by go_num, ?_, ?_, HB8.out.setCell (p := ⟨w.heap.size + 1 + 1 + 1, 0, none⟩) (by show w.heap.size ≤ w.heap.size + 1 + 1 + 1; omega) _, R3.out.set_other _ _ (by omega), R4.out.set_other _ _ (by omega), R5.out.set_other _ _ (by omega), R6.out.set_ 0 _⟩
            · show _ = _
              rw [HX, hln.out]
              simp
            · rw [HX]
              exact HO8.out.set_ 0 _ (HO8.out.ne R6.out (by decide))
          case measure => simp [intOf]; omega
    · have i1 : ¬ (k : Int) < (n : Int) := by omega
      have e : l.take k = l := List.take_of_length_le (by rw [← HN.out]; omega)
      rw [e] at hown hln
      obtain rfl : n' = (putF l g).length := hln.out
      go_wp2_with ((with_reducible show wpList _ _ _ _ _ _); refine wpList_store_cb rfl 30 (.tmp 4) (.tmp 42) rfl (w.heap.size + 1 + 1) [.slice A' (putF l g).length c', .int .i64 x] rfl rfl 30 [.slice none 0 0, .int .i64 0] 2 hcr.out sizeS rfl rfl (one_s _ _ _ _) ?_; intro w9 hc9 hg9 hz9)
      refine bodyPost_ret (res_cell1 Try.results65 rfl hc9 Try.underlying30 sizeS rfl) rfl ⟨⟨A', c', rfl, (hown.out.kept hg9 (.inr (hown.out.ne hcr.out (by decide)).symm)).low (by omega)⟩, below_grown hbel.out hg9 (by omega) (by omega)⟩
end Go.Proofs.Ytpgbpfdedpppeaa
