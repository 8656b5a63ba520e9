/-
  SchemaFitsMatchesReference, walked.
-/
import Derived.Test.YtiafcdaephcfeaaSanW
import Derived.Test.YtiafcdaephcfeaaGE
import Derived.Test.YtiafcdaephcfeaaGG
namespace Go.Proofs.Ytiafcdaephcfeaa.fml
open Go.RowKit Go.Proofs.Ytiafcdaephcfeaa

theorem ces_len (l : List Ce) : ∀ vs ∈ l.map Ce.cells, vs.length = 4 := fun vs h => by
  obtain ⟨f, _, rfl⟩ := List.mem_map.1 h
  rfl
theorem ces_one (l : List Ce) : ∀ vs ∈ l.map Ce.cells, ∀ u ∈ vs, u.oneCell' = true := fun vs h => by
  obtain ⟨f, _, rfl⟩ := List.mem_map.1 h
  exact one_ce f
theorem cat_ce {w : World} {ops : Array Oper} {rest : List Oper} {o : Oper} {a : Act} {Q : Exit → Act → World → Prop} (hgd : o.guard = none) (d x : Operand)
    (ho : o.op = .call { callee := .builtin .append, args := #[d, x], argTypes := #[36, 36] }) (base : Nat) (v : Value) (A : Option Addr) (n c B : Nat) (l : List Ce) (hs : a.eval d = v) (hx : a.eval x = .slice A n c)
    (hn : n = l.length) (hr : Own 27 4 w base v []) (h2 : Ces w B A l) (hroom : n ≤ 1000000) (hbase : base ≤ w.heap.size)
    (hK : ∀ A' c' w', Own 27 4 w' base (.slice A' n c') (l.map Ce.cells) → w.grownBy w' v.ownBlock → Below base w w' → wpList Try.prog ops Q rest (a.put o.dst (.slice A' n c')) w') : wpList Try.prog ops Q (o :: rest) a w := by
  refine wpList_cat hgd d x ho Try.underlying36 infoCe rfl (by decide) base v [] A n c B (l.map Ce.cells) hs hx (by simpa using hn) hr h2 (ces_len l) (ces_one l) (by simp; omega) (by decide) hbase ?_
  intro A' c' w' h1 h2 h3
  simp only [List.length_nil, Nat.zero_add, List.nil_append] at h1 ⊢
  exact hK A' c' w' h1 h2 h3
theorem row1 {w : World} {g : Nat} {q : Ce} (h : CB w g 27 [.int .i64 q.id, .bool q.v.b, .int .i64 q.v.n, .string q.v.s]) : Ces w w.heap.size (some ⟨g, 0, none⟩) [q] := fun _ =>
  ⟨g, 0, rfl, h.lt, fun i vs hvs => by
    rcases i with _ | i
    · obtain rfl : q.cells = vs := by simpa using hvs
      intro j v hv
      have := h.cell j hv
      simpa using this
    · simp at hvs⟩
set_option maxHeartbeats 8000000 in
set_option maxRecDepth 20000 in
theorem walk (A : Option Addr) (cap : Nat) (L : List Ch) (V : Option Addr) (cv : Nat) (raw : List Va) (q : Ce) (W : World) (hE : Chs W W.heap.size A L) (hrw : ∀ d ∈ L, RW d) (hlc : L.length ≤ cap) (hcm : cap ≤ 9223372036854775807) (hV : Vas W W.heap.size V raw) (hvf : ∀ u ∈ raw, u.Fine) (hvc : raw.length ≤ cv) (hvm : cv ≤ 9223372036854775807) (_hq : q.Fine) :
    Calls Try.prog 3 #[.slice A L.length cap, .slice V raw.length cv, .agg #[.int .i64 q.id, .bool q.v.b, .int .i64 q.v.n, .string q.v.s]] W fun e W' => e = .returned (.bool true) ∧ Below W.heap.size W W' := by
  have HE := Lib.hid hE
  have HR := Lib.hid hrw
  have HV := Lib.hid hV
  have HVF := Lib.hid hvf
  obtain ⟨M, hM⟩ : ∃ M, madeR L 20 = M := ⟨_, rfl⟩
  have hML : M.length ≤ 20 := by
    rw [← hM]
    have := made_len (l := L.take 20) (s := Sc.new)
    rw [List.length_take] at this
    unfold madeR
    omega
  obtain ⟨_, h2, _, h4, _⟩ := numbers (l := L) (n := 20) (k := 0)
  have hMW := made_rw ok_new (fun c hc => hrw c (List.mem_of_mem_take hc)) (l := L.take 20)
  rw [show madeG Sc.new (L.take 20) = M from hM] at hMW
  rw [hM] at h2 h4
  obtain ⟨⟨⟨fs, x⟩, iL, eL⟩, hqL⟩ : ∃ r, aftP M = r := ⟨_, rfl⟩
  rw [hqL] at h2 h4
  obtain rfl : eL = 0 := h2
  have HM := Lib.hid hM
  have HW := Lib.hid hMW
  have HQL := Lib.hid hqL
  have HOK := Lib.hid (show Ok ⟨fs, x⟩ from h4)
  have hl2 : L.length ≤ 9223372036854775807 := by omega
  have hvl : raw.length ≤ 9223372036854775807 := by omega
  have hMl : M.length ≤ 1000000 := by omega
  have hfl : fs.length ≤ 9223372036854775807 := by have := HOK.out.big.1; simp only at this; omega
  clear hE hrw hV hvf hM hMW hqL h4
  go_enter Try.func3, Try.ntmps3
  by_cases hbig : (q.v.s.size : Int) > 500
  · have i1 : (500 : Int) < (q.v.s.size : Int) := hbig
    go_wp2_with (first | (go_at_call 4; refine (sanity_any _).mono ?_; rintro e w1 ⟨rfl, hb1⟩; have B1 := Lib.hid ((al1 W (.cells #[.int .i64 q.id, .bool q.v.b, .int .i64 q.v.n, .string q.v.s] 27)).trans (hb1.mono (al1 W (.cells #[.int .i64 q.id, .bool q.v.b, .int .i64 q.v.n, .string q.v.s] 27)).size)); have X1 := Lib.hid ((CB.new W 27 [.int .i64 q.id, .bool q.v.b, .int .i64 q.v.n, .string q.v.s]).up hb1); clear hb1) | (go_at_call 6; refine (RMade_any A L.length cap 20 L _ rfl (HE.out.up B1.out) hl2 (by decide) HR.out).mono ?_; rintro e w2 ⟨⟨A2, c2, rfl, ho2⟩, hb2⟩; rw [HM.out] at ho2; rw [HM.out]; have B2 := Lib.hid (below_step B1.out B1.out.size hb2); have X2 := Lib.hid (X1.out.up hb2); have O2 := Lib.hid (ho2.low (b := W.heap.size) B1.out.size); clear hb2 ho2) | (go_at_call 5; refine (RAfter_any A2 M.length c2 M _ rfl (show Chs w2 w2.heap.size A2 M from O2.out.row.2.2.2) hMl HW.out).mono ?_; rintro e w3 ⟨⟨A3, n3, c3, rfl, hn3, ho3⟩, hb3⟩; rw [HQL.out] at hn3 ho3; rw [HQL.out]; obtain rfl : n3 = fs.length := hn3; have B3 := Lib.hid (below_step B2.out B2.out.size hb3); have X3 := Lib.hid (X2.out.up hb3); have P3 := Lib.hid (ho3.low (b := W.heap.size) B2.out.size); have x33 := X3.out.cell 3 rfl; have zX3 := X3.out.lt; clear hb3 ho3))
    go_ret
    exact ⟨rfl, B3.out.alloc B3.out.size _⟩
  · have i1 : ¬ (500 : Int) < (q.v.s.size : Int) := hbig
    go_upto_region 10 with (first | (go_at_call 4; refine (sanity_any _).mono ?_; rintro e w1 ⟨rfl, hb1⟩; have B1 := Lib.hid ((al1 W (.cells #[.int .i64 q.id, .bool q.v.b, .int .i64 q.v.n, .string q.v.s] 27)).trans (hb1.mono (al1 W (.cells #[.int .i64 q.id, .bool q.v.b, .int .i64 q.v.n, .string q.v.s] 27)).size)); have X1 := Lib.hid ((CB.new W 27 [.int .i64 q.id, .bool q.v.b, .int .i64 q.v.n, .string q.v.s]).up hb1); clear hb1) | (go_at_call 6; refine (RMade_any A L.length cap 20 L _ rfl (HE.out.up B1.out) hl2 (by decide) HR.out).mono ?_; rintro e w2 ⟨⟨A2, c2, rfl, ho2⟩, hb2⟩; rw [HM.out] at ho2; rw [HM.out]; have B2 := Lib.hid (below_step B1.out B1.out.size hb2); have X2 := Lib.hid (X1.out.up hb2); have O2 := Lib.hid (ho2.low (b := W.heap.size) B1.out.size); clear hb2 ho2) | (go_at_call 5; refine (RAfter_any A2 M.length c2 M _ rfl (show Chs w2 w2.heap.size A2 M from O2.out.row.2.2.2) hMl HW.out).mono ?_; rintro e w3 ⟨⟨A3, n3, c3, rfl, hn3, ho3⟩, hb3⟩; rw [HQL.out] at hn3 ho3; rw [HQL.out]; obtain rfl : n3 = fs.length := hn3; have B3 := Lib.hid (below_step B2.out B2.out.size hb3); have X3 := Lib.hid (X2.out.up hb3); have P3 := Lib.hid (ho3.low (b := W.heap.size) B2.out.size); have x33 := X3.out.cell 3 rfl; have zX3 := X3.out.lt; clear hb3 ho3) | (go_at_call 7; refine (RRow_any A3 fs.length c3 x fs V raw.length cv raw _ rfl ((show Fds w3 w3.heap.size A3 fs from P3.out.row.2.2.2).up (al1 _ _)) HOK.out rfl (RowAt.up HV.out (B3.out.alloc B3.out.size (.cells #[.slice A3 fs.length c3, .int .i64 x] 31))) hvl HVF.out).mono ?_; rintro e w4 ⟨⟨AR, cR, r, rfl, ho4, hf4, hs4, hl4⟩, hb4⟩; have hw4 : Below w3.heap.size w3 w4 := (al1 w3 (.cells #[.slice A3 fs.length c3, .int .i64 x] 31)).trans (hb4.mono (al1 w3 (.cells #[.slice A3 fs.length c3, .int .i64 x] 31)).size); have B4 := Lib.hid (below_step B3.out B3.out.size hw4); have P4 := Lib.hid (P3.out.up hw4); have S4 := Lib.hid ((CB.new w3 31 [.slice A3 fs.length c3, .int .i64 x]).up hb4); have X4 := Lib.hid (X3.out.up hw4); have R4 := Lib.hid (ho4.low (b := W.heap.size) (Nat.le_trans B3.out.size (al1 w3 (.cells #[.slice A3 fs.length c3, .int .i64 x] 31)).size)); have HFG := Lib.hid (fitl_go (s := ⟨fs, x⟩) HOK.out hf4); have HS4 := Lib.hid hs4; have zS4 := S4.out.lt; have zX4 := X4.out.lt; have s40 := S4.out.cell 0 rfl; have s41 := S4.out.cell 1 rfl; clear hb4 hw4 ho4 hf4 hs4 x33 zX3) | (go_at_call 8; refine (Fits_any A3 fs.length c3 x fs AR r.length cR r _ rfl ((show Fds w4 w4.heap.size A3 fs from P4.out.row.2.2.2).up (al1 _ _)) hfl rfl (RowAt.up (show Ces w4 w4.heap.size AR r from R4.out.row.2.2.2) (al1 _ _)) (by omega) (fun c hc => by have := HS4.out c hc; omega)).mono ?_; rintro e w5 ⟨rfl, hb5⟩; rw [HFG.out]; have hw5 : Below w4.heap.size w4 w5 := (al1 w4 (.cells #[.slice AR r.length cR] 38)).trans (hb5.mono (al1 w4 (.cells #[.slice AR r.length cR] 38)).size); have B5 := Lib.hid (below_step B4.out B4.out.size hw5); have P5 := Lib.hid (P4.out.up hw5); have R5 := Lib.hid (R4.out.up hw5); have S5 := Lib.hid (S4.out.up hw5); have X5 := Lib.hid (X4.out.up hw5); have T5 := Lib.hid ((CB.new w4 38 [.slice AR r.length cR]).up hb5); have t50 := T5.out.cell 0 rfl; have zT5 := T5.out.lt; clear hb5 hw5 s40 s41) | (at_builtin; refine cat_ce rfl (.tmp 34) (.tmp 36) rfl w5.heap.size (.slice (some ⟨w5.heap.size, 0, none⟩) 0 0) AR r.length cR w5.heap.size r rfl rfl rfl (own_empty w5 _ rfl) ((show Ces w5 w5.heap.size AR r from R5.out.row.2.2.2).below (al1 w5 _)) (by omega) (by rw [asz]; omega) ?_; intro A6 c6 w6 ho6 hg6 hb6; have B56 := Lib.hid ((al1 w5 _).trans hb6); have O6 := Lib.hid ho6; have X6 := Lib.hid (X5.out.up B56.out); have zX6 := X6.out.lt; have x60 := X6.out.cell 0 rfl; have x61 := X6.out.cell 1 rfl; have x62 := X6.out.cell 2 rfl; have x63 := X6.out.cell 3 rfl; clear ho6 hg6 hb6 t50) | (at_builtin; go_loud (refine push_ce (wr := w6.alloc (.cells #[.slice A6 r.length c6] 38)) rfl (.tmp 40) (.tmp 42) rfl w5.heap.size (.slice A6 r.length c6) r q (w6.heap.size + 1) rfl rfl (asz w6 (.cells #[.slice A6 r.length c6] 38)).symm rfl (O6.out.alloc _) (by omega) (by rw [asz]; have := B56.out.size; omega) ?_; intro A7 c7 w7 ho7 hg7 hb7; have O7 := Lib.hid ho7; have T7 := Lib.hid ((CB.new w6 38 [.slice A6 r.length c6]).grown hg7 (Own.ne (O6.out.alloc (.cells #[.slice A6 r.length c6] 38)) (CB.new w6 38 [.slice A6 r.length c6]) (by decide))); have B57 := Lib.hid ((B56.out.trans ((al1 w6 (.cells #[.slice A6 r.length c6] 38)).mono B56.out.size)).trans hb7); have t70 := T7.out.cell 0 rfl; have t71 := T7.out.frozen 0; have zT7 := T7.out.lt; clear ho7 hg7 hb7 x60 x61 x62 x63 zX6)))
    have hw9 := B57.out
    obtain ⟨z1, hz1⟩ : ∃ z, fitGo fs 0 (r ++ [q]) = z := ⟨_, rfl⟩
    obtain ⟨z2, hz2⟩ : ∃ z, fitGo fs 0 [q] = z := ⟨_, rfl⟩
    have HZ1 := Lib.hid hz1
    have HZ2 := Lib.hid hz2
    have z65 := B56.out.size
    have hL1 := Lib.hid (show r.length + 1 = (r ++ [q]).length by simp)
    have HSZ : Hid (∀ c ∈ r ++ [q], c.v.s.size ≤ 9223372036854775807) := fun c hc => by
      rcases List.mem_append.1 hc with h | h
      · have := HS4.out c h; omega
      · simp only [List.mem_singleton] at h; subst h; omega
    have HSQ : Hid (∀ c ∈ [q], c.v.s.size ≤ 9223372036854775807) := fun c hc => by
      simp only [List.mem_singleton] at hc; subst hc; omega
    have hn7 := Own.ne O7.out T7.out (by decide)
    have B59 := Lib.hid (below_grown B57.out (grown_set w7 w6.heap.size 0 (.slice A7 (r.length + 1) c7)) B57.out.size (by omega))
    have O9 := Lib.hid (O7.out.set_ 0 (.slice A7 (r.length + 1) c7) hn7)
    have T9 := Lib.hid (show CB _ w6.heap.size 38 [.slice A7 (r.length + 1) c7] from T7.out.set_ 0 (.slice A7 (r.length + 1) c7))
    have S9 := Lib.hid (S5.out.up B59.out)
    have X9 := Lib.hid (X5.out.up B59.out)
    have P9 := Lib.hid (P5.out.up B59.out)
    have B9 := Lib.hid (below_step B5.out B5.out.size B59.out)
    clear hz1 hz2 hn7 hw9 t70 t71
    generalize w7.setCell ⟨w6.heap.size, 0, none⟩ (.slice A7 (r.length + 1) c7) = w9 at *
    have zB := Lib.hid (bd w9)
    have zWW : w9.heap.size = w9.drew.heap.size := rfl
    have PD := Lib.hid P9.out.dr
    have OD := Lib.hid O9.out.dr
    have HXL : Hid (∀ X, Below w9.drew.heap.size w9.drew X → X.cell? ⟨w3.heap.size, 0, none⟩ = some (.slice A3 fs.length c3) ∧ X.cell? ⟨w3.heap.size, 1, none⟩ = some (.int .i64 x) ∧ X.cell? ⟨w6.heap.size, 0, none⟩ = some (.slice A7 (r.length + 1) c7) ∧ X.cell? ⟨W.heap.size, 0, none⟩ = some (.int .i64 q.id) ∧ X.cell? ⟨W.heap.size, 1, none⟩ = some (.bool q.v.b) ∧ X.cell? ⟨W.heap.size, 2, none⟩ = some (.int .i64 q.v.n) ∧ X.cell? ⟨W.heap.size, 3, none⟩ = some (.string q.v.s)) := fun X hX =>
      have hX' : Below w9.heap.size w9 X := zB.out.trans hX
      ⟨(S9.out.up hX').cell 0 rfl, (S9.out.up hX').cell 1 rfl, (T9.out.up hX').cell 0 rfl, (X9.out.up hX').cell 0 rfl, (X9.out.up hX').cell 1 rfl, (X9.out.up hX').cell 2 rfl, (X9.out.up hX').cell 3 rfl⟩
    refine wp_region_held_drew (S := fun w' => Hid (Below w9.drew.heap.size w9.drew w')) (by kernel_rfl) (Lib.hid (Below.refl _ _)) (fun hHeld => ?_)
    revert hHeld zB zWW PD OD HXL
    generalize w9.drew = W2
    intro zB zWW PD OD HXL hHeld
    refine hand_take (i := 0) (v := ?_) rfl (by kernel_rfl) (by kernel_rfl) (by kernel_rfl) (fun _ _ _ h => h) (Or.inl ⟨by rfl, ?_⟩) (by assumption) ?_
    rotate_left
    · intro wS hSw
      clear hSw
      go_simp
      try with_reducible rfl
    try simp only [Act.put, List.setIfInBounds_toArray, List.set_cons_zero, List.set_cons_succ]
    refine hand_take (i := 1) (v := ?_) rfl (by kernel_rfl) (by kernel_rfl) (by kernel_rfl) (fun _ _ _ h => h) (Or.inl ⟨by rfl, ?_⟩) (by assumption) ?_
    rotate_left
    · intro wS hSw
      clear hSw
      go_simp
      try with_reducible rfl
    try simp only [Act.put, List.setIfInBounds_toArray, List.set_cons_zero, List.set_cons_succ]
    refine hand_take (i := 2) (v := ?_) rfl (by kernel_rfl) (by kernel_rfl) (by kernel_rfl) (fun _ _ _ h => h) (Or.inl ⟨by rfl, ?_⟩) (by assumption) ?_
    rotate_left
    · intro wS hSw
      obtain ⟨y0, y1, t0, x0, x1, x2, x3⟩ := HXL.out _ hSw.out
      clear hSw
      go_simp
      try with_reducible rfl
    try simp only [Act.put, List.setIfInBounds_toArray, List.set_cons_zero, List.set_cons_succ]
    refine hand_take (i := 3) (v := ?_) rfl (by kernel_rfl) (by kernel_rfl) (by kernel_rfl) (fun _ _ _ h => h) (Or.inl ⟨by rfl, ?_⟩) (by assumption) ?_
    rotate_left
    · intro wS hSw
      obtain ⟨y0, y1, t0, x0, x1, x2, x3⟩ := HXL.out _ hSw.out
      clear hSw
      go_simp
      try with_reducible rfl
    try simp only [Act.put, List.setIfInBounds_toArray, List.set_cons_zero, List.set_cons_succ]
    refine hand_take (i := 5) (v := ?_) rfl (by kernel_rfl) (by kernel_rfl) (by kernel_rfl) (fun _ _ _ h => h) (Or.inl ⟨by rfl, ?_⟩) (by assumption) ?_
    rotate_left
    · intro wS hSw
      obtain ⟨y0, y1, t0, x0, x1, x2, x3⟩ := HXL.out _ hSw.out
      clear hSw
      go_simp
      try with_reducible rfl
    try simp only [Act.put, List.setIfInBounds_toArray, List.set_cons_zero, List.set_cons_succ]
    refine hand_take (i := 6) (v := ?_) rfl (by kernel_rfl) (by kernel_rfl) (by kernel_rfl) (fun _ _ _ h => h) (Or.inl ⟨by rfl, ?_⟩) (by assumption) ?_
    rotate_left
    · intro wS hSw
      obtain ⟨y0, y1, t0, x0, x1, x2, x3⟩ := HXL.out _ hSw.out
      clear hSw
      go_simp
      try with_reducible rfl
    try simp only [Act.put, List.setIfInBounds_toArray, List.set_cons_zero, List.set_cons_succ]
    refine wpAnyH_ready (rs := [4]) (by kernel_rfl) (by simp) ?_
    refine hand_cons rfl (fun KK hK => ?_) AllReadyH.nil
    go_simp
    go_at_call 8
    refine (Fits_any A3 fs.length c3 x fs A7 (r.length + 1) c7 (r ++ [q]) _ rfl ((show Fds W2 W2.heap.size A3 fs from PD.out.row.2.2.2).up hHeld.out) hfl hL1.out (RowAt.up (show Ces W2 W2.heap.size A7 (r ++ [q]) from OD.out.row.2.2.2) hHeld.out) (by omega) HSZ.out).mono ?_
    rintro e v4 ⟨rfl, hb8⟩
    rw [HZ1.out]
    have HB4 := Lib.hid (hHeld.out.trans (hb8.mono hHeld.out.size))
    clear hb8
    go_wp2_with fail
    refine hK.out _ _ (HB4) (fun hHeld => ?_)
    clear hK KK
    try simp only [Act.put, List.setIfInBounds_toArray, List.set_cons_zero, List.set_cons_succ]
    refine wpAnyH_ready (rs := [7]) (by kernel_rfl) (by simp) ?_
    refine hand_cons rfl (fun KK hK => ?_) AllReadyH.nil
    go_simp
    go_at_call 9
    refine (RFits_ok A3 fs.length c3 x fs A7 (r.length + 1) c7 (r ++ [q]) _ rfl ((show Fds W2 W2.heap.size A3 fs from PD.out.row.2.2.2).up hHeld.out) HOK.out hL1.out (RowAt.up (show Ces W2 W2.heap.size A7 (r ++ [q]) from OD.out.row.2.2.2) hHeld.out) (by omega) HSZ.out).mono ?_
    rintro e v7 ⟨rfl, hb8⟩
    rw [HZ1.out]
    have HB7 := Lib.hid (hHeld.out.trans (hb8.mono hHeld.out.size))
    clear hb8
    go_wp2_with fail
    refine hK.out _ _ (HB7) (fun hHeld => ?_)
    clear hK KK
    try simp only [Act.put, List.setIfInBounds_toArray, List.set_cons_zero, List.set_cons_succ]
    refine hand_take (i := 8) (v := .bool true) rfl (by kernel_rfl) (by kernel_rfl) (by kernel_rfl) (fun _ _ _ h => h) (Or.inl ⟨by rfl, ?_⟩) (by assumption) ?_
    · intro wS hSw
      cases z1 <;> (go_simp; try first | with_reducible rfl | simp only [*])
    try simp only [Act.put, List.setIfInBounds_toArray, List.set_cons_zero, List.set_cons_succ]
    refine hand_take (i := 9) (v := ?_) rfl (by kernel_rfl) (by kernel_rfl) (by kernel_rfl) (fun _ _ _ h => h) (Or.inl ⟨by rfl, ?_⟩) (by assumption) ?_
    rotate_left
    · intro wS hSw
      clear hSw
      go_simp
      try with_reducible rfl
    try simp only [Act.put, List.setIfInBounds_toArray, List.set_cons_zero, List.set_cons_succ]
    refine hand_take (i := 10) (v := ?_) rfl (by kernel_rfl) (by kernel_rfl) (by kernel_rfl) (fun _ _ _ h => h) (Or.inl ⟨by rfl, ?_⟩) (by assumption) ?_
    rotate_left
    · intro wS hSw
      clear hSw
      go_simp
      try with_reducible rfl
    try simp only [Act.put, List.setIfInBounds_toArray, List.set_cons_zero, List.set_cons_succ]
    refine hand_take (i := 11) (v := ?_) rfl (by kernel_rfl) (by kernel_rfl) (by kernel_rfl) (fun _ _ _ h => h) (Or.inl ⟨by rfl, ?_⟩) (by assumption) ?_
    rotate_left
    · intro wS hSw
      obtain ⟨y0, y1, t0, x0, x1, x2, x3⟩ := HXL.out _ hSw.out
      clear hSw
      go_simp
      try with_reducible rfl
    try simp only [Act.put, List.setIfInBounds_toArray, List.set_cons_zero, List.set_cons_succ]
    refine hand_take (i := 12) (v := ?_) rfl (by kernel_rfl) (by kernel_rfl) (by kernel_rfl) (fun _ _ _ h => h) (Or.inl ⟨by rfl, ?_⟩) (by assumption) ?_
    rotate_left
    · intro wS hSw
      obtain ⟨y0, y1, t0, x0, x1, x2, x3⟩ := HXL.out _ hSw.out
      clear hSw
      go_simp
      try with_reducible rfl
    try simp only [Act.put, List.setIfInBounds_toArray, List.set_cons_zero, List.set_cons_succ]
    refine hand_take (i := 16) (v := ?_) rfl (by kernel_rfl) (by kernel_rfl) (by kernel_rfl) (fun _ _ _ h => h) (Or.inl ⟨by rfl, ?_⟩) (by assumption) ?_
    rotate_left
    · intro wS hSw
      obtain ⟨y0, y1, t0, x0, x1, x2, x3⟩ := HXL.out _ hSw.out
      clear hSw
      go_simp
      try with_reducible rfl
    try simp only [Act.put, List.setIfInBounds_toArray, List.set_cons_zero, List.set_cons_succ]
    refine hand_take (i := 17) (v := ?_) rfl (by kernel_rfl) (by kernel_rfl) (by kernel_rfl) (fun _ _ _ h => h) (Or.inl ⟨by rfl, ?_⟩) (by assumption) ?_
    rotate_left
    · intro wS hSw
      obtain ⟨y0, y1, t0, x0, x1, x2, x3⟩ := HXL.out _ hSw.out
      clear hSw
      go_simp
      try with_reducible rfl
    try simp only [Act.put, List.setIfInBounds_toArray, List.set_cons_zero, List.set_cons_succ]
    refine wpAnyH_ready (rs := [13, 18]) (by kernel_rfl) (by simp) ?_
    refine (hand_cons rfl (fun KK hK => ?_) (hand_cons rfl (fun KK hK => ?_) AllReadyH.nil))
    · go_simp
      have G13 := Lib.hid (CB.new v7 27 [.int .i64 q.id, .bool q.v.b, .int .i64 q.v.n, .string q.v.s])
      have HA13 := Lib.hid (al_up (o := (.cells #[.int .i64 q.id, .bool q.v.b, .int .i64 q.v.n, .string q.v.s] 27)) hHeld.out)
      refine hK.out _ _ (HA13) (fun hHeld => ?_)
      clear hK KK
      try simp only [Act.put, List.setIfInBounds_toArray, List.set_cons_zero, List.set_cons_succ]
      refine hand_take (i := 14) (v := ?_) rfl (by kernel_rfl) (by kernel_rfl) (by kernel_rfl) (fun _ _ _ h => h) (Or.inl ⟨by rfl, ?_⟩) (by assumption) ?_
      rotate_left
      · intro wS hSw
        clear hSw
        go_simp
        try with_reducible rfl
      try simp only [Act.put, List.setIfInBounds_toArray, List.set_cons_zero, List.set_cons_succ]
      refine wpAnyH_ready (rs := [15, 18]) (by kernel_rfl) (by simp) ?_
      refine (hand_cons rfl (fun KK hK => ?_) (hand_cons rfl (fun KK hK => ?_) AllReadyH.nil))
      · go_simp
        go_at_call 8
        refine (Fits_any A3 fs.length c3 x fs _ 1 1 [q] _ rfl ((show Fds W2 W2.heap.size A3 fs from PD.out.row.2.2.2).up hHeld.out) hfl rfl (row1 (by first | exact G13.out | simpa only [asz] using G13.out)) (by omega) HSQ.out).mono ?_
        rintro e v15 ⟨rfl, hb8⟩
        rw [HZ2.out]
        have HB15 := Lib.hid (hHeld.out.trans (hb8.mono hHeld.out.size))
        have G13 := Lib.hid (G13.out.up hb8)
        clear hb8
        go_wp2_with fail
        refine hK.out _ _ (HB15) (fun hHeld => ?_)
        clear hK KK
        try simp only [Act.put, List.setIfInBounds_toArray, List.set_cons_zero, List.set_cons_succ]
        refine wpAnyH_ready (rs := [18]) (by kernel_rfl) (by simp) ?_
        refine hand_cons rfl (fun KK hK => ?_) AllReadyH.nil
        go_simp
        have G13 := Lib.hid (G13.out.alloc (.cells #[.int .i64 q.id, .bool q.v.b, .int .i64 q.v.n, .string q.v.s] 27))
        have G18 := Lib.hid (CB.new v15 27 [.int .i64 q.id, .bool q.v.b, .int .i64 q.v.n, .string q.v.s])
        have HA18 := Lib.hid (al_up (o := (.cells #[.int .i64 q.id, .bool q.v.b, .int .i64 q.v.n, .string q.v.s] 27)) hHeld.out)
        refine hK.out _ _ (HA18) (fun hHeld => ?_)
        clear hK KK
        try simp only [Act.put, List.setIfInBounds_toArray, List.set_cons_zero, List.set_cons_succ]
        refine hand_take (i := 19) (v := ?_) rfl (by kernel_rfl) (by kernel_rfl) (by kernel_rfl) (fun _ _ _ h => h) (Or.inl ⟨by rfl, ?_⟩) (by assumption) ?_
        rotate_left
        · intro wS hSw
          clear hSw
          go_simp
          try with_reducible rfl
        try simp only [Act.put, List.setIfInBounds_toArray, List.set_cons_zero, List.set_cons_succ]
        refine wpAnyH_ready (rs := [20]) (by kernel_rfl) (by simp) ?_
        refine hand_cons rfl (fun KK hK => ?_) AllReadyH.nil
        go_simp
        go_at_call 9
        refine (RFits_ok A3 fs.length c3 x fs _ 1 1 [q] _ rfl ((show Fds W2 W2.heap.size A3 fs from PD.out.row.2.2.2).up hHeld.out) HOK.out rfl (row1 (by first | exact G18.out | simpa only [asz] using G18.out)) (by omega) HSQ.out).mono ?_
        rintro e v20 ⟨rfl, hb8⟩
        rw [HZ2.out]
        have HB20 := Lib.hid (hHeld.out.trans (hb8.mono hHeld.out.size))
        have G13 := Lib.hid (G13.out.up hb8)
        have G18 := Lib.hid (G18.out.up hb8)
        clear hb8
        go_wp2_with fail
        refine hK.out _ _ (HB20) (fun hHeld => ?_)
        clear hK KK
        try simp only [Act.put, List.setIfInBounds_toArray, List.set_cons_zero, List.set_cons_succ]
        refine hand_take (i := 21) (v := .bool true) rfl (by kernel_rfl) (by kernel_rfl) (by kernel_rfl) (fun _ _ _ h => h) (Or.inl ⟨by rfl, ?_⟩) (by assumption) ?_
        · intro wS hSw
          cases z2 <;> (go_simp; try first | with_reducible rfl | simp only [*])
        try simp only [Act.put, List.setIfInBounds_toArray, List.set_cons_zero, List.set_cons_succ]
        refine hand_take (i := 22) (v := ?_) rfl (by kernel_rfl) (by kernel_rfl) (by kernel_rfl) (fun _ _ _ h => h) (Or.inl ⟨by rfl, ?_⟩) (by assumption) ?_
        rotate_left
        · intro wS hSw
          clear hSw
          go_simp
          try with_reducible rfl
        try simp only [Act.put, List.setIfInBounds_toArray, List.set_cons_zero, List.set_cons_succ]
        refine hand_take (i := 23) (v := ?_) rfl (by kernel_rfl) (by kernel_rfl) (by kernel_rfl) (fun _ _ _ h => h) (Or.inl ⟨by rfl, ?_⟩) (by assumption) ?_
        rotate_left
        · intro wS hSw
          clear hSw
          go_simp
          try with_reducible rfl
        try simp only [Act.put, List.setIfInBounds_toArray, List.set_cons_zero, List.set_cons_succ]
        refine wpAnyH_done (by kernel_rfl) ?_ _
        go_wp2_with fail
        go_ret
        exact ⟨rfl, (B9.out.trans (zB.out.mono B9.out.size)).trans (hHeld.out.mono (by have := B9.out.size; omega))⟩
      · go_simp
        have G13 := Lib.hid (G13.out.alloc (.cells #[.int .i64 q.id, .bool q.v.b, .int .i64 q.v.n, .string q.v.s] 27))
        have G18 := Lib.hid (CB.new (v7.alloc (.cells #[.int .i64 q.id, .bool q.v.b, .int .i64 q.v.n, .string q.v.s] 27)) 27 [.int .i64 q.id, .bool q.v.b, .int .i64 q.v.n, .string q.v.s])
        have HA18 := Lib.hid (al_up (o := (.cells #[.int .i64 q.id, .bool q.v.b, .int .i64 q.v.n, .string q.v.s] 27)) hHeld.out)
        refine hK.out _ _ (HA18) (fun hHeld => ?_)
        clear hK KK
        try simp only [Act.put, List.setIfInBounds_toArray, List.set_cons_zero, List.set_cons_succ]
        refine hand_take (i := 19) (v := ?_) rfl (by kernel_rfl) (by kernel_rfl) (by kernel_rfl) (fun _ _ _ h => h) (Or.inl ⟨by rfl, ?_⟩) (by assumption) ?_
        rotate_left
        · intro wS hSw
          clear hSw
          go_simp
          try with_reducible rfl
        try simp only [Act.put, List.setIfInBounds_toArray, List.set_cons_zero, List.set_cons_succ]
        refine wpAnyH_ready (rs := [15]) (by kernel_rfl) (by simp) ?_
        refine hand_cons rfl (fun KK hK => ?_) AllReadyH.nil
        go_simp
        go_at_call 8
        refine (Fits_any A3 fs.length c3 x fs _ 1 1 [q] _ rfl ((show Fds W2 W2.heap.size A3 fs from PD.out.row.2.2.2).up hHeld.out) hfl rfl (row1 (by first | exact G13.out | simpa only [asz] using G13.out)) (by omega) HSQ.out).mono ?_
        rintro e v15 ⟨rfl, hb8⟩
        rw [HZ2.out]
        have HB15 := Lib.hid (hHeld.out.trans (hb8.mono hHeld.out.size))
        have G13 := Lib.hid (G13.out.up hb8)
        have G18 := Lib.hid (G18.out.up hb8)
        clear hb8
        go_wp2_with fail
        refine hK.out _ _ (HB15) (fun hHeld => ?_)
        clear hK KK
        try simp only [Act.put, List.setIfInBounds_toArray, List.set_cons_zero, List.set_cons_succ]
        refine wpAnyH_ready (rs := [20]) (by kernel_rfl) (by simp) ?_
        refine hand_cons rfl (fun KK hK => ?_) AllReadyH.nil
        go_simp
        go_at_call 9
        refine (RFits_ok A3 fs.length c3 x fs _ 1 1 [q] _ rfl ((show Fds W2 W2.heap.size A3 fs from PD.out.row.2.2.2).up hHeld.out) HOK.out rfl (row1 (by first | exact G18.out | simpa only [asz] using G18.out)) (by omega) HSQ.out).mono ?_
        rintro e v20 ⟨rfl, hb8⟩
        rw [HZ2.out]
        have HB20 := Lib.hid (hHeld.out.trans (hb8.mono hHeld.out.size))
        have G13 := Lib.hid (G13.out.up hb8)
        have G18 := Lib.hid (G18.out.up hb8)
        clear hb8
        go_wp2_with fail
        refine hK.out _ _ (HB20) (fun hHeld => ?_)
        clear hK KK
        try simp only [Act.put, List.setIfInBounds_toArray, List.set_cons_zero, List.set_cons_succ]
        refine hand_take (i := 21) (v := .bool true) rfl (by kernel_rfl) (by kernel_rfl) (by kernel_rfl) (fun _ _ _ h => h) (Or.inl ⟨by rfl, ?_⟩) (by assumption) ?_
        · intro wS hSw
          cases z2 <;> (go_simp; try first | with_reducible rfl | simp only [*])
        try simp only [Act.put, List.setIfInBounds_toArray, List.set_cons_zero, List.set_cons_succ]
        refine hand_take (i := 22) (v := ?_) rfl (by kernel_rfl) (by kernel_rfl) (by kernel_rfl) (fun _ _ _ h => h) (Or.inl ⟨by rfl, ?_⟩) (by assumption) ?_
        rotate_left
        · intro wS hSw
          clear hSw
          go_simp
          try with_reducible rfl
        try simp only [Act.put, List.setIfInBounds_toArray, List.set_cons_zero, List.set_cons_succ]
        refine hand_take (i := 23) (v := ?_) rfl (by kernel_rfl) (by kernel_rfl) (by kernel_rfl) (fun _ _ _ h => h) (Or.inl ⟨by rfl, ?_⟩) (by assumption) ?_
        rotate_left
        · intro wS hSw
          clear hSw
          go_simp
          try with_reducible rfl
        try simp only [Act.put, List.setIfInBounds_toArray, List.set_cons_zero, List.set_cons_succ]
        refine wpAnyH_done (by kernel_rfl) ?_ _
        go_wp2_with fail
        go_ret
        exact ⟨rfl, (B9.out.trans (zB.out.mono B9.out.size)).trans (hHeld.out.mono (by have := B9.out.size; omega))⟩
    · go_simp
      have G18 := Lib.hid (CB.new v7 27 [.int .i64 q.id, .bool q.v.b, .int .i64 q.v.n, .string q.v.s])
      have HA18 := Lib.hid (al_up (o := (.cells #[.int .i64 q.id, .bool q.v.b, .int .i64 q.v.n, .string q.v.s] 27)) hHeld.out)
      refine hK.out _ _ (HA18) (fun hHeld => ?_)
      clear hK KK
      try simp only [Act.put, List.setIfInBounds_toArray, List.set_cons_zero, List.set_cons_succ]
      refine hand_take (i := 19) (v := ?_) rfl (by kernel_rfl) (by kernel_rfl) (by kernel_rfl) (fun _ _ _ h => h) (Or.inl ⟨by rfl, ?_⟩) (by assumption) ?_
      rotate_left
      · intro wS hSw
        clear hSw
        go_simp
        try with_reducible rfl
      try simp only [Act.put, List.setIfInBounds_toArray, List.set_cons_zero, List.set_cons_succ]
      refine wpAnyH_ready (rs := [13]) (by kernel_rfl) (by simp) ?_
      refine hand_cons rfl (fun KK hK => ?_) AllReadyH.nil
      go_simp
      have G18 := Lib.hid (G18.out.alloc (.cells #[.int .i64 q.id, .bool q.v.b, .int .i64 q.v.n, .string q.v.s] 27))
      have G13 := Lib.hid (CB.new (v7.alloc (.cells #[.int .i64 q.id, .bool q.v.b, .int .i64 q.v.n, .string q.v.s] 27)) 27 [.int .i64 q.id, .bool q.v.b, .int .i64 q.v.n, .string q.v.s])
      have HA13 := Lib.hid (al_up (o := (.cells #[.int .i64 q.id, .bool q.v.b, .int .i64 q.v.n, .string q.v.s] 27)) hHeld.out)
      refine hK.out _ _ (HA13) (fun hHeld => ?_)
      clear hK KK
      try simp only [Act.put, List.setIfInBounds_toArray, List.set_cons_zero, List.set_cons_succ]
      refine hand_take (i := 14) (v := ?_) rfl (by kernel_rfl) (by kernel_rfl) (by kernel_rfl) (fun _ _ _ h => h) (Or.inl ⟨by rfl, ?_⟩) (by assumption) ?_
      rotate_left
      · intro wS hSw
        clear hSw
        go_simp
        try with_reducible rfl
      try simp only [Act.put, List.setIfInBounds_toArray, List.set_cons_zero, List.set_cons_succ]
      refine wpAnyH_ready (rs := [15]) (by kernel_rfl) (by simp) ?_
      refine hand_cons rfl (fun KK hK => ?_) AllReadyH.nil
      go_simp
      go_at_call 8
      refine (Fits_any A3 fs.length c3 x fs _ 1 1 [q] _ rfl ((show Fds W2 W2.heap.size A3 fs from PD.out.row.2.2.2).up hHeld.out) hfl rfl (row1 (by first | exact G13.out | simpa only [asz] using G13.out)) (by omega) HSQ.out).mono ?_
      rintro e v15 ⟨rfl, hb8⟩
      rw [HZ2.out]
      have HB15 := Lib.hid (hHeld.out.trans (hb8.mono hHeld.out.size))
      have G13 := Lib.hid (G13.out.up hb8)
      have G18 := Lib.hid (G18.out.up hb8)
      clear hb8
      go_wp2_with fail
      refine hK.out _ _ (HB15) (fun hHeld => ?_)
      clear hK KK
      try simp only [Act.put, List.setIfInBounds_toArray, List.set_cons_zero, List.set_cons_succ]
      refine wpAnyH_ready (rs := [20]) (by kernel_rfl) (by simp) ?_
      refine hand_cons rfl (fun KK hK => ?_) AllReadyH.nil
      go_simp
      go_at_call 9
      refine (RFits_ok A3 fs.length c3 x fs _ 1 1 [q] _ rfl ((show Fds W2 W2.heap.size A3 fs from PD.out.row.2.2.2).up hHeld.out) HOK.out rfl (row1 (by first | exact G18.out | simpa only [asz] using G18.out)) (by omega) HSQ.out).mono ?_
      rintro e v20 ⟨rfl, hb8⟩
      rw [HZ2.out]
      have HB20 := Lib.hid (hHeld.out.trans (hb8.mono hHeld.out.size))
      have G13 := Lib.hid (G13.out.up hb8)
      have G18 := Lib.hid (G18.out.up hb8)
      clear hb8
      go_wp2_with fail
      refine hK.out _ _ (HB20) (fun hHeld => ?_)
      clear hK KK
      try simp only [Act.put, List.setIfInBounds_toArray, List.set_cons_zero, List.set_cons_succ]
      refine hand_take (i := 21) (v := .bool true) rfl (by kernel_rfl) (by kernel_rfl) (by kernel_rfl) (fun _ _ _ h => h) (Or.inl ⟨by rfl, ?_⟩) (by assumption) ?_
      · intro wS hSw
        cases z2 <;> (go_simp; try first | with_reducible rfl | simp only [*])
      try simp only [Act.put, List.setIfInBounds_toArray, List.set_cons_zero, List.set_cons_succ]
      refine hand_take (i := 22) (v := ?_) rfl (by kernel_rfl) (by kernel_rfl) (by kernel_rfl) (fun _ _ _ h => h) (Or.inl ⟨by rfl, ?_⟩) (by assumption) ?_
      rotate_left
      · intro wS hSw
        clear hSw
        go_simp
        try with_reducible rfl
      try simp only [Act.put, List.setIfInBounds_toArray, List.set_cons_zero, List.set_cons_succ]
      refine hand_take (i := 23) (v := ?_) rfl (by kernel_rfl) (by kernel_rfl) (by kernel_rfl) (fun _ _ _ h => h) (Or.inl ⟨by rfl, ?_⟩) (by assumption) ?_
      rotate_left
      · intro wS hSw
        clear hSw
        go_simp
        try with_reducible rfl
      try simp only [Act.put, List.setIfInBounds_toArray, List.set_cons_zero, List.set_cons_succ]
      refine wpAnyH_done (by kernel_rfl) ?_ _
      go_wp2_with fail
      go_ret
      exact ⟨rfl, (B9.out.trans (zB.out.mono B9.out.size)).trans (hHeld.out.mono (by have := B9.out.size; omega))⟩
end Go.Proofs.Ytiafcdaephcfeaa.fml
