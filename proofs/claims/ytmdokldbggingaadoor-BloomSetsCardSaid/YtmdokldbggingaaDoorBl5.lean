/-
  The program's Add: by a contract.
-/
import Derived.Test.YtmdokldbggingaaDoorBl4
import Derived.Test.YtmdokldbggingaaDoorRnd1
import Derived.Laws.OwnMore
namespace Go.Proofs.YtmdokldbggingaaDoor
open Go.RowKit Go.Shelf
attribute [local go_sem] Oper.semAt_some

theorem owns_ne {w : World} {base U : Nat} {v : Value} {l : List UInt8} {t : TypeId} {x : List Value} (h : Owns w base v l) (hU : CB w U t x) (ht : t ≠ 5) : some U ≠ v.ownBlock := by
  rcases h.2 with ⟨e, _⟩ | ⟨g, cap, cur, e, _, hg, _⟩
  · rw [e]
    simp [Value.ownBlock]
  · rw [e]
    intro hx
    have hx' : some U = some g := hx
    injection hx' with hx'
    subst hx'
    unfold CB at hU
    rw [hU] at hg
    injection hg with hg
    injection hg with _ hg
    exact ht hg
theorem owns_cells {w : World} {base : Nat} {v : Value} {l : List UInt8} (h : Owns w base v l) (j : Nat) (o : Obj) (hv : v.ownBlock = some j) (ho : w.heap[j]? = some o) : o.isCells = true := by
  rcases h.2 with ⟨e, _⟩ | ⟨g, cap, cur, e, _, hg, _⟩
  · rw [e] at hv
    cases hv
  · rw [e] at hv
    have hx' : some g = some j := hv
    injection hx' with hx'
    subst hx'
    rw [hg] at ho
    cases ho
    rfl
theorem owns_keep {W W' : World} {base : Nat} {v : Value} {l : List UInt8} {row : Option Nat} (h : Owns W base v l) (hg : W.grownBy W' row) (hr : ∀ r, row = some r → ∃ o : Obj, W.heap[r]? = some o ∧ o.isCells = false) : Owns W' base v l := by
  refine World.ownsRow.kept h hg ?_
  cases hv : v.ownBlock with
  | none => exact .inl rfl
  | some j =>
    refine .inr (fun e => ?_)
    obtain ⟨o, ho, hc⟩ := hr j e.symm
    rw [owns_cells h j o hv ho] at hc
    cases hc
theorem owns_low {w : World} {b b' : Nat} {v : Value} {l : List UInt8} (h : Owns w b v l) (hb : b' ≤ b) : Owns w b' v l :=
  ⟨h.1, h.2.imp id fun ⟨g, cap, cur, h1, h2, h3⟩ => ⟨g, cap, cur, h1, by omega, h3⟩⟩
theorem owns_kept {w w1 : World} {base : Nat} {v : Value} {l : List UInt8} {row : Option Nat} (h : Owns w base v l) (hg : w.grownBy w1 row) (hne : v.ownBlock = none ∨ v.ownBlock ≠ row) : Owns w1 base v l := World.ownsRow.kept h hg hne
theorem owns_upB {w w1 : World} {base : Nat} {v : Value} {l : List UInt8} (h : Owns w base v l) (hb : Below w.heap.size w w1) : Owns w1 base v l :=
  World.ownsRow.kept h (row := none) ⟨hb.os, hb.tape, hb.output, hb.size, fun i hi _ => hb.block i hi⟩ (by
    cases v.ownBlock with
    | none => exact .inl rfl
    | some j => exact .inr (fun e => by cases e))
theorem owns_set {w : World} {base g n c : Nat} {l : List UInt8} (h : Owns w base (.slice (some ⟨g, 0, none⟩) n c) l) (hn : n = l.length) (u : Nat) (x : UInt8) :
    Owns (w.setCell ⟨g, u, none⟩ (.int .u8 (x.toNat : Int))) base (.slice (some ⟨g, 0, none⟩) n c) (l.set u x) := by
  subst hn
  have := (World.ownsRow.stored h u (.int .u8 (x.toNat : Int))).1
  unfold Owns
  rw [List.length_set, cb_set]
  exact this
theorem owns_cell {w : World} {base g n c : Nat} {l : List UInt8} (h : Owns w base (.slice (some ⟨g, 0, none⟩) n c) l) (hn : n = l.length) {u : Nat} {x : UInt8} (hx : l[u]? = some x) :
    w.cell? ⟨g, u, none⟩ = some (.int .u8 (x.toNat : Int)) ∧ w.frozen? ⟨g, u, none⟩ = false := by
  subst hn
  have hu := (List.getElem?_eq_some_iff.1 hx).1
  refine ⟨?_, World.ownsRow.frozenAt h u⟩
  rw [World.ownsRow.cellAt h u (by omega)]
  simp [cb, hx]
theorem addB_snoc (ps : List Nat) (j : Nat) (l : List UInt8) : addB (ps ++ [j]) l = putB (addB ps l) j := by simp [addB]
theorem map_fin (L : List Nat) : (List.finRange L.length).map (fun i => L[i.1]) = L := by
  apply List.ext_getElem
  · simp
  · intro i h1 h2
    simp
theorem or_bit (c : UInt8) {v : Nat} (hv : v < 8) : (c ||| bit8 v).toNat = c.toNat ||| 2 ^ v := by rw [UInt8.toNat_or, bit8_nat hv]
theorem or_put (c : UInt8) {v : Nat} (hv : v < 8) : bits .or .u8 (c.toNat : Int) (IntKind.u8.wrap (2 ^ v)) = ((c ||| bit8 v).toNat : Int) := by
  have h2 : 2 ^ v < 256 := Nat.pow_lt_pow_right (n := 8) (by decide) hv
  have e : IntKind.u8.wrap (2 ^ v) = ((2 ^ v : Nat) : Int) := by
    rw [IntKind.wrap_u8]
    push_cast
    have : ((2 ^ v : Nat) : Int) < 256 := by omega
    push_cast at this
    have h0 : (0 : Int) ≤ 2 ^ v := by exact_mod_cast Nat.zero_le (2 ^ v)
    omega
  rw [e, u8_or _ _ c.toNat_lt h2, or_bit c hv]
set_option maxHeartbeats 8000000 in
set_option maxRecDepth 20000 in
theorem Add_any (K : Int) (F : Option Addr) (m d : Nat) (fl : List UInt8) (A : Option Addr) (ca : Nat) (key : List UInt8) (w : World) (hm : m = fl.length) (hF : Shows w w.heap.size F fl) (hml : m ≤ 140737488351232) (hk : key.length ≤ 999000) (hs : Shows w w.heap.size A key) (G : Glob w) :
    Calls Tryd.prog 16 #[.agg #[.int .i64 K, .slice F m d], .slice A key.length ca] w fun e w' => (∃ A' c', e = .returned (.agg #[.int .i64 K, .slice A' m c']) ∧ Owns w' w.heap.size (.slice A' m c') (addB (bitsL K m key) fl)) ∧ Below w.heap.size w w' := by
  refine (callsIn_wide (n := 6)).1 ?_
  obtain ⟨L, hL⟩ : ∃ L, L = bitsL K m key := ⟨_, rfl⟩
  have HX := Li (show ∀ x : Fin L.length, L[x.1] < 8 * m from fun x => bitsL_lt (K := K) (key := key) _ (by rw [← hL]; exact List.getElem_mem x.2))
  rw [← hL]
  have HLq := Li hL
  have HM := Li hm
  have S0 := Li hs
  have G0 := Li G
  have B2 := Li (al2 w (.cells #[.int .i64 K, .slice F m d] 24) (.cells #[.int .i64 0, .slice none 0 0] 24))
  have P2 := Li ((CB.new w 24 [.int .i64 K, .slice F m d]).alloc (.cells #[.int .i64 0, .slice none 0 0] 24))
  have N2 := Li (CB.new1 w (.cells #[.int .i64 K, .slice F m d] 24) 24 [.int .i64 0, .slice none 0 0])
  have F2 := Li (hF.up B2.out)
  have S2 := Li (hs.up B2.out)
  have G2 := Li (G.up B2.out)
  clear hm hF hs G hL
  refine callsIn_of_wp_marks Tryd.func16 rfl trivial ?_ rfl
  simp only [Tryd.ntmps16, List.size_toArray, List.length_cons, List.length_nil, Nat.reduceAdd, Nat.reduceSub, Array.replicate_succ, Array.replicate_zero, List.push_toArray, List.append_toArray, List.nil_append, List.cons_append]
  gi_wp2_with (first
    | (refine ⟨trivial, ?_⟩; gi_at_call 33; refine (callsIn_wide.2 (clone_any F m d fl _ HM.out F2.out (by rw [← HM.out]; exact hml))).mono ?_; rintro e w3 ⟨⟨A1, c1, rfl, ho3⟩, hb3⟩; have B3 := Li (below_step B2.out B2.out.size hb3); have P3 := Li (P2.out.up hb3); have N3 := Li (N2.out.up hb3); have S3 := Li (S2.out.up hb3); have G3 := Li (G2.out.up hb3); have O3 := Li (owns_low ho3 (b' := w.heap.size + 1 + 1) (by simp)); obtain ⟨c0, c1'⟩ := P3.out.c2; have cf := P3.out.frozen 1; have zp := P3.out.lt; clear hb3 ho3 B2 P2 N2 F2 S2 G2)
    | (refine ⟨trivial, ?_⟩; gi_at_call 34; refine (callsIn_wide.2 (bitsOf_any A key.length ca K A1 m c1 _)).mono ?_; rintro e w' ⟨rfl, rfl⟩))
  have g4 := grown_setM w3 w.heap.size 1 (.slice A1 m c1)
  have P4 := Li (show CB (w3.setCell ⟨w.heap.size, 1, none⟩ (.slice A1 m c1)) w.heap.size 24 [.int .i64 K, .slice A1 m c1] from P3.out.set_ 1 _)
  have N4 := Li (N3.out.grown g4 (by intro h; injection h with h; omega))
  have O4 := Li (owns_kept O3.out g4 (.inr (fun e => owns_ne O3.out P3.out (by decide) e.symm)))
  have B4 := Li (below_grownM B3.out g4 B3.out.size (Nat.le_refl _))
  have S4 := Li (show Shows (w3.setCell ⟨w.heap.size, 1, none⟩ (.slice A1 m c1)) w.heap.size A key from S0.out.below B4.out)
  have G4 := Li (G0.out.up B4.out)
  have z4 : (w3.setCell ⟨w.heap.size, 1, none⟩ (.slice A1 m c1)).heap.size = w3.heap.size := by simp
  have zw : w.heap.size ≤ w3.heap.size := B3.out.size
  rw [← z4] at zw ⊢
  clear P3 N3 O3 B3 S3 G3 c0 c1' cf zp g4 z4
  generalize w3.setCell ⟨w.heap.size, 1, none⟩ (.slice A1 m c1) = w4 at *
  have P5 := Li ((P4.out.alloc (.cells #[.slice A key.length ca] 22)).alloc (.cells #[.int .i64 K, .slice A1 m c1] 24))
  have N5 := Li ((N4.out.alloc (.cells #[.slice A key.length ca] 22)).alloc (.cells #[.int .i64 K, .slice A1 m c1] 24))
  have B45 := Li (al2 w4 (.cells #[.slice A key.length ca] 22) (.cells #[.int .i64 K, .slice A1 m c1] 24))
  have O5 := Li (owns_upB O4.out B45.out)
  have B5 := Li (below_step B4.out B4.out.size B45.out)
  have S5 := Li ((S4.out.more B4.out.size).up B45.out)
  have G5 := Li (G4.out.up B45.out)
  have Q5 := Li ((CB.new w4 22 [.slice A key.length ca]).alloc (.cells #[.int .i64 K, .slice A1 m c1] 24))
  have R5 := Li (CB.new1 w4 (.cells #[.slice A key.length ca] 22) 24 [.int .i64 K, .slice A1 m c1])
  have zz : ((w4.alloc (.cells #[.slice A key.length ca] 22)).alloc (.cells #[.int .i64 K, .slice A1 m c1] 24)).heap.size = w4.heap.size + 1 + 1 := by rw [asz, asz]
  clear P4 N4 O4 B4 S4 G4 B45
  generalize (w4.alloc (.cells #[.slice A key.length ca] 22)).alloc (.cells #[.int .i64 K, .slice A1 m c1] 24) = w5 at *
  have zS : w.heap.size + 1 < w5.heap.size := N5.out.lt
  refine wpIn_rangeFunc_ownF rfl (by decide) (gf := 41) (lb := #[.pointer (some ⟨w4.heap.size + 1, 0, none⟩), .pointer (some ⟨w4.heap.size, 0, none⟩)]) rfl trivial (enters_of Tryd.func41 (by kernel_rfl) rfl)
    (bits_stops (6 - 1) (w4.heap.size + 1) w4.heap.size K A1 m c1 A ca key L HLq.out (by omega) hk w5 R5.out Q5.out S5.out G5.out) (fun _ _ => trivial) (fun _ _ _ _ _ _ _ _ => trivial) (Below.refl _ _) (fun _ => rfl)
    (fun pre W => CB W w.heap.size 24 [.int .i64 K, .slice A1 m c1] ∧ Owns W (w.heap.size + 1 + 1) (.slice A1 m c1) (addB (pre.map fun i => L[i.1]) fl) ∧ CB W (w.heap.size + 1) 24 [.int .i64 0, .slice none 0 0] ∧ (Below w.heap.size w W ∧ w5.heap.size ≤ W.heap.size))
    (fun _ _ _ => False)
    (fun pre X Y row hs hg hr => ⟨cbs_keep hs.1 hg (fun r e => (hr r e).2), owns_keep hs.2.1 hg (fun r e => (hr r e).2), cbs_keep hs.2.2.1 hg (fun r e => (hr r e).2), hs.2.2.2.1.grown hg (Nat.le_trans (by omega) hs.2.2.2.2) (fun k e => Nat.le_trans (by omega) (hr k e).1), Nat.le_trans hs.2.2.2.2 hg.size⟩)
    (fun _ _ _ _ _ hs _ _ => hs)
    ⟨P5.out, O5.out, N5.out, B5.out, Nat.le_refl _⟩
    (fun x => { tmps := #[.agg #[.int .i64 K, .slice F m d], .slice A key.length ca, .pointer (some ⟨w.heap.size, 0, none⟩), undef, .pointer (some ⟨w.heap.size + 1, 0, none⟩), .int .i64 (L[x.1] : Nat), .pointer (some ⟨w.heap.size, 1, none⟩), .slice F m d, .slice A1 m c1, .pointer (some ⟨w.heap.size, 1, none⟩), .slice A key.length ca, .agg #[.int .i64 K, .slice A1 m c1], .func (.func 41) #[] #[.pointer (some ⟨w4.heap.size + 1, 0, none⟩), .pointer (some ⟨w4.heap.size, 0, none⟩)], .int .i64 (L[x.1] : Nat), undef, undef, undef, undef, undef, undef, undef, undef, undef, undef, undef, undef], defers := [] })
    ?assign ?body ?done ?stop
  case assign =>
    intro l x W K' hK
    simp only [encB]
    gi_wp2
    simpa using hK
  case body =>
    rintro l pre x W ⟨hP, hO, hN, hB, hz⟩ hlt
    obtain ⟨ps, hps⟩ : ∃ ps, pre.map (fun i : Fin L.length => L[i.1]) = ps := ⟨_, rfl⟩
    have HPS := Li hps
    rw [hps] at hO
    have hjm := HX.out x
    obtain ⟨j, hj⟩ : ∃ j, L[x.1] = j := ⟨_, rfl⟩
    have HJ := Li hj
    rw [hj] at hjm ⊢
    obtain ⟨u, hu⟩ : ∃ u, j / 8 = u := ⟨_, rfl⟩
    obtain ⟨v, hv⟩ : ∃ v, j % 8 = v := ⟨_, rfl⟩
    have hum : u < m := by omega
    have hv8 : v < 8 := by omega
    have q1 : (j : Int) / 8 = (u : Int) := by omega
    have q2 : (j : Int) % 8 = (v : Int) := by omega
    have i1 : (u : Int) < (m : Int) := by omega
    have i0 : (0 : Int) ≤ (u : Int) := by omega
    have q3 : (j : Int).tmod 8 = (v : Int) := by rw [Int.tmod_eq_emod_of_nonneg (by omega)]; omega
    have q4 : IntKind.i64.wrap (u : Int) = (u : Int) := by rw [IntKind.wrap_i64]; omega
    have q5 : (0 : Int) ≤ (v : Int) := by omega
    have hml2 : m = (addB ps fl).length := by rw [addB_len]; exact HM.out
    obtain ⟨g, rfl⟩ : ∃ g, A1 = some ⟨g, 0, none⟩ := by
      rcases hO.shape with ⟨e, h0⟩ | ⟨g, cap, e, _⟩
      · rw [h0] at hml2; simp at hml2; omega
      · injection e with e _ _; exact ⟨g, e⟩
    obtain ⟨c, hcu⟩ := getL_of (l := addB ps fl) (k := u) (by rw [← hml2]; exact hum)
    obtain ⟨e1, ef⟩ := owns_cell hO hml2 hcu
    obtain ⟨p0, p1⟩ := hP.c2
    have zp := hP.lt
    have HPut := Li (show putB (addB ps fl) j = (addB ps fl).set u (c ||| bit8 v) from by
      unfold putB
      rw [hu, hv, List.getD_eq_getElem?_getD, hcu]
      rfl)
    have HSet := Li (owns_set hO hml2 u (c ||| bit8 v))
    have hne : w.heap.size ≠ g := by
      have := owns_ne hO hP (by decide)
      intro h
      subst h
      exact this rfl
    have hne1 : w.heap.size + 1 ≠ g := by
      have := owns_ne hO hN (by decide)
      intro h
      subst h
      exact this rfl
    have hgb : w.heap.size + 1 + 1 ≤ g := by
      have := (World.ownsRow.lt hO g rfl).1
      exact this
    have gg := Li (grown_setM W g u (.int .u8 ((c ||| bit8 v).toNat : Int)))
    have HP := Li hP
    have HN := Li hN
    have HB := Li hB
    have HZ := Li hz
    have HO := Li hO
    clear hP hO hN hB hz hps hj hu hv hcu hml2
    gi_wp2
    refine wpIn_region_round (by kernel_rfl) (by kernel_rfl) ?_
    refine itk (v := ?_) 0 rfl rfl (by kernel_rfl) (by kernel_rfl) (by kernel_rfl) (fun _ _ _ h => h) rfl (fun _ => rfl) ?_ ?_
    rotate_left
    · intro w9
      go_simp
      try with_reducible rfl
    try simp only [pnz]
    refine itk (v := ?_) 2 rfl rfl (by kernel_rfl) (by kernel_rfl) (by kernel_rfl) (fun _ _ _ h => h) rfl (fun _ => rfl) ?_ ?_
    rotate_left
    · intro w9
      go_simp
      try with_reducible rfl
    try simp only [pnz]
    refine itk (v := ?_) 3 rfl rfl (by kernel_rfl) (by kernel_rfl) (by kernel_rfl) (fun _ _ _ h => h) rfl (fun _ => rfl) ?_ ?_
    rotate_left
    · intro w9
      go_simp
      try with_reducible rfl
    try simp only [pnz]
    refine itk (v := ?_) 6 rfl rfl (by kernel_rfl) (by kernel_rfl) (by kernel_rfl) (fun _ _ _ h => h) rfl (fun _ => rfl) ?_ ?_
    rotate_left
    · intro w9
      go_simp
      try with_reducible rfl
    try simp only [pnz]
    refine itk (v := ?_) 7 rfl rfl (by kernel_rfl) (by kernel_rfl) (by kernel_rfl) (fun _ _ _ h => h) rfl (fun _ => rfl) ?_ ?_
    rotate_left
    · intro w9
      go_simp
      try with_reducible rfl
    try simp only [pnz]
    refine itk (v := ?_) 8 rfl rfl (by kernel_rfl) (by kernel_rfl) (by kernel_rfl) (fun _ _ _ h => h) rfl (fun _ => rfl) ?_ ?_
    rotate_left
    · intro w9
      go_simp
      try with_reducible rfl
    try simp only [pnz]
    refine wpAnyIn_ready (rs := [1]) (by kernel_rfl) (by simp) ?_
    refine AllReadyIn.cons rfl (fun KK hK => ?_) AllReadyIn.nil
    go_simp
    refine hK _ _ ?_
    clear hK KK
    try simp only [pnz]
    refine itk (v := ?_) 4 rfl rfl (by kernel_rfl) (by kernel_rfl) (by kernel_rfl) (fun _ _ _ h => h) rfl (fun _ => rfl) ?_ ?_
    rotate_left
    · intro w9
      go_simp
      try with_reducible rfl
    try simp only [pnz]
    refine wpAnyIn_ready (rs := [5]) (by kernel_rfl) (by simp) ?_
    refine AllReadyIn.cons rfl (fun KK hK => ?_) AllReadyIn.nil
    go_simp
    refine hK _ _ ?_
    clear hK KK
    try simp only [pnz]
    refine itk (v := ?_) 9 rfl rfl (by kernel_rfl) (by kernel_rfl) (by kernel_rfl) (fun _ _ _ h => h) rfl (fun _ => rfl) ?_ ?_
    rotate_left
    · intro w9
      go_simp
      try with_reducible rfl
    try simp only [pnz]
    refine itk (v := ?_) 10 rfl rfl (by kernel_rfl) (by kernel_rfl) (by kernel_rfl) (fun _ _ _ h => h) rfl (fun _ => rfl) ?_ ?_
    rotate_left
    · intro w9
      go_simp
      try with_reducible rfl
    try simp only [pnz]
    refine wpAnyIn_ready (rs := [11]) (by kernel_rfl) (by simp) ?_
    refine AllReadyIn.cons rfl (fun KK hK => ?_) AllReadyIn.nil
    go_simp
    refine hK _ _ ?_
    clear hK KK
    try simp only [pnz]
    refine wpAnyIn_done (by kernel_rfl) ?_ _
    rw [or_put c hv8]
    gi_wp2
    refine ⟨(KeepsOthers.setCell _ _ _).trans (KeepsOthers.drew _), trivial, CB.dr (HP.out.grown gg.out (by intro h; injection h with h; exact hne h)), ?_, CB.dr (HN.out.grown gg.out (by intro h; injection h with h; exact hne1 h)), (below_grownM HB.out gg.out HB.out.size (by omega)).drew, Nat.le_trans HZ.out gg.out.size⟩
    rw [List.map_append, HPS.out, List.map_cons, List.map_nil, HJ.out, addB_snoc, HPut.out]
    exact HSet.out
  case done =>
    rintro D ys W hD rfl ⟨hP, hO, hN, hB, hz⟩ hK
    rw [map_fin] at hO
    obtain ⟨p0, p1⟩ := hP.c2
    have zp := hP.lt
    obtain ⟨n0, n1⟩ := hN.c2
    have nf0 := hN.frozen 0
    have nf1 := hN.frozen 1
    have zn := hN.lt
    have HP := Li hP
    have HO := Li hO
    have HN := Li hN
    have HB := Li hB
    have HK := Li hK
    have HD := Li hD
    clear hP hO hN hB hK hD
    gi_wp2
    have g1 := grown_setM W (w.heap.size + 1) 0 (.int .i64 K)
    have g2 := grown_setM (W.setCell ⟨w.heap.size + 1, 0, none⟩ (.int .i64 K)) (w.heap.size + 1) 1 (.slice A1 m c1)
    have hneO : (Value.slice A1 m c1).ownBlock ≠ some (w.heap.size + 1) := fun e => owns_ne HO.out HN.out (by decide) e.symm
    have N2 : CB ((W.setCell ⟨w.heap.size + 1, 0, none⟩ (.int .i64 K)).setCell ⟨w.heap.size + 1, 1, none⟩ (.slice A1 m c1)) (w.heap.size + 1) 24 [.int .i64 K, .slice A1 m c1] := (HN.out.set_ 0 (.int .i64 K)).set_ 1 (.slice A1 m c1)
    have O2 := owns_kept (owns_kept HO.out g1 (.inr hneO)) g2 (.inr hneO)
    have B2 := below_grownM (below_grownM HB.out g1 HB.out.size (by omega)) g2 (by have := HB.out.size; simpa [World.setCell] using this) (by omega)
    have hK9 := ((KeepsOthers.setCell W ⟨w.heap.size + 1, 0, none⟩ (.int .i64 K)).trans (KeepsOthers.setCell _ ⟨w.heap.size + 1, 1, none⟩ (.slice A1 m c1))).same D _ HK.out rfl
    generalize (W.setCell ⟨w.heap.size + 1, 0, none⟩ (.int .i64 K)).setCell ⟨w.heap.size + 1, 1, none⟩ (.slice A1 m c1) = W2 at *
    obtain ⟨T0, T1⟩ := (cbs_keep N2 (grownBy_putObj' _ D (.deferred none)) (fun r e => by cases e; exact ⟨_, hK9, rfl⟩)).c2
    refine ⟨by simp, .inl ⟨_, _, rfl, run_takeDeferred hK9, ?_⟩⟩
    refine ⟨.agg #[.int .i64 K, .slice A1 m c1], ?_, ⟨A1, c1, rfl, ?_⟩, B2.trans (belowK_b (w := w) (Nat.le_refl _) _ D _ _ (by have := HD.out; have := HB.out.size; omega) hK9 rfl rfl)⟩
    · simp [results, Tryd.results16, go_sem, T0, T1]
    · exact owns_low (owns_keep O2 (grownBy_putObj' _ D (.deferred none)) (fun r e => by cases e; exact ⟨_, hK9, rfl⟩)) (by omega)
  case stop =>
    rintro D c pre W _ _ h _
    exact h.elim
end Go.Proofs.YtmdokldbggingaaDoor
