/-
  The program's Find, Leaves, Valid, by contracts.
-/
import Derived.Test.YtpgbpfdedpppeaaPathP
namespace Go.Proofs.Ytpgbpfdedpppeaa
open Go.RowKit

/-- the first field whose path is p -/
def findGo (q : Fd → ByteArray) (p : ByteArray) : List Fd → Option Int
  | [] => none
  | f :: r => if sameB (q f) p then some f.id else findGo q p r
def leafL (l : List Fd) : List Int := (l.filter fun f => !(f.ty == 6)).map (·.id)
def ic (l : List Int) : List (List Value) := l.map fun i => [Value.int .i64 i]
theorem infoI : (Try.prog.info? 3).map (fun i => (i.zero, i.size, i.bytes)) = some (some (.int .i64 0), 1, 8) := by kernel_rfl
theorem ic_snoc (l : List Int) (i : Int) : ic (l ++ [i]) = ic l ++ [[Value.int .i64 i]] := by simp [ic]
theorem ic_len (l : List Int) : (ic l).length = l.length := by simp [ic]
theorem push_int {w wr : World} {ops : Array Oper} {rest : List Oper} {o : Oper} {a : Act} {Q : Exit → Act → World → Prop} (hgd : o.guard = none) (d x : Operand)
    (ho : o.op = .call { callee := .builtin .append, args := #[d, x], argTypes := #[38, 38] }) (base : Nat) (v : Value) (acc : List Int) (i : Int) (N : Nat) (hs : a.eval d = v) (hx : a.eval x = .slice (some ⟨N, 0, none⟩) 1 1)
    (hN : N = wr.heap.size) (hw : w = wr.alloc (.cells #[.int .i64 i] 3)) (hr : Own 3 1 wr base v (ic acc)) (hroom : acc.length ≤ 1000000) (hbase : base ≤ wr.heap.size)
    (hK : ∀ A' c' w', Own 3 1 w' base (.slice A' (acc.length + 1) c') (ic (acc ++ [i])) → wr.grownBy w' v.ownBlock → Below base wr w' → wpList Try.prog ops Q rest (a.put o.dst (.slice A' (acc.length + 1) c')) w') : wpList Try.prog ops Q (o :: rest) a w := by
  refine wpList_push hgd d x ho Try.underlying38 infoI rfl (by decide) base v (ic acc) [.int .i64 i] N hs hx hN hw hr rfl (by intro u hu; simp at hu; subst hu; rfl) (by rw [ic_len]; omega) (by decide) hbase ?_
  intro A' c' w' h1 h2 h3
  have e : (ic acc ++ [[Value.int .i64 i]]).length = acc.length + 1 := by simp [ic]
  rw [e] at h1 ⊢
  exact hK A' c' w' (by rw [ic_snoc]; exact h1) h2 h3

set_option maxHeartbeats 1000000 in
set_option maxRecDepth 20000 in
theorem Find_any (A : Option Addr) (n c : Nat) (x : Int) (l : List Fd) (p : ByteArray) (w : World) (hn : n = l.length) (hs : Fds w w.heap.size A l) (hl : n ≤ 9223372036854775807) (hsz : ∀ f ∈ l, f.nm.size ≤ 1000000) :
    Calls Try.prog 21 #[.agg #[.slice A n c, .int .i64 x], .string p] w fun e w' => e = .returned (.tuple #[.int .i64 ((findGo (fun f => pathOf l f.id) p l).getD 0), .bool (findGo (fun f => pathOf l f.id) p l).isSome]) ∧ Below w.heap.size w w' := by
  have HN := Lib.hid hn
  have HS := Lib.hid hs
  have HM := Lib.hid hsz
  clear hn hs hsz
  go_enter Try.func21, Try.ntmps21
  go_wp2
  go_loopw [11] (fun j wr => ∃ k : Nat, k ≤ n ∧ j = .int .i64 k ∧ Hid (CB wr w.heap.size 30 [.slice A n c, .int .i64 x]) ∧ Hid (Below w.heap.size w wr) ∧ Hid (findGo (fun f => pathOf l f.id) p (l.drop k) = findGo (fun f => pathOf l f.id) p l)) (fun j _ => n - (intOf j).toNat)
  case atStart => exact ⟨0, by omega, rfl, CB.new _ _ _, al1 _ _, rfl⟩
  case round =>
    obtain ⟨k, hk, rfl, hcb, hbel, hgo⟩ := hrel
    have hz := hcb.out.lt
    by_cases hlt : k < n
    · have i1 : (k : Int) < (n : Int) := by omega
      obtain ⟨f, hf⟩ := getD_of (l := l) (k := k) (by rw [← HN.out]; exact hlt)
      obtain ⟨b, off, rfl, hb, c0, c1, c2, c3⟩ := (HS.out.below hbel.out).one hf
      have hd := Lib.hid (drop_cons hf)
      have d0 := hcb.out.cell 0 rfl
      have d1 := hcb.out.cell 1 rfl
      have HS2 := Lib.hid ((HS.out.below (hbel.out.alloc (by omega) (.cells #[.int .i64 f.id, .string f.nm, .int .i64 f.ty, .int .i64 f.pa] 41))).more (show w.heap.size ≤ (wr.alloc (.cells #[.int .i64 f.id, .string f.nm, .int .i64 f.ty, .int .i64 f.pa] 41)).heap.size by rw [asz]; omega))
      clear hf
      cases hq : sameB (pathOf l f.id) p with
      | true =>
        have q1 : ((pathOf l f.id).toList == p.toList) = true := hq
        have HE := Lib.hid (show findGo (fun f => pathOf l f.id) p l = some f.id by rw [← hgo.out, hd.out, findGo, if_pos hq])
        clear hq
        obtain ⟨pp, hpp⟩ : ∃ pp, pathOf l f.id = pp := ⟨_, rfl⟩
        rw [hpp] at q1
        have HP := Lib.hid hpp
        clear hpp
        go_wp2_with (go_at_call 24; refine (Path_any _ n c x l f.id _ HN.out HS2.out hl HM.out).mono ?_; rintro e w5 ⟨rfl, hb5⟩; rw [HP.out]; have HB5 := Lib.hid hb5; have hcc := (bcell hb5).1 wr.heap.size 0 (by rw [asz]; omega); clear hb5)
        go_ret2
        refine ⟨by rw [HE.out]; rfl, below_step (hbel.out.alloc (by omega) _) (by rw [asz]; omega) HB5.out⟩
      | false =>
        have q1 : ((pathOf l f.id).toList == p.toList) = false := hq
        have HE := Lib.hid (show findGo (fun f => pathOf l f.id) p (l.drop (k + 1)) = findGo (fun f => pathOf l f.id) p l by rw [← hgo.out, hd.out, findGo, hq]; rfl)
        clear hq
        obtain ⟨pp, hpp⟩ : ∃ pp, pathOf l f.id = pp := ⟨_, rfl⟩
        rw [hpp] at q1
        have HP := Lib.hid hpp
        clear hpp
        go_wp2_with (go_at_call 24; refine (Path_any _ n c x l f.id _ HN.out HS2.out hl HM.out).mono ?_; rintro e w5 ⟨rfl, hb5⟩; rw [HP.out]; have HB5 := Lib.hid hb5; clear hb5)
        go_roundw
        case rel => exact ⟨k + 1, by omega, by go_num, (hcb.out.alloc _).up HB5.out, below_step (hbel.out.alloc (by omega) _) (by rw [asz]; omega) HB5.out, HE.out⟩
        case measure => simp [intOf]; omega
    · have i1 : ¬ (k : Int) < (n : Int) := by omega
      have HE := Lib.hid (show findGo (fun f => pathOf l f.id) p l = none by rw [← hgo.out, List.drop_of_length_le (by rw [← HN.out]; omega), findGo])
      go_wp2
      go_ret2
      exact ⟨by rw [HE.out]; rfl, hbel.out⟩

theorem leaf_yes {l : List Fd} {k : Nat} {f : Fd} (h : l.take (k + 1) = l.take k ++ [f]) (ht : f.ty = 6) : leafL (l.take (k + 1)) = leafL (l.take k) := by
  unfold leafL
  rw [h, List.filter_append]
  simp [ht]
theorem leaf_no {l : List Fd} {k : Nat} {f : Fd} (h : l.take (k + 1) = l.take k ++ [f]) (ht : ¬ f.ty = 6) : leafL (l.take (k + 1)) = leafL (l.take k) ++ [f.id] := by
  unfold leafL
  rw [h, List.filter_append]
  simp [ht]
theorem leaf_len (l : List Fd) : (leafL l).length ≤ l.length := by
  unfold leafL
  rw [List.length_map]
  exact List.length_filter_le _ _

set_option maxHeartbeats 1000000 in
set_option maxRecDepth 20000 in
theorem Leaves_any (A : Option Addr) (n c : Nat) (x : Int) (l : List Fd) (w : World) (hn : n = l.length) (hs : Fds w w.heap.size A l) (hl : n ≤ 1000000) :
    Calls Try.prog 17 #[.agg #[.slice A n c, .int .i64 x]] w fun e w' => (∃ A' c', e = .returned (.slice A' (leafL l).length c') ∧ Own 3 1 w' w.heap.size (.slice A' (leafL l).length c') (ic (leafL l))) ∧ Below w.heap.size w w' := by
  have HN := Lib.hid hn
  have HS := Lib.hid hs
  clear hn hs
  go_enter Try.func17, Try.ntmps17
  go_wp2
  go_loopw [3, 9] (fun v j wr => ∃ k : Nat, k ≤ n ∧ j = .int .i64 k ∧ Hid (Own 3 1 wr w.heap.size v (ic (leafL (l.take k)))) ∧ Hid (Below w.heap.size w wr) ∧ Hid (w.heap.size ≤ wr.heap.size)) (fun _ j _ => n - (intOf j).toNat)
  case atStart => exact ⟨0, by omega, rfl, Own.nil _ _ _ _, al1 _ _, by show _ ≤ _; rw [asz]; omega⟩
  case round =>
    obtain ⟨k, hk, rfl, hown, hbel, hsz⟩ := hrel
    have hz := hsz.out
    obtain ⟨A3, c3', hv3, hlc, hc3⟩ := hown.out.slice
    rw [ic_len] at hv3 hlc
    by_cases hlt : k < n
    · have i1 : (k : Int) < (n : Int) := by omega
      obtain ⟨f, hf⟩ := getD_of (l := l) (k := k) (by rw [← HN.out]; exact hlt)
      obtain ⟨b, off, rfl, hb, c0, c1, c2, c3⟩ := (HS.out.below hbel.out).one hf
      have ht := Lib.hid (take_snoc hf)
      have hll : (leafL (l.take k)).length ≤ 1000000 := by have := leaf_len (l.take k); simp at this; omega
      clear hf
      by_cases hy : f.ty = 6
      · have y1 : (f.ty == 6) = true := by simpa using hy
        have y2 : (f.ty != 6) = false := by simpa using hy
        have HE := Lib.hid (leaf_yes ht.out hy)
        clear hy
        go_wp2
        go_roundw
        case rel => exact ⟨k + 1, by omega, by go_num, by rw [HE.out]; exact hown.out.alloc _, hbel.out.alloc hz _, by show _ ≤ _; rw [asz]; omega⟩
        case measure => simp [intOf]; omega
      · have y1 : (f.ty == 6) = false := by simpa using hy
        have y2 : (f.ty != 6) = true := by simpa using hy
        have HE := Lib.hid (leaf_no ht.out hy)
        have HV := Lib.hid hv3
        clear hy hv3
        go_wp2_with (at_builtin; refine push_int (wr := wr.alloc (.cells #[.int .i64 f.id, .string f.nm, .int .i64 f.ty, .int .i64 f.pa] 41)) rfl (.tmp 16) (.tmp 19) rfl w.heap.size _ (leafL (l.take k)) f.id (wr.heap.size + 1) rfl rfl (asz _ _).symm rfl (hown.out.alloc _) hll (by rw [asz]; omega) ?_; intro A7 c7 w7 ho7 hg7 hb7; have HO7 := Lib.hid ho7; have HB7 := Lib.hid hb7; have HZ7 := Lib.hid hg7.size; clear ho7 hb7 hg7)
        go_roundw
        case rel => exact ⟨k + 1, by omega, by go_num, by rw [HE.out]; exact HO7.out, (hbel.out.alloc hz _).trans HB7.out, by show _ ≤ _; have := HZ7.out; rw [asz] at this; omega⟩
        case measure => simp [intOf]; omega
    · have i1 : ¬ (k : Int) < (n : Int) := by omega
      have e : l.take k = l := List.take_of_length_le (by rw [← HN.out]; omega)
      rw [e] at hv3 hown hlc
      subst hv3
      go_wp2
      go_ret
      exact ⟨⟨_, _, rfl, hown.out⟩, hbel.out⟩

/-- whether a schema is valid, as the program looks -/
def vldP (s : Sc) : Bool := decide (s.fs.length ≤ 64 ∧ s.next ≤ 1073741824) && numGo s.next 0 s.fs && typsB s.fs && plcsB s.fs && namGo [] s.fs
theorem Fds.up1 {w : World} {A : Option Addr} {l : List Fd} (h : Fds w w.heap.size A l) {w' : World} (hb : Below w.heap.size w w') : Fds w' w'.heap.size A l := h.up hb
set_option maxHeartbeats 1000000 in
set_option maxRecDepth 20000 in
theorem Valid_sc (A : Option Addr) (n c : Nat) (x : Int) (l : List Fd) (w : World) (hn : n = l.length) (hc : n ≤ c) (hs : Fds w w.heap.size A l) (hl : c ≤ 9223372036854775807) (hsz : ∀ f ∈ l, f.nm.size ≤ 9223372036854775807) :
    Calls Try.prog 29 #[.agg #[.slice A n c, .int .i64 x]] w fun e w' => e = .returned (.bool (vldP ⟨l, x⟩)) ∧ Below w.heap.size w w' := by
  have HN := Lib.hid hn
  have HS := Lib.hid hs
  have HM := Lib.hid hsz
  have hn2 : n ≤ 9223372036854775807 := by omega
  clear hn hs hsz
  obtain ⟨z1, h1⟩ : ∃ z, decide (n ≤ 64 ∧ x ≤ 1073741824) = z := ⟨_, rfl⟩
  obtain ⟨z2, h2⟩ : ∃ z, numGo x 0 l = z := ⟨_, rfl⟩
  obtain ⟨z3, h3⟩ : ∃ z, typsB l = z := ⟨_, rfl⟩
  obtain ⟨z4, h4⟩ : ∃ z, plcsB l = z := ⟨_, rfl⟩
  obtain ⟨z5, h5⟩ : ∃ z, namGo [] l = z := ⟨_, rfl⟩
  have HE : Hid (vldP ⟨l, x⟩ = (z1 && z2 && z3 && z4 && z5)) := by show _ = _; unfold vldP; simp only; rw [← HN.out, h1, h2, h3, h4, h5]
  have H1 := Lib.hid h1
  have H2 := Lib.hid h2
  have H3 := Lib.hid h3
  have H4 := Lib.hid h4
  have H5 := Lib.hid h5
  clear h1 h2 h3 h4 h5
  cases z1 with
  | false =>
    go_enter Try.func29, Try.ntmps29
    go_wp2_with (first | (go_at_call 35; refine (limited_any _ n c x false _ H1.out hn2).mono ?_; rintro e w1 ⟨rfl, hb1⟩; have HB1 := Lib.hid ((al1 w _).trans (hb1.mono (by rw [asz]; omega))); have d0 := ((CB.new w 30 [.slice A n c, .int .i64 x]).up hb1).cell 0 rfl; have d1 := ((CB.new w 30 [.slice A n c, .int .i64 x]).up hb1).cell 1 rfl; have HC1 := Lib.hid ((CB.new w 30 [.slice A n c, .int .i64 x]).up hb1); clear hb1) | (go_at_call 52; refine (numbered_any _ n c x l _ HN.out (HS.out.up HB1.out) hn2).mono ?_; rintro e w2 ⟨rfl, hb2⟩; rw [H2.out]; have HB2 := Lib.hid (below_step HB1.out HB1.out.size hb2); have d0 := (HC1.out.up hb2).cell 0 rfl; have d1 := (HC1.out.up hb2).cell 1 rfl; have HC2 := Lib.hid (HC1.out.up hb2); clear hb2) | (go_at_call 53; refine (typed_any _ n c l _ HN.out (HS.out.up HB2.out) hn2).mono ?_; rintro e w3 ⟨rfl, hb3⟩; rw [H3.out]; have HB3 := Lib.hid (below_step HB2.out HB2.out.size hb3); have d0 := (HC2.out.up hb3).cell 0 rfl; have d1 := (HC2.out.up hb3).cell 1 rfl; have HC3 := Lib.hid (HC2.out.up hb3); clear hb3) | (go_at_call 33; refine (placed_any _ n c l _ HN.out (HS.out.up HB3.out) hn2).mono ?_; rintro e w4 ⟨rfl, hb4⟩; rw [H4.out]; have HB4 := Lib.hid (below_step HB3.out HB3.out.size hb4); have d0 := (HC3.out.up hb4).cell 0 rfl; clear hb4) | (go_at_call 34; refine (named_any _ n c l _ HN.out hc (HS.out.up HB4.out) hl HM.out).mono ?_; rintro e w5 ⟨rfl, hb5⟩; rw [H5.out]; have HB5 := Lib.hid (below_step HB4.out HB4.out.size hb5); clear hb5))
    go_ret
    exact ⟨by rw [HE.out]; rfl, HB1.out⟩
  | true =>
    cases z2 with
    | false =>
      go_enter Try.func29, Try.ntmps29
      go_wp2_with (first | (go_at_call 35; refine (limited_any _ n c x true _ H1.out hn2).mono ?_; rintro e w1 ⟨rfl, hb1⟩; have HB1 := Lib.hid ((al1 w _).trans (hb1.mono (by rw [asz]; omega))); have d0 := ((CB.new w 30 [.slice A n c, .int .i64 x]).up hb1).cell 0 rfl; have d1 := ((CB.new w 30 [.slice A n c, .int .i64 x]).up hb1).cell 1 rfl; have HC1 := Lib.hid ((CB.new w 30 [.slice A n c, .int .i64 x]).up hb1); clear hb1) | (go_at_call 52; refine (numbered_any _ n c x l _ HN.out (HS.out.up HB1.out) hn2).mono ?_; rintro e w2 ⟨rfl, hb2⟩; rw [H2.out]; have HB2 := Lib.hid (below_step HB1.out HB1.out.size hb2); have d0 := (HC1.out.up hb2).cell 0 rfl; have d1 := (HC1.out.up hb2).cell 1 rfl; have HC2 := Lib.hid (HC1.out.up hb2); clear hb2) | (go_at_call 53; refine (typed_any _ n c l _ HN.out (HS.out.up HB2.out) hn2).mono ?_; rintro e w3 ⟨rfl, hb3⟩; rw [H3.out]; have HB3 := Lib.hid (below_step HB2.out HB2.out.size hb3); have d0 := (HC2.out.up hb3).cell 0 rfl; have d1 := (HC2.out.up hb3).cell 1 rfl; have HC3 := Lib.hid (HC2.out.up hb3); clear hb3) | (go_at_call 33; refine (placed_any _ n c l _ HN.out (HS.out.up HB3.out) hn2).mono ?_; rintro e w4 ⟨rfl, hb4⟩; rw [H4.out]; have HB4 := Lib.hid (below_step HB3.out HB3.out.size hb4); have d0 := (HC3.out.up hb4).cell 0 rfl; clear hb4) | (go_at_call 34; refine (named_any _ n c l _ HN.out hc (HS.out.up HB4.out) hl HM.out).mono ?_; rintro e w5 ⟨rfl, hb5⟩; rw [H5.out]; have HB5 := Lib.hid (below_step HB4.out HB4.out.size hb5); clear hb5))
      go_ret
      exact ⟨by rw [HE.out]; rfl, HB2.out⟩
    | true =>
      cases z3 with
      | false =>
        go_enter Try.func29, Try.ntmps29
        go_wp2_with (first | (go_at_call 35; refine (limited_any _ n c x true _ H1.out hn2).mono ?_; rintro e w1 ⟨rfl, hb1⟩; have HB1 := Lib.hid ((al1 w _).trans (hb1.mono (by rw [asz]; omega))); have d0 := ((CB.new w 30 [.slice A n c, .int .i64 x]).up hb1).cell 0 rfl; have d1 := ((CB.new w 30 [.slice A n c, .int .i64 x]).up hb1).cell 1 rfl; have HC1 := Lib.hid ((CB.new w 30 [.slice A n c, .int .i64 x]).up hb1); clear hb1) | (go_at_call 52; refine (numbered_any _ n c x l _ HN.out (HS.out.up HB1.out) hn2).mono ?_; rintro e w2 ⟨rfl, hb2⟩; rw [H2.out]; have HB2 := Lib.hid (below_step HB1.out HB1.out.size hb2); have d0 := (HC1.out.up hb2).cell 0 rfl; have d1 := (HC1.out.up hb2).cell 1 rfl; have HC2 := Lib.hid (HC1.out.up hb2); clear hb2) | (go_at_call 53; refine (typed_any _ n c l _ HN.out (HS.out.up HB2.out) hn2).mono ?_; rintro e w3 ⟨rfl, hb3⟩; rw [H3.out]; have HB3 := Lib.hid (below_step HB2.out HB2.out.size hb3); have d0 := (HC2.out.up hb3).cell 0 rfl; have d1 := (HC2.out.up hb3).cell 1 rfl; have HC3 := Lib.hid (HC2.out.up hb3); clear hb3) | (go_at_call 33; refine (placed_any _ n c l _ HN.out (HS.out.up HB3.out) hn2).mono ?_; rintro e w4 ⟨rfl, hb4⟩; rw [H4.out]; have HB4 := Lib.hid (below_step HB3.out HB3.out.size hb4); have d0 := (HC3.out.up hb4).cell 0 rfl; clear hb4) | (go_at_call 34; refine (named_any _ n c l _ HN.out hc (HS.out.up HB4.out) hl HM.out).mono ?_; rintro e w5 ⟨rfl, hb5⟩; rw [H5.out]; have HB5 := Lib.hid (below_step HB4.out HB4.out.size hb5); clear hb5))
        go_ret
        exact ⟨by rw [HE.out]; rfl, HB3.out⟩
      | true =>
        cases z4 with
        | false =>
          go_enter Try.func29, Try.ntmps29
          go_wp2_with (first | (go_at_call 35; refine (limited_any _ n c x true _ H1.out hn2).mono ?_; rintro e w1 ⟨rfl, hb1⟩; have HB1 := Lib.hid ((al1 w _).trans (hb1.mono (by rw [asz]; omega))); have d0 := ((CB.new w 30 [.slice A n c, .int .i64 x]).up hb1).cell 0 rfl; have d1 := ((CB.new w 30 [.slice A n c, .int .i64 x]).up hb1).cell 1 rfl; have HC1 := Lib.hid ((CB.new w 30 [.slice A n c, .int .i64 x]).up hb1); clear hb1) | (go_at_call 52; refine (numbered_any _ n c x l _ HN.out (HS.out.up HB1.out) hn2).mono ?_; rintro e w2 ⟨rfl, hb2⟩; rw [H2.out]; have HB2 := Lib.hid (below_step HB1.out HB1.out.size hb2); have d0 := (HC1.out.up hb2).cell 0 rfl; have d1 := (HC1.out.up hb2).cell 1 rfl; have HC2 := Lib.hid (HC1.out.up hb2); clear hb2) | (go_at_call 53; refine (typed_any _ n c l _ HN.out (HS.out.up HB2.out) hn2).mono ?_; rintro e w3 ⟨rfl, hb3⟩; rw [H3.out]; have HB3 := Lib.hid (below_step HB2.out HB2.out.size hb3); have d0 := (HC2.out.up hb3).cell 0 rfl; have d1 := (HC2.out.up hb3).cell 1 rfl; have HC3 := Lib.hid (HC2.out.up hb3); clear hb3) | (go_at_call 33; refine (placed_any _ n c l _ HN.out (HS.out.up HB3.out) hn2).mono ?_; rintro e w4 ⟨rfl, hb4⟩; rw [H4.out]; have HB4 := Lib.hid (below_step HB3.out HB3.out.size hb4); have d0 := (HC3.out.up hb4).cell 0 rfl; clear hb4) | (go_at_call 34; refine (named_any _ n c l _ HN.out hc (HS.out.up HB4.out) hl HM.out).mono ?_; rintro e w5 ⟨rfl, hb5⟩; rw [H5.out]; have HB5 := Lib.hid (below_step HB4.out HB4.out.size hb5); clear hb5))
          go_ret
          exact ⟨by rw [HE.out]; rfl, HB4.out⟩
        | true =>
          cases z5 with
          | false =>
            go_enter Try.func29, Try.ntmps29
            go_wp2_with (first | (go_at_call 35; refine (limited_any _ n c x true _ H1.out hn2).mono ?_; rintro e w1 ⟨rfl, hb1⟩; have HB1 := Lib.hid ((al1 w _).trans (hb1.mono (by rw [asz]; omega))); have d0 := ((CB.new w 30 [.slice A n c, .int .i64 x]).up hb1).cell 0 rfl; have d1 := ((CB.new w 30 [.slice A n c, .int .i64 x]).up hb1).cell 1 rfl; have HC1 := Lib.hid ((CB.new w 30 [.slice A n c, .int .i64 x]).up hb1); clear hb1) | (go_at_call 52; refine (numbered_any _ n c x l _ HN.out (HS.out.up HB1.out) hn2).mono ?_; rintro e w2 ⟨rfl, hb2⟩; rw [H2.out]; have HB2 := Lib.hid (below_step HB1.out HB1.out.size hb2); have d0 := (HC1.out.up hb2).cell 0 rfl; have d1 := (HC1.out.up hb2).cell 1 rfl; have HC2 := Lib.hid (HC1.out.up hb2); clear hb2) | (go_at_call 53; refine (typed_any _ n c l _ HN.out (HS.out.up HB2.out) hn2).mono ?_; rintro e w3 ⟨rfl, hb3⟩; rw [H3.out]; have HB3 := Lib.hid (below_step HB2.out HB2.out.size hb3); have d0 := (HC2.out.up hb3).cell 0 rfl; have d1 := (HC2.out.up hb3).cell 1 rfl; have HC3 := Lib.hid (HC2.out.up hb3); clear hb3) | (go_at_call 33; refine (placed_any _ n c l _ HN.out (HS.out.up HB3.out) hn2).mono ?_; rintro e w4 ⟨rfl, hb4⟩; rw [H4.out]; have HB4 := Lib.hid (below_step HB3.out HB3.out.size hb4); have d0 := (HC3.out.up hb4).cell 0 rfl; clear hb4) | (go_at_call 34; refine (named_any _ n c l _ HN.out hc (HS.out.up HB4.out) hl HM.out).mono ?_; rintro e w5 ⟨rfl, hb5⟩; rw [H5.out]; have HB5 := Lib.hid (below_step HB4.out HB4.out.size hb5); clear hb5))
            go_ret
            exact ⟨by rw [HE.out]; rfl, HB5.out⟩
          | true =>
            go_enter Try.func29, Try.ntmps29
            go_wp2_with (first | (go_at_call 35; refine (limited_any _ n c x true _ H1.out hn2).mono ?_; rintro e w1 ⟨rfl, hb1⟩; have HB1 := Lib.hid ((al1 w _).trans (hb1.mono (by rw [asz]; omega))); have d0 := ((CB.new w 30 [.slice A n c, .int .i64 x]).up hb1).cell 0 rfl; have d1 := ((CB.new w 30 [.slice A n c, .int .i64 x]).up hb1).cell 1 rfl; have HC1 := Lib.hid ((CB.new w 30 [.slice A n c, .int .i64 x]).up hb1); clear hb1) | (go_at_call 52; refine (numbered_any _ n c x l _ HN.out (HS.out.up HB1.out) hn2).mono ?_; rintro e w2 ⟨rfl, hb2⟩; rw [H2.out]; have HB2 := Lib.hid (below_step HB1.out HB1.out.size hb2); have d0 := (HC1.out.up hb2).cell 0 rfl; have d1 := (HC1.out.up hb2).cell 1 rfl; have HC2 := Lib.hid (HC1.out.up hb2); clear hb2) | (go_at_call 53; refine (typed_any _ n c l _ HN.out (HS.out.up HB2.out) hn2).mono ?_; rintro e w3 ⟨rfl, hb3⟩; rw [H3.out]; have HB3 := Lib.hid (below_step HB2.out HB2.out.size hb3); have d0 := (HC2.out.up hb3).cell 0 rfl; have d1 := (HC2.out.up hb3).cell 1 rfl; have HC3 := Lib.hid (HC2.out.up hb3); clear hb3) | (go_at_call 33; refine (placed_any _ n c l _ HN.out (HS.out.up HB3.out) hn2).mono ?_; rintro e w4 ⟨rfl, hb4⟩; rw [H4.out]; have HB4 := Lib.hid (below_step HB3.out HB3.out.size hb4); have d0 := (HC3.out.up hb4).cell 0 rfl; clear hb4) | (go_at_call 34; refine (named_any _ n c l _ HN.out hc (HS.out.up HB4.out) hl HM.out).mono ?_; rintro e w5 ⟨rfl, hb5⟩; rw [H5.out]; have HB5 := Lib.hid (below_step HB4.out HB4.out.size hb5); clear hb5))
            go_ret
            exact ⟨by rw [HE.out]; rfl, HB5.out⟩
end Go.Proofs.Ytpgbpfdedpppeaa
