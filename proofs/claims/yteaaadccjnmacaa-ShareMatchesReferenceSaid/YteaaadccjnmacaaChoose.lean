/-
  The reference's Choose, by a contract.
-/
import Derived.Test.YteaaadccjnmacaaOwnSh
namespace Go.Proofs.Yteaaadccjnmacaa
open Go.RowKit

/-- what Choose keeps while it goes along -/
structure ChI (l : List Sh) (u : List Bool) (L : List Sh) (k : Nat) : Prop where
  ln : u.length = l.length
  nd : (L.map (·.1)).Nodup
  mem : ∀ s ∈ L, ∃ j : Nat, l[j]? = some s ∧ u[j]? = some true
  le : L.length ≤ k
theorem ChI.skip {l : List Sh} {u : List Bool} {L : List Sh} {k : Nat} (h : ChI l u L k) : ChI l u L (k + 1) := ⟨h.ln, h.nd, h.mem, Nat.le_succ_of_le h.le⟩
theorem nodup_at {l : List Sh} (hd : (l.map (·.1)).Nodup) {i j : Nat} {s t : Sh} (hi : l[i]? = some s) (hj : l[j]? = some t) (h : s.1 = t.1) : i = j := by
  have h1 : (l.map (·.1))[i]? = some s.1 := by rw [List.getElem?_map, hi]; rfl
  have h2 : (l.map (·.1))[j]? = some s.1 := by rw [List.getElem?_map, hj, h]; rfl
  obtain ⟨a1, e1⟩ := List.getElem?_eq_some_iff.1 h1
  obtain ⟨a2, e2⟩ := List.getElem?_eq_some_iff.1 h2
  exact (List.getElem_inj hd).1 (e1.trans e2.symm)
theorem ChI.add {l : List Sh} {u : List Bool} {L : List Sh} {k kk : Nat} {s : Sh} (h : ChI l u L k) (hd : (l.map (·.1)).Nodup) (hs : l[kk]? = some s) (hu : u[kk]? = some false) : ChI l (u.set kk true) (L ++ [s]) (k + 1) := by
  refine ⟨by simpa using h.ln, ?_, ?_, by simpa using h.le⟩
  · rw [List.map_append, List.nodup_append]
    refine ⟨h.nd, by simp, ?_⟩
    intro a ha b hb e
    obtain ⟨t, ht, rfl⟩ := List.mem_map.1 ha
    have hb' : b = s.1 := by simpa using hb
    obtain ⟨j, h1, h2⟩ := h.mem t ht
    have := nodup_at hd h1 hs (e.trans hb')
    subst this
    rw [hu] at h2
    cases h2
  · intro t ht
    have hkl := (List.getElem?_eq_some_iff.1 hu).1
    rcases List.mem_append.1 ht with h1 | h1
    · obtain ⟨j, h2, h3⟩ := h.mem t h1
      refine ⟨j, h2, ?_⟩
      rw [List.getElem?_set]
      split
      · rename_i e
        subst e
        first | rfl | rw [if_pos hkl]
      · exact h3
    · have : t = s := by simpa using h1
      subst this
      exact ⟨kk, hs, by rw [List.getElem?_set_self hkl]⟩
theorem own_new (w : World) : OwnSh (w.alloc (.cells #[] 29)) w.heap.size w.heap.size (.slice (some ⟨w.heap.size, 0, none⟩) 0 0) [] :=
  ⟨[], ⟨rfl, .inr ⟨w.heap.size, 0, #[], rfl, Nat.le_refl _, heap_alloc_new w _, Nat.le_refl _, by simp [maxLen], rfl, rfl⟩⟩, CellsOf.nil _ _⟩
theorem OwnSh.keep_alloc {w : World} {base B : Nat} {v : Value} {L : List Sh} (h : OwnSh w base B v L) (o : Obj) : OwnSh (w.alloc o) base B v L := h.below (World.grownBy_alloc w o none)
theorem own_new2 (w : World) (o : Obj) : OwnSh ((w.alloc o).alloc (.cells #[] 29)) w.heap.size w.heap.size (.slice (some ⟨w.heap.size + 1, 0, none⟩) 0 0) [] := by
  have hg := heap_alloc_new (w.alloc o) (.cells #[] 29)
  rw [hz] at hg
  exact ⟨[], ⟨rfl, .inr ⟨w.heap.size + 1, 0, #[], rfl, Nat.le_succ _, hg, Nat.le_refl _, by simp [maxLen], rfl, rfl⟩⟩, CellsOf.nil _ _⟩
theorem cb_made (w : World) (N U : Nat) (hU : U = w.heap.size) : CB (w.alloc (.cells (madeCells #[.bool false] N) 4)) U 4 (ub (List.replicate N false)) := by
  subst hU
  have h := heap_alloc_new w (.cells (madeCells #[.bool false] N) 4)
  unfold CB
  rw [h]
  congr 2
  apply Array.ext'
  rw [toList_madeCells_one]
  simp [ub]
theorem OwnSh.set_ {w : World} {base B U kk : Nat} {v u : Value} {L : List Sh} (h : OwnSh w base B v L) (hne : some U ≠ v.ownBlock) (hB : B ≤ U) : OwnSh (w.setCell ⟨U, kk, none⟩ u) base B v L := by
  obtain ⟨xs, h1, h2⟩ := h
  exact ⟨xs, h1.kept (grown_set w U kk u) (.inr hne.symm), h2.below ((Below.refl _ _).setCell (p := ⟨U, kk, none⟩) hB _)⟩
theorem info4 : (Try.prog.info? 4).map (fun i => (i.zero, i.size, i.bytes)) = some (some (.bool false), 1, 1) := by kernel_rfl

set_option maxHeartbeats 2000000 in
set_option maxRecDepth 20000 in
theorem choose_pos (A : Option Addr) (cap : Nat) (l : List Sh) (C : Option Addr) (d : Nat) (order : List UInt8) (w : World) (hs : ShL w w.heap.size A l) (hl : l.length ≤ 1000) (hc : Shows w w.heap.size C order) (hol : order.length ≤ 1000) (hd : (l.map (·.1)).Nodup) (h0 : 0 < l.length) :
    Calls Try.prog 16 #[.slice A l.length cap, .slice C order.length d] w fun e w' => ∃ A' c' L, e = .returned (.slice A' L.length c') ∧ OwnSh w' w.heap.size w.heap.size (.slice A' L.length c') L ∧ (∀ s ∈ L, s ∈ l) ∧ (L.map (·.1)).Nodup ∧ L.length ≤ order.length ∧ Below w.heap.size w w' := by
  have HS := Lib.hid hs
  have HC := Lib.hid hc
  have HD := Lib.hid hd
  obtain ⟨N, hN⟩ : ∃ N, N = l.length := ⟨_, rfl⟩
  obtain ⟨M, hM⟩ : ∃ M, M = order.length := ⟨_, rfl⟩
  have HN := Lib.hid hN
  have HM := Lib.hid hM
  have hNl : N ≤ 1000 := by omega
  have hMl : M ≤ 1000 := by omega
  have hN0 : 0 < N := by omega
  have j0 : 0 < (N : Int) := by omega
  rw [← hN, ← hM]
  clear hs hl hc hol hd h0 hN hM
  have hmk : ∀ W : World, (Instr.makeSlice 60 (.int .i64 (N : Int)) (.int .i64 (N : Int))).run Try.prog W = .ok (.slice (some ⟨W.heap.size, 0, none⟩) N N) (W.alloc (.cells (madeCells #[.bool false] N) 4)) := fun W => by
    obtain ⟨i, hi, hz0, hsz, hb⟩ := info_parts info4
    have hr := run_make (P := Try.prog) W 60 4 i _ Try.underlying60 hi hz0 .i64 .i64 (N : Int) (N : Int) (by omega) (by omega) (by rw [hb]; omega) (by omega)
    simp only [Int.toNat_natCast, hsz, Nat.mul_one] at hr
    exact hr
  have hs0 : Hid (Below w.heap.size w w.drew) := Below.drew (Below.refl _ _)
  go_enter Try.func16, Try.ntmps16
  go_wp2
  refine wp_region_held_drew (S := fun w' => Hid (Below w.heap.size w w')) (by kernel_rfl) hs0 (fun hHeld => ?_)
  refine hand_take (i := 1) (v := ?_) rfl (by kernel_rfl) (by kernel_rfl) (by kernel_rfl) (fun _ _ _ h => h) (Or.inl ⟨by rfl, ?_⟩) (by assumption) ?_
  rotate_left
  · intro w hSw
    clear hSw
    go_simp
    try with_reducible rfl
  try simp only [Act.put, List.setIfInBounds_toArray, List.set_cons_zero, List.set_cons_succ]
  refine hand_take (i := 2) (v := ?_) rfl (by kernel_rfl) (by kernel_rfl) (by kernel_rfl) (fun _ _ _ h => h) (Or.inl ⟨by rfl, ?_⟩) (by assumption) ?_
  rotate_left
  · intro w hSw
    clear hSw
    go_simp
    try with_reducible rfl
  try simp only [Act.put, List.setIfInBounds_toArray, List.set_cons_zero, List.set_cons_succ]
  refine wpAnyH_ready (rs := [0, 3]) (by kernel_rfl) (by simp) ?_
  refine (hand_cons rfl (fun KK hK => ?_) (hand_cons rfl (fun KK hK => ?_) AllReadyH.nil))
  · go_simp
    skip
    refine hK.out _ _ (Lib.hid (hHeld.out.alloc hHeld.out.size _)) (fun hHeld => ?_)
    clear hK KK
    try simp only [Act.put, List.setIfInBounds_toArray, List.set_cons_zero, List.set_cons_succ]
    refine hand_take (i := 4) (v := ?_) rfl (by kernel_rfl) (by kernel_rfl) (by kernel_rfl) (fun _ _ _ h => h) (Or.inl ⟨by rfl, ?_⟩) (by assumption) ?_
    rotate_left
    · intro w hSw
      clear hSw
      go_simp
      try with_reducible rfl
    try simp only [Act.put, List.setIfInBounds_toArray, List.set_cons_zero, List.set_cons_succ]
    refine wpAnyH_ready (rs := [3]) (by kernel_rfl) (by simp) ?_
    refine hand_cons rfl (fun KK hK => ?_) AllReadyH.nil
    go_simp
    skip
    refine hK.out _ _ (Lib.hid (hHeld.out.alloc hHeld.out.size _)) (fun hHeld => ?_)
    clear hK KK
    try simp only [Act.put, List.setIfInBounds_toArray, List.set_cons_zero, List.set_cons_succ]
    refine hand_take (i := 5) (v := ?_) rfl (by kernel_rfl) (by kernel_rfl) (by kernel_rfl) (fun _ _ _ h => h) (Or.inl ⟨by rfl, ?_⟩) (by assumption) ?_
    rotate_left
    · intro w hSw
      clear hSw
      go_simp
      try with_reducible rfl
    try simp only [Act.put, List.setIfInBounds_toArray, List.set_cons_zero, List.set_cons_succ]
    refine wpAnyH_done (by kernel_rfl) ?_ _
    have hown : Hid (OwnSh (((w.alloc (.cells #[] 29)).alloc (.cells (madeCells #[.bool false] N) 4)).drew) w.heap.size w.heap.size (.slice (some ⟨w.heap.size, 0, none⟩) 0 0) []) := (own_new w).keep_alloc _
    have hcb : Hid (CB (((w.alloc (.cells #[] 29)).alloc (.cells (madeCells #[.bool false] N) 4)).drew) (w.heap.size + 1) 4 (ub (List.replicate N false))) := cb_made _ _ _ (by simp)
    have hbel : Hid (Below w.heap.size w (((w.alloc (.cells #[] 29)).alloc (.cells (madeCells #[.bool false] N) 4)).drew)) := hHeld
    have hU : Hid (w.heap.size ≤ w.heap.size + 1) := by show _ ≤ _; omega
    clear hHeld
    go_wp2
    generalize (((w.alloc (.cells #[] 29)).alloc (.cells (madeCells #[.bool false] N) 4)).drew) = w2 at *
    generalize hUU : w.heap.size + 1 = U at *
    clear hUU
    go_loopw [5, 7] (fun v i wr => ∃ (k : Nat) (L : List Sh) (u : List Bool) (A' : Option Addr) (c' : Nat), k ≤ M ∧ i = .int .i64 k ∧ v = .slice A' L.length c' ∧ Hid (OwnSh wr w.heap.size w.heap.size (.slice A' L.length c') L) ∧ Hid (CB wr U 4 (ub u)) ∧ Hid (ChI l u L k) ∧ Hid (Below w.heap.size w wr)) (fun _ i _ => M - (intOf i).toNat)
    case atStart => exact ⟨0, [], List.replicate N false, _, _, by omega, rfl, rfl, hown, hcb, ⟨by rw [List.length_replicate]; exact HN.out, by simp, fun s hs => absurd hs (by simp), Nat.le_refl _⟩, hbel⟩
    case round =>
      clear hown hcb hbel
      obtain ⟨k, L, u, A', c', hk, rfl, rfl, hown, hcb, hch, hbw⟩ := hrel
      obtain ⟨wo, hwo⟩ : ∃ wo : World, wo = wr := ⟨_, rfl⟩
      subst hwo
      by_cases hlt : k < M
      · have j1 : (k : Int) < (M : Int) := by omega
        obtain ⟨b2, off2, rfl, hb2, hcell⟩ := (HC.out.below hbw.out) (by rw [← HM.out]; omega)
        have c1 := hcell k (byte order k) (byte_get (by rw [← HM.out]; exact hlt))
        clear hcell
        obtain ⟨kk, hkk, e1, e2⟩ : ∃ kk : Nat, kk < N ∧ ((byte order k).toNat : Int).tmod (N : Int) = (kk : Int) ∧ (kk : Int) < (N : Int) := by
          have hlt2 := Nat.mod_lt (byte order k).toNat hN0
          refine ⟨(byte order k).toNat % N, hlt2, ?_, by omega⟩
          rw [Int.tmod_eq_emod_of_nonneg (by omega), Int.natCast_emod]
        have hc8 := (byte order k).toNat_lt
        obtain ⟨s, hs⟩ : ∃ s, l[kk]? = some s := ⟨l[kk]'(by rw [← HN.out]; exact hkk), by simp⟩
        obtain ⟨b1, off1, rfl, hbB, d1, A1, n1, d2, hsh1, hle1, hmx1⟩ := (HS.out.below hbw.out).one hs
        obtain ⟨bb, hbb⟩ : ∃ bb, u[kk]? = some bb := ⟨u[kk]'(by rw [hch.out.ln, ← HN.out]; exact hkk), by simp⟩
        have cu := hcb.out.cell kk (v := .bool bb) (by simp [ub, hbb])
        have fu := hcb.out.frozen kk
        have HSS := Lib.hid hs
        have HBB := Lib.hid hbb
        have HS1 := Lib.hid hsh1
        have hu0 : ((byte order k).toNat : Int) ≤ 255 := by omega
        generalize hx : byte order k = X at *
        clear hx hs hbb hsh1
        cases bb with
        | true =>
          go_wp2
          go_roundw
          case rel => exact ⟨k + 1, L, u, A', c', by omega, by go_num, rfl, hown, hcb, hch.out.skip, hbw⟩
          case measure => simp [intOf]; omega
        | false =>
          have hne := Lib.hid (own_ne hown.out hcb.out (by decide))
          have hLk : L.length ≤ k := hch.out.le
          have hown2 : Hid (OwnSh (wo.setCell ⟨U, kk, none⟩ (.bool true)) w.heap.size w.heap.size (.slice A' L.length c') L) := hown.out.set_ hne.out hU.out
          have hcb2 : Hid (CB (wo.setCell ⟨U, kk, none⟩ (.bool true)) U 4 (ub (u.set kk true))) := by show CB _ _ _ _; rw [ub_set]; exact hcb.out.set_ _ _
          have hbw2 : Hid (Below w.heap.size w (wo.setCell ⟨U, kk, none⟩ (.bool true))) := hbw.out.setCell (p := ⟨U, kk, none⟩) hU.out _
          have hb12 : Hid (Below w.heap.size wo (wo.setCell ⟨U, kk, none⟩ (.bool true))) := (Below.refl _ _).setCell (p := ⟨U, kk, none⟩) hU.out _
          have hUs : Hid (U < (wo.setCell ⟨U, kk, none⟩ (.bool true)).heap.size) := hcb2.out.lt
          have d1' := (hb12.out.cell (p := ⟨b1, off1 + kk * 2, none⟩) hbB).trans d1
          have d2' := (hb12.out.cell (p := ⟨b1, off1 + kk * 2 + 1, none⟩) hbB).trans d2
          go_wp2_with (at_builtin; refine wpList_grow_sh (wr := wo.setCell ⟨U, kk, none⟩ (.bool true)) rfl (.tmp 40) (.tmp 45) rfl w.heap.size w.heap.size _ L s A1 n1 rfl (by rw [show (wo.setCell ⟨U, kk, none⟩ (.bool true)).heap.size = wo.heap.size by simp [World.setCell]]; rfl) rfl hown2.out (HS1.out.below hb12.out) hle1 hmx1 (by omega) hbw2.out.size (Nat.le_refl _) ?_; intro A3 c3 w3 ho3 hg3 hb3)
          go_roundw
          case rel => exact ⟨k + 1, L ++ [s], u.set kk true, A3, c3, by omega, by go_num, (by simp), ho3, hcb2.out.grown hg3 (own_ne hown2.out hcb2.out (by decide)), hch.out.add HD.out HSS.out HBB.out, hbw2.out.trans hb3⟩
          case measure => simp [intOf]; omega
      · have j1 : ¬ (k : Int) < (M : Int) := by omega
        go_wp2
        go_ret
        refine ⟨A', c', L, rfl, hown.out, fun a1 a2 hs => ?_, hch.out.nd, by have := hch.out.le; have := HM.out; omega, hbw.out⟩
        obtain ⟨j, h1, _⟩ := hch.out.mem (a1, a2) hs
        exact List.mem_of_getElem? h1
  · go_simp
    skip
    refine hK.out _ _ (Lib.hid (hHeld.out.alloc hHeld.out.size _)) (fun hHeld => ?_)
    clear hK KK
    try simp only [Act.put, List.setIfInBounds_toArray, List.set_cons_zero, List.set_cons_succ]
    refine wpAnyH_ready (rs := [0]) (by kernel_rfl) (by simp) ?_
    refine hand_cons rfl (fun KK hK => ?_) AllReadyH.nil
    go_simp
    skip
    refine hK.out _ _ (Lib.hid (hHeld.out.alloc hHeld.out.size _)) (fun hHeld => ?_)
    clear hK KK
    try simp only [Act.put, List.setIfInBounds_toArray, List.set_cons_zero, List.set_cons_succ]
    refine hand_take (i := 4) (v := ?_) rfl (by kernel_rfl) (by kernel_rfl) (by kernel_rfl) (fun _ _ _ h => h) (Or.inl ⟨by rfl, ?_⟩) (by assumption) ?_
    rotate_left
    · intro w hSw
      clear hSw
      go_simp
      try with_reducible rfl
    try simp only [Act.put, List.setIfInBounds_toArray, List.set_cons_zero, List.set_cons_succ]
    refine hand_take (i := 5) (v := ?_) rfl (by kernel_rfl) (by kernel_rfl) (by kernel_rfl) (fun _ _ _ h => h) (Or.inl ⟨by rfl, ?_⟩) (by assumption) ?_
    rotate_left
    · intro w hSw
      clear hSw
      go_simp
      try with_reducible rfl
    try simp only [Act.put, List.setIfInBounds_toArray, List.set_cons_zero, List.set_cons_succ]
    refine wpAnyH_done (by kernel_rfl) ?_ _
    have hown : Hid (OwnSh (((w.alloc (.cells (madeCells #[.bool false] N) 4)).alloc (.cells #[] 29)).drew) w.heap.size w.heap.size (.slice (some ⟨w.heap.size + 1, 0, none⟩) 0 0) []) := own_new2 w _
    have hcb : Hid (CB (((w.alloc (.cells (madeCells #[.bool false] N) 4)).alloc (.cells #[] 29)).drew) (w.heap.size) 4 (ub (List.replicate N false))) := (cb_made _ _ _ rfl).alloc _
    have hbel : Hid (Below w.heap.size w (((w.alloc (.cells (madeCells #[.bool false] N) 4)).alloc (.cells #[] 29)).drew)) := hHeld
    have hU : Hid (w.heap.size ≤ w.heap.size) := by show _ ≤ _; omega
    clear hHeld
    go_wp2
    generalize (((w.alloc (.cells (madeCells #[.bool false] N) 4)).alloc (.cells #[] 29)).drew) = w2 at *
    go_loopw [5, 7] (fun v i wr => ∃ (k : Nat) (L : List Sh) (u : List Bool) (A' : Option Addr) (c' : Nat), k ≤ M ∧ i = .int .i64 k ∧ v = .slice A' L.length c' ∧ Hid (OwnSh wr w.heap.size w.heap.size (.slice A' L.length c') L) ∧ Hid (CB wr w.heap.size 4 (ub u)) ∧ Hid (ChI l u L k) ∧ Hid (Below w.heap.size w wr)) (fun _ i _ => M - (intOf i).toNat)
    case atStart => exact ⟨0, [], List.replicate N false, _, _, by omega, rfl, rfl, hown, hcb, ⟨by rw [List.length_replicate]; exact HN.out, by simp, fun s hs => absurd hs (by simp), Nat.le_refl _⟩, hbel⟩
    case round =>
      clear hown hcb hbel
      obtain ⟨k, L, u, A', c', hk, rfl, rfl, hown, hcb, hch, hbw⟩ := hrel
      obtain ⟨wo, hwo⟩ : ∃ wo : World, wo = wr := ⟨_, rfl⟩
      subst hwo
      by_cases hlt : k < M
      · have j1 : (k : Int) < (M : Int) := by omega
        obtain ⟨b2, off2, rfl, hb2, hcell⟩ := (HC.out.below hbw.out) (by rw [← HM.out]; omega)
        have c1 := hcell k (byte order k) (byte_get (by rw [← HM.out]; exact hlt))
        clear hcell
        obtain ⟨kk, hkk, e1, e2⟩ : ∃ kk : Nat, kk < N ∧ ((byte order k).toNat : Int).tmod (N : Int) = (kk : Int) ∧ (kk : Int) < (N : Int) := by
          have hlt2 := Nat.mod_lt (byte order k).toNat hN0
          refine ⟨(byte order k).toNat % N, hlt2, ?_, by omega⟩
          rw [Int.tmod_eq_emod_of_nonneg (by omega), Int.natCast_emod]
        have hc8 := (byte order k).toNat_lt
        obtain ⟨s, hs⟩ : ∃ s, l[kk]? = some s := ⟨l[kk]'(by rw [← HN.out]; exact hkk), by simp⟩
        obtain ⟨b1, off1, rfl, hbB, d1, A1, n1, d2, hsh1, hle1, hmx1⟩ := (HS.out.below hbw.out).one hs
        obtain ⟨bb, hbb⟩ : ∃ bb, u[kk]? = some bb := ⟨u[kk]'(by rw [hch.out.ln, ← HN.out]; exact hkk), by simp⟩
        have cu := hcb.out.cell kk (v := .bool bb) (by simp [ub, hbb])
        have fu := hcb.out.frozen kk
        have HSS := Lib.hid hs
        have HBB := Lib.hid hbb
        have HS1 := Lib.hid hsh1
        have hu0 : ((byte order k).toNat : Int) ≤ 255 := by omega
        generalize hx : byte order k = X at *
        clear hx hs hbb hsh1
        cases bb with
        | true =>
          go_wp2
          go_roundw
          case rel => exact ⟨k + 1, L, u, A', c', by omega, by go_num, rfl, hown, hcb, hch.out.skip, hbw⟩
          case measure => simp [intOf]; omega
        | false =>
          have hne := Lib.hid (own_ne hown.out hcb.out (by decide))
          have hLk : L.length ≤ k := hch.out.le
          have hown2 : Hid (OwnSh (wo.setCell ⟨w.heap.size, kk, none⟩ (.bool true)) w.heap.size w.heap.size (.slice A' L.length c') L) := hown.out.set_ hne.out hU.out
          have hcb2 : Hid (CB (wo.setCell ⟨w.heap.size, kk, none⟩ (.bool true)) w.heap.size 4 (ub (u.set kk true))) := by show CB _ _ _ _; rw [ub_set]; exact hcb.out.set_ _ _
          have hbw2 : Hid (Below w.heap.size w (wo.setCell ⟨w.heap.size, kk, none⟩ (.bool true))) := hbw.out.setCell (p := ⟨w.heap.size, kk, none⟩) hU.out _
          have hb12 : Hid (Below w.heap.size wo (wo.setCell ⟨w.heap.size, kk, none⟩ (.bool true))) := (Below.refl _ _).setCell (p := ⟨w.heap.size, kk, none⟩) hU.out _
          have hUs : Hid (w.heap.size < (wo.setCell ⟨w.heap.size, kk, none⟩ (.bool true)).heap.size) := hcb2.out.lt
          have d1' := (hb12.out.cell (p := ⟨b1, off1 + kk * 2, none⟩) hbB).trans d1
          have d2' := (hb12.out.cell (p := ⟨b1, off1 + kk * 2 + 1, none⟩) hbB).trans d2
          go_wp2_with (at_builtin; refine wpList_grow_sh (wr := wo.setCell ⟨w.heap.size, kk, none⟩ (.bool true)) rfl (.tmp 40) (.tmp 45) rfl w.heap.size w.heap.size _ L s A1 n1 rfl (by rw [show (wo.setCell ⟨w.heap.size, kk, none⟩ (.bool true)).heap.size = wo.heap.size by simp [World.setCell]]; rfl) rfl hown2.out (HS1.out.below hb12.out) hle1 hmx1 (by omega) hbw2.out.size (Nat.le_refl _) ?_; intro A3 c3 w3 ho3 hg3 hb3)
          go_roundw
          case rel => exact ⟨k + 1, L ++ [s], u.set kk true, A3, c3, by omega, by go_num, (by simp), ho3, hcb2.out.grown hg3 (own_ne hown2.out hcb2.out (by decide)), hch.out.add HD.out HSS.out HBB.out, hbw2.out.trans hb3⟩
          case measure => simp [intOf]; omega
      · have j1 : ¬ (k : Int) < (M : Int) := by omega
        go_wp2
        go_ret
        refine ⟨A', c', L, rfl, hown.out, fun a1 a2 hs => ?_, hch.out.nd, by have := hch.out.le; have := HM.out; omega, hbw.out⟩
        obtain ⟨j, h1, _⟩ := hch.out.mem (a1, a2) hs
        exact List.mem_of_getElem? h1
end Go.Proofs.Yteaaadccjnmacaa
