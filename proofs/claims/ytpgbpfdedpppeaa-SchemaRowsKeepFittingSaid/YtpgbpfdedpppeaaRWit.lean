/-
  The reference's without, with, plus, by contracts.
-/
import Derived.Test.YtpgbpfdedpppeaaRTak
import Derived.Test.YtpgbpfdedpppeaaHand
import Derived.Test.YtpgbpfdedpppeaaRepP
namespace Go.Proofs.Ytpgbpfdedpppeaa
open Go.RowKit

theorem CB.new3 (w : World) (o o' o2 : Obj) (t : TypeId) (l : List Value) : CB ((((w.alloc o).alloc o').alloc o2).alloc (.cells l.toArray t)) (w.heap.size + 1 + 1 + 1) t l := by
  have := CB.new (((w.alloc o).alloc o').alloc o2) t l
  rwa [asz, asz, asz] at this
theorem CB.set_other {w : World} {g : Nat} {t : TypeId} {l : List Value} (h : CB w g t l) {g' : Nat} (i : Nat) (v : Value) (hg : ¬ g = g') : CB (w.setCell ⟨g', i, none⟩ v) g t l :=
  (Below.heap_setCell w ⟨g', i, none⟩ v g (fun e => hg e)).trans h
def dropH (a b : Int) (f : Fd) : Bool := ((f.id != a) && (f.id != b))
def dropF2 (l : List Fd) (a b : Int) : List Fd := l.filter (dropH a b)
theorem dr2_no {l : List Fd} {k : Nat} {f : Fd} {a b : Int} (h : l.take (k + 1) = l.take k ++ [f]) (ht : dropH a b f = false) : dropF2 (l.take (k + 1)) a b = dropF2 (l.take k) a b := by
  unfold dropF2
  rw [h, List.filter_append]
  simp [ht]
theorem dr2_yes {l : List Fd} {k : Nat} {f : Fd} {a b : Int} (h : l.take (k + 1) = l.take k ++ [f]) (ht : dropH a b f = true) : dropF2 (l.take (k + 1)) a b = dropF2 (l.take k) a b ++ [f] := by
  unfold dropF2
  rw [h, List.filter_append]
  simp [ht]
theorem dr2_len (l : List Fd) (a b : Int) : (dropF2 l a b).length ≤ l.length := List.length_filter_le _ _
theorem dr2_cases (p q : Bool) : (p = false ∧ Hid ((p && q) = false)) ∨ (p = true ∧ q = false ∧ Hid ((p && q) = false)) ∨ (p = true ∧ q = true ∧ Hid ((p && q) = true)) := by
  unfold Hid
  cases p <;> cases q <;> simp

set_option maxHeartbeats 2000000 in
set_option maxRecDepth 20000 in
theorem Rwithout_any (A : Option Addr) (n c : Nat) (x : Int) (l : List Fd) (a b : Int) (w : World) (hn : n = l.length) (hs : Fds w w.heap.size A l) (hl : n ≤ 1000000) :
    Calls Try.prog 64 #[.agg #[.slice A n c, .int .i64 x], .agg #[.int .i64 a, .int .i64 b]] w fun e w' => (∃ A' c', e = .returned (.agg #[.slice A' (dropF2 l a b).length c', .int .i64 x]) ∧ Own 41 4 w' w.heap.size (.slice A' (dropF2 l a b).length c') ((dropF2 l a b).map Fd.cells)) ∧ Below w.heap.size w w' := by
  have HN := Lib.hid hn
  have HS := Lib.hid hs
  clear hn hs
  go_enter Try.func64, Try.ntmps64
  go_wp2
  go_loopw [6] (fun j wr => ∃ (k n' c' : Nat) (A' : Option Addr), k ≤ n ∧ j = .int .i64 k ∧ Hid (n' = (dropF2 (l.take k) a b).length) ∧ Hid (Own 41 4 wr w.heap.size (.slice A' n' c') ((dropF2 (l.take k) a b).map Fd.cells)) ∧ Hid (Below w.heap.size w wr) ∧ Hid (CB wr w.heap.size 30 [.slice A n c, .int .i64 x]) ∧ Hid (CB wr (w.heap.size + 1) 88 [.int .i64 a, .int .i64 b]) ∧ Hid (CB wr (w.heap.size + 1 + 1) 30 [.slice none 0 0, .int .i64 0]) ∧ Hid (CB wr (w.heap.size + 1 + 1 + 1) 30 [.slice A' n' c', .int .i64 x])) (fun j _ => n - (intOf j).toNat)
  case atStart => exact ⟨0, 0, 0, none, by omega, rfl, rfl, Own.nil _ _ _ _, al4 _ _ _ _ _, ((CB.new _ _ _).alloc _ |>.alloc _).alloc _, ((CB.new1 _ _ _ _).alloc _).alloc _, (CB.new2 _ _ _ _ _).alloc _, CB.new3 _ _ _ _ _ _⟩
  case round =>
    obtain ⟨k, n', c', A', hk, rfl, hln, hown, hbel, hcs, hca, hcr, hco⟩ := hrel
    have hz3 := hco.out.lt
    have hz2 := hcr.out.lt
    have hz1 := hca.out.lt
    have hz0 := hcs.out.lt
    have q0 := hcs.out.cell 0 rfl
    have a0 := hca.out.cell 0 rfl
    have a1 := hca.out.cell 1 rfl
    have o0 := hco.out.cell 0 rfl
    have o1 := hco.out.cell 1 rfl
    by_cases hlt : k < n
    · have i1 : (k : Int) < (n : Int) := by omega
      have i0 : (0 : Int) ≤ (k : Int) := by omega
      obtain ⟨f, hf⟩ := getD_of (l := l) (k := k) (by rw [← HN.out]; exact hlt)
      obtain ⟨bl, off, rfl, hb, c0, c1, c2, c3⟩ := (HS.out.below hbel.out).one hf
      have ht := Lib.hid (take_snoc' hf)
      have hll : n' ≤ 1000000 := by have := dr2_len (l.take k) a b; rw [hln.out]; simp at this; omega
      clear hf
      rcases dr2_cases (f.id != a) (f.id != b) with ⟨e1, HE⟩ | ⟨e1, e2, HE⟩ | ⟨e1, e2, HE⟩
      · go_wp2
        go_quiet (fail)
        go_wp2
        go_roundw
        case rel =>
          have HX := dr2_no ht.out HE.out
          exact ⟨k + 1, n', c', A', by omega, by go_num, by rw [HX]; exact hln.out, by rw [HX]; exact hown.out.drewN _, below_drewN hbel.out _, hcs.out.drewN _, hca.out.drewN _, hcr.out.drewN _, hco.out.drewN _⟩
        case measure => simp [intOf]; omega
      · go_wp2
        go_quiet (fail)
        go_wp2
        go_roundw
        case rel =>
          have HX := dr2_no ht.out HE.out
          exact ⟨k + 1, n', c', A', by omega, by go_num, by rw [HX]; exact hln.out, by rw [HX]; exact hown.out.drewN _, below_drewN hbel.out _, hcs.out.drewN _, hca.out.drewN _, hcr.out.drewN _, hco.out.drewN _⟩
        case measure => simp [intOf]; omega
      · go_wp2
        go_quiet (fail)
        go_wp2
        have h1 := Lib.hid (hown.out.drewN nq)
        have h2 := Lib.hid (below_drewN hbel.out nq)
        have h3 := Lib.hid (hcs.out.drewN nq)
        have h4 := Lib.hid (hca.out.drewN nq)
        have h5 := Lib.hid (hcr.out.drewN nq)
        have h6 := Lib.hid (hco.out.drewN nq)
        have d0 : (wr.drewN nq).cell? ⟨bl, off + k * 4, none⟩ = some (.int .i64 f.id) := c0
        have d1 : (wr.drewN nq).cell? ⟨bl, off + k * 4 + 1, none⟩ = some (.string f.nm) := c1
        have d2 : (wr.drewN nq).cell? ⟨bl, off + k * 4 + 2, none⟩ = some (.int .i64 f.ty) := c2
        have d3 : (wr.drewN nq).cell? ⟨bl, off + k * 4 + 3, none⟩ = some (.int .i64 f.pa) := c3
        have p0 : (wr.drewN nq).cell? ⟨w.heap.size, 0, none⟩ = some (.slice (some ⟨bl, off, none⟩) n c) := q0
        have p1 : (wr.drewN nq).cell? ⟨w.heap.size + 1 + 1 + 1, 0, none⟩ = some (.slice A' n' c') := o0
        clear hown hbel hcs hca hcr hco c0 c1 c2 c3 q0 a0 a1 o0 o1 hz0 hz1 hz2 hz3
        generalize wr.drewN nq = W0 at *
        have hz3 := h6.out.lt
        have hz0 := h3.out.lt
        have hbl : bl < W0.heap.size := by omega
        have hne3 := h1.out.ne h3.out (by decide)
        have hne4 := h1.out.ne h4.out (by decide)
        have hne5 := h1.out.ne h5.out (by decide)
        have hne6 := h1.out.ne h6.out (by decide)
        have hbn3 : ¬ bl = w.heap.size + 1 + 1 + 1 := by omega
        refine wp_region_held_drew (S := fun w' => Hid (w'.cell? ⟨w.heap.size, 0, none⟩ = some (.slice (some ⟨bl, off, none⟩) n c) ∧ w'.cell? ⟨bl, off + k * 4, none⟩ = some (.int .i64 f.id) ∧ w'.cell? ⟨bl, off + k * 4 + 1, none⟩ = some (.string f.nm) ∧ w'.cell? ⟨bl, off + k * 4 + 2, none⟩ = some (.int .i64 f.ty) ∧ w'.cell? ⟨bl, off + k * 4 + 3, none⟩ = some (.int .i64 f.pa))) (by kernel_rfl) (Lib.hid ⟨p0, d0, d1, d2, d3⟩) (fun hHeld => ?_)
        replace h1 := Lib.hid h1.out.dr
        replace h2 := Lib.hid h2.out.drew
        replace h3 := Lib.hid h3.out.dr
        replace h4 := Lib.hid h4.out.dr
        replace h5 := Lib.hid h5.out.dr
        replace h6 := Lib.hid h6.out.dr
        replace p1 : W0.drew.cell? ⟨w.heap.size + 1 + 1 + 1, 0, none⟩ = some (.slice A' n' c') := p1
        replace d0 : W0.drew.cell? ⟨bl, off + k * 4, none⟩ = _ := d0
        replace d1 : W0.drew.cell? ⟨bl, off + k * 4 + 1, none⟩ = _ := d1
        replace d2 : W0.drew.cell? ⟨bl, off + k * 4 + 2, none⟩ = _ := d2
        replace d3 : W0.drew.cell? ⟨bl, off + k * 4 + 3, none⟩ = _ := d3
        replace hz0 : w.heap.size < W0.drew.heap.size := hz0
        replace hz3 : w.heap.size + 1 + 1 + 1 < W0.drew.heap.size := hz3
        replace hbl : bl < W0.drew.heap.size := hbl
        clear p0
        revert hHeld h1 h2 h3 h4 h5 h6 p1 d0 d1 d2 d3 hz0 hz3 hbl
        generalize W0.drew = W1
        intro hHeld h1 h2 h3 h4 h5 h6 p1 d0 d1 d2 d3 hz0 hz3 hbl
        refine hand_take (i := 0) (v := ?_) rfl (by kernel_rfl) (by kernel_rfl) (by kernel_rfl) (fun _ _ _ h => h) (Or.inl ⟨by rfl, ?_⟩) (by assumption) ?_
        rotate_left
        · intro wS hSw
          clear hSw
          go_simp
          try with_reducible rfl
        try simp only [Act.put, List.setIfInBounds_toArray, List.set_cons_zero, List.set_cons_succ]
        refine hand_take (i := 2) (v := ?_) rfl (by kernel_rfl) (by kernel_rfl) (by kernel_rfl) (fun _ _ _ h => h) (Or.inl ⟨by rfl, ?_⟩) (by assumption) ?_
        rotate_left
        · intro wS hSw
          clear hSw
          go_simp
          try with_reducible rfl
        try simp only [Act.put, List.setIfInBounds_toArray, List.set_cons_zero, List.set_cons_succ]
        refine hand_take (i := 3) (v := ?_) rfl (by kernel_rfl) (by kernel_rfl) (by kernel_rfl) (fun _ _ _ h => h) (Or.inl ⟨by rfl, ?_⟩) (by assumption) ?_
        rotate_left
        · intro wS hSw
          obtain ⟨u0, u1, u2, u3, u4⟩ := hSw.out
          clear hSw
          go_simp
          try with_reducible rfl
        try simp only [Act.put, List.setIfInBounds_toArray, List.set_cons_zero, List.set_cons_succ]
        refine hand_take (i := 4) (v := ?_) rfl (by kernel_rfl) (by kernel_rfl) (by kernel_rfl) (fun _ _ _ h => h) (Or.inl ⟨by rfl, ?_⟩) (by assumption) ?_
        rotate_left
        · intro wS hSw
          clear hSw
          go_simp
          try with_reducible rfl
        try simp only [Act.put, List.setIfInBounds_toArray, List.set_cons_zero, List.set_cons_succ]
        refine hand_take (i := 5) (v := ?_) rfl (by kernel_rfl) (by kernel_rfl) (by kernel_rfl) (fun _ _ _ h => h) (Or.inl ⟨by rfl, ?_⟩) (by assumption) ?_
        rotate_left
        · intro wS hSw
          clear hSw
          go_simp
          try with_reducible rfl
        try simp only [Act.put, List.setIfInBounds_toArray, List.set_cons_zero, List.set_cons_succ]
        refine hand_take (i := 6) (v := ?_) rfl (by kernel_rfl) (by kernel_rfl) (by kernel_rfl) (fun _ _ _ h => h) (Or.inl ⟨by rfl, ?_⟩) (by assumption) ?_
        rotate_left
        · intro wS hSw
          obtain ⟨u0, u1, u2, u3, u4⟩ := hSw.out
          clear hSw
          go_simp
          try with_reducible rfl
        try simp only [Act.put, List.setIfInBounds_toArray, List.set_cons_zero, List.set_cons_succ]
        refine wpAnyH_ready (rs := [1, 7]) (by kernel_rfl) (by simp) ?_
        refine (hand_cons rfl (fun KK hK => ?_) (hand_cons rfl (fun KK hK => ?_) AllReadyH.nil))
        · go_simp
          skip
          refine hK.out _ _ (hHeld) (fun hHeld => ?_)
          clear hK KK
          try simp only [Act.put, List.setIfInBounds_toArray, List.set_cons_zero, List.set_cons_succ]
          refine wpAnyH_ready (rs := [7]) (by kernel_rfl) (by simp) ?_
          refine hand_cons rfl (fun KK hK => ?_) AllReadyH.nil
          go_simp
          skip
          refine hK.out _ _ ((Lib.hid ⟨((al1 _ _).cell (p := ⟨w.heap.size, 0, none⟩) hz0).trans hHeld.out.1, ((al1 _ _).cell (p := ⟨bl, off + k * 4, none⟩) hbl).trans hHeld.out.2.1, ((al1 _ _).cell (p := ⟨bl, off + k * 4 + 1, none⟩) hbl).trans hHeld.out.2.2.1, ((al1 _ _).cell (p := ⟨bl, off + k * 4 + 2, none⟩) hbl).trans hHeld.out.2.2.2.1, ((al1 _ _).cell (p := ⟨bl, off + k * 4 + 3, none⟩) hbl).trans hHeld.out.2.2.2.2⟩)) (fun hHeld => ?_)
          clear hK KK
          try simp only [Act.put, List.setIfInBounds_toArray, List.set_cons_zero, List.set_cons_succ]
          refine wpAnyH_ready (rs := [8]) (by kernel_rfl) (by simp) ?_
          refine hand_cons rfl (fun KK hK => ?_) AllReadyH.nil
          refine step_push_fd rfl (.tmp 38) (.tmp 44) rfl (w.heap.size) (.slice A' n' c') (dropF2 (l.take k) a b) f W1.heap.size n' rfl rfl hln.out (h1.out.alloc _) (CB.new _ _ _) hll (Nat.le_of_lt (Nat.lt_of_lt_of_le hz0 (al1 _ _).size)) ?_
          intro A8 c8 w8 ho8 hg8 hb8
          have HO8 := Lib.hid ho8
          have R3 := Lib.hid ((h3.out.up (al1 _ _)).grown hg8 hne3)
          have R4 := Lib.hid ((h4.out.up (al1 _ _)).grown hg8 hne4)
          have R5 := Lib.hid ((h5.out.up (al1 _ _)).grown hg8 hne5)
          have R6 := Lib.hid ((h6.out.up (al1 _ _)).grown hg8 hne6)
          have hb9 : Below w.heap.size W1 w8 := (Below.mono (al1 _ _) (Nat.le_of_lt hz0)).trans hb8
          have HB9 := Lib.hid hb9
          have HB8 := Lib.hid (h2.out.trans hb9)
          have y0 := R6.out.cell 0 rfl
          have y1 := R6.out.frozen 0
          clear ho8 hg8 hb8 hb9
          refine hK.out _ _ ((Lib.hid ⟨R3.out.cell 0 rfl, (HB9.out.cell (p := ⟨bl, off + k * 4, none⟩) hb).trans d0, (HB9.out.cell (p := ⟨bl, off + k * 4 + 1, none⟩) hb).trans d1, (HB9.out.cell (p := ⟨bl, off + k * 4 + 2, none⟩) hb).trans d2, (HB9.out.cell (p := ⟨bl, off + k * 4 + 3, none⟩) hb).trans d3⟩)) (fun hHeld => ?_)
          clear hK KK
          try simp only [Act.put, List.setIfInBounds_toArray, List.set_cons_zero, List.set_cons_succ]
          refine hand_take (i := 9) (v := ?_) rfl (by kernel_rfl) (by kernel_rfl) (by kernel_rfl) (fun _ _ _ h => h) (Or.inl ⟨by rfl, ?_⟩) (by assumption) ?_
          rotate_left
          · intro wS hSw
            clear hSw
            go_simp
            try with_reducible rfl
          try simp only [Act.put, List.setIfInBounds_toArray, List.set_cons_zero, List.set_cons_succ]
          refine wpAnyH_ready (rs := [10]) (by kernel_rfl) (by simp) ?_
          refine hand_cons rfl (fun KK hK => ?_) AllReadyH.nil
          go_simp
          skip
          refine hK.out _ _ ((Lib.hid ⟨(R3.out.set_other 0 _ (by omega)).cell 0 rfl, ((HB9.out.setCell (p := ⟨w.heap.size + 1 + 1 + 1, 0, none⟩) (by show w.heap.size ≤ w.heap.size + 1 + 1 + 1; omega) (.slice A8 (n' + 1) c8)).cell (p := ⟨bl, off + k * 4, none⟩) hb).trans d0, ((HB9.out.setCell (p := ⟨w.heap.size + 1 + 1 + 1, 0, none⟩) (by show w.heap.size ≤ w.heap.size + 1 + 1 + 1; omega) (.slice A8 (n' + 1) c8)).cell (p := ⟨bl, off + k * 4 + 1, none⟩) hb).trans d1, ((HB9.out.setCell (p := ⟨w.heap.size + 1 + 1 + 1, 0, none⟩) (by show w.heap.size ≤ w.heap.size + 1 + 1 + 1; omega) (.slice A8 (n' + 1) c8)).cell (p := ⟨bl, off + k * 4 + 2, none⟩) hb).trans d2, ((HB9.out.setCell (p := ⟨w.heap.size + 1 + 1 + 1, 0, none⟩) (by show w.heap.size ≤ w.heap.size + 1 + 1 + 1; omega) (.slice A8 (n' + 1) c8)).cell (p := ⟨bl, off + k * 4 + 3, none⟩) hb).trans d3⟩)) (fun hHeld => ?_)
          clear hK KK
          try simp only [Act.put]
          refine wpAnyH_done (by kernel_rfl) ?_ _
          go_wp2
          go_roundw
          case rel =>
            have HX := dr2_yes ht.out HE.out
            refine ⟨k + 1, n' + 1, c8, A8, by omega, by go_num, ?_, ?_, HB8.out.setCell (p := ⟨w.heap.size + 1 + 1 + 1, 0, none⟩) (by show w.heap.size ≤ w.heap.size + 1 + 1 + 1; omega) _, R3.out.set_other _ _ (by omega), R4.out.set_other _ _ (by omega), R5.out.set_other _ _ (by omega), R6.out.set_ 0 _⟩
            · show _ = _
              rw [HX, hln.out]
              simp
            · rw [HX]
              exact HO8.out.set_ 0 _ (HO8.out.ne R6.out (by decide))
          case measure => simp [intOf]; omega
        · go_simp
          skip
          refine hK.out _ _ ((Lib.hid ⟨((al1 _ _).cell (p := ⟨w.heap.size, 0, none⟩) hz0).trans hHeld.out.1, ((al1 _ _).cell (p := ⟨bl, off + k * 4, none⟩) hbl).trans hHeld.out.2.1, ((al1 _ _).cell (p := ⟨bl, off + k * 4 + 1, none⟩) hbl).trans hHeld.out.2.2.1, ((al1 _ _).cell (p := ⟨bl, off + k * 4 + 2, none⟩) hbl).trans hHeld.out.2.2.2.1, ((al1 _ _).cell (p := ⟨bl, off + k * 4 + 3, none⟩) hbl).trans hHeld.out.2.2.2.2⟩)) (fun hHeld => ?_)
          clear hK KK
          try simp only [Act.put, List.setIfInBounds_toArray, List.set_cons_zero, List.set_cons_succ]
          refine wpAnyH_ready (rs := [1]) (by kernel_rfl) (by simp) ?_
          refine hand_cons rfl (fun KK hK => ?_) AllReadyH.nil
          go_simp
          skip
          refine hK.out _ _ (hHeld) (fun hHeld => ?_)
          clear hK KK
          try simp only [Act.put, List.setIfInBounds_toArray, List.set_cons_zero, List.set_cons_succ]
          refine wpAnyH_ready (rs := [8]) (by kernel_rfl) (by simp) ?_
          refine hand_cons rfl (fun KK hK => ?_) AllReadyH.nil
          refine step_push_fd rfl (.tmp 38) (.tmp 44) rfl (w.heap.size) (.slice A' n' c') (dropF2 (l.take k) a b) f W1.heap.size n' rfl rfl hln.out (h1.out.alloc _) (CB.new _ _ _) hll (Nat.le_of_lt (Nat.lt_of_lt_of_le hz0 (al1 _ _).size)) ?_
          intro A8 c8 w8 ho8 hg8 hb8
          have HO8 := Lib.hid ho8
          have R3 := Lib.hid ((h3.out.up (al1 _ _)).grown hg8 hne3)
          have R4 := Lib.hid ((h4.out.up (al1 _ _)).grown hg8 hne4)
          have R5 := Lib.hid ((h5.out.up (al1 _ _)).grown hg8 hne5)
          have R6 := Lib.hid ((h6.out.up (al1 _ _)).grown hg8 hne6)
          have hb9 : Below w.heap.size W1 w8 := (Below.mono (al1 _ _) (Nat.le_of_lt hz0)).trans hb8
          have HB9 := Lib.hid hb9
          have HB8 := Lib.hid (h2.out.trans hb9)
          have y0 := R6.out.cell 0 rfl
          have y1 := R6.out.frozen 0
          clear ho8 hg8 hb8 hb9
          refine hK.out _ _ ((Lib.hid ⟨R3.out.cell 0 rfl, (HB9.out.cell (p := ⟨bl, off + k * 4, none⟩) hb).trans d0, (HB9.out.cell (p := ⟨bl, off + k * 4 + 1, none⟩) hb).trans d1, (HB9.out.cell (p := ⟨bl, off + k * 4 + 2, none⟩) hb).trans d2, (HB9.out.cell (p := ⟨bl, off + k * 4 + 3, none⟩) hb).trans d3⟩)) (fun hHeld => ?_)
          clear hK KK
          try simp only [Act.put, List.setIfInBounds_toArray, List.set_cons_zero, List.set_cons_succ]
          refine hand_take (i := 9) (v := ?_) rfl (by kernel_rfl) (by kernel_rfl) (by kernel_rfl) (fun _ _ _ h => h) (Or.inl ⟨by rfl, ?_⟩) (by assumption) ?_
          rotate_left
          · intro wS hSw
            clear hSw
            go_simp
            try with_reducible rfl
          try simp only [Act.put, List.setIfInBounds_toArray, List.set_cons_zero, List.set_cons_succ]
          refine wpAnyH_ready (rs := [10]) (by kernel_rfl) (by simp) ?_
          refine hand_cons rfl (fun KK hK => ?_) AllReadyH.nil
          go_simp
          skip
          refine hK.out _ _ ((Lib.hid ⟨(R3.out.set_other 0 _ (by omega)).cell 0 rfl, ((HB9.out.setCell (p := ⟨w.heap.size + 1 + 1 + 1, 0, none⟩) (by show w.heap.size ≤ w.heap.size + 1 + 1 + 1; omega) (.slice A8 (n' + 1) c8)).cell (p := ⟨bl, off + k * 4, none⟩) hb).trans d0, ((HB9.out.setCell (p := ⟨w.heap.size + 1 + 1 + 1, 0, none⟩) (by show w.heap.size ≤ w.heap.size + 1 + 1 + 1; omega) (.slice A8 (n' + 1) c8)).cell (p := ⟨bl, off + k * 4 + 1, none⟩) hb).trans d1, ((HB9.out.setCell (p := ⟨w.heap.size + 1 + 1 + 1, 0, none⟩) (by show w.heap.size ≤ w.heap.size + 1 + 1 + 1; omega) (.slice A8 (n' + 1) c8)).cell (p := ⟨bl, off + k * 4 + 2, none⟩) hb).trans d2, ((HB9.out.setCell (p := ⟨w.heap.size + 1 + 1 + 1, 0, none⟩) (by show w.heap.size ≤ w.heap.size + 1 + 1 + 1; omega) (.slice A8 (n' + 1) c8)).cell (p := ⟨bl, off + k * 4 + 3, none⟩) hb).trans d3⟩)) (fun hHeld => ?_)
          clear hK KK
          try simp only [Act.put]
          refine wpAnyH_done (by kernel_rfl) ?_ _
          go_wp2
          go_roundw
          case rel =>
            have HX := dr2_yes ht.out HE.out
            refine ⟨k + 1, n' + 1, c8, A8, by omega, by go_num, ?_, ?_, HB8.out.setCell (p := ⟨w.heap.size + 1 + 1 + 1, 0, none⟩) (by show w.heap.size ≤ w.heap.size + 1 + 1 + 1; omega) _, R3.out.set_other _ _ (by omega), R4.out.set_other _ _ (by omega), R5.out.set_other _ _ (by omega), R6.out.set_ 0 _⟩
            · show _ = _
              rw [HX, hln.out]
              simp
            · rw [HX]
              exact HO8.out.set_ 0 _ (HO8.out.ne R6.out (by decide))
          case measure => simp [intOf]; omega
    · have i1 : ¬ (k : Int) < (n : Int) := by omega
      have e : l.take k = l := List.take_of_length_le (by rw [← HN.out]; omega)
      rw [e] at hown hln
      obtain rfl : n' = (dropF2 l a b).length := hln.out
      go_wp2_with ((with_reducible show wpList _ _ _ _ _ _); refine wpList_store_cb rfl 30 (.tmp 4) (.tmp 47) rfl (w.heap.size + 1 + 1) [.slice A' (dropF2 l a b).length c', .int .i64 x] rfl rfl 30 [.slice none 0 0, .int .i64 0] 2 hcr.out sizeS rfl rfl (one_s _ _ _ _) ?_; intro w9 hc9 hg9 hz9)
      refine bodyPost_ret (res_cell1 Try.results64 rfl hc9 Try.underlying30 sizeS rfl) rfl ⟨⟨A', c', rfl, hown.out.kept hg9 (.inr (hown.out.ne hcr.out (by decide)).symm)⟩, below_grown hbel.out hg9 (by omega) (by omega)⟩
end Go.Proofs.Ytpgbpfdedpppeaa
