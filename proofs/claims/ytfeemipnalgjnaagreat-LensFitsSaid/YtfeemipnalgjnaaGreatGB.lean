/-
 Layer 6's contracts and plain theorems, texts of layer 6's own claims put together: RWit RPut RPls RAdd RMov ROne RJoi RSps RSpl.
-/
import Derived.Test.YtfeemipnalgjnaaGreatHd
import Derived.Test.YtfeemipnalgjnaaGreatGR
import Derived.Test.YtfeemipnalgjnaaGreatHd
import Derived.Test.YtfeemipnalgjnaaGreatGK
import Derived.Test.YtfeemipnalgjnaaGreatGA
import Derived.Deep.RegionHeldLaw
namespace Go.Proofs.YtfeemipnalgjnaaGreat
open Go.RowKit

theorem CB.new3 (w : World) (o o' o2 : Obj) (t : TypeId) (l : List Value) : CB ((((w.alloc o).alloc o').alloc o2).alloc (.cells l.toArray t)) (w.heap.size + 1 + 1 + 1) t l := by
 have := CB.new (((w.alloc o).alloc o').alloc o2) t l
 rwa [asz, asz, asz] at this
theorem CB.set_other {w : World} {g : Nat} {t : TypeId} {l : List Value} (h : CB w g t l) {g' : Nat} (i : Nat) (v : Value) (hg : ¬ g = g') : CB (w.setCell ⟨g', i, none⟩ v) g t l :=
 (Below.heap_setCell w ⟨g', i, none⟩ v g (fun e => hg e)).trans h
def dropH (a b : Int) (f : Fd) : Bool := ((f.id != a) && (f.id != b))
def dropF2 (l : List Fd) (a b : Int) : List Fd := l.filter (dropH a b)
theorem dr2_no {l : List Fd} {k : Nat} {f : Fd} {a b : Int} (h : l.take (k + 1) = l.take k ++ [f]) (ht : dropH a b f = false) : dropF2 (l.take (k + 1)) a b = dropF2 (l.take k) a b := by
 unfold dropF2
 rw [h, List.filter_append]
 simp [ht]
theorem dr2_yes {l : List Fd} {k : Nat} {f : Fd} {a b : Int} (h : l.take (k + 1) = l.take k ++ [f]) (ht : dropH a b f = true) : dropF2 (l.take (k + 1)) a b = dropF2 (l.take k) a b ++ [f] := by
 unfold dropF2
 rw [h, List.filter_append]
 simp [ht]
theorem dr2_len (l : List Fd) (a b : Int) : (dropF2 l a b).length ≤ l.length := List.length_filter_le _ _
theorem dr2_cases (p q : Bool) : (p = false ∧ Hid ((p && q) = false)) ∨ (p = true ∧ q = false ∧ Hid ((p && q) = false)) ∨ (p = true ∧ q = true ∧ Hid ((p && q) = true)) := by
 unfold Hid
 cases p <;> cases q <;> simp

set_option maxHeartbeats 2000000 in
set_option maxRecDepth 20000 in
theorem Rwithout_any (A : Option Addr) (n c : Nat) (x : Int) (l : List Fd) (a b : Int) (w : World) (hn : n = l.length) (hs : Fds w w.heap.size A l) (hl : n ≤ 1000000) :
  Calls Tryz.prog 56 #[.agg #[.slice A n c, .int .i64 x], .agg #[.int .i64 a, .int .i64 b]] w fun e w' => (∃ A' c', e = .returned (.agg #[.slice A' (dropF2 l a b).length c', .int .i64 x]) ∧ Own 58 4 w' w.heap.size (.slice A' (dropF2 l a b).length c') ((dropF2 l a b).map Fd.cells)) ∧ Below w.heap.size w w' := by
 have HN := Li hn
 have HS := Li hs
 clear hn hs
 go_enter Tryz.func56, Tryz.ntmps56
 go_wp2
 go_loopw [6] (fun j wr => ∃ (k n' c' : Nat) (A' : Option Addr), k ≤ n ∧ j = .int .i64 k ∧ Hid (n' = (dropF2 (l.take k) a b).length) ∧ Hid (Own 58 4 wr w.heap.size (.slice A' n' c') ((dropF2 (l.take k) a b).map Fd.cells)) ∧ Hid (Below w.heap.size w wr) ∧ Hid (CB wr w.heap.size 35 [.slice A n c, .int .i64 x]) ∧ Hid (CB wr (w.heap.size + 1) 46 [.int .i64 a, .int .i64 b]) ∧ Hid (CB wr (w.heap.size + 1 + 1) 35 [.slice none 0 0, .int .i64 0]) ∧ Hid (CB wr (w.heap.size + 1 + 1 + 1) 35 [.slice A' n' c', .int .i64 x])) (fun j _ => n - (intOf j).toNat)
 case atStart => exact ⟨0, 0, 0, none, by omega, rfl, rfl, Own.nil _ _ _ _, al4 _ _ _ _ _, ((CB.new _ _ _).alloc _ |>.alloc _).alloc _, ((CB.new1 _ _ _ _).alloc _).alloc _, (CB.new2 _ _ _ _ _).alloc _, CB.new3 _ _ _ _ _ _⟩
 case round =>
  obtain ⟨k, n', c', A', hk, rfl, hln, hown, hbel, hcs, hca, hcr, hco⟩ := hrel
  have hz3 := hco.out.lt
  have hz2 := hcr.out.lt
  have hz1 := hca.out.lt
  have hz0 := hcs.out.lt
  have q0 := hcs.out.cell 0 rfl
  have a0 := hca.out.cell 0 rfl
  have a1 := hca.out.cell 1 rfl
  have o0 := hco.out.cell 0 rfl
  have o1 := hco.out.cell 1 rfl
  by_cases hlt : k < n
  ·
   have i1 : (k : Int) < (n : Int) := by omega
   have i0 : (0 : Int) ≤ (k : Int) := by omega
   obtain ⟨f, hf⟩ := getD_of (l := l) (k := k) (by rw [← HN.out]; exact hlt)
   obtain ⟨bl, off, rfl, hb, c0, c1, c2, c3⟩ := (HS.out.below hbel.out).one hf
   have ht := Li (take_snoc' hf)
   have hll : n' ≤ 1000000 := by have := dr2_len (l.take k) a b; rw [hln.out]; simp at this; omega
   clear hf
   rcases dr2_cases (f.id != a) (f.id != b) with ⟨e1, HE⟩ | ⟨e1, e2, HE⟩ | ⟨e1, e2, HE⟩
   ·
    go_wp2
    go_quiet (fail)
    go_wp2
    go_roundw
    case rel =>
     have HX := dr2_no ht.out HE.out
     exact ⟨k + 1, n', c', A', by omega, by go_num, by rw [HX]; exact hln.out, by rw [HX]; exact hown.out.drewN _, below_drewN hbel.out _, hcs.out.drewN _, hca.out.drewN _, hcr.out.drewN _, hco.out.drewN _⟩
    case measure => simp [intOf]; omega
   ·
    go_wp2
    go_quiet (fail)
    go_wp2
    go_roundw
    case rel =>
     have HX := dr2_no ht.out HE.out
     exact ⟨k + 1, n', c', A', by omega, by go_num, by rw [HX]; exact hln.out, by rw [HX]; exact hown.out.drewN _, below_drewN hbel.out _, hcs.out.drewN _, hca.out.drewN _, hcr.out.drewN _, hco.out.drewN _⟩
    case measure => simp [intOf]; omega
   ·
    go_wp2
    go_quiet (fail)
    go_wp2
    have h1 := Li (hown.out.drewN nq)
    have h2 := Li (below_drewN hbel.out nq)
    have h3 := Li (hcs.out.drewN nq)
    have h4 := Li (hca.out.drewN nq)
    have h5 := Li (hcr.out.drewN nq)
    have h6 := Li (hco.out.drewN nq)
    have d0 : (wr.drewN nq).cell? ⟨bl, off + k * 4, none⟩ = some (.int .i64 f.id) := c0
    have d1 : (wr.drewN nq).cell? ⟨bl, off + k * 4 + 1, none⟩ = some (.string f.nm) := c1
    have d2 : (wr.drewN nq).cell? ⟨bl, off + k * 4 + 2, none⟩ = some (.int .i64 f.ty) := c2
    have d3 : (wr.drewN nq).cell? ⟨bl, off + k * 4 + 3, none⟩ = some (.int .i64 f.pa) := c3
    have p0 : (wr.drewN nq).cell? ⟨w.heap.size, 0, none⟩ = some (.slice (some ⟨bl, off, none⟩) n c) := q0
    have p1 : (wr.drewN nq).cell? ⟨w.heap.size + 1 + 1 + 1, 0, none⟩ = some (.slice A' n' c') := o0
    clear hown hbel hcs hca hcr hco c0 c1 c2 c3 q0 a0 a1 o0 o1 hz0 hz1 hz2 hz3
    generalize wr.drewN nq = W0 at *
    have hz3 := h6.out.lt
    have hz0 := h3.out.lt
    have hbl : bl < W0.heap.size := by omega
    have hne3 := h1.out.ne h3.out (by decide)
    have hne4 := h1.out.ne h4.out (by decide)
    have hne5 := h1.out.ne h5.out (by decide)
    have hne6 := h1.out.ne h6.out (by decide)
    have hbn3 : ¬ bl = w.heap.size + 1 + 1 + 1 := by omega
    refine wp_region_held_drew (S := fun w' => Hid (w'.cell? ⟨w.heap.size, 0, none⟩ = some (.slice (some ⟨bl, off, none⟩) n c) ∧ w'.cell? ⟨bl, off + k * 4, none⟩ = some (.int .i64 f.id) ∧ w'.cell? ⟨bl, off + k * 4 + 1, none⟩ = some (.string f.nm) ∧ w'.cell? ⟨bl, off + k * 4 + 2, none⟩ = some (.int .i64 f.ty) ∧ w'.cell? ⟨bl, off + k * 4 + 3, none⟩ = some (.int .i64 f.pa))) (by kernel_rfl) (Li ⟨p0, d0, d1, d2, d3⟩) (fun hHeld => ?_)
    replace h1 := Li h1.out.dr
    replace h2 := Li h2.out.drew
    replace h3 := Li h3.out.dr
    replace h4 := Li h4.out.dr
    replace h5 := Li h5.out.dr
    replace h6 := Li h6.out.dr
    replace p1 : W0.drew.cell? ⟨w.heap.size + 1 + 1 + 1, 0, none⟩ = some (.slice A' n' c') := p1
    replace d0 : W0.drew.cell? ⟨bl, off + k * 4, none⟩ = _ := d0
    replace d1 : W0.drew.cell? ⟨bl, off + k * 4 + 1, none⟩ = _ := d1
    replace d2 : W0.drew.cell? ⟨bl, off + k * 4 + 2, none⟩ = _ := d2
    replace d3 : W0.drew.cell? ⟨bl, off + k * 4 + 3, none⟩ = _ := d3
    replace hz0 : w.heap.size < W0.drew.heap.size := hz0
    replace hz3 : w.heap.size + 1 + 1 + 1 < W0.drew.heap.size := hz3
    replace hbl : bl < W0.drew.heap.size := hbl
    clear p0
    revert hHeld h1 h2 h3 h4 h5 h6 p1 d0 d1 d2 d3 hz0 hz3 hbl
    generalize W0.drew = W1
    intro hHeld h1 h2 h3 h4 h5 h6 p1 d0 d1 d2 d3 hz0 hz3 hbl
    refine htk 0 ?_
    refine htk 2 ?_
    refine htl 3 ?_ ?_ ?_
    rotate_left
    ·
     intro wS hSw
     obtain ⟨u0, u1, u2, u3, u4⟩ := hSw.out
     clear hSw
     go_simp
     try with_reducible rfl
    try simp only [pnz]
    refine htk 4 ?_
    refine htk 5 ?_
    refine htl 6 ?_ ?_ ?_
    rotate_left
    ·
     intro wS hSw
     obtain ⟨u0, u1, u2, u3, u4⟩ := hSw.out
     clear hSw
     go_simp
     try with_reducible rfl
    try simp only [pnz]
    refine rd2 1 7 (fun KK hK => ?_) (fun KK hK => ?_)
    ·
     go_simp
     skip
     refine hK.out _ _ (hHeld) (fun hHeld => ?_)
     clear hK KK
     try simp only [pnz]
     refine rd1 7 fun KK hK => ?_
     go_simp
     skip
     refine hK.out _ _ ((Li ⟨((al1 _ _).cell (p := ⟨w.heap.size, 0, none⟩) hz0).trans hHeld.out.1, ((al1 _ _).cell (p := ⟨bl, off + k * 4, none⟩) hbl).trans hHeld.out.2.1, ((al1 _ _).cell (p := ⟨bl, off + k * 4 + 1, none⟩) hbl).trans hHeld.out.2.2.1, ((al1 _ _).cell (p := ⟨bl, off + k * 4 + 2, none⟩) hbl).trans hHeld.out.2.2.2.1, ((al1 _ _).cell (p := ⟨bl, off + k * 4 + 3, none⟩) hbl).trans hHeld.out.2.2.2.2⟩)) (fun hHeld => ?_)
     clear hK KK
     try simp only [pnz]
     refine rd1 8 fun KK hK => ?_
     refine step_push_fd rfl (.tmp 38) (.tmp 44) rfl (w.heap.size) (.slice A' n' c') (dropF2 (l.take k) a b) f W1.heap.size n' rfl rfl hln.out (h1.out.alloc _) (CB.new _ _ _) hll (Nat.le_of_lt (Nat.lt_of_lt_of_le hz0 (al1 _ _).size)) ?_
     intro A8 c8 w8 ho8 hg8 hb8
     have HO8 := Li ho8
     have R3 := Li ((h3.out.up (al1 _ _)).grown hg8 hne3)
     have R4 := Li ((h4.out.up (al1 _ _)).grown hg8 hne4)
     have R5 := Li ((h5.out.up (al1 _ _)).grown hg8 hne5)
     have R6 := Li ((h6.out.up (al1 _ _)).grown hg8 hne6)
     have hb9 : Below w.heap.size W1 w8 := (Below.mono (al1 _ _) (Nat.le_of_lt hz0)).trans hb8
     have HB9 := Li hb9
     have HB8 := Li (h2.out.trans hb9)
     have y0 := R6.out.cell 0 rfl
     have y1 := R6.out.frozen 0
     clear ho8 hg8 hb8 hb9
     refine hK.out _ _ ((Li ⟨R3.out.cell 0 rfl, (HB9.out.cell (p := ⟨bl, off + k * 4, none⟩) hb).trans d0, (HB9.out.cell (p := ⟨bl, off + k * 4 + 1, none⟩) hb).trans d1, (HB9.out.cell (p := ⟨bl, off + k * 4 + 2, none⟩) hb).trans d2, (HB9.out.cell (p := ⟨bl, off + k * 4 + 3, none⟩) hb).trans d3⟩)) (fun hHeld => ?_)
     clear hK KK
     try simp only [pnz]
     refine htk 9 ?_
     refine rd1 10 fun KK hK => ?_
     go_simp
     skip
     refine hK.out _ _ ((Li ⟨(R3.out.set_other 0 _ (by omega)).cell 0 rfl, ((HB9.out.setCell (p := ⟨w.heap.size + 1 + 1 + 1, 0, none⟩) (by show w.heap.size ≤ w.heap.size + 1 + 1 + 1; omega) (.slice A8 (n' + 1) c8)).cell (p := ⟨bl, off + k * 4, none⟩) hb).trans d0, ((HB9.out.setCell (p := ⟨w.heap.size + 1 + 1 + 1, 0, none⟩) (by show w.heap.size ≤ w.heap.size + 1 + 1 + 1; omega) (.slice A8 (n' + 1) c8)).cell (p := ⟨bl, off + k * 4 + 1, none⟩) hb).trans d1, ((HB9.out.setCell (p := ⟨w.heap.size + 1 + 1 + 1, 0, none⟩) (by show w.heap.size ≤ w.heap.size + 1 + 1 + 1; omega) (.slice A8 (n' + 1) c8)).cell (p := ⟨bl, off + k * 4 + 2, none⟩) hb).trans d2, ((HB9.out.setCell (p := ⟨w.heap.size + 1 + 1 + 1, 0, none⟩) (by show w.heap.size ≤ w.heap.size + 1 + 1 + 1; omega) (.slice A8 (n' + 1) c8)).cell (p := ⟨bl, off + k * 4 + 3, none⟩) hb).trans d3⟩)) (fun hHeld => ?_)
     clear hK KK
     try simp only [pnz]
     refine wpAnyH_done (by kernel_rfl) ?_ _
     go_wp2
     go_roundw
     case rel =>
      have HX := dr2_yes ht.out HE.out
      refine ⟨k + 1, n' + 1, c8, A8, by omega, by go_num, ?_, ?_, HB8.out.setCell (p := ⟨w.heap.size + 1 + 1 + 1, 0, none⟩) (by show w.heap.size ≤ w.heap.size + 1 + 1 + 1; omega) _, R3.out.set_other _ _ (by omega), R4.out.set_other _ _ (by omega), R5.out.set_other _ _ (by omega), R6.out.set_ 0 _⟩
      ·
       show _ = _
       rw [HX, hln.out]
       simp
      ·
       rw [HX]
       exact HO8.out.set_ 0 _ (HO8.out.ne R6.out (by decide))
     case measure => simp [intOf]; omega
    ·
     go_simp
     skip
     refine hK.out _ _ ((Li ⟨((al1 _ _).cell (p := ⟨w.heap.size, 0, none⟩) hz0).trans hHeld.out.1, ((al1 _ _).cell (p := ⟨bl, off + k * 4, none⟩) hbl).trans hHeld.out.2.1, ((al1 _ _).cell (p := ⟨bl, off + k * 4 + 1, none⟩) hbl).trans hHeld.out.2.2.1, ((al1 _ _).cell (p := ⟨bl, off + k * 4 + 2, none⟩) hbl).trans hHeld.out.2.2.2.1, ((al1 _ _).cell (p := ⟨bl, off + k * 4 + 3, none⟩) hbl).trans hHeld.out.2.2.2.2⟩)) (fun hHeld => ?_)
     clear hK KK
     try simp only [pnz]
     refine rd1 1 fun KK hK => ?_
     go_simp
     skip
     refine hK.out _ _ (hHeld) (fun hHeld => ?_)
     clear hK KK
     try simp only [pnz]
     refine rd1 8 fun KK hK => ?_
     refine step_push_fd rfl (.tmp 38) (.tmp 44) rfl (w.heap.size) (.slice A' n' c') (dropF2 (l.take k) a b) f W1.heap.size n' rfl rfl hln.out (h1.out.alloc _) (CB.new _ _ _) hll (Nat.le_of_lt (Nat.lt_of_lt_of_le hz0 (al1 _ _).size)) ?_
     intro A8 c8 w8 ho8 hg8 hb8
     have HO8 := Li ho8
     have R3 := Li ((h3.out.up (al1 _ _)).grown hg8 hne3)
     have R4 := Li ((h4.out.up (al1 _ _)).grown hg8 hne4)
     have R5 := Li ((h5.out.up (al1 _ _)).grown hg8 hne5)
     have R6 := Li ((h6.out.up (al1 _ _)).grown hg8 hne6)
     have hb9 : Below w.heap.size W1 w8 := (Below.mono (al1 _ _) (Nat.le_of_lt hz0)).trans hb8
     have HB9 := Li hb9
     have HB8 := Li (h2.out.trans hb9)
     have y0 := R6.out.cell 0 rfl
     have y1 := R6.out.frozen 0
     clear ho8 hg8 hb8 hb9
     refine hK.out _ _ ((Li ⟨R3.out.cell 0 rfl, (HB9.out.cell (p := ⟨bl, off + k * 4, none⟩) hb).trans d0, (HB9.out.cell (p := ⟨bl, off + k * 4 + 1, none⟩) hb).trans d1, (HB9.out.cell (p := ⟨bl, off + k * 4 + 2, none⟩) hb).trans d2, (HB9.out.cell (p := ⟨bl, off + k * 4 + 3, none⟩) hb).trans d3⟩)) (fun hHeld => ?_)
     clear hK KK
     try simp only [pnz]
     refine htk 9 ?_
     refine rd1 10 fun KK hK => ?_
     go_simp
     skip
     refine hK.out _ _ ((Li ⟨(R3.out.set_other 0 _ (by omega)).cell 0 rfl, ((HB9.out.setCell (p := ⟨w.heap.size + 1 + 1 + 1, 0, none⟩) (by show w.heap.size ≤ w.heap.size + 1 + 1 + 1; omega) (.slice A8 (n' + 1) c8)).cell (p := ⟨bl, off + k * 4, none⟩) hb).trans d0, ((HB9.out.setCell (p := ⟨w.heap.size + 1 + 1 + 1, 0, none⟩) (by show w.heap.size ≤ w.heap.size + 1 + 1 + 1; omega) (.slice A8 (n' + 1) c8)).cell (p := ⟨bl, off + k * 4 + 1, none⟩) hb).trans d1, ((HB9.out.setCell (p := ⟨w.heap.size + 1 + 1 + 1, 0, none⟩) (by show w.heap.size ≤ w.heap.size + 1 + 1 + 1; omega) (.slice A8 (n' + 1) c8)).cell (p := ⟨bl, off + k * 4 + 2, none⟩) hb).trans d2, ((HB9.out.setCell (p := ⟨w.heap.size + 1 + 1 + 1, 0, none⟩) (by show w.heap.size ≤ w.heap.size + 1 + 1 + 1; omega) (.slice A8 (n' + 1) c8)).cell (p := ⟨bl, off + k * 4 + 3, none⟩) hb).trans d3⟩)) (fun hHeld => ?_)
     clear hK KK
     try simp only [pnz]
     refine wpAnyH_done (by kernel_rfl) ?_ _
     go_wp2
     go_roundw
     case rel =>
      have HX := dr2_yes ht.out HE.out
      refine ⟨k + 1, n' + 1, c8, A8, by omega, by go_num, ?_, ?_, HB8.out.setCell (p := ⟨w.heap.size + 1 + 1 + 1, 0, none⟩) (by show w.heap.size ≤ w.heap.size + 1 + 1 + 1; omega) _, R3.out.set_other _ _ (by omega), R4.out.set_other _ _ (by omega), R5.out.set_other _ _ (by omega), R6.out.set_ 0 _⟩
      ·
       show _ = _
       rw [HX, hln.out]
       simp
      ·
       rw [HX]
       exact HO8.out.set_ 0 _ (HO8.out.ne R6.out (by decide))
     case measure => simp [intOf]; omega
  ·
   have i1 : ¬ (k : Int) < (n : Int) := by omega
   have e : l.take k = l := List.take_of_length_le (by rw [← HN.out]; omega)
   rw [e] at hown hln
   obtain rfl : n' = (dropF2 l a b).length := hln.out
   go_wp2_with ((with_reducible show wpList _ _ _ _ _ _); refine wpList_store_cb rfl 35 (.tmp 4) (.tmp 47) rfl (w.heap.size + 1 + 1) [.slice A' (dropF2 l a b).length c', .int .i64 x] rfl rfl 35 [.slice none 0 0, .int .i64 0] 2 hcr.out sizeS rfl rfl (one_s _ _ _ _) ?_; intro w9 hc9 hg9 hz9)
   refine bodyPost_ret (res_cell1 Tryz.results56 rfl hc9 Tryz.underlying35 sizeS rfl) rfl ⟨⟨A', c', rfl, hown.out.kept hg9 (.inr (hown.out.ne hcr.out (by decide)).symm)⟩, below_grown hbel.out hg9 (by omega) (by omega)⟩
end Go.Proofs.YtfeemipnalgjnaaGreat
namespace Go.Proofs.YtfeemipnalgjnaaGreat
open Go.RowKit

theorem put_snoc {l : List Fd} {k : Nat} {f g : Fd} (h : l.take (k + 1) = l.take k ++ [f]) : putF (l.take (k + 1)) g = putF (l.take k) g ++ [if f.id = g.id then g else f] := by
 unfold putF
 rw [h, List.map_append]
 rfl
theorem put_len' (l : List Fd) (g : Fd) : (putF l g).length = l.length := by unfold putF; simp

section
variable {P : Program} {w : World} {ops : Array Oper} {o : Oper} {a : Act} {K : Act → World → Prop} {Q : Exit → Act → World → Prop} {F : Prop}
/-- append(v, x...) within a region that draws its order. -/
theorem step_cat {E T : TypeId} {k : Nat} {z : Value} {by_ : Nat} (hgd : o.guard = none) (d x : Operand) (ho : o.op = .call { callee := .builtin .append, args := #[d, x], argTypes := #[T, T] })
  (hT : P.underlying T = some (.slice E)) (hE : (P.info? E).map (fun i => (i.zero, i.size, i.bytes)) = some (some z, k, by_)) (hz : z.cells.size = k) (hk : 0 < k)
  (base : Nat) (v : Value) (L : List (List Value)) (A : Option Addr) (n c B : Nat) (L2 : List (List Value)) (hs : a.eval d = v) (hx : a.eval x = .slice A n c) (hn : n = L2.length)
  (hr : Own E k w base v L) (h2 : RowAt k w B A L2) (hvs : ∀ vs ∈ L2, vs.length = k) (h1 : ∀ vs ∈ L2, ∀ u ∈ vs, u.oneCell' = true) (hroom : L.length + n ≤ 1000000000) (hby : by_ ≤ 1000) (hbase : base ≤ w.heap.size)
  (hK : ∀ A' c' w', Own E k w' base (.slice A' (L.length + n) c') (L ++ L2) → w.grownBy w' v.ownBlock → Below base w w' → K (a.put o.dst (.slice A' (L.length + n) c')) w') : if Region.wanted o (yielded ops a.tmps) = true then Oper.wp P o a w K Q else F := by
 rw [if_pos (by simp [Region.wanted, hgd])]
 subst hn
 obtain ⟨i, hi, hz0, hsz, hb⟩ := info_parts hE
 cases A with
 | none =>
  have h0 : L2 = [] := by
   rcases Nat.eq_zero_or_pos L2.length with h0 | h0
   ·
    exact List.eq_nil_of_length_eq_zero h0
   ·
    obtain ⟨b, off, h, _⟩ := h2 h0
    cases h
  subst h0
  obtain ⟨A', c', rfl, _⟩ := hr.slice
  have hrun : (Builtin.append_ #[T, T] o.type #[.slice A' L.length c', .slice none 0 c]).run P w = .ok (.slice A' L.length c') w := by
   rcases hr.shape with ⟨e, rfl⟩ | ⟨g, cap, e, _, _, hcap, _⟩
   ·
    injection e with e1 e2 e3
    subst e1 e3
    simp [Builtin.append_, run_underlying hT, sizeOf, typeInfo, hi, Builtin.lenOf, Builtin.firstCells]
   ·
    injection e with e1 e2 e3
    subst e1 e3
    exact run_append_none w T o.type E i hT hi g L.length c' c hcap
  unfold Oper.wp execOp
  simp only [ho, resolve, invoke, builtin, Sem.run_bind, Sem.run_pure, Result.andThen_ok, List.map_toArray, List.map_cons, List.map_nil, hs, hx, List.length_nil, hrun]
  have h := hK A' c' w (by simpa using hr) (World.grownBy.refl _ _) (Below.refl _ _)
  simp only [List.length_nil, Nat.add_zero] at h
  exact h
 | some ad =>
  refine wp_append_own _ d x T ho base E i z k by_ hT hi hz0 hsz hb hz hk v L.length L.flatten hs hr.1 ad L2.length c L2.flatten hx (flat_len hvs) ?_ ?_ (by simp only [maxLen]; omega) ?_ hbase ?_
  ·
   intro j u hj
   rcases Nat.eq_zero_or_pos L2.length with h0 | h0
   ·
    rw [List.eq_nil_of_length_eq_zero h0] at hj
    simp at hj
   ·
    obtain ⟨b, off, e, hlt, hc⟩ := h2 h0
    injection e with e
    subst e
    rw [Addr.add_lit]
    have hjl : j < L2.length * k := by rw [← flat_len hvs]; exact (List.getElem?_eq_some_iff.1 hj).1
    have hq : j / k < L2.length := (Nat.div_lt_iff_lt_mul hk).2 hjl
    have hm : j % k < k := Nat.mod_lt _ hk
    have hvl : L2[j / k].length = k := hvs _ (List.getElem_mem hq)
    have hg := flat_get hvs (List.getElem?_eq_getElem hq) (List.getElem?_eq_getElem (l := L2[j / k]) (i := j % k) (by omega))
    have e : j / k * k + j % k = j := by rw [Nat.mul_comm]; exact Nat.div_add_mod j k
    rw [e, hj] at hg
    have hcc := hc (j / k) _ (List.getElem?_eq_getElem hq) (j % k) _ (List.getElem?_eq_getElem (by omega))
    rw [Nat.add_assoc, e] at hcc
    rw [hcc, ← Option.some.inj hg]
  ·
   intro u hu
   obtain ⟨vs, hv, hu'⟩ := List.mem_flatten.1 hu
   exact h1 vs hv u hu'
  ·
   exact Nat.le_trans (Nat.mul_le_mul hroom hby) (by decide)
  ·
   intro v' w' g1 g2 _
   have ho' : Own E k w' base v' (L ++ L2) := by
    refine ⟨by simpa using g1, fun u hu => ?_⟩
    rcases List.mem_append.1 hu with hu | hu
    ·
     exact hr.2 u hu
    ·
     exact hvs u hu
   obtain ⟨A', c', rfl, _⟩ := ho'.slice
   rw [List.length_append] at ho' ⊢
   exact hK A' c' w' ho' g2 ((Below.refl base w).grown g2 hbase (fun g hg => (World.ownsRow.lt hr.1 g hg).1))
end
theorem step_cat_fd {w : World} {ops : Array Oper} {o : Oper} {a : Act} {K : Act → World → Prop} {Q : Exit → Act → World → Prop} {F : Prop} (hgd : o.guard = none) (d x : Operand)
  (ho : o.op = .call { callee := .builtin .append, args := #[d, x], argTypes := #[33, 33] }) (base : Nat) (v : Value) (acc : List Fd) (A : Option Addr) (n c B : Nat) (l : List Fd) (hs : a.eval d = v) (hx : a.eval x = .slice A n c)
  (hn : n = l.length) (hr : Own 58 4 w base v (acc.map Fd.cells)) (h2 : Fds w B A l) (hroom : acc.length + n ≤ 1000000) (hbase : base ≤ w.heap.size)
  (hK : ∀ A' c' w', Own 58 4 w' base (.slice A' (acc.length + n) c') ((acc ++ l).map Fd.cells) → w.grownBy w' v.ownBlock → Below base w w' → K (a.put o.dst (.slice A' (acc.length + n) c')) w') : if Region.wanted o (yielded ops a.tmps) = true then Oper.wp Tryz.prog o a w K Q else F := by
 refine step_cat hgd d x ho Tryz.underlying33 infoF rfl (by decide) base v (acc.map Fd.cells) A n c B (l.map Fd.cells) hs hx (by simpa using hn) hr h2 (fds_len l) (fds_one l) (by rw [List.length_map]; omega) (by decide) hbase ?_
 intro A' c' w' h1 h2 h3
 rw [List.length_map] at h1 ⊢
 exact hK A' c' w' (by simpa using h1) h2 h3

set_option maxHeartbeats 2000000 in
set_option maxRecDepth 20000 in
theorem Rwith_any (A : Option Addr) (n c : Nat) (x : Int) (l : List Fd) (g : Fd) (w : World) (hn : n = l.length) (hs : Fds w w.heap.size A l) (hl : n ≤ 1000000) :
  Calls Tryz.prog 57 #[.agg #[.slice A n c, .int .i64 x], .agg #[.int .i64 g.id, .string g.nm, .int .i64 g.ty, .int .i64 g.pa]] w fun e w' => (∃ A' c', e = .returned (.agg #[.slice A' (putF l g).length c', .int .i64 x]) ∧ Own 58 4 w' w.heap.size (.slice A' (putF l g).length c') ((putF l g).map Fd.cells)) ∧ Below w.heap.size w w' := by
 have HN := Li hn
 have HS := Li hs
 clear hn hs
 go_enter Tryz.func57, Tryz.ntmps57
 go_wp2
 go_loopw [6] (fun j wr => ∃ (k n' c' : Nat) (A' : Option Addr), k ≤ n ∧ j = .int .i64 k ∧ Hid (n' = (putF (l.take k) g).length) ∧ Hid (Own 58 4 wr (w.heap.size + 1 + 1 + 1 + 1) (.slice A' n' c') ((putF (l.take k) g).map Fd.cells)) ∧ Hid (Below w.heap.size w wr) ∧ Hid (CB wr w.heap.size 35 [.slice A n c, .int .i64 x]) ∧ Hid (CB wr (w.heap.size + 1) 58 [.int .i64 g.id, .string g.nm, .int .i64 g.ty, .int .i64 g.pa]) ∧ Hid (CB wr (w.heap.size + 1 + 1) 35 [.slice none 0 0, .int .i64 0]) ∧ Hid (CB wr (w.heap.size + 1 + 1 + 1) 35 [.slice A' n' c', .int .i64 x])) (fun j _ => n - (intOf j).toNat)
 case atStart => exact ⟨0, 0, 0, none, by omega, rfl, rfl, Own.nil _ _ _ _, al4 _ _ _ _ _, ((CB.new _ _ _).alloc _ |>.alloc _).alloc _, ((CB.new1 _ _ _ _).alloc _).alloc _, (CB.new2 _ _ _ _ _).alloc _, CB.new3 _ _ _ _ _ _⟩
 case round =>
  obtain ⟨k, n', c', A', hk, rfl, hln, hown, hbel, hcs, hca, hcr, hco⟩ := hrel
  have hz3 := hco.out.lt
  have hz2 := hcr.out.lt
  have hz1 := hca.out.lt
  have hz0 := hcs.out.lt
  have q0 := hcs.out.cell 0 rfl
  have a0 := hca.out.cell 0 rfl
  have a1 := hca.out.cell 1 rfl
  have a2 := hca.out.cell 2 rfl
  have a3 := hca.out.cell 3 rfl
  have o0 := hco.out.cell 0 rfl
  have o1 := hco.out.cell 1 rfl
  by_cases hlt : k < n
  ·
   have i1 : (k : Int) < (n : Int) := by omega
   have i0 : (0 : Int) ≤ (k : Int) := by omega
   obtain ⟨f, hf⟩ := getD_of (l := l) (k := k) (by rw [← HN.out]; exact hlt)
   obtain ⟨bl, off, rfl, hb, c0, c1, c2, c3⟩ := (HS.out.below hbel.out).one hf
   have ht := Li (take_snoc' hf)
   have hll : n' ≤ 1000000 := by rw [hln.out, put_len']; simp; omega
   clear hf
   by_cases he : f.id = g.id
   ·
    have e1 : (f.id == g.id) = true := by simpa using he
    have HE := Li he
    clear he
    go_wp2
    go_quiet (fail)
    have hnq := al1 (wr.drewN nq) (.cells #[.int .i64 g.id, .string g.nm, .int .i64 g.ty, .int .i64 g.pa] 58)
    have hne3 := hown.out.below_ne (show w.heap.size < w.heap.size + 1 + 1 + 1 + 1 by omega)
    have hne4 := hown.out.below_ne (show w.heap.size + 1 < w.heap.size + 1 + 1 + 1 + 1 by omega)
    have hne5 := hown.out.below_ne (show w.heap.size + 1 + 1 < w.heap.size + 1 + 1 + 1 + 1 by omega)
    have hne6 := hown.out.below_ne (show w.heap.size + 1 + 1 + 1 < w.heap.size + 1 + 1 + 1 + 1 by omega)
    go_wp2_with ((at_builtin; refine push_fd (wr := wr.drewN nq) rfl (.tmp 27) (.tmp 29) rfl (w.heap.size + 1 + 1 + 1 + 1) _ (putF (l.take k) g) g wr.heap.size rfl rfl rfl rfl (hown.out.drewN nq) (hln.out ▸ hll) (by show _ ≤ wr.heap.size; omega) ?_; intro A8 c8 w8 ho8 hg8 hb8; have HO8 := Li ho8; have R3 := Li ((hcs.out.drewN nq).grown hg8 hne3); have R4 := Li ((hca.out.drewN nq).grown hg8 hne4); have R5 := Li ((hcr.out.drewN nq).grown hg8 hne5); have R6 := Li ((hco.out.drewN nq).grown hg8 hne6); have HB8 := Li ((below_drewN hbel.out nq).trans (hb8.mono (show w.heap.size ≤ w.heap.size + 1 + 1 + 1 + 1 by omega))); have y0 := R6.out.cell 0 rfl; have y1 := R6.out.frozen 0; clear ho8 hg8 hb8))
    go_roundw
    case rel =>
     have HX := put_snoc (g := g) ht.out
     rw [if_pos HE.out] at HX
     refine ⟨k + 1, (putF (l.take k) g).length + 1, c8, A8, by omega, by go_num, ?_, ?_, HB8.out.setCell (p := ⟨w.heap.size + 1 + 1 + 1, 0, none⟩) (by show w.heap.size ≤ w.heap.size + 1 + 1 + 1; omega) _, R3.out.set_other _ _ (by omega), R4.out.set_other _ _ (by omega), R5.out.set_other _ _ (by omega), R6.out.set_ 0 _⟩
     ·
      show _ = _
      rw [HX]
      simp
     ·
      rw [HX]
      exact HO8.out.set_ 0 _ (HO8.out.ne R6.out (by decide))
    case measure => simp [intOf]; omega
   ·
    have e1 : (f.id == g.id) = false := by simpa using he
    have HE := Li he
    clear he
    go_wp2
    go_quiet (fail)
    go_wp2
    have h1 := Li (hown.out.drewN nq)
    have h2 := Li (below_drewN hbel.out nq)
    have h3 := Li (hcs.out.drewN nq)
    have h4 := Li (hca.out.drewN nq)
    have h5 := Li (hcr.out.drewN nq)
    have h6 := Li (hco.out.drewN nq)
    have d0 : (wr.drewN nq).cell? ⟨bl, off + k * 4, none⟩ = some (.int .i64 f.id) := c0
    have d1 : (wr.drewN nq).cell? ⟨bl, off + k * 4 + 1, none⟩ = some (.string f.nm) := c1
    have d2 : (wr.drewN nq).cell? ⟨bl, off + k * 4 + 2, none⟩ = some (.int .i64 f.ty) := c2
    have d3 : (wr.drewN nq).cell? ⟨bl, off + k * 4 + 3, none⟩ = some (.int .i64 f.pa) := c3
    have p0 : (wr.drewN nq).cell? ⟨w.heap.size, 0, none⟩ = some (.slice (some ⟨bl, off, none⟩) n c) := q0
    have p1 : (wr.drewN nq).cell? ⟨w.heap.size + 1 + 1 + 1, 0, none⟩ = some (.slice A' n' c') := o0
    clear hown hbel hcs hca hcr hco c0 c1 c2 c3 q0 a0 a1 a2 a3 o0 o1 hz0 hz1 hz2 hz3
    generalize wr.drewN nq = W0 at *
    have hz3 := h6.out.lt
    have hz0 := h3.out.lt
    have hbl : bl < W0.heap.size := by omega
    have hne3 := h1.out.below_ne (show w.heap.size < w.heap.size + 1 + 1 + 1 + 1 by omega)
    have hne4 := h1.out.below_ne (show w.heap.size + 1 < w.heap.size + 1 + 1 + 1 + 1 by omega)
    have hne5 := h1.out.below_ne (show w.heap.size + 1 + 1 < w.heap.size + 1 + 1 + 1 + 1 by omega)
    have hne6 := h1.out.below_ne (show w.heap.size + 1 + 1 + 1 < w.heap.size + 1 + 1 + 1 + 1 by omega)
    have hbn3 : ¬ bl = w.heap.size + 1 + 1 + 1 := by omega
    refine wp_region_held_drew (S := fun w' => Hid (w'.cell? ⟨w.heap.size, 0, none⟩ = some (.slice (some ⟨bl, off, none⟩) n c) ∧ w'.cell? ⟨bl, off + k * 4, none⟩ = some (.int .i64 f.id) ∧ w'.cell? ⟨bl, off + k * 4 + 1, none⟩ = some (.string f.nm) ∧ w'.cell? ⟨bl, off + k * 4 + 2, none⟩ = some (.int .i64 f.ty) ∧ w'.cell? ⟨bl, off + k * 4 + 3, none⟩ = some (.int .i64 f.pa))) (by kernel_rfl) (Li ⟨p0, d0, d1, d2, d3⟩) (fun hHeld => ?_)
    replace h1 := Li h1.out.dr
    replace h2 := Li h2.out.drew
    replace h3 := Li h3.out.dr
    replace h4 := Li h4.out.dr
    replace h5 := Li h5.out.dr
    replace h6 := Li h6.out.dr
    replace p1 : W0.drew.cell? ⟨w.heap.size + 1 + 1 + 1, 0, none⟩ = some (.slice A' n' c') := p1
    replace d0 : W0.drew.cell? ⟨bl, off + k * 4, none⟩ = _ := d0
    replace d1 : W0.drew.cell? ⟨bl, off + k * 4 + 1, none⟩ = _ := d1
    replace d2 : W0.drew.cell? ⟨bl, off + k * 4 + 2, none⟩ = _ := d2
    replace d3 : W0.drew.cell? ⟨bl, off + k * 4 + 3, none⟩ = _ := d3
    replace hz0 : w.heap.size < W0.drew.heap.size := hz0
    replace hz3 : w.heap.size + 1 + 1 + 1 < W0.drew.heap.size := hz3
    replace hbl : bl < W0.drew.heap.size := hbl
    clear p0
    revert hHeld h1 h2 h3 h4 h5 h6 p1 d0 d1 d2 d3 hz0 hz3 hbl
    generalize W0.drew = W1
    intro hHeld h1 h2 h3 h4 h5 h6 p1 d0 d1 d2 d3 hz0 hz3 hbl
    refine htk 0 ?_
    refine htk 2 ?_
    refine htl 3 ?_ ?_ ?_
    rotate_left
    ·
     intro wS hSw
     obtain ⟨u0, u1, u2, u3, u4⟩ := hSw.out
     clear hSw
     go_simp
     try with_reducible rfl
    try simp only [pnz]
    refine htk 4 ?_
    refine htk 5 ?_
    refine htl 6 ?_ ?_ ?_
    rotate_left
    ·
     intro wS hSw
     obtain ⟨u0, u1, u2, u3, u4⟩ := hSw.out
     clear hSw
     go_simp
     try with_reducible rfl
    try simp only [pnz]
    refine rd2 1 7 (fun KK hK => ?_) (fun KK hK => ?_)
    ·
     go_simp
     skip
     refine hK.out _ _ (hHeld) (fun hHeld => ?_)
     clear hK KK
     try simp only [pnz]
     refine rd1 7 fun KK hK => ?_
     go_simp
     skip
     refine hK.out _ _ ((Li ⟨((al1 _ _).cell (p := ⟨w.heap.size, 0, none⟩) hz0).trans hHeld.out.1, ((al1 _ _).cell (p := ⟨bl, off + k * 4, none⟩) hbl).trans hHeld.out.2.1, ((al1 _ _).cell (p := ⟨bl, off + k * 4 + 1, none⟩) hbl).trans hHeld.out.2.2.1, ((al1 _ _).cell (p := ⟨bl, off + k * 4 + 2, none⟩) hbl).trans hHeld.out.2.2.2.1, ((al1 _ _).cell (p := ⟨bl, off + k * 4 + 3, none⟩) hbl).trans hHeld.out.2.2.2.2⟩)) (fun hHeld => ?_)
     clear hK KK
     try simp only [pnz]
     refine rd1 8 fun KK hK => ?_
     refine step_push_fd rfl (.tmp 33) (.tmp 39) rfl (w.heap.size + 1 + 1 + 1 + 1) (.slice A' n' c') (putF (l.take k) g) f W1.heap.size n' rfl rfl hln.out (h1.out.alloc _) (CB.new _ _ _) hll (Nat.lt_of_lt_of_le hz3 (al1 _ _).size) ?_
     intro A8 c8 w8 ho8 hg8 hb8
     have HO8 := Li ho8
     have R3 := Li ((h3.out.up (al1 _ _)).grown hg8 hne3)
     have R4 := Li ((h4.out.up (al1 _ _)).grown hg8 hne4)
     have R5 := Li ((h5.out.up (al1 _ _)).grown hg8 hne5)
     have R6 := Li ((h6.out.up (al1 _ _)).grown hg8 hne6)
     have hb9 : Below w.heap.size W1 w8 := (Below.mono (al1 _ _) (Nat.le_of_lt hz0)).trans (hb8.mono (show w.heap.size ≤ w.heap.size + 1 + 1 + 1 + 1 by omega))
     have HB9 := Li hb9
     have HB8 := Li (h2.out.trans hb9)
     have y0 := R6.out.cell 0 rfl
     have y1 := R6.out.frozen 0
     clear ho8 hg8 hb8 hb9
     refine hK.out _ _ ((Li ⟨R3.out.cell 0 rfl, (HB9.out.cell (p := ⟨bl, off + k * 4, none⟩) hb).trans d0, (HB9.out.cell (p := ⟨bl, off + k * 4 + 1, none⟩) hb).trans d1, (HB9.out.cell (p := ⟨bl, off + k * 4 + 2, none⟩) hb).trans d2, (HB9.out.cell (p := ⟨bl, off + k * 4 + 3, none⟩) hb).trans d3⟩)) (fun hHeld => ?_)
     clear hK KK
     try simp only [pnz]
     refine htk 9 ?_
     refine rd1 10 fun KK hK => ?_
     go_simp
     skip
     refine hK.out _ _ ((Li ⟨(R3.out.set_other 0 _ (by omega)).cell 0 rfl, ((HB9.out.setCell (p := ⟨w.heap.size + 1 + 1 + 1, 0, none⟩) (by show w.heap.size ≤ w.heap.size + 1 + 1 + 1; omega) (.slice A8 (n' + 1) c8)).cell (p := ⟨bl, off + k * 4, none⟩) hb).trans d0, ((HB9.out.setCell (p := ⟨w.heap.size + 1 + 1 + 1, 0, none⟩) (by show w.heap.size ≤ w.heap.size + 1 + 1 + 1; omega) (.slice A8 (n' + 1) c8)).cell (p := ⟨bl, off + k * 4 + 1, none⟩) hb).trans d1, ((HB9.out.setCell (p := ⟨w.heap.size + 1 + 1 + 1, 0, none⟩) (by show w.heap.size ≤ w.heap.size + 1 + 1 + 1; omega) (.slice A8 (n' + 1) c8)).cell (p := ⟨bl, off + k * 4 + 2, none⟩) hb).trans d2, ((HB9.out.setCell (p := ⟨w.heap.size + 1 + 1 + 1, 0, none⟩) (by show w.heap.size ≤ w.heap.size + 1 + 1 + 1; omega) (.slice A8 (n' + 1) c8)).cell (p := ⟨bl, off + k * 4 + 3, none⟩) hb).trans d3⟩)) (fun hHeld => ?_)
     clear hK KK
     try simp only [pnz]
     refine wpAnyH_done (by kernel_rfl) ?_ _
     go_wp2
     go_roundw
     case rel =>
      have HX := put_snoc (g := g) ht.out
      rw [if_neg HE.out] at HX
      refine ⟨k + 1, n' + 1, c8, A8, by omega, by go_num, ?_, ?_, HB8.out.setCell (p := ⟨w.heap.size + 1 + 1 + 1, 0, none⟩) (by show w.heap.size ≤ w.heap.size + 1 + 1 + 1; omega) _, R3.out.set_other _ _ (by omega), R4.out.set_other _ _ (by omega), R5.out.set_other _ _ (by omega), R6.out.set_ 0 _⟩
      ·
       show _ = _
       rw [HX, hln.out]
       simp
      ·
       rw [HX]
       exact HO8.out.set_ 0 _ (HO8.out.ne R6.out (by decide))
     case measure => simp [intOf]; omega
    ·
     go_simp
     skip
     refine hK.out _ _ ((Li ⟨((al1 _ _).cell (p := ⟨w.heap.size, 0, none⟩) hz0).trans hHeld.out.1, ((al1 _ _).cell (p := ⟨bl, off + k * 4, none⟩) hbl).trans hHeld.out.2.1, ((al1 _ _).cell (p := ⟨bl, off + k * 4 + 1, none⟩) hbl).trans hHeld.out.2.2.1, ((al1 _ _).cell (p := ⟨bl, off + k * 4 + 2, none⟩) hbl).trans hHeld.out.2.2.2.1, ((al1 _ _).cell (p := ⟨bl, off + k * 4 + 3, none⟩) hbl).trans hHeld.out.2.2.2.2⟩)) (fun hHeld => ?_)
     clear hK KK
     try simp only [pnz]
     refine rd1 1 fun KK hK => ?_
     go_simp
     skip
     refine hK.out _ _ (hHeld) (fun hHeld => ?_)
     clear hK KK
     try simp only [pnz]
     refine rd1 8 fun KK hK => ?_
     refine step_push_fd rfl (.tmp 33) (.tmp 39) rfl (w.heap.size + 1 + 1 + 1 + 1) (.slice A' n' c') (putF (l.take k) g) f W1.heap.size n' rfl rfl hln.out (h1.out.alloc _) (CB.new _ _ _) hll (Nat.lt_of_lt_of_le hz3 (al1 _ _).size) ?_
     intro A8 c8 w8 ho8 hg8 hb8
     have HO8 := Li ho8
     have R3 := Li ((h3.out.up (al1 _ _)).grown hg8 hne3)
     have R4 := Li ((h4.out.up (al1 _ _)).grown hg8 hne4)
     have R5 := Li ((h5.out.up (al1 _ _)).grown hg8 hne5)
     have R6 := Li ((h6.out.up (al1 _ _)).grown hg8 hne6)
     have hb9 : Below w.heap.size W1 w8 := (Below.mono (al1 _ _) (Nat.le_of_lt hz0)).trans (hb8.mono (show w.heap.size ≤ w.heap.size + 1 + 1 + 1 + 1 by omega))
     have HB9 := Li hb9
     have HB8 := Li (h2.out.trans hb9)
     have y0 := R6.out.cell 0 rfl
     have y1 := R6.out.frozen 0
     clear ho8 hg8 hb8 hb9
     refine hK.out _ _ ((Li ⟨R3.out.cell 0 rfl, (HB9.out.cell (p := ⟨bl, off + k * 4, none⟩) hb).trans d0, (HB9.out.cell (p := ⟨bl, off + k * 4 + 1, none⟩) hb).trans d1, (HB9.out.cell (p := ⟨bl, off + k * 4 + 2, none⟩) hb).trans d2, (HB9.out.cell (p := ⟨bl, off + k * 4 + 3, none⟩) hb).trans d3⟩)) (fun hHeld => ?_)
     clear hK KK
     try simp only [pnz]
     refine htk 9 ?_
     refine rd1 10 fun KK hK => ?_
     go_simp
     skip
     refine hK.out _ _ ((Li ⟨(R3.out.set_other 0 _ (by omega)).cell 0 rfl, ((HB9.out.setCell (p := ⟨w.heap.size + 1 + 1 + 1, 0, none⟩) (by show w.heap.size ≤ w.heap.size + 1 + 1 + 1; omega) (.slice A8 (n' + 1) c8)).cell (p := ⟨bl, off + k * 4, none⟩) hb).trans d0, ((HB9.out.setCell (p := ⟨w.heap.size + 1 + 1 + 1, 0, none⟩) (by show w.heap.size ≤ w.heap.size + 1 + 1 + 1; omega) (.slice A8 (n' + 1) c8)).cell (p := ⟨bl, off + k * 4 + 1, none⟩) hb).trans d1, ((HB9.out.setCell (p := ⟨w.heap.size + 1 + 1 + 1, 0, none⟩) (by show w.heap.size ≤ w.heap.size + 1 + 1 + 1; omega) (.slice A8 (n' + 1) c8)).cell (p := ⟨bl, off + k * 4 + 2, none⟩) hb).trans d2, ((HB9.out.setCell (p := ⟨w.heap.size + 1 + 1 + 1, 0, none⟩) (by show w.heap.size ≤ w.heap.size + 1 + 1 + 1; omega) (.slice A8 (n' + 1) c8)).cell (p := ⟨bl, off + k * 4 + 3, none⟩) hb).trans d3⟩)) (fun hHeld => ?_)
     clear hK KK
     try simp only [pnz]
     refine wpAnyH_done (by kernel_rfl) ?_ _
     go_wp2
     go_roundw
     case rel =>
      have HX := put_snoc (g := g) ht.out
      rw [if_neg HE.out] at HX
      refine ⟨k + 1, n' + 1, c8, A8, by omega, by go_num, ?_, ?_, HB8.out.setCell (p := ⟨w.heap.size + 1 + 1 + 1, 0, none⟩) (by show w.heap.size ≤ w.heap.size + 1 + 1 + 1; omega) _, R3.out.set_other _ _ (by omega), R4.out.set_other _ _ (by omega), R5.out.set_other _ _ (by omega), R6.out.set_ 0 _⟩
      ·
       show _ = _
       rw [HX, hln.out]
       simp
      ·
       rw [HX]
       exact HO8.out.set_ 0 _ (HO8.out.ne R6.out (by decide))
     case measure => simp [intOf]; omega
  ·
   have i1 : ¬ (k : Int) < (n : Int) := by omega
   have e : l.take k = l := List.take_of_length_le (by rw [← HN.out]; omega)
   rw [e] at hown hln
   obtain rfl : n' = (putF l g).length := hln.out
   go_wp2_with ((with_reducible show wpList _ _ _ _ _ _); refine wpList_store_cb rfl 35 (.tmp 4) (.tmp 42) rfl (w.heap.size + 1 + 1) [.slice A' (putF l g).length c', .int .i64 x] rfl rfl 35 [.slice none 0 0, .int .i64 0] 2 hcr.out sizeS rfl rfl (one_s _ _ _ _) ?_; intro w9 hc9 hg9 hz9)
   refine bodyPost_ret (res_cell1 Tryz.results57 rfl hc9 Tryz.underlying35 sizeS rfl) rfl ⟨⟨A', c', rfl, (hown.out.kept hg9 (.inr (hown.out.ne hcr.out (by decide)).symm)).low (by omega)⟩, below_grown hbel.out hg9 (by omega) (by omega)⟩
end Go.Proofs.YtfeemipnalgjnaaGreat
namespace Go.Proofs.YtfeemipnalgjnaaGreat
open Go.RowKit

theorem al_up {w X : World} {o : Obj} (h : Below w.heap.size w X) : Below w.heap.size w (X.alloc o) := h.alloc h.size o
theorem dr_up {w X : World} (h : Below w.heap.size w X) : Below w.heap.size w X.drew := h.drew
theorem own_empty1 {E : TypeId} {k : Nat} (w : World) (o : Obj) (c : Array Value) (hc : c = #[]) : Own E k ((w.alloc o).alloc (.cells c E)) w.heap.size (.slice (some ⟨w.heap.size + 1, 0, none⟩) 0 0) [] := by
 have h := own_empty (E := E) (k := k) (w.alloc o) c hc
 rw [asz] at h
 exact h.low (by omega)

set_option maxHeartbeats 1000000 in
set_option maxRecDepth 20000 in
theorem Rplus_any (A : Option Addr) (n c : Nat) (x : Int) (l : List Fd) (i0 : Int) (nm : ByteArray) (ty pa : Int) (w : World) (hn : n = l.length) (hs : Fds w w.heap.size A l) (hl : n ≤ 100000) (hx0 : 0 ≤ x) (hx1 : x ≤ 4611686018427387904) :
  Calls Tryz.prog 55 #[.agg #[.slice A n c, .int .i64 x], .agg #[.int .i64 i0, .string nm, .int .i64 ty, .int .i64 pa]] w fun e w' => (∃ A' c', e = .returned (.agg #[.slice A' (n + 1) c', .int .i64 (x + 1)]) ∧ Own 58 4 w' w.heap.size (.slice A' (n + 1) c') ((l ++ [(⟨x, nm, ty, pa⟩ : Fd)]).map Fd.cells)) ∧ Below w.heap.size w w' := by
 have HN := Li hn
 have HS := Li hs
 clear hn hs
 have HX : Hid (x + 1 ≤ 9223372036854775807) := by show _ ≤ _; omega
 go_enter Tryz.func55, Tryz.ntmps55
 go_wp2
 rename_i K hK
 have q0 := ((CB.new w 35 [.slice A n c, .int .i64 x]).alloc (.cells #[.int .i64 x, .string nm, .int .i64 ty, .int .i64 pa] 58)).alloc (.cells #[.slice none 0 0, .int .i64 0] 35)
 have q1 := (CB.new1 w (.cells #[.slice A n c, .int .i64 x] 35) 58 [.int .i64 x, .string nm, .int .i64 ty, .int .i64 pa]).alloc (.cells #[.slice none 0 0, .int .i64 0] 35)
 have q2 := CB.new2 w (.cells #[.slice A n c, .int .i64 x] 35) (.cells #[.int .i64 x, .string nm, .int .i64 ty, .int .i64 pa] 58) 35 [.slice none 0 0, .int .i64 0]
 have qb := al3 w (.cells #[.slice A n c, .int .i64 x] 35) (.cells #[.int .i64 x, .string nm, .int .i64 ty, .int .i64 pa] 58) (.cells #[.slice none 0 0, .int .i64 0] 35)
 generalize ((w.alloc (.cells #[.slice A n c, .int .i64 x] 35)).alloc (.cells #[.int .i64 x, .string nm, .int .i64 ty, .int .i64 pa] 58)).alloc (.cells #[.slice none 0 0, .int .i64 0] 35) = W0 at *
 have Q0 := Li q0
 have Q1 := Li q1
 have Q2 := Li q2
 have QB := Li qb
 have HS0 := Li (HS.out.up qb)
 have hwx : IntKind.i64.wrap (x + 1) = x + 1 := IntWalk.i64_in _ ⟨by omega, by omega⟩
 have hneA : some (W0.heap.size + 1) ≠ (Value.slice (some ⟨W0.heap.size, 0, none⟩) 0 0).ownBlock := by simp [Value.ownBlock]
 have hneB : some W0.heap.size ≠ (Value.slice (some ⟨W0.heap.size + 1, 0, none⟩) 0 0).ownBlock := by simp [Value.ownBlock]
 have TAIL : Hid (∀ (g e : Nat) (A8 : Option Addr) (c8 : Nat) (W : World), CB W g 35 [.slice A8 n c8, .int .i64 (x + 1)] → Own 58 4 W W0.heap.size (.slice A8 n c8) (l.map Fd.cells) → CB W (w.heap.size + 1) 58 [.int .i64 x, .string nm, .int .i64 ty, .int .i64 pa] → CB W (w.heap.size + 1 + 1) 35 [.slice none 0 0, .int .i64 0] → Below w.heap.size w W → W0.heap.size ≤ g → K ⟨#[.agg #[.slice A n c, .int .i64 x], .agg #[.int .i64 i0, .string nm, .int .i64 ty, .int .i64 pa], .pointer (some ⟨w.heap.size, 0, none⟩), .pointer (some ⟨w.heap.size + 1, 0, none⟩), .pointer (some ⟨w.heap.size + 1 + 1, 0, none⟩), .pointer (some ⟨g, 0, none⟩), .pointer (some ⟨w.heap.size, 1, none⟩), .int .i64 x, .pointer (some ⟨w.heap.size + 1, 0, none⟩), .pointer (some ⟨w.heap.size, 1, none⟩), .int .i64 x, .int .i64 (x + 1), .slice (some ⟨e, 0, none⟩) 0 0, .pointer (some ⟨w.heap.size, 0, none⟩), .slice A n c, .slice A8 n c8, .agg #[.slice A8 n c8, .int .i64 (x + 1)], undef, undef, undef, undef, undef, undef, undef], []⟩ W) := by
  intro g e A8 c8 W hg ho hf hr hb hge
  have hz1 := hf.lt
  have hz2 := hr.lt
  have hz3 := hg.lt
  have g0 := hg.cell 0 rfl
  have f0 := hf.c4
  have hneg := ho.ne hg (by decide)
  have hner := ho.ne hr (by decide)
  have hw0 : w.heap.size + 1 + 1 < W0.heap.size := Q2.out.lt
  refine hK _ _ ?_
  go_wp2_with (first | (at_builtin; refine push_fd (wr := W) rfl (.tmp 18) (.tmp 20) rfl W0.heap.size _ l ⟨x, nm, ty, pa⟩ W.heap.size rfl rfl rfl rfl ho (by rw [← HN.out]; omega) (by omega) ?_; intro A9 c9 w9 ho9 hg9 hb9; rw [← HN.out] at ho9; rw [← HN.out]; have HO9 := Li ho9; have G9 := Li (hg.grown hg9 hneg); have R9 := Li (hr.grown hg9 hner); have B9 := Li (hb.trans (hb9.mono (by omega))); have g9 := G9.out.c2; have g9f := G9.out.frozen 0; clear ho9 hg9 hb9) | ((with_reducible show wpList _ _ _ _ _ _); refine wpList_store_cb rfl 35 (.tmp 4) (.tmp 23) rfl (w.heap.size + 1 + 1) [.slice A9 (n + 1) c9, .int .i64 (x + 1)] rfl rfl 35 [.slice none 0 0, .int .i64 0] 2 (R9.out.set_other 0 _ (by omega)) sizeS rfl rfl (one_s _ _ _ _) ?_; intro w10 hc10 hg10 hz10))
  have B10 := B9.out.setCell (p := ⟨g, 0, none⟩) (by show w.heap.size ≤ g; omega) (.slice A9 (n + 1) c9)
  refine bodyPost_ret (res_cell1 Tryz.results55 rfl hc10 Tryz.underlying35 sizeS rfl) rfl ⟨⟨A9, c9, rfl, ((HO9.out.set_ 0 _ (HO9.out.ne G9.out (by decide))).kept hg10 (.inr (HO9.out.ne R9.out (by decide)).symm)).low (by omega)⟩, below_grown B10 hg10 B10.size (by omega)⟩
 have x0 := q0.cell 0 rfl
 have x1 := q0.cell 1 rfl
 have hz0 := q0.lt
 clear q0 q1 q2 qb
 go_region_held_law (fun w' => w'.cell? ⟨w.heap.size, 0, none⟩ = some (.slice A n c) ∧ w'.cell? ⟨w.heap.size, 1, none⟩ = some (.int .i64 x))
  (first | exact ⟨z0, z1⟩ | (refine ⟨?_, ?_⟩ <;> simp [go_sem, z0, z1]) | go_keep)
  (first | (refine step_cat_fd rfl (.tmp 12) (.tmp 14) rfl W0.heap.size (.slice (some ⟨W0.heap.size, 0, none⟩) 0 0) [] A n c W0.heap.size l rfl rfl HN.out (by (iterate 6 (try (first | exact own_empty _ _ rfl | exact own_empty1 _ _ _ rfl | with_reducible apply Own.alloc | with_reducible apply Own.dr)))) (HS0.out.below (by (iterate 6 (try (first | with_reducible exact Below.refl _ _ | with_reducible apply al_up | with_reducible apply dr_up))))) (by simp; omega) (Below.size (show Below W0.heap.size W0 _ by (iterate 6 (try (first | with_reducible exact Below.refl _ _ | with_reducible apply al_up | with_reducible apply dr_up))))) ?_; intro A8 c8 w8 ho8 hg8 hb8; (first | (have YB := Li (CB.grown (show CB _ (W0.heap.size + 1) 35 [.slice none 0 0, .int .i64 0] by first | exact CB.new1 _ _ _ _ | exact (CB.new1 _ _ _ _).dr | exact (CB.new1 _ _ _ _).dr.dr) hg8 hneA); have y0 := YB.out.cell 0 rfl; have y1 := YB.out.cell 1 rfl; have y2 := YB.out.frozen 0; have y3 := YB.out.frozen 1) | skip); simp only [List.length_nil, Nat.zero_add, List.nil_append] at ho8; have HO8 := Li ho8; have hw8 : Below W0.heap.size W0 w8 := (show Below W0.heap.size W0 _ by (iterate 6 (try (first | with_reducible exact Below.refl _ _ | with_reducible apply al_up | with_reducible apply dr_up)))).trans hb8; have z0 := (Q0.out.up hw8).cell 0 rfl; have z1 := (Q0.out.up hw8).cell 1 rfl; clear ho8 hg8 hb8) | (refine step_cat_fd rfl (.tmp 12) (.tmp 14) rfl W0.heap.size (.slice (some ⟨W0.heap.size + 1, 0, none⟩) 0 0) [] A n c W0.heap.size l rfl rfl HN.out (by (iterate 6 (try (first | exact own_empty _ _ rfl | exact own_empty1 _ _ _ rfl | with_reducible apply Own.alloc | with_reducible apply Own.dr)))) (HS0.out.below (by (iterate 6 (try (first | with_reducible exact Below.refl _ _ | with_reducible apply al_up | with_reducible apply dr_up))))) (by simp; omega) (Below.size (show Below W0.heap.size W0 _ by (iterate 6 (try (first | with_reducible exact Below.refl _ _ | with_reducible apply al_up | with_reducible apply dr_up))))) ?_; intro A8 c8 w8 ho8 hg8 hb8; (first | (have YB := Li (CB.grown (show CB _ (W0.heap.size) 35 [.slice none 0 0, .int .i64 0] by first | exact (CB.new _ _ _).alloc _ | exact ((CB.new _ _ _).alloc _).dr | exact ((CB.new _ _ _).dr).alloc _ | exact (((CB.new _ _ _).dr).alloc _).dr) hg8 hneB); have y0 := YB.out.cell 0 rfl; have y1 := YB.out.cell 1 rfl; have y2 := YB.out.frozen 0; have y3 := YB.out.frozen 1) | skip); simp only [List.length_nil, Nat.zero_add, List.nil_append] at ho8; have HO8 := Li ho8; have hw8 : Below W0.heap.size W0 w8 := (show Below W0.heap.size W0 _ by (iterate 6 (try (first | with_reducible exact Below.refl _ _ | with_reducible apply al_up | with_reducible apply dr_up)))).trans hb8; have z0 := (Q0.out.up hw8).cell 0 rfl; have z1 := (Q0.out.up hw8).cell 1 rfl; clear ho8 hg8 hb8))
 all_goals
  have hq1 := Q1.out.lt
  have hq2 := Q2.out.lt
  have hB8 := QB.out.trans (hw8.mono QB.out.size)
  first
   | exact TAIL.out _ _ _ _ _ (CB.new w8 _ _) (HO8.out.alloc _) ((Q1.out.up hw8).alloc _) ((Q2.out.up hw8).alloc _) (hB8.alloc hB8.size _) hw8.size
   | exact TAIL.out _ _ _ _ _ ((YB.out.set_ 0 _).set_ 1 _) ((HO8.out.set_ 0 _ (HO8.out.ne YB.out (by decide))).set_ 1 _ (HO8.out.ne YB.out (by decide))) (((Q1.out.up hw8).set_other 0 _ (by omega)).set_other 1 _ (by omega)) (((Q2.out.up hw8).set_other 0 _ (by omega)).set_other 1 _ (by omega)) ((hB8.setCell (p := ⟨W0.heap.size + 1, 0, none⟩) (by show w.heap.size ≤ W0.heap.size + 1; omega) _).setCell (p := ⟨W0.heap.size + 1, 1, none⟩) (by show w.heap.size ≤ W0.heap.size + 1; omega) _) (by omega)
   | exact TAIL.out _ _ _ _ _ ((YB.out.set_ 0 _).set_ 1 _) ((HO8.out.set_ 0 _ (HO8.out.ne YB.out (by decide))).set_ 1 _ (HO8.out.ne YB.out (by decide))) (((Q1.out.up hw8).set_other 0 _ (by omega)).set_other 1 _ (by omega)) (((Q2.out.up hw8).set_other 0 _ (by omega)).set_other 1 _ (by omega)) ((hB8.setCell (p := ⟨W0.heap.size, 0, none⟩) (by show w.heap.size ≤ W0.heap.size; omega) _).setCell (p := ⟨W0.heap.size, 1, none⟩) (by show w.heap.size ≤ W0.heap.size; omega) _) (by omega)
end Go.Proofs.YtfeemipnalgjnaaGreat
namespace Go.Proofs.YtfeemipnalgjnaaGreat
open Go.RowKit

def addR (s : Sc) (c : Ch) : Sc × Int :=
 if typB c.ty = true then (if grpB s.fs c.pa = true ∧ depL s.fs c.pa < 8 then (if takB s.fs ⟨0, c.nm, c.ty, c.pa⟩ 0 0 = true then (Sc.zero, 60) else if s.fs.length < 64 ∧ s.next < 1073741824 then (withS s c.nm c.ty c.pa, 0) else (Sc.zero, 2)) else (Sc.zero, 63)) else (Sc.zero, 7)

set_option maxHeartbeats 4000000 in
set_option maxRecDepth 20000 in
theorem Radd_any (A : Option Addr) (n c : Nat) (x : Int) (l : List Fd) (kd id wi : Int) (nm ot : ByteArray) (ty pa : Int) (sep : ByteArray) (w : World) (hn : n = l.length) (hs : Fds w w.heap.size A l) (hl0 : n ≤ 1000) (hx0 : 0 ≤ x) (hx1 : x ≤ 2305843009213693952) (hnm : nm.size ≤ 9223372036854775807) (_hot : ot.size ≤ 9223372036854775807) (_hsep : sep.size ≤ 9223372036854775807) :
  Calls Tryz.prog 32 #[.agg #[.slice A n c, .int .i64 x], .agg #[.int .i64 kd, .int .i64 id, .int .i64 wi, .string nm, .string ot, .int .i64 ty, .int .i64 pa, .string sep]] w fun e w' => ResS w w' (addR ⟨l, x⟩ ⟨kd, id, wi, nm, ot, ty, pa, sep⟩) e ∧ Below w.heap.size w w' := by
 have HN := Li hn
 have HS := Li hs
 clear hn hs
 have hl : n ≤ 100000 := by omega
 have hl2 : n ≤ 9223372036854775807 := by omega
 have hl3 : n ≤ 1000000 := by omega
 have hx2 : x ≤ 4611686018427387904 := by omega
 obtain ⟨bG, hG⟩ : ∃ b, grpB l pa = b := ⟨_, rfl⟩
 obtain ⟨d, hD⟩ : ∃ d, depL l pa = d := ⟨_, rfl⟩
 obtain ⟨bT, hT⟩ : ∃ b, takB l ⟨0, nm, ty, pa⟩ 0 0 = b := ⟨_, rfl⟩
 have HE : Hid (addR ⟨l, x⟩ ⟨kd, id, wi, nm, ot, ty, pa, sep⟩ = if typB ty = true then (if bG = true ∧ d < 8 then (if bT = true then (Sc.zero, 60) else if n < 64 ∧ x < 1073741824 then (withS ⟨l, x⟩ nm ty pa, 0) else (Sc.zero, 2)) else (Sc.zero, 63)) else (Sc.zero, 7)) := by
  show _ = _
  unfold addR
  simp only [hG, hD, hT, ← HN.out]
 have HG := Li hG
 have HD := Li hD
 have HT := Li hT
 clear hG hD hT
 by_cases h1 : ty < 1
 ·
  have h1' : typB ty = false := by unfold typB; simp; omega
  have HR := HE.out
  rw [if_neg (by rw [h1']; decide)] at HR; clear h1'
  have HRX := Li HR
  clear HR HE
  have S0 := qS w A n c x kd id wi nm ot ty pa sep
  have C0 := qC w A n c x kd id wi nm ot ty pa sep
  have R0 := qR w A n c x kd id wi nm ot ty pa sep
  have B0 := qB w A n c x kd id wi nm ot ty pa sep
  have zR0 := R0.out.lt
  go_enter Tryz.func32, Tryz.ntmps32
  go_wp2_with (first | ((with_reducible show wpList _ _ _ _ _ _); refine wpList_store_cb rfl 35 (.tmp 4) (.tmp 15) rfl (w.heap.size + 1 + 1) [.slice none 0 0, .int .i64 0] rfl rfl 35 [.slice none 0 0, .int .i64 0] 2 (R0.out) sizeS rfl rfl (one_s _ _ _ _) ?_; intro wz hcz hgz hzz))
  all_goals
   refine bodyPost_ret (res_cell Tryz.results32 rfl rfl hcz Tryz.underlying35 sizeS rfl) rfl ⟨?_, below_grown B0.out hgz (by omega) (by omega)⟩
   rw [HRX.out]
   exact res_zero _ _ _
 ·
  by_cases h6 : 6 < ty
  ·
   have h1' : typB ty = false := by unfold typB; simp; omega
   have HR := HE.out
   rw [if_neg (by rw [h1']; decide)] at HR; clear h1'
   have HRX := Li HR
   clear HR HE
   have S0 := qS w A n c x kd id wi nm ot ty pa sep
   have C0 := qC w A n c x kd id wi nm ot ty pa sep
   have R0 := qR w A n c x kd id wi nm ot ty pa sep
   have B0 := qB w A n c x kd id wi nm ot ty pa sep
   have zR0 := R0.out.lt
   go_enter Tryz.func32, Tryz.ntmps32
   go_wp2_with (first | ((with_reducible show wpList _ _ _ _ _ _); refine wpList_store_cb rfl 35 (.tmp 4) (.tmp 15) rfl (w.heap.size + 1 + 1) [.slice none 0 0, .int .i64 0] rfl rfl 35 [.slice none 0 0, .int .i64 0] 2 (R0.out) sizeS rfl rfl (one_s _ _ _ _) ?_; intro wz hcz hgz hzz))
   all_goals
    refine bodyPost_ret (res_cell Tryz.results32 rfl rfl hcz Tryz.underlying35 sizeS rfl) rfl ⟨?_, below_grown B0.out hgz (by omega) (by omega)⟩
    rw [HRX.out]
    exact res_zero _ _ _
  ·
   have h1' : typB ty = true := by unfold typB; simp; omega
   have HE1 := HE.out
   rw [if_pos h1'] at HE1
   clear HE h1'
   have HE := Li HE1
   clear HE1
   cases bG with
   | false =>
    have HR := HE.out
    rw [if_neg (by simp)] at HR
    have HRX := Li HR
    clear HR HE
    have S0 := qS w A n c x kd id wi nm ot ty pa sep
    have C0 := qC w A n c x kd id wi nm ot ty pa sep
    have R0 := qR w A n c x kd id wi nm ot ty pa sep
    have B0 := qB w A n c x kd id wi nm ot ty pa sep
    have zR0 := R0.out.lt
    go_enter Tryz.func32, Tryz.ntmps32
    go_wp2_with (first | (go_at_call 52; refine (Rgroup_any A n c x l pa _ HN.out (HS.out.up B0.out) hl2).mono ?_; rintro e w5 ⟨rfl, hb5⟩; rw [HG.out]; have S5 := Li (S0.out.up hb5); have C5 := Li (C0.out.up hb5); have R5 := Li (R0.out.up hb5); have B5 := Li (below_step B0.out B0.out.size hb5); have s50 := S5.out.c2; have c50 := C5.out.c8; have zS5 := S5.out.lt; have zC5 := C5.out.lt; have zR5 := R5.out.lt; clear hb5) | ((with_reducible show wpList _ _ _ _ _ _); refine wpList_store_cb rfl 35 (.tmp 4) (.tmp 28) rfl (w.heap.size + 1 + 1) [.slice none 0 0, .int .i64 0] rfl rfl 35 [.slice none 0 0, .int .i64 0] 2 (R5.out) sizeS rfl rfl (one_s _ _ _ _) ?_; intro wz hcz hgz hzz))
    all_goals
     refine bodyPost_ret (res_cell Tryz.results32 rfl rfl hcz Tryz.underlying35 sizeS rfl) rfl ⟨?_, below_grown B5.out hgz (by omega) (by omega)⟩
     rw [HRX.out]
     exact res_zero _ _ _
   | true =>
    by_cases h8 : 8 ≤ d
    ·
     have hd8 : ¬ d < 8 := by omega
     have HR := HE.out
     rw [if_neg (by simp; omega)] at HR
     have HRX := Li HR
     clear HR HE
     have S0 := qS w A n c x kd id wi nm ot ty pa sep
     have C0 := qC w A n c x kd id wi nm ot ty pa sep
     have R0 := qR w A n c x kd id wi nm ot ty pa sep
     have B0 := qB w A n c x kd id wi nm ot ty pa sep
     have zR0 := R0.out.lt
     go_enter Tryz.func32, Tryz.ntmps32
     go_wp2_with (first | (go_at_call 52; refine (Rgroup_any A n c x l pa _ HN.out (HS.out.up B0.out) hl2).mono ?_; rintro e w5 ⟨rfl, hb5⟩; rw [HG.out]; have S5 := Li (S0.out.up hb5); have C5 := Li (C0.out.up hb5); have R5 := Li (R0.out.up hb5); have B5 := Li (below_step B0.out B0.out.size hb5); have s50 := S5.out.c2; have c50 := C5.out.c8; have zS5 := S5.out.lt; have zC5 := C5.out.lt; have zR5 := R5.out.lt; clear hb5) | (go_at_call 53; refine (Rdepth_any A n c x l pa _ HN.out (HS.out.up B5.out) hl2).mono ?_; rintro e w6 ⟨rfl, hb6⟩; rw [HD.out]; have S6 := Li (S5.out.up hb6); have C6 := Li (C5.out.up hb6); have R6 := Li (R5.out.up hb6); have B6 := Li (below_step B5.out B5.out.size hb6); have s60 := S6.out.c2; have c60 := C6.out.c8; have zS6 := S6.out.lt; have zC6 := C6.out.lt; have zR6 := R6.out.lt; clear hb6) | ((with_reducible show wpList _ _ _ _ _ _); refine wpList_store_cb rfl 35 (.tmp 4) (.tmp 28) rfl (w.heap.size + 1 + 1) [.slice none 0 0, .int .i64 0] rfl rfl 35 [.slice none 0 0, .int .i64 0] 2 (R6.out) sizeS rfl rfl (one_s _ _ _ _) ?_; intro wz hcz hgz hzz))
     all_goals
      refine bodyPost_ret (res_cell Tryz.results32 rfl rfl hcz Tryz.underlying35 sizeS rfl) rfl ⟨?_, below_grown B6.out hgz (by omega) (by omega)⟩
      rw [HRX.out]
      exact res_zero _ _ _
    ·
     have hd8 : d < 8 := by omega
     cases bT with
     | true =>
      have HR := HE.out
      rw [if_pos ⟨rfl, hd8⟩, if_pos rfl] at HR
      have HRX := Li HR
      clear HR HE
      have S0 := qS w A n c x kd id wi nm ot ty pa sep
      have C0 := qC w A n c x kd id wi nm ot ty pa sep
      have R0 := qR w A n c x kd id wi nm ot ty pa sep
      have B0 := qB w A n c x kd id wi nm ot ty pa sep
      have zR0 := R0.out.lt
      go_enter Tryz.func32, Tryz.ntmps32
      go_wp2_with (first | (go_at_call 52; refine (Rgroup_any A n c x l pa _ HN.out (HS.out.up B0.out) hl2).mono ?_; rintro e w5 ⟨rfl, hb5⟩; rw [HG.out]; have S5 := Li (S0.out.up hb5); have C5 := Li (C0.out.up hb5); have R5 := Li (R0.out.up hb5); have B5 := Li (below_step B0.out B0.out.size hb5); have s50 := S5.out.c2; have c50 := C5.out.c8; have zS5 := S5.out.lt; have zC5 := C5.out.lt; have zR5 := R5.out.lt; clear hb5) | (go_at_call 53; refine (Rdepth_any A n c x l pa _ HN.out (HS.out.up B5.out) hl2).mono ?_; rintro e w6 ⟨rfl, hb6⟩; rw [HD.out]; have S6 := Li (S5.out.up hb6); have C6 := Li (C5.out.up hb6); have R6 := Li (R5.out.up hb6); have B6 := Li (below_step B5.out B5.out.size hb6); have s60 := S6.out.c2; have c60 := C6.out.c8; have zS6 := S6.out.lt; have zC6 := C6.out.lt; have zR6 := R6.out.lt; clear hb6) | (go_at_call 54; refine (Rtaken_any A n c x l ⟨0, nm, ty, pa⟩ 0 0 _ HN.out (HS.out.up (B6.out.alloc B6.out.size _)) hl2 hnm).mono ?_; rintro e w8 ⟨rfl, hb8⟩; rw [HT.out]; have hb8' := (al1 w6 (.cells #[.int .i64 0, .string nm, .int .i64 ty, .int .i64 pa] 58)).trans (hb8.mono (al1 w6 (.cells #[.int .i64 0, .string nm, .int .i64 ty, .int .i64 pa] 58)).size); have F8 := Li ((CB.new w6 58 [.int .i64 0, .string nm, .int .i64 ty, .int .i64 pa]).up hb8); have S8 := Li (S6.out.up hb8'); have C8 := Li (C6.out.up hb8'); have R8 := Li (R6.out.up hb8'); have B8 := Li (below_step B6.out B6.out.size hb8'); have s80 := S8.out.c2; have c80 := C8.out.c8; have zS8 := S8.out.lt; have zC8 := C8.out.lt; have zR8 := R8.out.lt; have f80 := F8.out.c4; have zF8 := F8.out.lt; clear hb8 hb8') | ((with_reducible show wpList _ _ _ _ _ _); refine wpList_store_cb rfl 35 (.tmp 4) (.tmp 40) rfl (w.heap.size + 1 + 1) [.slice none 0 0, .int .i64 0] rfl rfl 35 [.slice none 0 0, .int .i64 0] 2 (R8.out) sizeS rfl rfl (one_s _ _ _ _) ?_; intro wz hcz hgz hzz))
      all_goals
       refine bodyPost_ret (res_cell Tryz.results32 rfl rfl hcz Tryz.underlying35 sizeS rfl) rfl ⟨?_, below_grown B8.out hgz (by omega) (by omega)⟩
       rw [HRX.out]
       exact res_zero _ _ _
     | false =>
      by_cases h64 : n < 64
      ·
       have j64 : ¬ (64 : Int) ≤ (n : Int) := by omega
       by_cases hm : x < 1073741824
       ·
        have jm : ¬ (1073741824 : Int) ≤ x := by omega
        have HR := HE.out
        rw [if_pos ⟨rfl, hd8⟩, if_neg (by decide), if_pos ⟨h64, hm⟩] at HR
        have HRX := Li HR
        clear HR HE
        have S0 := qS w A n c x kd id wi nm ot ty pa sep
        have C0 := qC w A n c x kd id wi nm ot ty pa sep
        have R0 := qR w A n c x kd id wi nm ot ty pa sep
        have B0 := qB w A n c x kd id wi nm ot ty pa sep
        have zR0 := R0.out.lt
        go_enter Tryz.func32, Tryz.ntmps32
        go_wp2_with (first | (go_at_call 52; refine (Rgroup_any A n c x l pa _ HN.out (HS.out.up B0.out) hl2).mono ?_; rintro e w5 ⟨rfl, hb5⟩; rw [HG.out]; have S5 := Li (S0.out.up hb5); have C5 := Li (C0.out.up hb5); have R5 := Li (R0.out.up hb5); have B5 := Li (below_step B0.out B0.out.size hb5); have s50 := S5.out.c2; have c50 := C5.out.c8; have zS5 := S5.out.lt; have zC5 := C5.out.lt; have zR5 := R5.out.lt; clear hb5) | (go_at_call 53; refine (Rdepth_any A n c x l pa _ HN.out (HS.out.up B5.out) hl2).mono ?_; rintro e w6 ⟨rfl, hb6⟩; rw [HD.out]; have S6 := Li (S5.out.up hb6); have C6 := Li (C5.out.up hb6); have R6 := Li (R5.out.up hb6); have B6 := Li (below_step B5.out B5.out.size hb6); have s60 := S6.out.c2; have c60 := C6.out.c8; have zS6 := S6.out.lt; have zC6 := C6.out.lt; have zR6 := R6.out.lt; clear hb6) | (go_at_call 54; refine (Rtaken_any A n c x l ⟨0, nm, ty, pa⟩ 0 0 _ HN.out (HS.out.up (B6.out.alloc B6.out.size _)) hl2 hnm).mono ?_; rintro e w8 ⟨rfl, hb8⟩; rw [HT.out]; have hb8' := (al1 w6 (.cells #[.int .i64 0, .string nm, .int .i64 ty, .int .i64 pa] 58)).trans (hb8.mono (al1 w6 (.cells #[.int .i64 0, .string nm, .int .i64 ty, .int .i64 pa] 58)).size); have F8 := Li ((CB.new w6 58 [.int .i64 0, .string nm, .int .i64 ty, .int .i64 pa]).up hb8); have S8 := Li (S6.out.up hb8'); have C8 := Li (C6.out.up hb8'); have R8 := Li (R6.out.up hb8'); have B8 := Li (below_step B6.out B6.out.size hb8'); have s80 := S8.out.c2; have c80 := C8.out.c8; have zS8 := S8.out.lt; have zC8 := C8.out.lt; have zR8 := R8.out.lt; have f80 := F8.out.c4; have zF8 := F8.out.lt; clear hb8 hb8') | (go_at_call 55; refine (Rplus_any A n c x l 0 nm ty pa _ HN.out (HS.out.up B8.out) hl hx0 hx2).mono ?_; rintro e w9 ⟨⟨A9, c9, rfl, ho9⟩, hb9⟩; have S9 := Li (S8.out.up hb9); have C9 := Li (C8.out.up hb9); have R9 := Li (R8.out.up hb9); have B9 := Li (below_step B8.out B8.out.size hb9); have s90 := S9.out.c2; have zS9 := S9.out.lt; have zC9 := C9.out.lt; have zR9 := R9.out.lt; have O9 := Li ho9; clear hb9 ho9) | ((with_reducible show wpList _ _ _ _ _ _); refine wpList_store_cb rfl 35 (.tmp 4) (.tmp 53) rfl (w.heap.size + 1 + 1) [.slice A9 (n + 1) c9, .int .i64 (x + 1)] rfl rfl 35 [.slice none 0 0, .int .i64 0] 2 (R9.out) sizeS rfl rfl (one_s _ _ _ _) ?_; intro wz hcz hgz hzz))
        all_goals
         refine bodyPost_ret (res_cell Tryz.results32 rfl rfl hcz Tryz.underlying35 sizeS rfl) rfl ⟨?_, below_grown B9.out hgz (by omega) (by omega)⟩
         rw [HRX.out]
         exact ⟨A9, n + 1, c9, rfl, by rw [HN.out]; simp [withS], ((O9.out.low B8.out.size).kept hgz (.inr (Own.ne (O9.out.low B8.out.size) R9.out (by decide)).symm))⟩
       ·
        have jm : (1073741824 : Int) ≤ x := by omega
        have HR := HE.out
        rw [if_pos ⟨rfl, hd8⟩, if_neg (by decide), if_neg (fun h => hm h.2)] at HR
        have HRX := Li HR
        clear HR HE
        have S0 := qS w A n c x kd id wi nm ot ty pa sep
        have C0 := qC w A n c x kd id wi nm ot ty pa sep
        have R0 := qR w A n c x kd id wi nm ot ty pa sep
        have B0 := qB w A n c x kd id wi nm ot ty pa sep
        have zR0 := R0.out.lt
        go_enter Tryz.func32, Tryz.ntmps32
        go_wp2_with (first | (go_at_call 52; refine (Rgroup_any A n c x l pa _ HN.out (HS.out.up B0.out) hl2).mono ?_; rintro e w5 ⟨rfl, hb5⟩; rw [HG.out]; have S5 := Li (S0.out.up hb5); have C5 := Li (C0.out.up hb5); have R5 := Li (R0.out.up hb5); have B5 := Li (below_step B0.out B0.out.size hb5); have s50 := S5.out.c2; have c50 := C5.out.c8; have zS5 := S5.out.lt; have zC5 := C5.out.lt; have zR5 := R5.out.lt; clear hb5) | (go_at_call 53; refine (Rdepth_any A n c x l pa _ HN.out (HS.out.up B5.out) hl2).mono ?_; rintro e w6 ⟨rfl, hb6⟩; rw [HD.out]; have S6 := Li (S5.out.up hb6); have C6 := Li (C5.out.up hb6); have R6 := Li (R5.out.up hb6); have B6 := Li (below_step B5.out B5.out.size hb6); have s60 := S6.out.c2; have c60 := C6.out.c8; have zS6 := S6.out.lt; have zC6 := C6.out.lt; have zR6 := R6.out.lt; clear hb6) | (go_at_call 54; refine (Rtaken_any A n c x l ⟨0, nm, ty, pa⟩ 0 0 _ HN.out (HS.out.up (B6.out.alloc B6.out.size _)) hl2 hnm).mono ?_; rintro e w8 ⟨rfl, hb8⟩; rw [HT.out]; have hb8' := (al1 w6 (.cells #[.int .i64 0, .string nm, .int .i64 ty, .int .i64 pa] 58)).trans (hb8.mono (al1 w6 (.cells #[.int .i64 0, .string nm, .int .i64 ty, .int .i64 pa] 58)).size); have F8 := Li ((CB.new w6 58 [.int .i64 0, .string nm, .int .i64 ty, .int .i64 pa]).up hb8); have S8 := Li (S6.out.up hb8'); have C8 := Li (C6.out.up hb8'); have R8 := Li (R6.out.up hb8'); have B8 := Li (below_step B6.out B6.out.size hb8'); have s80 := S8.out.c2; have c80 := C8.out.c8; have zS8 := S8.out.lt; have zC8 := C8.out.lt; have zR8 := R8.out.lt; have f80 := F8.out.c4; have zF8 := F8.out.lt; clear hb8 hb8') | ((with_reducible show wpList _ _ _ _ _ _); refine wpList_store_cb rfl 35 (.tmp 4) (.tmp 50) rfl (w.heap.size + 1 + 1) [.slice none 0 0, .int .i64 0] rfl rfl 35 [.slice none 0 0, .int .i64 0] 2 (R8.out) sizeS rfl rfl (one_s _ _ _ _) ?_; intro wz hcz hgz hzz))
        all_goals
         refine bodyPost_ret (res_cell Tryz.results32 rfl rfl hcz Tryz.underlying35 sizeS rfl) rfl ⟨?_, below_grown B8.out hgz (by omega) (by omega)⟩
         rw [HRX.out]
         exact res_zero _ _ _
      ·
       have j64 : (64 : Int) ≤ (n : Int) := by omega
       have HR := HE.out
       rw [if_pos ⟨rfl, hd8⟩, if_neg (by decide), if_neg (fun h => h64 h.1)] at HR
       have HRX := Li HR
       clear HR HE
       have S0 := qS w A n c x kd id wi nm ot ty pa sep
       have C0 := qC w A n c x kd id wi nm ot ty pa sep
       have R0 := qR w A n c x kd id wi nm ot ty pa sep
       have B0 := qB w A n c x kd id wi nm ot ty pa sep
       have zR0 := R0.out.lt
       go_enter Tryz.func32, Tryz.ntmps32
       go_wp2_with (first | (go_at_call 52; refine (Rgroup_any A n c x l pa _ HN.out (HS.out.up B0.out) hl2).mono ?_; rintro e w5 ⟨rfl, hb5⟩; rw [HG.out]; have S5 := Li (S0.out.up hb5); have C5 := Li (C0.out.up hb5); have R5 := Li (R0.out.up hb5); have B5 := Li (below_step B0.out B0.out.size hb5); have s50 := S5.out.c2; have c50 := C5.out.c8; have zS5 := S5.out.lt; have zC5 := C5.out.lt; have zR5 := R5.out.lt; clear hb5) | (go_at_call 53; refine (Rdepth_any A n c x l pa _ HN.out (HS.out.up B5.out) hl2).mono ?_; rintro e w6 ⟨rfl, hb6⟩; rw [HD.out]; have S6 := Li (S5.out.up hb6); have C6 := Li (C5.out.up hb6); have R6 := Li (R5.out.up hb6); have B6 := Li (below_step B5.out B5.out.size hb6); have s60 := S6.out.c2; have c60 := C6.out.c8; have zS6 := S6.out.lt; have zC6 := C6.out.lt; have zR6 := R6.out.lt; clear hb6) | (go_at_call 54; refine (Rtaken_any A n c x l ⟨0, nm, ty, pa⟩ 0 0 _ HN.out (HS.out.up (B6.out.alloc B6.out.size _)) hl2 hnm).mono ?_; rintro e w8 ⟨rfl, hb8⟩; rw [HT.out]; have hb8' := (al1 w6 (.cells #[.int .i64 0, .string nm, .int .i64 ty, .int .i64 pa] 58)).trans (hb8.mono (al1 w6 (.cells #[.int .i64 0, .string nm, .int .i64 ty, .int .i64 pa] 58)).size); have F8 := Li ((CB.new w6 58 [.int .i64 0, .string nm, .int .i64 ty, .int .i64 pa]).up hb8); have S8 := Li (S6.out.up hb8'); have C8 := Li (C6.out.up hb8'); have R8 := Li (R6.out.up hb8'); have B8 := Li (below_step B6.out B6.out.size hb8'); have s80 := S8.out.c2; have c80 := C8.out.c8; have zS8 := S8.out.lt; have zC8 := C8.out.lt; have zR8 := R8.out.lt; have f80 := F8.out.c4; have zF8 := F8.out.lt; clear hb8 hb8') | ((with_reducible show wpList _ _ _ _ _ _); refine wpList_store_cb rfl 35 (.tmp 4) (.tmp 50) rfl (w.heap.size + 1 + 1) [.slice none 0 0, .int .i64 0] rfl rfl 35 [.slice none 0 0, .int .i64 0] 2 (R8.out) sizeS rfl rfl (one_s _ _ _ _) ?_; intro wz hcz hgz hzz))
       all_goals
        refine bodyPost_ret (res_cell Tryz.results32 rfl rfl hcz Tryz.underlying35 sizeS rfl) rfl ⟨?_, below_grown B8.out hgz (by omega) (by omega)⟩
        rw [HRX.out]
        exact res_zero _ _ _
end Go.Proofs.YtfeemipnalgjnaaGreat
namespace Go.Proofs.YtfeemipnalgjnaaGreat
open Go.RowKit

def depOk (o : List Fd) (f : Fd) : Bool := decide (depL o f.id ≤ 8)
def movR (l : List Fd) (x : Int) (f : Fd) (p : Int) : Sc × Int :=
 if grpB l p = true ∧ insB l p f.id = false then (if (putF l { f with pa := p }).all (depOk (putF l { f with pa := p })) = true then (if takB l { f with pa := p } f.id f.id = true then (Sc.zero, 60) else (⟨putF l { f with pa := p }, x⟩, 0)) else (Sc.zero, 63)) else (Sc.zero, 63)

set_option maxHeartbeats 4000000 in
set_option maxRecDepth 20000 in
theorem Rmove_any (A : Option Addr) (n c : Nat) (x : Int) (l : List Fd) (i : Int) (nm : ByteArray) (ty pa p : Int) (w : World) (hn : n = l.length) (hs : Fds w w.heap.size A l) (hl0 : n ≤ 1000) (hnm : nm.size ≤ 9223372036854775807) :
  Calls Tryz.prog 58 #[.agg #[.slice A n c, .int .i64 x], .agg #[.int .i64 i, .string nm, .int .i64 ty, .int .i64 pa], .int .i64 p] w fun e w' => ResS w w' (movR l x ⟨i, nm, ty, pa⟩ p) e ∧ Below w.heap.size w w' := by
 have HN := Li hn
 have HS := Li hs
 clear hn hs
 have hl2 : n ≤ 9223372036854775807 := by omega
 have hl3 : n ≤ 1000000 := by omega
 obtain ⟨bG, hG⟩ : ∃ b, grpB l p = b := ⟨_, rfl⟩
 obtain ⟨bI, hI⟩ : ∃ b, insB l p i = b := ⟨_, rfl⟩
 obtain ⟨bT, hT⟩ : ∃ b, takB l ⟨i, nm, ty, p⟩ i i = b := ⟨_, rfl⟩
 obtain ⟨o, ho⟩ : ∃ o, putF l ⟨i, nm, ty, p⟩ = o := ⟨_, rfl⟩
 have HNO : Hid (n = o.length) := by show _ = _; rw [← ho, put_len', ← HN.out]
 have HE : Hid (movR l x ⟨i, nm, ty, pa⟩ p = if bG = true ∧ bI = false then (if o.all (depOk o) = true then (if bT = true then (Sc.zero, 60) else (⟨o, x⟩, 0)) else (Sc.zero, 63)) else (Sc.zero, 63)) := by
  show _ = _
  unfold movR
  simp only [hG, hI, hT, ho]
 have HG := Li hG
 have HI := Li hI
 have HT := Li hT
 have HO := Li ho
 clear hG hI hT ho
 cases bG with
 | false =>
  have HRX := Li (HE.out.trans (if_neg (by simp)))
  clear HE
  have S0 := Li (((CB.new w 35 [.slice A n c, .int .i64 x]).alloc (.cells #[.int .i64 i, .string nm, .int .i64 ty, .int .i64 pa] 58)).alloc (.cells #[.slice none 0 0, .int .i64 0] 35))
  have C0 := Li ((CB.new1 w (.cells #[.slice A n c, .int .i64 x] 35) 58 [.int .i64 i, .string nm, .int .i64 ty, .int .i64 pa]).alloc (.cells #[.slice none 0 0, .int .i64 0] 35))
  have R0 := Li (CB.new2 w (.cells #[.slice A n c, .int .i64 x] 35) (.cells #[.int .i64 i, .string nm, .int .i64 ty, .int .i64 pa] 58) 35 [.slice none 0 0, .int .i64 0])
  have B0 := Li (al3 w (.cells #[.slice A n c, .int .i64 x] 35) (.cells #[.int .i64 i, .string nm, .int .i64 ty, .int .i64 pa] 58) (.cells #[.slice none 0 0, .int .i64 0] 35))
  have zR0 := R0.out.lt
  go_enter Tryz.func58, Tryz.ntmps58
  go_wp2_with (first | (go_at_call 52; refine (Rgroup_any A n c x l p _ HN.out (HS.out.up B0.out) hl2).mono ?_; rintro e w5 ⟨rfl, hb5⟩; rw [HG.out]; have S5 := Li (S0.out.up hb5); have C5 := Li (C0.out.up hb5); have R5 := Li (R0.out.up hb5); have B5 := Li (below_step B0.out B0.out.size hb5); have s50 := S5.out.c2; have c50 := C5.out.c4; have zS5 := S5.out.lt; have zC5 := C5.out.lt; have zR5 := R5.out.lt; have fC5 := C5.out.frozen 3; clear hb5) | ((with_reducible show wpList _ _ _ _ _ _); refine wpList_store_cb rfl 35 (.tmp 6) (.tmp 21) rfl (w.heap.size + 1 + 1) [.slice none 0 0, .int .i64 0] rfl rfl 35 [.slice none 0 0, .int .i64 0] 2 (R5.out) sizeS rfl rfl (one_s _ _ _ _) ?_; intro wz hcz hgz hzz))
  refine bodyPost_ret (res_cell Tryz.results58 rfl rfl hcz Tryz.underlying35 sizeS rfl) rfl ⟨?_, below_grown B5.out hgz (by omega) (by omega)⟩
  rw [HRX.out]
  exact res_zero _ _ _
 | true =>
  cases bI with
  | true =>
   have HRX := Li (HE.out.trans (if_neg (by simp)))
   clear HE
   have S0 := Li (((CB.new w 35 [.slice A n c, .int .i64 x]).alloc (.cells #[.int .i64 i, .string nm, .int .i64 ty, .int .i64 pa] 58)).alloc (.cells #[.slice none 0 0, .int .i64 0] 35))
   have C0 := Li ((CB.new1 w (.cells #[.slice A n c, .int .i64 x] 35) 58 [.int .i64 i, .string nm, .int .i64 ty, .int .i64 pa]).alloc (.cells #[.slice none 0 0, .int .i64 0] 35))
   have R0 := Li (CB.new2 w (.cells #[.slice A n c, .int .i64 x] 35) (.cells #[.int .i64 i, .string nm, .int .i64 ty, .int .i64 pa] 58) 35 [.slice none 0 0, .int .i64 0])
   have B0 := Li (al3 w (.cells #[.slice A n c, .int .i64 x] 35) (.cells #[.int .i64 i, .string nm, .int .i64 ty, .int .i64 pa] 58) (.cells #[.slice none 0 0, .int .i64 0] 35))
   have zR0 := R0.out.lt
   go_enter Tryz.func58, Tryz.ntmps58
   go_wp2_with (first | (go_at_call 52; refine (Rgroup_any A n c x l p _ HN.out (HS.out.up B0.out) hl2).mono ?_; rintro e w5 ⟨rfl, hb5⟩; rw [HG.out]; have S5 := Li (S0.out.up hb5); have C5 := Li (C0.out.up hb5); have R5 := Li (R0.out.up hb5); have B5 := Li (below_step B0.out B0.out.size hb5); have s50 := S5.out.c2; have c50 := C5.out.c4; have zS5 := S5.out.lt; have zC5 := C5.out.lt; have zR5 := R5.out.lt; have fC5 := C5.out.frozen 3; clear hb5) | (go_at_call 79; refine (Rinside_any A n c x l p i _ HN.out (HS.out.up B5.out) hl2).mono ?_; rintro e w6 ⟨rfl, hb6⟩; rw [HI.out]; have S6 := Li (S5.out.up hb6); have C6 := Li (C5.out.up hb6); have R6 := Li (R5.out.up hb6); have B6 := Li (below_step B5.out B5.out.size hb6); have s60 := S6.out.c2; have c60 := C6.out.c4; have zS6 := S6.out.lt; have zC6 := C6.out.lt; have zR6 := R6.out.lt; have fC6 := C6.out.frozen 3; clear hb6) | ((with_reducible show wpList _ _ _ _ _ _); refine wpList_store_cb rfl 35 (.tmp 6) (.tmp 21) rfl (w.heap.size + 1 + 1) [.slice none 0 0, .int .i64 0] rfl rfl 35 [.slice none 0 0, .int .i64 0] 2 (R6.out) sizeS rfl rfl (one_s _ _ _ _) ?_; intro wz hcz hgz hzz))
   refine bodyPost_ret (res_cell Tryz.results58 rfl rfl hcz Tryz.underlying35 sizeS rfl) rfl ⟨?_, below_grown B6.out hgz (by omega) (by omega)⟩
   rw [HRX.out]
   exact res_zero _ _ _
  | false =>
   have HR := HE.out
   rw [if_pos ⟨rfl, rfl⟩] at HR
   have HE2 := Li HR
   clear HE HR
   have S0 := Li (((CB.new w 35 [.slice A n c, .int .i64 x]).alloc (.cells #[.int .i64 i, .string nm, .int .i64 ty, .int .i64 pa] 58)).alloc (.cells #[.slice none 0 0, .int .i64 0] 35))
   have C0 := Li ((CB.new1 w (.cells #[.slice A n c, .int .i64 x] 35) 58 [.int .i64 i, .string nm, .int .i64 ty, .int .i64 pa]).alloc (.cells #[.slice none 0 0, .int .i64 0] 35))
   have R0 := Li (CB.new2 w (.cells #[.slice A n c, .int .i64 x] 35) (.cells #[.int .i64 i, .string nm, .int .i64 ty, .int .i64 pa] 58) 35 [.slice none 0 0, .int .i64 0])
   have B0 := Li (al3 w (.cells #[.slice A n c, .int .i64 x] 35) (.cells #[.int .i64 i, .string nm, .int .i64 ty, .int .i64 pa] 58) (.cells #[.slice none 0 0, .int .i64 0] 35))
   have zR0 := R0.out.lt
   go_enter Tryz.func58, Tryz.ntmps58
   go_wp2_with (first | (go_at_call 52; refine (Rgroup_any A n c x l p _ HN.out (HS.out.up B0.out) hl2).mono ?_; rintro e w5 ⟨rfl, hb5⟩; rw [HG.out]; have S5 := Li (S0.out.up hb5); have C5 := Li (C0.out.up hb5); have R5 := Li (R0.out.up hb5); have B5 := Li (below_step B0.out B0.out.size hb5); have s50 := S5.out.c2; have c50 := C5.out.c4; have zS5 := S5.out.lt; have zC5 := C5.out.lt; have zR5 := R5.out.lt; have fC5 := C5.out.frozen 3; clear hb5) | (go_at_call 79; refine (Rinside_any A n c x l p i _ HN.out (HS.out.up B5.out) hl2).mono ?_; rintro e w6 ⟨rfl, hb6⟩; rw [HI.out]; have S6 := Li (S5.out.up hb6); have C6 := Li (C5.out.up hb6); have R6 := Li (R5.out.up hb6); have B6 := Li (below_step B5.out B5.out.size hb6); have s60 := S6.out.c2; have c60 := C6.out.c4; have zS6 := S6.out.lt; have zC6 := C6.out.lt; have zR6 := R6.out.lt; have fC6 := C6.out.frozen 3; clear hb6) | (go_at_call 57; refine (Rwith_any A n c x l ⟨i, nm, ty, p⟩ _ HN.out (HS.out.up (B6.out.setCell (p := ⟨w.heap.size + 1, 3, none⟩) (by show w.heap.size ≤ w.heap.size + 1; omega) _)) hl3).mono ?_; rw [put_len', ← HN.out, HO.out]; rintro e w8 ⟨⟨A8, c8, rfl, ho8⟩, hb8⟩; have S8 := Li ((S6.out.set_other 3 (.int .i64 p) (by omega)).up hb8); have C8 := Li ((C6.out.set_ 3 (.int .i64 p)).up hb8); have R8 := Li ((R6.out.set_other 3 (.int .i64 p) (by omega)).up hb8); have B8 := Li ((B6.out.setCell (p := ⟨w.heap.size + 1, 3, none⟩) (by show w.heap.size ≤ w.heap.size + 1; omega) _).trans (hb8.mono (Below.size (B6.out.setCell (p := ⟨w.heap.size + 1, 3, none⟩) (by show w.heap.size ≤ w.heap.size + 1; omega) _)))); have O8 := Li (ho8.low (Below.size (B6.out.setCell (p := ⟨w.heap.size + 1, 3, none⟩) (by show w.heap.size ≤ w.heap.size + 1; omega) (.int .i64 p)))); have zR8 := R8.out.lt; clear hb8 ho8))
   clear S0 C0 R0 B0 S5 C5 R5 B5 S6 C6 R6 B6
   go_loopw [9] (fun j wr => ∃ k : Nat, k ≤ n ∧ j = .int .i64 k ∧ Hid (CB wr w.heap.size 35 [.slice A n c, .int .i64 x]) ∧ Hid (CB wr (w.heap.size + 1) 58 [.int .i64 i, .string nm, .int .i64 ty, .int .i64 p]) ∧ Hid (CB wr (w.heap.size + 1 + 1) 35 [.slice none 0 0, .int .i64 0]) ∧ Hid (CB wr w8.heap.size 35 [.slice A8 n c8, .int .i64 x]) ∧ Hid (Own 58 4 wr w.heap.size (.slice A8 n c8) (o.map Fd.cells)) ∧ Hid (Below w.heap.size w wr) ∧ Hid ((o.drop k).all (depOk o) = o.all (depOk o))) (fun j _ => n - (intOf j).toNat)
   case atStart => exact ⟨0, by omega, rfl, S8.out.alloc _, C8.out.alloc _, R8.out.alloc _, CB.new _ _ _, O8.out.alloc _, B8.out.alloc B8.out.size _, rfl⟩
   case round =>
    obtain ⟨k, hk, rfl, hs, hc, hr, ht, hown, hbel, hgo⟩ := hrel
    have hzs := hs.out.lt
    have hzc := hc.out.lt
    have hzr := hr.out.lt
    have hzt := ht.out.lt
    have t0 := ht.out.c2
    have HF := Li (show Fds wr wr.heap.size A8 o from hown.out.row.2.2.2)
    by_cases hlt : k < n
    ·
     have i1 : (k : Int) < (n : Int) := by omega
     obtain ⟨f, hf⟩ := getD_of (l := o) (k := k) (by rw [← HNO.out]; exact hlt)
     obtain ⟨b, off, rfl, hb, c0, c1, c2, c3⟩ := HF.out.one hf
     have hd := Li (drop_cons hf)
     have hSS : Hid (∀ W, Below wr.heap.size wr W → W.cell? ⟨w8.heap.size, 0, none⟩ = some (.slice (some ⟨b, off, none⟩) n c8) ∧ W.cell? ⟨w8.heap.size, 1, none⟩ = some (.int .i64 x) ∧ W.cell? ⟨b, off + k * 4, none⟩ = some (.int .i64 f.id)) := by
      intro W hW
      exact ⟨(ht.out.up hW).cell 0 rfl, (ht.out.up hW).cell 1 rfl, ((bcell hW).1 _ _ hb).trans c0⟩
     clear hf c1 c2 c3
     obtain ⟨d, hdd⟩ : ∃ d, depL o f.id = d := ⟨_, rfl⟩
     have HD := Li hdd
     by_cases h8 : d ≤ 8
     ·
      have HK := Li (show depOk o f = true by unfold depOk; rw [hdd]; exact decide_eq_true h8)
      have j8 : ¬ (8 : Int) < d := by omega
      have j8' : decide ((8 : Int) < d) = false := decide_eq_false j8
      clear hdd
      go_wp2
      go_region_held_law (fun w' => w'.cell? ⟨w8.heap.size, 0, none⟩ = some (.slice (some ⟨b, off, none⟩) n c8) ∧ w'.cell? ⟨w8.heap.size, 1, none⟩ = some (.int .i64 x) ∧ w'.cell? ⟨b, off + k * 4, none⟩ = some (.int .i64 f.id))
       (first | exact hSS.out _ (by first | exact hw7 | exact hw7.drew | exact bd _) | go_keep)
       (first | (go_at_call 53; refine (Rdepth_any _ n c8 x o f.id _ HNO.out (HF.out.up (show Below wr.heap.size wr _ by first | exact bd _ | exact Below.refl _ _)) hl2).mono ?_; rintro e w7 ⟨rfl, hb7⟩; rw [HD.out]; have hw7 : Below wr.heap.size wr w7 := (by first | exact hb7 | exact (bd _).trans (hb7.mono (bd _).size)); clear hb7))
      all_goals
       go_wp2
       go_roundw
       case rel => exact ⟨k + 1, by omega, by go_num, hs.out.up hw7, hc.out.up hw7, hr.out.up hw7, ht.out.up hw7, hown.out.up hw7, below_step hbel.out (by omega) hw7, alls_step hd.out hgo.out HK.out⟩
       case measure => simp [intOf]; omega
     ·
      have HK := Li (show depOk o f = false by unfold depOk; rw [hdd]; exact decide_eq_false h8)
      have j8 : (8 : Int) < d := by omega
      have j8' : decide ((8 : Int) < d) = true := decide_eq_true j8
      clear hdd
      go_wp2
      go_region_held_law (fun w' => w'.cell? ⟨w8.heap.size, 0, none⟩ = some (.slice (some ⟨b, off, none⟩) n c8) ∧ w'.cell? ⟨w8.heap.size, 1, none⟩ = some (.int .i64 x) ∧ w'.cell? ⟨b, off + k * 4, none⟩ = some (.int .i64 f.id))
       (first | exact hSS.out _ (by first | exact hw7 | exact hw7.drew | exact bd _) | go_keep)
       (first | (go_at_call 53; refine (Rdepth_any _ n c8 x o f.id _ HNO.out (HF.out.up (show Below wr.heap.size wr _ by first | exact bd _ | exact Below.refl _ _)) hl2).mono ?_; rintro e w7 ⟨rfl, hb7⟩; rw [HD.out]; have hw7 : Below wr.heap.size wr w7 := (by first | exact hb7 | exact (bd _).trans (hb7.mono (bd _).size)); clear hb7))
      all_goals
       have R7 := Li (hr.out.up hw7)
       have B7 := Li (below_step hbel.out (by omega) hw7)
       have zR7 := R7.out.lt
       go_wp2_with (((with_reducible show wpList _ _ _ _ _ _); refine wpList_store_cb rfl 35 (.tmp 6) (.tmp 43) rfl (w.heap.size + 1 + 1) [.slice none 0 0, .int .i64 0] rfl rfl 35 [.slice none 0 0, .int .i64 0] 2 (R7.out) sizeS rfl rfl (one_s _ _ _ _) ?_; intro wz hcz hgz hzz))
       refine bodyPost_ret (res_cell Tryz.results58 rfl rfl hcz Tryz.underlying35 sizeS rfl) rfl ⟨?_, below_grown B7.out hgz (by omega) (by omega)⟩
       rw [HE2.out, if_neg (by rw [alls_stop hd.out hgo.out HK.out]; decide)]
       exact res_zero _ _ _
    ·
     have i1 : ¬ (k : Int) < (n : Int) := by omega
     have HAL := Li (alls_end (r := o) (by rw [← HNO.out]; omega) hgo.out)
     have HR := HE2.out
     rw [if_pos HAL.out] at HR
     have s0 := hs.out.c2
     have c0 := hc.out.cell 0 rfl
     have c1 := hc.out.cell 1 rfl
     have c2 := hc.out.cell 2 rfl
     have c3 := hc.out.cell 3 rfl
     cases bT with
     | true =>
      have HRX := Li (HR.trans (if_pos rfl))
      clear HR HE2
      go_wp2_with (first | (go_at_call 54; refine (Rtaken_any A n c x l ⟨i, nm, ty, p⟩ i i _ HN.out (HS.out.up hbel.out) hl2 hnm).mono ?_; rintro e w10 ⟨rfl, hb10⟩; rw [HT.out]; have hw10 := Li hb10; have R10 := Li (hr.out.up hb10); have T10 := Li (ht.out.up hb10); have B10 := Li (below_step hbel.out (by omega) hb10); have t10 := T10.out.c2; have zR10 := R10.out.lt; clear hb10) | ((with_reducible show wpList _ _ _ _ _ _); refine wpList_store_cb rfl 35 (.tmp 6) (.tmp 52) rfl (w.heap.size + 1 + 1) [.slice none 0 0, .int .i64 0] rfl rfl 35 [.slice none 0 0, .int .i64 0] 2 (R10.out) sizeS rfl rfl (one_s _ _ _ _) ?_; intro wz hcz hgz hzz))
      refine bodyPost_ret (res_cell Tryz.results58 rfl rfl hcz Tryz.underlying35 sizeS rfl) rfl ⟨?_, below_grown B10.out hgz (by omega) (by omega)⟩
      rw [HRX.out]
      exact res_zero _ _ _
     | false =>
      have HRX := Li (HR.trans (if_neg (by decide)))
      clear HR HE2
      go_wp2_with (first | (go_at_call 54; refine (Rtaken_any A n c x l ⟨i, nm, ty, p⟩ i i _ HN.out (HS.out.up hbel.out) hl2 hnm).mono ?_; rintro e w10 ⟨rfl, hb10⟩; rw [HT.out]; have hw10 := Li hb10; have R10 := Li (hr.out.up hb10); have T10 := Li (ht.out.up hb10); have B10 := Li (below_step hbel.out (by omega) hb10); have t10 := T10.out.c2; have zR10 := R10.out.lt; clear hb10) | ((with_reducible show wpList _ _ _ _ _ _); refine wpList_store_cb rfl 35 (.tmp 6) (.tmp 53) rfl (w.heap.size + 1 + 1) [.slice A8 n c8, .int .i64 x] rfl rfl 35 [.slice none 0 0, .int .i64 0] 2 (R10.out) sizeS rfl rfl (one_s _ _ _ _) ?_; intro wz hcz hgz hzz))
      refine bodyPost_ret (res_cell Tryz.results58 rfl rfl hcz Tryz.underlying35 sizeS rfl) rfl ⟨?_, below_grown B10.out hgz (by omega) (by omega)⟩
      rw [HRX.out]
      exact ⟨A8, n, c8, rfl, HNO.out, (hown.out.up hw10.out).kept hgz (.inr (Own.ne (hown.out.up hw10.out) R10.out (by decide)).symm)⟩
end Go.Proofs.YtfeemipnalgjnaaGreat
namespace Go.Proofs.YtfeemipnalgjnaaGreat
open Go.RowKit

def subH (i : Int) (f : Fd) : Bool := (f.pa == i)
def dropR' (l : List Fd) (x : Int) (g : Fd) (_ : ByteArray) (_ : Int) : Sc × Int := if l.any (subH g.id) = true then (Sc.zero, 63) else (⟨dropF2 l g.id g.id, x⟩, 0)
def renR' (l : List Fd) (x : Int) (g : Fd) (nm : ByteArray) (_ : Int) : Sc × Int := if takB l { g with nm := nm } g.id g.id = true then (Sc.zero, 60) else (⟨putF l { g with nm := nm }, x⟩, 0)
def widR' (l : List Fd) (x : Int) (g : Fd) (_ : ByteArray) (_ : Int) : Sc × Int := if g.ty = 2 then (⟨putF l { g with ty := 3 }, x⟩, 0) else (Sc.zero, 62)
def moveR' (l : List Fd) (x : Int) (g : Fd) (_ : ByteArray) (p : Int) : Sc × Int := movR l x g p
def dropR (s : Sc) (c : Ch) : Sc × Int := if hasF s.fs c.id = true then dropR' s.fs s.next (fieldD s.fs c.id) c.nm c.pa else (Sc.zero, 61)
def renR (s : Sc) (c : Ch) : Sc × Int := if hasF s.fs c.id = true then renR' s.fs s.next (fieldD s.fs c.id) c.nm c.pa else (Sc.zero, 61)
def widR (s : Sc) (c : Ch) : Sc × Int := if hasF s.fs c.id = true then widR' s.fs s.next (fieldD s.fs c.id) c.nm c.pa else (Sc.zero, 61)
def moveR (s : Sc) (c : Ch) : Sc × Int := if hasF s.fs c.id = true then moveR' s.fs s.next (fieldD s.fs c.id) c.nm c.pa else (Sc.zero, 61)

set_option maxHeartbeats 4000000 in
set_option maxRecDepth 20000 in
theorem Rone_widen (A : Option Addr) (n c : Nat) (x : Int) (l : List Fd) (id wi : Int) (nm ot : ByteArray) (ty pa : Int) (sep : ByteArray) (w : World) (hn : n = l.length) (hs : Fds w w.heap.size A l) (hl0 : n ≤ 1000) (hx0 : 0 ≤ x) (hx1 : x ≤ 2305843009213693952) (_hnm : nm.size ≤ 9223372036854775807) (_hot : ot.size ≤ 9223372036854775807) (_hsep : sep.size ≤ 9223372036854775807) :
  Calls Tryz.prog 33 #[.agg #[.slice A n c, .int .i64 x], .agg #[.int .i64 4, .int .i64 id, .int .i64 wi, .string nm, .string ot, .int .i64 ty, .int .i64 pa, .string sep]] w fun e w' => ResS w w' (widR ⟨l, x⟩ ⟨4, id, wi, nm, ot, ty, pa, sep⟩) e ∧ Below w.heap.size w w' := by
 have HN := Li hn
 have HS := Li hs
 clear hn hs
 have hl : n ≤ 100000 := by omega
 have hl2 : n ≤ 9223372036854775807 := by omega
 have hl3 : n ≤ 1000000 := by omega
 have hx2 : x ≤ 4611686018427387904 := by omega
 obtain ⟨g, hg⟩ : ∃ g, fieldD l id = g := ⟨_, rfl⟩
 obtain ⟨ok, hok⟩ : ∃ ok, hasF l id = ok := ⟨_, rfl⟩
 have HE : Hid (widR ⟨l, x⟩ ⟨4, id, wi, nm, ot, ty, pa, sep⟩ = if ok = true then widR' l x g nm pa else (Sc.zero, 61)) := by
  show _ = _
  unfold widR
  simp only [hg, hok]
 have HG := Li hg
 have HO := Li hok
 clear hg hok
 have S0 := qS w A n c x 4 id wi nm ot ty pa sep
 have C0 := qC w A n c x 4 id wi nm ot ty pa sep
 have R0 := qR w A n c x 4 id wi nm ot ty pa sep
 have B0 := qB w A n c x 4 id wi nm ot ty pa sep
 have zR0 := R0.out.lt
 go_enter Tryz.func33, Tryz.ntmps33
 cases ok with
 | false =>
  have HRX := Li (HE.out.trans (if_neg (by decide)))
  clear HE
  go_wp2_with (first | (go_at_call 28; refine (RField_any A n c x l id _ HN.out (HS.out.up B0.out) hl2).mono ?_; rintro e w5 ⟨rfl, hb5⟩; rw [HG.out, HO.out]; have S5 := Li (S0.out.up hb5); have C5 := Li (C0.out.up hb5); have R5 := Li (R0.out.up hb5); have B5 := Li (below_step B0.out B0.out.size hb5); have s50 := S5.out.c2; have c50 := C5.out.c8; have zS5 := S5.out.lt; have zC5 := C5.out.lt; have zR5 := R5.out.lt; clear hb5) | ((with_reducible show wpList _ _ _ _ _ _); refine wpList_store_cb rfl 35 (.tmp 4) (.tmp 18) rfl (w.heap.size + 1 + 1) [.slice none 0 0, .int .i64 0] rfl rfl 35 [.slice none 0 0, .int .i64 0] 2 (R5.out.alloc _) sizeS rfl rfl (one_s _ _ _ _) ?_; intro wz hcz hgz hzz))
  refine bodyPost_ret (res_cell Tryz.results33 rfl rfl hcz Tryz.underlying35 sizeS rfl) rfl ⟨?_, below_grown (B5.out.alloc B5.out.size _) hgz (by rw [asz]; omega) (by omega)⟩
  rw [HRX.out]
  exact res_zero _ _ _
 | true =>
  have HE1 := Li (HE.out.trans (if_pos rfl))
  clear HE
  by_cases h2 : g.ty = 2
  ·
   have e2 : (g.ty != 2) = false := by simpa using h2
   have HRX := Li (HE1.out.trans (if_pos h2))
   clear HE1 h2
   go_wp2_with (first | (go_at_call 28; refine (RField_any A n c x l id _ HN.out (HS.out.up B0.out) hl2).mono ?_; rintro e w5 ⟨rfl, hb5⟩; rw [HG.out, HO.out]; have S5 := Li (S0.out.up hb5); have C5 := Li (C0.out.up hb5); have R5 := Li (R0.out.up hb5); have B5 := Li (below_step B0.out B0.out.size hb5); have s50 := S5.out.c2; have c50 := C5.out.c8; have zS5 := S5.out.lt; have zC5 := C5.out.lt; have zR5 := R5.out.lt; clear hb5) | (go_at_call 57; refine (Rwith_any A n c x l ⟨g.id, g.nm, 3, g.pa⟩ _ HN.out (HS.out.up (B5.out.alloc B5.out.size _)) hl3).mono ?_; rw [put_len', ← HN.out]; rintro e w9 ⟨⟨A9, c9, rfl, ho9⟩, hb9⟩; have hb9' := (al1 w5 (.cells #[.int .i64 g.id, .string g.nm, .int .i64 3, .int .i64 g.pa] 58)).trans (hb9.mono (al1 w5 (.cells #[.int .i64 g.id, .string g.nm, .int .i64 3, .int .i64 g.pa] 58)).size); have R9 := Li (R5.out.up hb9'); have B9 := Li (below_step B5.out B5.out.size hb9'); have zR9 := R9.out.lt; have O9 := Li (ho9.low (b := w.heap.size) (by rw [asz]; omega)); clear ho9 hb9 hb9') | ((with_reducible show wpList _ _ _ _ _ _); refine wpList_store_cb rfl 35 (.tmp 4) (.tmp 73) rfl (w.heap.size + 1 + 1) [.slice A9 n c9, .int .i64 x] rfl rfl 35 [.slice none 0 0, .int .i64 0] 2 (R9.out) sizeS rfl rfl (one_s _ _ _ _) ?_; intro wz hcz hgz hzz))
   refine bodyPost_ret (res_cell Tryz.results33 rfl rfl hcz Tryz.underlying35 sizeS rfl) rfl ⟨?_, below_grown B9.out hgz (by omega) (by omega)⟩
   rw [HRX.out]
   exact ⟨A9, n, c9, rfl, by rw [HN.out]; exact (put_len' _ _).symm, O9.out.kept hgz (.inr (Own.ne O9.out R9.out (by decide)).symm)⟩
  ·
   have e2 : (g.ty != 2) = true := by simpa using h2
   have HRX := Li (HE1.out.trans (if_neg h2))
   clear HE1 h2
   go_wp2_with (first | (go_at_call 28; refine (RField_any A n c x l id _ HN.out (HS.out.up B0.out) hl2).mono ?_; rintro e w5 ⟨rfl, hb5⟩; rw [HG.out, HO.out]; have S5 := Li (S0.out.up hb5); have C5 := Li (C0.out.up hb5); have R5 := Li (R0.out.up hb5); have B5 := Li (below_step B0.out B0.out.size hb5); have s50 := S5.out.c2; have c50 := C5.out.c8; have zS5 := S5.out.lt; have zC5 := C5.out.lt; have zR5 := R5.out.lt; clear hb5) | ((with_reducible show wpList _ _ _ _ _ _); refine wpList_store_cb rfl 35 (.tmp 4) (.tmp 69) rfl (w.heap.size + 1 + 1) [.slice none 0 0, .int .i64 0] rfl rfl 35 [.slice none 0 0, .int .i64 0] 2 (R5.out.alloc _) sizeS rfl rfl (one_s _ _ _ _) ?_; intro wz hcz hgz hzz))
   refine bodyPost_ret (res_cell Tryz.results33 rfl rfl hcz Tryz.underlying35 sizeS rfl) rfl ⟨?_, below_grown (B5.out.alloc B5.out.size _) hgz (by rw [asz]; omega) (by omega)⟩
   rw [HRX.out]
   exact res_zero _ _ _

set_option maxHeartbeats 4000000 in
set_option maxRecDepth 20000 in
theorem Rone_rename (A : Option Addr) (n c : Nat) (x : Int) (l : List Fd) (id wi : Int) (nm ot : ByteArray) (ty pa : Int) (sep : ByteArray) (w : World) (hn : n = l.length) (hs : Fds w w.heap.size A l) (hl0 : n ≤ 1000) (hx0 : 0 ≤ x) (hx1 : x ≤ 2305843009213693952) (hnm : nm.size ≤ 9223372036854775807) (_hot : ot.size ≤ 9223372036854775807) (_hsep : sep.size ≤ 9223372036854775807) :
  Calls Tryz.prog 33 #[.agg #[.slice A n c, .int .i64 x], .agg #[.int .i64 3, .int .i64 id, .int .i64 wi, .string nm, .string ot, .int .i64 ty, .int .i64 pa, .string sep]] w fun e w' => ResS w w' (renR ⟨l, x⟩ ⟨3, id, wi, nm, ot, ty, pa, sep⟩) e ∧ Below w.heap.size w w' := by
 have HN := Li hn
 have HS := Li hs
 clear hn hs
 have hl : n ≤ 100000 := by omega
 have hl2 : n ≤ 9223372036854775807 := by omega
 have hl3 : n ≤ 1000000 := by omega
 have hx2 : x ≤ 4611686018427387904 := by omega
 obtain ⟨g, hg⟩ : ∃ g, fieldD l id = g := ⟨_, rfl⟩
 obtain ⟨ok, hok⟩ : ∃ ok, hasF l id = ok := ⟨_, rfl⟩
 have HE : Hid (renR ⟨l, x⟩ ⟨3, id, wi, nm, ot, ty, pa, sep⟩ = if ok = true then renR' l x g nm pa else (Sc.zero, 61)) := by
  show _ = _
  unfold renR
  simp only [hg, hok]
 have HG := Li hg
 have HO := Li hok
 clear hg hok
 have S0 := qS w A n c x 3 id wi nm ot ty pa sep
 have C0 := qC w A n c x 3 id wi nm ot ty pa sep
 have R0 := qR w A n c x 3 id wi nm ot ty pa sep
 have B0 := qB w A n c x 3 id wi nm ot ty pa sep
 have zR0 := R0.out.lt
 go_enter Tryz.func33, Tryz.ntmps33
 cases ok with
 | false =>
  have HRX := Li (HE.out.trans (if_neg (by decide)))
  clear HE
  go_wp2_with (first | (go_at_call 28; refine (RField_any A n c x l id _ HN.out (HS.out.up B0.out) hl2).mono ?_; rintro e w5 ⟨rfl, hb5⟩; rw [HG.out, HO.out]; have S5 := Li (S0.out.up hb5); have C5 := Li (C0.out.up hb5); have R5 := Li (R0.out.up hb5); have B5 := Li (below_step B0.out B0.out.size hb5); have s50 := S5.out.c2; have c50 := C5.out.c8; have zS5 := S5.out.lt; have zC5 := C5.out.lt; have zR5 := R5.out.lt; clear hb5) | ((with_reducible show wpList _ _ _ _ _ _); refine wpList_store_cb rfl 35 (.tmp 4) (.tmp 18) rfl (w.heap.size + 1 + 1) [.slice none 0 0, .int .i64 0] rfl rfl 35 [.slice none 0 0, .int .i64 0] 2 (R5.out.alloc _) sizeS rfl rfl (one_s _ _ _ _) ?_; intro wz hcz hgz hzz))
  refine bodyPost_ret (res_cell Tryz.results33 rfl rfl hcz Tryz.underlying35 sizeS rfl) rfl ⟨?_, below_grown (B5.out.alloc B5.out.size _) hgz (by rw [asz]; omega) (by omega)⟩
  rw [HRX.out]
  exact res_zero _ _ _
 | true =>
  have HE1 := Li (HE.out.trans (if_pos rfl))
  clear HE
  obtain ⟨bT, hT⟩ : ∃ b, takB l ⟨g.id, nm, g.ty, g.pa⟩ g.id g.id = b := ⟨_, rfl⟩
  have HT := Li hT
  have HE2 := HE1.out
  unfold renR' at HE2
  rw [hT] at HE2
  clear HE1 hT
  cases bT with
  | true =>
   have HRX := Li (HE2.trans (if_pos rfl))
   clear HE2
   go_wp2_with (first | (go_at_call 28; refine (RField_any A n c x l id _ HN.out (HS.out.up B0.out) hl2).mono ?_; rintro e w5 ⟨rfl, hb5⟩; rw [HG.out, HO.out]; have S5 := Li (S0.out.up hb5); have C5 := Li (C0.out.up hb5); have R5 := Li (R0.out.up hb5); have B5 := Li (below_step B0.out B0.out.size hb5); have s50 := S5.out.c2; have c50 := C5.out.c8; have zS5 := S5.out.lt; have zC5 := C5.out.lt; have zR5 := R5.out.lt; clear hb5) | (go_at_call 54; refine (Rtaken_any A n c x l ⟨g.id, nm, g.ty, g.pa⟩ g.id g.id _ HN.out (HS.out.up (B5.out.alloc B5.out.size _)) hl2 hnm).mono ?_; rintro e w8 ⟨rfl, hb8⟩; rw [HT.out]; have hb8' := (al1 w5 (.cells #[.int .i64 g.id, .string nm, .int .i64 g.ty, .int .i64 g.pa] 58)).trans (hb8.mono (al1 w5 (.cells #[.int .i64 g.id, .string nm, .int .i64 g.ty, .int .i64 g.pa] 58)).size); have F8 := Li ((CB.new w5 58 [.int .i64 g.id, .string nm, .int .i64 g.ty, .int .i64 g.pa]).up hb8); have S8 := Li (S5.out.up hb8'); have C8 := Li (C5.out.up hb8'); have R8 := Li (R5.out.up hb8'); have B8 := Li (below_step B5.out B5.out.size hb8'); have s80 := S8.out.c2; have c80 := C8.out.c8; have zS8 := S8.out.lt; have zC8 := C8.out.lt; have zR8 := R8.out.lt; have f80 := F8.out.c4; have zF8 := F8.out.lt; clear hb8 hb8') | ((with_reducible show wpList _ _ _ _ _ _); refine wpList_store_cb rfl 35 (.tmp 4) (.tmp 60) rfl (w.heap.size + 1 + 1) [.slice none 0 0, .int .i64 0] rfl rfl 35 [.slice none 0 0, .int .i64 0] 2 (R8.out) sizeS rfl rfl (one_s _ _ _ _) ?_; intro wz hcz hgz hzz))
   refine bodyPost_ret (res_cell Tryz.results33 rfl rfl hcz Tryz.underlying35 sizeS rfl) rfl ⟨?_, below_grown B8.out hgz (by omega) (by omega)⟩
   rw [HRX.out]
   exact res_zero _ _ _
  | false =>
   have HRX := Li (HE2.trans (if_neg (by decide)))
   clear HE2
   go_wp2_with (first | (go_at_call 28; refine (RField_any A n c x l id _ HN.out (HS.out.up B0.out) hl2).mono ?_; rintro e w5 ⟨rfl, hb5⟩; rw [HG.out, HO.out]; have S5 := Li (S0.out.up hb5); have C5 := Li (C0.out.up hb5); have R5 := Li (R0.out.up hb5); have B5 := Li (below_step B0.out B0.out.size hb5); have s50 := S5.out.c2; have c50 := C5.out.c8; have zS5 := S5.out.lt; have zC5 := C5.out.lt; have zR5 := R5.out.lt; clear hb5) | (go_at_call 54; refine (Rtaken_any A n c x l ⟨g.id, nm, g.ty, g.pa⟩ g.id g.id _ HN.out (HS.out.up (B5.out.alloc B5.out.size _)) hl2 hnm).mono ?_; rintro e w8 ⟨rfl, hb8⟩; rw [HT.out]; have hb8' := (al1 w5 (.cells #[.int .i64 g.id, .string nm, .int .i64 g.ty, .int .i64 g.pa] 58)).trans (hb8.mono (al1 w5 (.cells #[.int .i64 g.id, .string nm, .int .i64 g.ty, .int .i64 g.pa] 58)).size); have F8 := Li ((CB.new w5 58 [.int .i64 g.id, .string nm, .int .i64 g.ty, .int .i64 g.pa]).up hb8); have S8 := Li (S5.out.up hb8'); have C8 := Li (C5.out.up hb8'); have R8 := Li (R5.out.up hb8'); have B8 := Li (below_step B5.out B5.out.size hb8'); have s80 := S8.out.c2; have c80 := C8.out.c8; have zS8 := S8.out.lt; have zC8 := C8.out.lt; have zR8 := R8.out.lt; have f80 := F8.out.c4; have zF8 := F8.out.lt; clear hb8 hb8') | (go_at_call 57; refine (Rwith_any A n c x l ⟨g.id, nm, g.ty, g.pa⟩ _ HN.out (HS.out.up B8.out) hl3).mono ?_; rw [put_len', ← HN.out]; rintro e w9 ⟨⟨A9, c9, rfl, ho9⟩, hb9⟩; have R9 := Li (R8.out.up hb9); have B9 := Li (below_step B8.out B8.out.size hb9); have zR9 := R9.out.lt; have O9 := Li (ho9.low B8.out.size); clear ho9 hb9) | ((with_reducible show wpList _ _ _ _ _ _); refine wpList_store_cb rfl 35 (.tmp 4) (.tmp 63) rfl (w.heap.size + 1 + 1) [.slice A9 n c9, .int .i64 x] rfl rfl 35 [.slice none 0 0, .int .i64 0] 2 (R9.out) sizeS rfl rfl (one_s _ _ _ _) ?_; intro wz hcz hgz hzz))
   refine bodyPost_ret (res_cell Tryz.results33 rfl rfl hcz Tryz.underlying35 sizeS rfl) rfl ⟨?_, below_grown B9.out hgz (by omega) (by omega)⟩
   rw [HRX.out]
   exact ⟨A9, n, c9, rfl, by rw [HN.out]; exact (put_len' _ _).symm, O9.out.kept hgz (.inr (Own.ne O9.out R9.out (by decide)).symm)⟩

set_option maxHeartbeats 4000000 in
set_option maxRecDepth 20000 in
theorem Rone_move (A : Option Addr) (n c : Nat) (x : Int) (l : List Fd) (id wi : Int) (nm ot : ByteArray) (ty pa : Int) (sep : ByteArray) (w : World) (hn : n = l.length) (hs : Fds w w.heap.size A l) (hl0 : n ≤ 1000) (hx0 : 0 ≤ x) (hx1 : x ≤ 2305843009213693952) (_hnm : nm.size ≤ 9223372036854775807) (_hot : ot.size ≤ 9223372036854775807) (_hsep : sep.size ≤ 9223372036854775807) (hgm : (fieldD l id).nm.size ≤ 9223372036854775807) :
  Calls Tryz.prog 33 #[.agg #[.slice A n c, .int .i64 x], .agg #[.int .i64 5, .int .i64 id, .int .i64 wi, .string nm, .string ot, .int .i64 ty, .int .i64 pa, .string sep]] w fun e w' => ResS w w' (moveR ⟨l, x⟩ ⟨5, id, wi, nm, ot, ty, pa, sep⟩) e ∧ Below w.heap.size w w' := by
 have HN := Li hn
 have HS := Li hs
 clear hn hs
 have hl : n ≤ 100000 := by omega
 have hl2 : n ≤ 9223372036854775807 := by omega
 have hl3 : n ≤ 1000000 := by omega
 have hx2 : x ≤ 4611686018427387904 := by omega
 obtain ⟨g, hg⟩ : ∃ g, fieldD l id = g := ⟨_, rfl⟩
 obtain ⟨ok, hok⟩ : ∃ ok, hasF l id = ok := ⟨_, rfl⟩
 have HE : Hid (moveR ⟨l, x⟩ ⟨5, id, wi, nm, ot, ty, pa, sep⟩ = if ok = true then moveR' l x g nm pa else (Sc.zero, 61)) := by
  show _ = _
  unfold moveR
  simp only [hg, hok]
 have HG := Li hg
 have HO := Li hok
 clear hg hok
 have S0 := qS w A n c x 5 id wi nm ot ty pa sep
 have C0 := qC w A n c x 5 id wi nm ot ty pa sep
 have R0 := qR w A n c x 5 id wi nm ot ty pa sep
 have B0 := qB w A n c x 5 id wi nm ot ty pa sep
 have zR0 := R0.out.lt
 go_enter Tryz.func33, Tryz.ntmps33
 cases ok with
 | false =>
  have HRX := Li (HE.out.trans (if_neg (by decide)))
  clear HE
  go_wp2_with (first | (go_at_call 28; refine (RField_any A n c x l id _ HN.out (HS.out.up B0.out) hl2).mono ?_; rintro e w5 ⟨rfl, hb5⟩; rw [HG.out, HO.out]; have S5 := Li (S0.out.up hb5); have C5 := Li (C0.out.up hb5); have R5 := Li (R0.out.up hb5); have B5 := Li (below_step B0.out B0.out.size hb5); have s50 := S5.out.c2; have c50 := C5.out.c8; have zS5 := S5.out.lt; have zC5 := C5.out.lt; have zR5 := R5.out.lt; clear hb5) | ((with_reducible show wpList _ _ _ _ _ _); refine wpList_store_cb rfl 35 (.tmp 4) (.tmp 18) rfl (w.heap.size + 1 + 1) [.slice none 0 0, .int .i64 0] rfl rfl 35 [.slice none 0 0, .int .i64 0] 2 (R5.out.alloc _) sizeS rfl rfl (one_s _ _ _ _) ?_; intro wz hcz hgz hzz))
  refine bodyPost_ret (res_cell Tryz.results33 rfl rfl hcz Tryz.underlying35 sizeS rfl) rfl ⟨?_, below_grown (B5.out.alloc B5.out.size _) hgz (by rw [asz]; omega) (by omega)⟩
  rw [HRX.out]
  exact res_zero _ _ _
 | true =>
  have HE1 := Li (HE.out.trans (if_pos rfl))
  clear HE
  obtain ⟨⟨⟨fs, nx⟩, er⟩, hM⟩ : ∃ r, movR l x ⟨g.id, g.nm, g.ty, g.pa⟩ pa = r := ⟨_, rfl⟩
  have HM := Li hM
  have HRX := Li (HE1.out.trans (show moveR' l x g nm pa = (⟨fs, nx⟩, er) from hM))
  have hgn : g.nm.size ≤ 9223372036854775807 := by rw [← HG.out]; exact hgm
  clear HE1 hM
  go_wp2_with (first | (go_at_call 28; refine (RField_any A n c x l id _ HN.out (HS.out.up B0.out) hl2).mono ?_; rintro e w5 ⟨rfl, hb5⟩; rw [HG.out, HO.out]; have S5 := Li (S0.out.up hb5); have C5 := Li (C0.out.up hb5); have R5 := Li (R0.out.up hb5); have B5 := Li (below_step B0.out B0.out.size hb5); have s50 := S5.out.c2; have c50 := C5.out.c8; have zS5 := S5.out.lt; have zC5 := C5.out.lt; have zR5 := R5.out.lt; clear hb5) | (go_at_call 58; refine (Rmove_any A n c x l g.id g.nm g.ty g.pa pa _ HN.out (HS.out.up (B5.out.alloc B5.out.size _)) hl0 hgn).mono ?_; rintro e w9 ⟨⟨A9, m9, c9, rfl, hm9, ho9⟩, hb9⟩; rw [HM.out] at hm9 ho9; rw [HM.out]; have hb9' := (al1 w5 (.cells #[.int .i64 g.id, .string g.nm, .int .i64 g.ty, .int .i64 g.pa] 58)).trans (hb9.mono (al1 w5 (.cells #[.int .i64 g.id, .string g.nm, .int .i64 g.ty, .int .i64 g.pa] 58)).size); have R9 := Li (R5.out.up hb9'); have B9 := Li (below_step B5.out B5.out.size hb9'); have zR9 := R9.out.lt; have O9 := Li (ho9.low (b := w.heap.size) (by rw [asz]; omega)); have M9 := Li hm9; clear ho9 hb9 hb9' hm9) | ((with_reducible show wpList _ _ _ _ _ _); refine wpList_store_cb rfl 35 (.tmp 4) (.tmp 79) rfl (w.heap.size + 1 + 1) [.slice A9 m9 c9, .int .i64 nx] rfl rfl 35 [.slice none 0 0, .int .i64 0] 2 (R9.out) sizeS rfl rfl (one_s _ _ _ _) ?_; intro wz hcz hgz hzz))
  refine bodyPost_ret (res_cell Tryz.results33 rfl rfl hcz Tryz.underlying35 sizeS rfl) rfl ⟨?_, below_grown B9.out hgz (by omega) (by omega)⟩
  rw [HRX.out]
  exact ⟨A9, m9, c9, rfl, M9.out, O9.out.kept hgz (.inr (Own.ne O9.out R9.out (by decide)).symm)⟩

set_option maxHeartbeats 4000000 in
set_option maxRecDepth 20000 in
theorem Rone_drop (A : Option Addr) (n c : Nat) (x : Int) (l : List Fd) (id wi : Int) (nm ot : ByteArray) (ty pa : Int) (sep : ByteArray) (w : World) (hn : n = l.length) (hs : Fds w w.heap.size A l) (hl0 : n ≤ 1000) (hx0 : 0 ≤ x) (hx1 : x ≤ 2305843009213693952) (_hnm : nm.size ≤ 9223372036854775807) (_hot : ot.size ≤ 9223372036854775807) (_hsep : sep.size ≤ 9223372036854775807) :
  Calls Tryz.prog 33 #[.agg #[.slice A n c, .int .i64 x], .agg #[.int .i64 2, .int .i64 id, .int .i64 wi, .string nm, .string ot, .int .i64 ty, .int .i64 pa, .string sep]] w fun e w' => ResS w w' (dropR ⟨l, x⟩ ⟨2, id, wi, nm, ot, ty, pa, sep⟩) e ∧ Below w.heap.size w w' := by
 have HN := Li hn
 have HS := Li hs
 clear hn hs
 have hl : n ≤ 100000 := by omega
 have hl2 : n ≤ 9223372036854775807 := by omega
 have hl3 : n ≤ 1000000 := by omega
 have hx2 : x ≤ 4611686018427387904 := by omega
 obtain ⟨g, hg⟩ : ∃ g, fieldD l id = g := ⟨_, rfl⟩
 obtain ⟨ok, hok⟩ : ∃ ok, hasF l id = ok := ⟨_, rfl⟩
 have HE : Hid (dropR ⟨l, x⟩ ⟨2, id, wi, nm, ot, ty, pa, sep⟩ = if ok = true then dropR' l x g nm pa else (Sc.zero, 61)) := by
  show _ = _
  unfold dropR
  simp only [hg, hok]
 have HG := Li hg
 have HO := Li hok
 clear hg hok
 have S0 := qS w A n c x 2 id wi nm ot ty pa sep
 have C0 := qC w A n c x 2 id wi nm ot ty pa sep
 have R0 := qR w A n c x 2 id wi nm ot ty pa sep
 have B0 := qB w A n c x 2 id wi nm ot ty pa sep
 have zR0 := R0.out.lt
 go_enter Tryz.func33, Tryz.ntmps33
 cases ok with
 | false =>
  have HRX := Li (HE.out.trans (if_neg (by decide)))
  clear HE
  go_wp2_with (first | (go_at_call 28; refine (RField_any A n c x l id _ HN.out (HS.out.up B0.out) hl2).mono ?_; rintro e w5 ⟨rfl, hb5⟩; rw [HG.out, HO.out]; have S5 := Li (S0.out.up hb5); have C5 := Li (C0.out.up hb5); have R5 := Li (R0.out.up hb5); have B5 := Li (below_step B0.out B0.out.size hb5); have s50 := S5.out.c2; have c50 := C5.out.c8; have zS5 := S5.out.lt; have zC5 := C5.out.lt; have zR5 := R5.out.lt; clear hb5) | ((with_reducible show wpList _ _ _ _ _ _); refine wpList_store_cb rfl 35 (.tmp 4) (.tmp 18) rfl (w.heap.size + 1 + 1) [.slice none 0 0, .int .i64 0] rfl rfl 35 [.slice none 0 0, .int .i64 0] 2 (R5.out.alloc _) sizeS rfl rfl (one_s _ _ _ _) ?_; intro wz hcz hgz hzz))
  refine bodyPost_ret (res_cell Tryz.results33 rfl rfl hcz Tryz.underlying35 sizeS rfl) rfl ⟨?_, below_grown (B5.out.alloc B5.out.size _) hgz (by rw [asz]; omega) (by omega)⟩
  rw [HRX.out]
  exact res_zero _ _ _
 | true =>
  have HE1 := Li (HE.out.trans (if_pos rfl))
  clear HE
  go_wp2_with (first | (go_at_call 28; refine (RField_any A n c x l id _ HN.out (HS.out.up B0.out) hl2).mono ?_; rintro e w5 ⟨rfl, hb5⟩; rw [HG.out, HO.out]; have S5 := Li (S0.out.up hb5); have C5 := Li (C0.out.up hb5); have R5 := Li (R0.out.up hb5); have B5 := Li (below_step B0.out B0.out.size hb5); have s50 := S5.out.c2; have c50 := C5.out.c8; have zS5 := S5.out.lt; have zC5 := C5.out.lt; have zR5 := R5.out.lt; clear hb5))
  go_loopw [8] (fun j wr => ∃ k : Nat, k ≤ n ∧ j = .int .i64 k ∧ Hid (CB wr w.heap.size 35 [.slice A n c, .int .i64 x]) ∧ Hid (CB wr (w.heap.size + 1 + 1) 35 [.slice none 0 0, .int .i64 0]) ∧ Hid (CB wr w5.heap.size 58 [.int .i64 g.id, .string g.nm, .int .i64 g.ty, .int .i64 g.pa]) ∧ Hid (Below w.heap.size w wr) ∧ Hid ((l.drop k).any (subH g.id) = l.any (subH g.id))) (fun j _ => n - (intOf j).toNat)
  case atStart => exact ⟨0, by omega, rfl, S5.out.alloc _, R5.out.alloc _, CB.new _ _ _, B5.out.alloc B5.out.size _, rfl⟩
  case round =>
   obtain ⟨k, hk, rfl, hs, hr, hf, hbel, hgo⟩ := hrel
   have hzs := hs.out.lt
   have hzr := hr.out.lt
   have hzf := hf.out.lt
   have s0 := hs.out.c2
   have f0 := hf.out.cell 0 rfl
   by_cases hlt : k < n
   ·
    have i1 : (k : Int) < (n : Int) := by omega
    have i0 : (0 : Int) ≤ (k : Int) := by omega
    obtain ⟨f, hff⟩ := getD_of (l := l) (k := k) (by rw [← HN.out]; exact hlt)
    obtain ⟨b, off, rfl, hb, c0, c1, c2, c3⟩ := (HS.out.below hbel.out).one hff
    have hd := Li (drop_cons hff)
    clear hff
    cases hp : (f.pa == g.id) with
    | true =>
     have HP := Li hp
     have HRX := Li (HE1.out.trans (if_pos (anyt_stop (p := subH g.id) hd.out hgo.out HP.out)))
     go_wp2
     go_quiet (fail)
     go_wp2_with (((with_reducible show wpList _ _ _ _ _ _); refine wpList_store_cb rfl 35 (.tmp 4) (.tmp 39) rfl (w.heap.size + 1 + 1) [.slice none 0 0, .int .i64 0] rfl rfl 35 [.slice none 0 0, .int .i64 0] 2 (hr.out.drewN _) sizeS rfl rfl (one_s _ _ _ _) ?_; intro wz hcz hgz hzz))
     refine bodyPost_ret (res_cell Tryz.results33 rfl rfl hcz Tryz.underlying35 sizeS rfl) rfl ⟨?_, below_grown (below_drewN hbel.out _) hgz (by show w.heap.size ≤ wr.heap.size; omega) (by omega)⟩
     rw [HRX.out]
     exact res_zero _ _ _
    | false =>
     have HP := Li hp
     go_wp2
     go_quiet (fail)
     go_wp2
     go_roundw
     case rel => exact ⟨k + 1, by omega, by go_num, hs.out.drewN _, hr.out.drewN _, hf.out.drewN _, below_drewN hbel.out _, anyt_step (p := subH g.id) hd.out hgo.out HP.out⟩
     case measure => simp [intOf]; omega
   ·
    have i1 : ¬ (k : Int) < (n : Int) := by omega
    have HAF : l.any (subH g.id) = false := by rw [← hgo.out, List.drop_of_length_le (by rw [← HN.out]; omega)]; rfl
    have HRX := Li (HE1.out.trans (if_neg (by rw [HAF]; decide)))
    clear HAF
    go_wp2_with (first | (go_at_call 56; refine (Rwithout_any A n c x l g.id g.id _ HN.out (HS.out.up hbel.out) hl3).mono ?_; rintro e w9 ⟨⟨A9, c9, rfl, ho9⟩, hb9⟩; have R9 := Li (hr.out.up hb9); have B9 := Li (below_step hbel.out (by omega) hb9); have zR9 := R9.out.lt; have O9 := Li (ho9.low (b := w.heap.size) (by omega)); clear ho9 hb9) | ((with_reducible show wpList _ _ _ _ _ _); refine wpList_store_cb rfl 35 (.tmp 4) (.tmp 46) rfl (w.heap.size + 1 + 1) [.slice A9 (dropF2 l g.id g.id).length c9, .int .i64 x] rfl rfl 35 [.slice none 0 0, .int .i64 0] 2 (R9.out) sizeS rfl rfl (one_s _ _ _ _) ?_; intro wz hcz hgz hzz))
    refine bodyPost_ret (res_cell Tryz.results33 rfl rfl hcz Tryz.underlying35 sizeS rfl) rfl ⟨?_, below_grown B9.out hgz (by omega) (by omega)⟩
    rw [HRX.out]
    exact ⟨A9, _, c9, rfl, rfl, O9.out.kept hgz (.inr (Own.ne O9.out R9.out (by decide)).symm)⟩
end Go.Proofs.YtfeemipnalgjnaaGreat
namespace Go.Proofs.YtfeemipnalgjnaaGreat
open Go.RowKit

theorem RSep_any (s : ByteArray) (z : Bool) (w : World) (hz : sepB s = z) (hs : s.size ≤ 9223372036854775807) : Calls Tryz.prog 51 #[.string s] w fun e w' => e = .returned (.bool z) ∧ w' = w := by
 unfold sepB at hz
 by_cases h1 : 1 ≤ s.size
 ·
  by_cases h2 : s.size ≤ 16
  ·
   obtain rfl : z = true := by rw [← hz]; simp; omega
   clear hz
   have i1 : (1 : Int) ≤ (s.size : Int) := by omega
   have i2 : (s.size : Int) ≤ 16 := by omega
   go_enter Tryz.func51, Tryz.ntmps51
   go_wp2
   go_ret
   exact ⟨rfl, rfl⟩
  ·
   obtain rfl : z = false := by rw [← hz]; simp; omega
   clear hz
   have i1 : (1 : Int) ≤ (s.size : Int) := by omega
   have i2 : ¬ (s.size : Int) ≤ 16 := by omega
   go_enter Tryz.func51, Tryz.ntmps51
   go_wp2
   go_ret
   exact ⟨rfl, rfl⟩
 ·
  obtain rfl : z = false := by rw [← hz]; simp; omega
  clear hz
  have i1 : ¬ (1 : Int) ≤ (s.size : Int) := by omega
  go_enter Tryz.func51, Tryz.ntmps51
  go_wp2
  go_ret
  exact ⟨rfl, rfl⟩

def joinR' (s : Sc) (c : Ch) (f g : Fd) : Sc × Int :=
 if f.ty = 4 ∧ g.ty = 4 then (if f.pa = g.pa then (if sepB c.sep = true then (if takB s.fs ⟨0, c.nm, 4, f.pa⟩ f.id g.id = true then (Sc.zero, 60) else if s.next < 1073741824 then (withS ⟨dropF2 s.fs f.id g.id, s.next⟩ c.nm 4 f.pa, 0) else (Sc.zero, 2)) else (Sc.zero, 1)) else (Sc.zero, 63)) else (Sc.zero, 7)
def joinR (s : Sc) (c : Ch) : Sc × Int :=
 if hasF s.fs c.id = true ∧ hasF s.fs c.wi = true ∧ (fieldD s.fs c.id).id ≠ (fieldD s.fs c.wi).id then joinR' s c (fieldD s.fs c.id) (fieldD s.fs c.wi) else (Sc.zero, 61)

set_option maxHeartbeats 4000000 in
set_option maxRecDepth 20000 in
theorem Rjoin_any (A : Option Addr) (n c : Nat) (x : Int) (l : List Fd) (kd id wi : Int) (nm ot : ByteArray) (ty pa : Int) (sep : ByteArray) (w : World) (hn : n = l.length) (hs : Fds w w.heap.size A l) (hl0 : n ≤ 1000) (hx0 : 0 ≤ x) (hx1 : x ≤ 2305843009213693952) (hnm : nm.size ≤ 9223372036854775807) (_hot : ot.size ≤ 9223372036854775807) (hsep : sep.size ≤ 9223372036854775807) :
  Calls Tryz.prog 35 #[.agg #[.slice A n c, .int .i64 x], .agg #[.int .i64 kd, .int .i64 id, .int .i64 wi, .string nm, .string ot, .int .i64 ty, .int .i64 pa, .string sep]] w fun e w' => ResS w w' (joinR ⟨l, x⟩ ⟨kd, id, wi, nm, ot, ty, pa, sep⟩) e ∧ Below w.heap.size w w' := by
 have HN := Li hn
 have HS := Li hs
 clear hn hs
 have hl : n ≤ 100000 := by omega
 have hl2 : n ≤ 9223372036854775807 := by omega
 have hl3 : n ≤ 1000000 := by omega
 have hx2 : x ≤ 4611686018427387904 := by omega
 obtain ⟨f, hf⟩ : ∃ f, fieldD l id = f := ⟨_, rfl⟩
 obtain ⟨g, hg⟩ : ∃ g, fieldD l wi = g := ⟨_, rfl⟩
 obtain ⟨o1, ho1⟩ : ∃ b, hasF l id = b := ⟨_, rfl⟩
 obtain ⟨o2, ho2⟩ : ∃ b, hasF l wi = b := ⟨_, rfl⟩
 obtain ⟨bP, hP⟩ : ∃ b, sepB sep = b := ⟨_, rfl⟩
 obtain ⟨bT, hT⟩ : ∃ b, takB l ⟨0, nm, 4, f.pa⟩ f.id g.id = b := ⟨_, rfl⟩
 have HE : Hid (joinR ⟨l, x⟩ ⟨kd, id, wi, nm, ot, ty, pa, sep⟩ = if o1 = true ∧ o2 = true ∧ f.id ≠ g.id then (if f.ty = 4 ∧ g.ty = 4 then (if f.pa = g.pa then (if bP = true then (if bT = true then (Sc.zero, 60) else if x < 1073741824 then (withS ⟨dropF2 l f.id g.id, x⟩ nm 4 f.pa, 0) else (Sc.zero, 2)) else (Sc.zero, 1)) else (Sc.zero, 63)) else (Sc.zero, 7)) else (Sc.zero, 61)) := by
  show _ = _
  unfold joinR joinR'
  simp only [hf, hg, ho1, ho2, hP, hT]
 have HF := Li hf
 have HG := Li hg
 have HO1 := Li ho1
 have HO2 := Li ho2
 have HP := Li hP
 have HT := Li hT
 clear hf hg ho1 ho2 hP hT
 cases o1 with
 | false =>
  have HRX := Li (HE.out.trans (if_neg (by simp)))
  clear HE
  have S0 := qS w A n c x kd id wi nm ot ty pa sep
  have C0 := qC w A n c x kd id wi nm ot ty pa sep
  have R0 := qR w A n c x kd id wi nm ot ty pa sep
  have B0 := qB w A n c x kd id wi nm ot ty pa sep
  have zR0 := R0.out.lt
  have tokV : Hid True := Li trivial
  go_enter Tryz.func35, Tryz.ntmps35
  go_wp2_with (first | (have tokW := tokV; go_at_call 28; refine (RField_any A n c x l id _ HN.out (HS.out.up B0.out) hl2).mono ?_; rintro e w5 ⟨rfl, hb5⟩; rw [HF.out, HO1.out]; have S5 := Li (S0.out.up hb5); have C5 := Li (C0.out.up hb5); have R5 := Li (R0.out.up hb5); have B5 := Li (below_step B0.out B0.out.size hb5); have s50 := S5.out.c2; have c50 := C5.out.c8; have zS5 := S5.out.lt; have zC5 := C5.out.lt; have zR5 := R5.out.lt; clear hb5 tokV tokW) | (go_at_call 28; refine (RField_any A n c x l wi _ HN.out (HS.out.up (B5.out.alloc B5.out.size _)) hl2).mono ?_; rintro e w6 ⟨rfl, hb6⟩; rw [HG.out, HO2.out]; have hb6' := (al1 w5 (.cells #[.int .i64 f.id, .string f.nm, .int .i64 f.ty, .int .i64 f.pa] 58)).trans (hb6.mono (al1 w5 (.cells #[.int .i64 f.id, .string f.nm, .int .i64 f.ty, .int .i64 f.pa] 58)).size); have F6 := Li ((CB.new w5 58 [.int .i64 f.id, .string f.nm, .int .i64 f.ty, .int .i64 f.pa]).up hb6); have S6 := Li (S5.out.up hb6'); have C6 := Li (C5.out.up hb6'); have R6 := Li (R5.out.up hb6'); have B6 := Li (below_step B5.out B5.out.size hb6'); have s60 := S6.out.c2; have c60 := C6.out.c8; have zS6 := S6.out.lt; have zC6 := C6.out.lt; have zR6 := R6.out.lt; have f60 := F6.out.cell 0 rfl; have f62 := F6.out.cell 2 rfl; have f63 := F6.out.cell 3 rfl; have zF6 := F6.out.lt; clear hb6 hb6') | ((with_reducible show wpList _ _ _ _ _ _); refine wpList_store_cb rfl 35 (.tmp 4) (.tmp 38) rfl (w.heap.size + 1 + 1) [.slice none 0 0, .int .i64 0] rfl rfl 35 [.slice none 0 0, .int .i64 0] 2 (R6.out.alloc _) sizeS rfl rfl (one_s _ _ _ _) ?_; intro wz hcz hgz hzz))
  all_goals
   refine bodyPost_ret (res_cell Tryz.results35 rfl rfl hcz Tryz.underlying35 sizeS rfl) rfl ⟨?_, below_grown (B6.out.alloc B6.out.size _) hgz (by rw [asz]; omega) (by omega)⟩
   rw [HRX.out]
   exact res_zero _ _ _
 | true =>
  cases o2 with
  | false =>
   have HRX := Li (HE.out.trans (if_neg (by simp)))
   clear HE
   have S0 := qS w A n c x kd id wi nm ot ty pa sep
   have C0 := qC w A n c x kd id wi nm ot ty pa sep
   have R0 := qR w A n c x kd id wi nm ot ty pa sep
   have B0 := qB w A n c x kd id wi nm ot ty pa sep
   have zR0 := R0.out.lt
   have tokV : Hid True := Li trivial
   go_enter Tryz.func35, Tryz.ntmps35
   go_wp2_with (first | (have tokW := tokV; go_at_call 28; refine (RField_any A n c x l id _ HN.out (HS.out.up B0.out) hl2).mono ?_; rintro e w5 ⟨rfl, hb5⟩; rw [HF.out, HO1.out]; have S5 := Li (S0.out.up hb5); have C5 := Li (C0.out.up hb5); have R5 := Li (R0.out.up hb5); have B5 := Li (below_step B0.out B0.out.size hb5); have s50 := S5.out.c2; have c50 := C5.out.c8; have zS5 := S5.out.lt; have zC5 := C5.out.lt; have zR5 := R5.out.lt; clear hb5 tokV tokW) | (go_at_call 28; refine (RField_any A n c x l wi _ HN.out (HS.out.up (B5.out.alloc B5.out.size _)) hl2).mono ?_; rintro e w6 ⟨rfl, hb6⟩; rw [HG.out, HO2.out]; have hb6' := (al1 w5 (.cells #[.int .i64 f.id, .string f.nm, .int .i64 f.ty, .int .i64 f.pa] 58)).trans (hb6.mono (al1 w5 (.cells #[.int .i64 f.id, .string f.nm, .int .i64 f.ty, .int .i64 f.pa] 58)).size); have F6 := Li ((CB.new w5 58 [.int .i64 f.id, .string f.nm, .int .i64 f.ty, .int .i64 f.pa]).up hb6); have S6 := Li (S5.out.up hb6'); have C6 := Li (C5.out.up hb6'); have R6 := Li (R5.out.up hb6'); have B6 := Li (below_step B5.out B5.out.size hb6'); have s60 := S6.out.c2; have c60 := C6.out.c8; have zS6 := S6.out.lt; have zC6 := C6.out.lt; have zR6 := R6.out.lt; have f60 := F6.out.cell 0 rfl; have f62 := F6.out.cell 2 rfl; have f63 := F6.out.cell 3 rfl; have zF6 := F6.out.lt; clear hb6 hb6') | ((with_reducible show wpList _ _ _ _ _ _); refine wpList_store_cb rfl 35 (.tmp 4) (.tmp 38) rfl (w.heap.size + 1 + 1) [.slice none 0 0, .int .i64 0] rfl rfl 35 [.slice none 0 0, .int .i64 0] 2 (R6.out.alloc _) sizeS rfl rfl (one_s _ _ _ _) ?_; intro wz hcz hgz hzz))
   all_goals
    refine bodyPost_ret (res_cell Tryz.results35 rfl rfl hcz Tryz.underlying35 sizeS rfl) rfl ⟨?_, below_grown (B6.out.alloc B6.out.size _) hgz (by rw [asz]; omega) (by omega)⟩
    rw [HRX.out]
    exact res_zero _ _ _
  | true =>
   by_cases hid : f.id = g.id
   ·
    have eid : (f.id == g.id) = true := by simpa using hid
    have HRX := Li (HE.out.trans (if_neg (by simp [hid])))
    clear HE hid
    have S0 := qS w A n c x kd id wi nm ot ty pa sep
    have C0 := qC w A n c x kd id wi nm ot ty pa sep
    have R0 := qR w A n c x kd id wi nm ot ty pa sep
    have B0 := qB w A n c x kd id wi nm ot ty pa sep
    have zR0 := R0.out.lt
    have tokV : Hid True := Li trivial
    go_enter Tryz.func35, Tryz.ntmps35
    go_wp2_with (first | (have tokW := tokV; go_at_call 28; refine (RField_any A n c x l id _ HN.out (HS.out.up B0.out) hl2).mono ?_; rintro e w5 ⟨rfl, hb5⟩; rw [HF.out, HO1.out]; have S5 := Li (S0.out.up hb5); have C5 := Li (C0.out.up hb5); have R5 := Li (R0.out.up hb5); have B5 := Li (below_step B0.out B0.out.size hb5); have s50 := S5.out.c2; have c50 := C5.out.c8; have zS5 := S5.out.lt; have zC5 := C5.out.lt; have zR5 := R5.out.lt; clear hb5 tokV tokW) | (go_at_call 28; refine (RField_any A n c x l wi _ HN.out (HS.out.up (B5.out.alloc B5.out.size _)) hl2).mono ?_; rintro e w6 ⟨rfl, hb6⟩; rw [HG.out, HO2.out]; have hb6' := (al1 w5 (.cells #[.int .i64 f.id, .string f.nm, .int .i64 f.ty, .int .i64 f.pa] 58)).trans (hb6.mono (al1 w5 (.cells #[.int .i64 f.id, .string f.nm, .int .i64 f.ty, .int .i64 f.pa] 58)).size); have F6 := Li ((CB.new w5 58 [.int .i64 f.id, .string f.nm, .int .i64 f.ty, .int .i64 f.pa]).up hb6); have S6 := Li (S5.out.up hb6'); have C6 := Li (C5.out.up hb6'); have R6 := Li (R5.out.up hb6'); have B6 := Li (below_step B5.out B5.out.size hb6'); have s60 := S6.out.c2; have c60 := C6.out.c8; have zS6 := S6.out.lt; have zC6 := C6.out.lt; have zR6 := R6.out.lt; have f60 := F6.out.cell 0 rfl; have f62 := F6.out.cell 2 rfl; have f63 := F6.out.cell 3 rfl; have zF6 := F6.out.lt; clear hb6 hb6') | ((with_reducible show wpList _ _ _ _ _ _); refine wpList_store_cb rfl 35 (.tmp 4) (.tmp 38) rfl (w.heap.size + 1 + 1) [.slice none 0 0, .int .i64 0] rfl rfl 35 [.slice none 0 0, .int .i64 0] 2 (R6.out.alloc _) sizeS rfl rfl (one_s _ _ _ _) ?_; intro wz hcz hgz hzz))
    all_goals
     refine bodyPost_ret (res_cell Tryz.results35 rfl rfl hcz Tryz.underlying35 sizeS rfl) rfl ⟨?_, below_grown (B6.out.alloc B6.out.size _) hgz (by rw [asz]; omega) (by omega)⟩
     rw [HRX.out]
     exact res_zero _ _ _
   ·
    have eid : (f.id == g.id) = false := by simpa using hid
    have HE1 := HE.out.trans (if_pos ⟨rfl, rfl, hid⟩)
    have HE := Li HE1
    clear HE1
    have HID := Li hid
    clear hid
    by_cases h1 : f.ty = 4
    ·
     have e1 : (f.ty != 4) = false := by simpa using h1
     by_cases h2 : g.ty = 4
     ·
      have e2 : (g.ty != 4) = false := by simpa using h2
      have HE1 := HE.out.trans (if_pos ⟨h1, h2⟩)
      have HE := Li HE1
      clear HE1 h1 h2
      by_cases h3 : f.pa = g.pa
      ·
       have e3 : (f.pa != g.pa) = false := by simpa using h3
       have HE1 := HE.out.trans (if_pos h3)
       have HE := Li HE1
       clear HE1 h3
       cases bP with
       | false =>
        have HRX := Li (HE.out.trans (if_neg (by decide)))
        clear HE
        have S0 := qS w A n c x kd id wi nm ot ty pa sep
        have C0 := qC w A n c x kd id wi nm ot ty pa sep
        have R0 := qR w A n c x kd id wi nm ot ty pa sep
        have B0 := qB w A n c x kd id wi nm ot ty pa sep
        have zR0 := R0.out.lt
        have tokV : Hid True := Li trivial
        go_enter Tryz.func35, Tryz.ntmps35
        go_wp2_with (first | (have tokW := tokV; go_at_call 28; refine (RField_any A n c x l id _ HN.out (HS.out.up B0.out) hl2).mono ?_; rintro e w5 ⟨rfl, hb5⟩; rw [HF.out, HO1.out]; have S5 := Li (S0.out.up hb5); have C5 := Li (C0.out.up hb5); have R5 := Li (R0.out.up hb5); have B5 := Li (below_step B0.out B0.out.size hb5); have s50 := S5.out.c2; have c50 := C5.out.c8; have zS5 := S5.out.lt; have zC5 := C5.out.lt; have zR5 := R5.out.lt; clear hb5 tokV tokW) | (go_at_call 28; refine (RField_any A n c x l wi _ HN.out (HS.out.up (B5.out.alloc B5.out.size _)) hl2).mono ?_; rintro e w6 ⟨rfl, hb6⟩; rw [HG.out, HO2.out]; have hb6' := (al1 w5 (.cells #[.int .i64 f.id, .string f.nm, .int .i64 f.ty, .int .i64 f.pa] 58)).trans (hb6.mono (al1 w5 (.cells #[.int .i64 f.id, .string f.nm, .int .i64 f.ty, .int .i64 f.pa] 58)).size); have F6 := Li ((CB.new w5 58 [.int .i64 f.id, .string f.nm, .int .i64 f.ty, .int .i64 f.pa]).up hb6); have S6 := Li (S5.out.up hb6'); have C6 := Li (C5.out.up hb6'); have R6 := Li (R5.out.up hb6'); have B6 := Li (below_step B5.out B5.out.size hb6'); have s60 := S6.out.c2; have c60 := C6.out.c8; have zS6 := S6.out.lt; have zC6 := C6.out.lt; have zR6 := R6.out.lt; have f60 := F6.out.cell 0 rfl; have f62 := F6.out.cell 2 rfl; have f63 := F6.out.cell 3 rfl; have zF6 := F6.out.lt; clear hb6 hb6') | (go_at_call 51; refine (RSep_any _ _ _ HP.out hsep).mono ?_; rintro e w' ⟨rfl, rfl⟩) | ((with_reducible show wpList _ _ _ _ _ _); refine wpList_store_cb rfl 35 (.tmp 4) (.tmp 58) rfl (w.heap.size + 1 + 1) [.slice none 0 0, .int .i64 0] rfl rfl 35 [.slice none 0 0, .int .i64 0] 2 (R6.out.alloc _) sizeS rfl rfl (one_s _ _ _ _) ?_; intro wz hcz hgz hzz))
        all_goals
         refine bodyPost_ret (res_cell Tryz.results35 rfl rfl hcz Tryz.underlying35 sizeS rfl) rfl ⟨?_, below_grown (B6.out.alloc B6.out.size _) hgz (by rw [asz]; omega) (by omega)⟩
         rw [HRX.out]
         exact res_zero _ _ _
       | true =>
        have HE1 := HE.out.trans (if_pos rfl)
        have HE := Li HE1
        clear HE1
        cases bT with
        | true =>
         have HRX := Li (HE.out.trans (if_pos rfl))
         clear HE
         have S0 := qS w A n c x kd id wi nm ot ty pa sep
         have C0 := qC w A n c x kd id wi nm ot ty pa sep
         have R0 := qR w A n c x kd id wi nm ot ty pa sep
         have B0 := qB w A n c x kd id wi nm ot ty pa sep
         have zR0 := R0.out.lt
         have tokV : Hid True := Li trivial
         go_enter Tryz.func35, Tryz.ntmps35
         go_wp2_with (first | (have tokW := tokV; go_at_call 28; refine (RField_any A n c x l id _ HN.out (HS.out.up B0.out) hl2).mono ?_; rintro e w5 ⟨rfl, hb5⟩; rw [HF.out, HO1.out]; have S5 := Li (S0.out.up hb5); have C5 := Li (C0.out.up hb5); have R5 := Li (R0.out.up hb5); have B5 := Li (below_step B0.out B0.out.size hb5); have s50 := S5.out.c2; have c50 := C5.out.c8; have zS5 := S5.out.lt; have zC5 := C5.out.lt; have zR5 := R5.out.lt; clear hb5 tokV tokW) | (go_at_call 28; refine (RField_any A n c x l wi _ HN.out (HS.out.up (B5.out.alloc B5.out.size _)) hl2).mono ?_; rintro e w6 ⟨rfl, hb6⟩; rw [HG.out, HO2.out]; have hb6' := (al1 w5 (.cells #[.int .i64 f.id, .string f.nm, .int .i64 f.ty, .int .i64 f.pa] 58)).trans (hb6.mono (al1 w5 (.cells #[.int .i64 f.id, .string f.nm, .int .i64 f.ty, .int .i64 f.pa] 58)).size); have F6 := Li ((CB.new w5 58 [.int .i64 f.id, .string f.nm, .int .i64 f.ty, .int .i64 f.pa]).up hb6); have S6 := Li (S5.out.up hb6'); have C6 := Li (C5.out.up hb6'); have R6 := Li (R5.out.up hb6'); have B6 := Li (below_step B5.out B5.out.size hb6'); have s60 := S6.out.c2; have c60 := C6.out.c8; have zS6 := S6.out.lt; have zC6 := C6.out.lt; have zR6 := R6.out.lt; have f60 := F6.out.cell 0 rfl; have f62 := F6.out.cell 2 rfl; have f63 := F6.out.cell 3 rfl; have zF6 := F6.out.lt; clear hb6 hb6') | (go_at_call 51; refine (RSep_any _ _ _ HP.out hsep).mono ?_; rintro e w' ⟨rfl, rfl⟩) | (go_at_call 54; refine (Rtaken_any A n c x l ⟨0, nm, 4, f.pa⟩ f.id g.id _ HN.out (HS.out.up ((B6.out.alloc B6.out.size (.cells #[.int .i64 g.id, .string g.nm, .int .i64 g.ty, .int .i64 g.pa] 58)).alloc (B6.out.alloc B6.out.size (.cells #[.int .i64 g.id, .string g.nm, .int .i64 g.ty, .int .i64 g.pa] 58)).size (.cells #[.int .i64 0, .string nm, .int .i64 4, .int .i64 f.pa] 58))) hl2 hnm).mono ?_; rintro e w8 ⟨rfl, hb8⟩; rw [HT.out]; have hb8' := (al2 w6 (.cells #[.int .i64 g.id, .string g.nm, .int .i64 g.ty, .int .i64 g.pa] 58) (.cells #[.int .i64 0, .string nm, .int .i64 4, .int .i64 f.pa] 58)).trans (hb8.mono (al2 w6 (.cells #[.int .i64 g.id, .string g.nm, .int .i64 g.ty, .int .i64 g.pa] 58) (.cells #[.int .i64 0, .string nm, .int .i64 4, .int .i64 f.pa] 58)).size); have F8 := Li (F6.out.up hb8'); have G8 := Li (((CB.new w6 58 [.int .i64 g.id, .string g.nm, .int .i64 g.ty, .int .i64 g.pa]).alloc (.cells #[.int .i64 0, .string nm, .int .i64 4, .int .i64 f.pa] 58)).up hb8); have H8 := Li ((CB.new1 w6 (.cells #[.int .i64 g.id, .string g.nm, .int .i64 g.ty, .int .i64 g.pa] 58) 58 [.int .i64 0, .string nm, .int .i64 4, .int .i64 f.pa]).up hb8); have S8 := Li (S6.out.up hb8'); have C8 := Li (C6.out.up hb8'); have R8 := Li (R6.out.up hb8'); have B8 := Li (below_step B6.out B6.out.size hb8'); have s80 := S8.out.c2; have zS8 := S8.out.lt; have zC8 := C8.out.lt; have zR8 := R8.out.lt; have zF8 := F8.out.lt; have zG8 := G8.out.lt; have zH8 := H8.out.lt; clear hb8 hb8') | ((with_reducible show wpList _ _ _ _ _ _); refine wpList_store_cb rfl 35 (.tmp 4) (.tmp 72) rfl (w.heap.size + 1 + 1) [.slice none 0 0, .int .i64 0] rfl rfl 35 [.slice none 0 0, .int .i64 0] 2 R8.out sizeS rfl rfl (one_s _ _ _ _) ?_; intro wz hcz hgz hzz))
         all_goals
          refine bodyPost_ret (res_cell Tryz.results35 rfl rfl hcz Tryz.underlying35 sizeS rfl) rfl ⟨?_, below_grown B8.out hgz (by omega) (by omega)⟩
          rw [HRX.out]
          exact res_zero _ _ _
        | false =>
         have HE1 := HE.out.trans (if_neg (by decide))
         have HE := Li HE1
         clear HE1
         by_cases hm : x < 1073741824
         ·
          have jm : ¬ (1073741824 : Int) ≤ x := by omega
          have HRX := Li (HE.out.trans (if_pos hm))
          clear HE
          have S0 := qS w A n c x kd id wi nm ot ty pa sep
          have C0 := qC w A n c x kd id wi nm ot ty pa sep
          have R0 := qR w A n c x kd id wi nm ot ty pa sep
          have B0 := qB w A n c x kd id wi nm ot ty pa sep
          have zR0 := R0.out.lt
          have tokV : Hid True := Li trivial
          go_enter Tryz.func35, Tryz.ntmps35
          go_wp2_with (first | (have tokW := tokV; go_at_call 28; refine (RField_any A n c x l id _ HN.out (HS.out.up B0.out) hl2).mono ?_; rintro e w5 ⟨rfl, hb5⟩; rw [HF.out, HO1.out]; have S5 := Li (S0.out.up hb5); have C5 := Li (C0.out.up hb5); have R5 := Li (R0.out.up hb5); have B5 := Li (below_step B0.out B0.out.size hb5); have s50 := S5.out.c2; have c50 := C5.out.c8; have zS5 := S5.out.lt; have zC5 := C5.out.lt; have zR5 := R5.out.lt; clear hb5 tokV tokW) | (go_at_call 28; refine (RField_any A n c x l wi _ HN.out (HS.out.up (B5.out.alloc B5.out.size _)) hl2).mono ?_; rintro e w6 ⟨rfl, hb6⟩; rw [HG.out, HO2.out]; have hb6' := (al1 w5 (.cells #[.int .i64 f.id, .string f.nm, .int .i64 f.ty, .int .i64 f.pa] 58)).trans (hb6.mono (al1 w5 (.cells #[.int .i64 f.id, .string f.nm, .int .i64 f.ty, .int .i64 f.pa] 58)).size); have F6 := Li ((CB.new w5 58 [.int .i64 f.id, .string f.nm, .int .i64 f.ty, .int .i64 f.pa]).up hb6); have S6 := Li (S5.out.up hb6'); have C6 := Li (C5.out.up hb6'); have R6 := Li (R5.out.up hb6'); have B6 := Li (below_step B5.out B5.out.size hb6'); have s60 := S6.out.c2; have c60 := C6.out.c8; have zS6 := S6.out.lt; have zC6 := C6.out.lt; have zR6 := R6.out.lt; have f60 := F6.out.cell 0 rfl; have f62 := F6.out.cell 2 rfl; have f63 := F6.out.cell 3 rfl; have zF6 := F6.out.lt; clear hb6 hb6') | (go_at_call 51; refine (RSep_any _ _ _ HP.out hsep).mono ?_; rintro e w' ⟨rfl, rfl⟩) | (go_at_call 54; refine (Rtaken_any A n c x l ⟨0, nm, 4, f.pa⟩ f.id g.id _ HN.out (HS.out.up ((B6.out.alloc B6.out.size (.cells #[.int .i64 g.id, .string g.nm, .int .i64 g.ty, .int .i64 g.pa] 58)).alloc (B6.out.alloc B6.out.size (.cells #[.int .i64 g.id, .string g.nm, .int .i64 g.ty, .int .i64 g.pa] 58)).size (.cells #[.int .i64 0, .string nm, .int .i64 4, .int .i64 f.pa] 58))) hl2 hnm).mono ?_; rintro e w8 ⟨rfl, hb8⟩; rw [HT.out]; have hb8' := (al2 w6 (.cells #[.int .i64 g.id, .string g.nm, .int .i64 g.ty, .int .i64 g.pa] 58) (.cells #[.int .i64 0, .string nm, .int .i64 4, .int .i64 f.pa] 58)).trans (hb8.mono (al2 w6 (.cells #[.int .i64 g.id, .string g.nm, .int .i64 g.ty, .int .i64 g.pa] 58) (.cells #[.int .i64 0, .string nm, .int .i64 4, .int .i64 f.pa] 58)).size); have F8 := Li (F6.out.up hb8'); have G8 := Li (((CB.new w6 58 [.int .i64 g.id, .string g.nm, .int .i64 g.ty, .int .i64 g.pa]).alloc (.cells #[.int .i64 0, .string nm, .int .i64 4, .int .i64 f.pa] 58)).up hb8); have H8 := Li ((CB.new1 w6 (.cells #[.int .i64 g.id, .string g.nm, .int .i64 g.ty, .int .i64 g.pa] 58) 58 [.int .i64 0, .string nm, .int .i64 4, .int .i64 f.pa]).up hb8); have S8 := Li (S6.out.up hb8'); have C8 := Li (C6.out.up hb8'); have R8 := Li (R6.out.up hb8'); have B8 := Li (below_step B6.out B6.out.size hb8'); have s80 := S8.out.c2; have zS8 := S8.out.lt; have zC8 := C8.out.lt; have zR8 := R8.out.lt; have zF8 := F8.out.lt; have zG8 := G8.out.lt; have zH8 := H8.out.lt; clear hb8 hb8'))
          have HSS : Hid (∀ W, Below w8.heap.size w8 W → W.cell? ⟨w.heap.size, 0, none⟩ = some (.slice A n c) ∧ W.cell? ⟨w.heap.size, 1, none⟩ = some (.int .i64 x) ∧ W.cell? ⟨w5.heap.size, 0, none⟩ = some (.int .i64 f.id) ∧ W.cell? ⟨w6.heap.size, 0, none⟩ = some (.int .i64 g.id) ∧ W.cell? ⟨w6.heap.size + 1, 0, none⟩ = some (.int .i64 0) ∧ W.cell? ⟨w6.heap.size + 1, 1, none⟩ = some (.string nm) ∧ W.cell? ⟨w6.heap.size + 1, 2, none⟩ = some (.int .i64 4) ∧ W.cell? ⟨w6.heap.size + 1, 3, none⟩ = some (.int .i64 f.pa)) := by
           intro W hW
           exact ⟨(S8.out.up hW).cell 0 rfl, (S8.out.up hW).cell 1 rfl, (F8.out.up hW).cell 0 rfl, (G8.out.up hW).cell 0 rfl, (H8.out.up hW).cell 0 rfl, (H8.out.up hW).cell 1 rfl, (H8.out.up hW).cell 2 rfl, (H8.out.up hW).cell 3 rfl⟩
          have HRES : Hid (∀ W, Below w8.heap.size w8 W → W.cell? ⟨w.heap.size + 1 + 1, 0, none⟩ = some (.slice none 0 0) ∧ W.cell? ⟨w.heap.size + 1 + 1, 1, none⟩ = some (.int .i64 0) ∧ W.frozen? ⟨w.heap.size + 1 + 1, 0, none⟩ = false ∧ W.frozen? ⟨w.heap.size + 1 + 1, 1, none⟩ = false) := by
           intro W hW
           exact ⟨(R8.out.up hW).cell 0 rfl, (R8.out.up hW).cell 1 rfl, (R8.out.up hW).frozen 0, (R8.out.up hW).frozen 1⟩
          have HLEN : (dropF2 l f.id g.id).length ≤ 100000 := by have := dr2_len l f.id g.id; rw [← HN.out] at this; omega
          obtain ⟨x0, x1, x2, x3, x4, x5, x6, x7⟩ := HSS.out w8 (Below.refl _ _)
          have n5 : ¬ w5.heap.size = w.heap.size + 1 + 1 := by omega
          have n6 : ¬ w6.heap.size = w.heap.size + 1 + 1 := by omega
          have n7 : ¬ w6.heap.size + 1 = w.heap.size + 1 + 1 := by omega
          go_region_held_law (fun w' => w'.cell? ⟨w.heap.size, 0, none⟩ = some (.slice A n c) ∧ w'.cell? ⟨w.heap.size, 1, none⟩ = some (.int .i64 x) ∧ w'.cell? ⟨w5.heap.size, 0, none⟩ = some (.int .i64 f.id) ∧ w'.cell? ⟨w6.heap.size, 0, none⟩ = some (.int .i64 g.id) ∧ w'.cell? ⟨w6.heap.size + 1, 0, none⟩ = some (.int .i64 0) ∧ w'.cell? ⟨w6.heap.size + 1, 1, none⟩ = some (.string nm) ∧ w'.cell? ⟨w6.heap.size + 1, 2, none⟩ = some (.int .i64 4) ∧ w'.cell? ⟨w6.heap.size + 1, 3, none⟩ = some (.int .i64 f.pa))
           (first | exact HSS.out _ (by first | exact hw9 | exact hw10 | exact hw9.drew | exact hw10.drew | exact bd _) | (refine ⟨?_, ?_, ?_, ?_, ?_, ?_, ?_, ?_⟩ <;> simp [go_sem, z0, z1, z2, z3, z4, z5, z6, z7]) | go_keep)
           (first | (go_at_call 56; refine (Rwithout_any A n c x l f.id g.id _ HN.out (HS.out.up (B8.out.trans ((show Below w8.heap.size w8 _ by first | exact bd _ | exact Below.refl _ _).mono B8.out.size))) hl3).mono ?_; rintro e w9 ⟨⟨A9, c9, rfl, ho9⟩, hb9⟩; have hw9 : Below w8.heap.size w8 w9 := (by first | exact hb9 | exact (bd _).trans (hb9.mono (bd _).size)); have O9 := Li (ho9.low (b := w.heap.size) (by first | exact B8.out.size | exact Nat.le_trans B8.out.size (bd _).size)); have HB9 := Li hb9; clear ho9 hb9) | (go_at_call 55; refine (Rplus_any A9 (dropF2 l f.id g.id).length c9 x (dropF2 l f.id g.id) 0 nm 4 f.pa _ rfl ((show Fds w9 w9.heap.size A9 (dropF2 l f.id g.id) from O9.out.row.2.2.2).up (by first | exact Below.refl _ _ | exact bd _)) HLEN hx0 hx2).mono ?_; rintro e w10 ⟨⟨A10, c10, rfl, ho10⟩, hb10⟩; have hw10 : Below w8.heap.size w8 w10 := hw9.trans ((show Below w9.heap.size w9 w10 by first | exact hb10 | exact (bd _).trans (hb10.mono (bd _).size)).mono hw9.size); have O10 := Li (ho10.low (b := w.heap.size) (by first | exact Nat.le_trans B8.out.size hw9.size | exact Nat.le_trans B8.out.size (Nat.le_trans hw9.size (bd _).size))); obtain ⟨y0, y1, y2, y3⟩ := HRES.out _ hw10; obtain ⟨z0, z1, z2, z3, z4, z5, z6, z7⟩ := HSS.out _ hw10; clear ho10 hb10))
          all_goals
           go_wp2
           have hq : CB ((w10.setCell ⟨w.heap.size + 1 + 1, 0, none⟩ (.slice A10 ((dropF2 l f.id g.id).length + 1) c10)).setCell ⟨w.heap.size + 1 + 1, 1, none⟩ (.int .i64 (x + 1))) (w.heap.size + 1 + 1) 35 [.slice A10 ((dropF2 l f.id g.id).length + 1) c10, .int .i64 (x + 1)] := ((R8.out.up hw10).set_ 0 _).set_ 1 _
           have hne := O10.out.ne (R8.out.up hw10) (by decide)
           refine bodyPost_ret (res_cell Tryz.results35 rfl rfl hq Tryz.underlying35 sizeS rfl) rfl ⟨?_, ((B8.out.trans (hw10.mono B8.out.size)).setCell (p := ⟨w.heap.size + 1 + 1, 0, none⟩) (by show w.heap.size ≤ w.heap.size + 1 + 1; omega) _).setCell (p := ⟨w.heap.size + 1 + 1, 1, none⟩) (by show w.heap.size ≤ w.heap.size + 1 + 1; omega) _⟩
           rw [HRX.out]
           exact ⟨A10, _, c10, rfl, by simp [withS], (O10.out.set_ 0 _ hne).set_ 1 _ hne⟩
         ·
          have jm : (1073741824 : Int) ≤ x := by omega
          have HRX := Li (HE.out.trans (if_neg hm))
          clear HE
          have S0 := qS w A n c x kd id wi nm ot ty pa sep
          have C0 := qC w A n c x kd id wi nm ot ty pa sep
          have R0 := qR w A n c x kd id wi nm ot ty pa sep
          have B0 := qB w A n c x kd id wi nm ot ty pa sep
          have zR0 := R0.out.lt
          have tokV : Hid True := Li trivial
          go_enter Tryz.func35, Tryz.ntmps35
          go_wp2_with (first | (have tokW := tokV; go_at_call 28; refine (RField_any A n c x l id _ HN.out (HS.out.up B0.out) hl2).mono ?_; rintro e w5 ⟨rfl, hb5⟩; rw [HF.out, HO1.out]; have S5 := Li (S0.out.up hb5); have C5 := Li (C0.out.up hb5); have R5 := Li (R0.out.up hb5); have B5 := Li (below_step B0.out B0.out.size hb5); have s50 := S5.out.c2; have c50 := C5.out.c8; have zS5 := S5.out.lt; have zC5 := C5.out.lt; have zR5 := R5.out.lt; clear hb5 tokV tokW) | (go_at_call 28; refine (RField_any A n c x l wi _ HN.out (HS.out.up (B5.out.alloc B5.out.size _)) hl2).mono ?_; rintro e w6 ⟨rfl, hb6⟩; rw [HG.out, HO2.out]; have hb6' := (al1 w5 (.cells #[.int .i64 f.id, .string f.nm, .int .i64 f.ty, .int .i64 f.pa] 58)).trans (hb6.mono (al1 w5 (.cells #[.int .i64 f.id, .string f.nm, .int .i64 f.ty, .int .i64 f.pa] 58)).size); have F6 := Li ((CB.new w5 58 [.int .i64 f.id, .string f.nm, .int .i64 f.ty, .int .i64 f.pa]).up hb6); have S6 := Li (S5.out.up hb6'); have C6 := Li (C5.out.up hb6'); have R6 := Li (R5.out.up hb6'); have B6 := Li (below_step B5.out B5.out.size hb6'); have s60 := S6.out.c2; have c60 := C6.out.c8; have zS6 := S6.out.lt; have zC6 := C6.out.lt; have zR6 := R6.out.lt; have f60 := F6.out.cell 0 rfl; have f62 := F6.out.cell 2 rfl; have f63 := F6.out.cell 3 rfl; have zF6 := F6.out.lt; clear hb6 hb6') | (go_at_call 51; refine (RSep_any _ _ _ HP.out hsep).mono ?_; rintro e w' ⟨rfl, rfl⟩) | (go_at_call 54; refine (Rtaken_any A n c x l ⟨0, nm, 4, f.pa⟩ f.id g.id _ HN.out (HS.out.up ((B6.out.alloc B6.out.size (.cells #[.int .i64 g.id, .string g.nm, .int .i64 g.ty, .int .i64 g.pa] 58)).alloc (B6.out.alloc B6.out.size (.cells #[.int .i64 g.id, .string g.nm, .int .i64 g.ty, .int .i64 g.pa] 58)).size (.cells #[.int .i64 0, .string nm, .int .i64 4, .int .i64 f.pa] 58))) hl2 hnm).mono ?_; rintro e w8 ⟨rfl, hb8⟩; rw [HT.out]; have hb8' := (al2 w6 (.cells #[.int .i64 g.id, .string g.nm, .int .i64 g.ty, .int .i64 g.pa] 58) (.cells #[.int .i64 0, .string nm, .int .i64 4, .int .i64 f.pa] 58)).trans (hb8.mono (al2 w6 (.cells #[.int .i64 g.id, .string g.nm, .int .i64 g.ty, .int .i64 g.pa] 58) (.cells #[.int .i64 0, .string nm, .int .i64 4, .int .i64 f.pa] 58)).size); have F8 := Li (F6.out.up hb8'); have G8 := Li (((CB.new w6 58 [.int .i64 g.id, .string g.nm, .int .i64 g.ty, .int .i64 g.pa]).alloc (.cells #[.int .i64 0, .string nm, .int .i64 4, .int .i64 f.pa] 58)).up hb8); have H8 := Li ((CB.new1 w6 (.cells #[.int .i64 g.id, .string g.nm, .int .i64 g.ty, .int .i64 g.pa] 58) 58 [.int .i64 0, .string nm, .int .i64 4, .int .i64 f.pa]).up hb8); have S8 := Li (S6.out.up hb8'); have C8 := Li (C6.out.up hb8'); have R8 := Li (R6.out.up hb8'); have B8 := Li (below_step B6.out B6.out.size hb8'); have s80 := S8.out.c2; have zS8 := S8.out.lt; have zC8 := C8.out.lt; have zR8 := R8.out.lt; have zF8 := F8.out.lt; have zG8 := G8.out.lt; have zH8 := H8.out.lt; clear hb8 hb8') | ((with_reducible show wpList _ _ _ _ _ _); refine wpList_store_cb rfl 35 (.tmp 4) (.tmp 76) rfl (w.heap.size + 1 + 1) [.slice none 0 0, .int .i64 0] rfl rfl 35 [.slice none 0 0, .int .i64 0] 2 R8.out sizeS rfl rfl (one_s _ _ _ _) ?_; intro wz hcz hgz hzz))
          all_goals
           refine bodyPost_ret (res_cell Tryz.results35 rfl rfl hcz Tryz.underlying35 sizeS rfl) rfl ⟨?_, below_grown B8.out hgz (by omega) (by omega)⟩
           rw [HRX.out]
           exact res_zero _ _ _
      ·
       have e3 : (f.pa != g.pa) = true := by simpa using h3
       have HRX := Li (HE.out.trans (if_neg h3))
       clear HE h3
       have S0 := qS w A n c x kd id wi nm ot ty pa sep
       have C0 := qC w A n c x kd id wi nm ot ty pa sep
       have R0 := qR w A n c x kd id wi nm ot ty pa sep
       have B0 := qB w A n c x kd id wi nm ot ty pa sep
       have zR0 := R0.out.lt
       have tokV : Hid True := Li trivial
       go_enter Tryz.func35, Tryz.ntmps35
       go_wp2_with (first | (have tokW := tokV; go_at_call 28; refine (RField_any A n c x l id _ HN.out (HS.out.up B0.out) hl2).mono ?_; rintro e w5 ⟨rfl, hb5⟩; rw [HF.out, HO1.out]; have S5 := Li (S0.out.up hb5); have C5 := Li (C0.out.up hb5); have R5 := Li (R0.out.up hb5); have B5 := Li (below_step B0.out B0.out.size hb5); have s50 := S5.out.c2; have c50 := C5.out.c8; have zS5 := S5.out.lt; have zC5 := C5.out.lt; have zR5 := R5.out.lt; clear hb5 tokV tokW) | (go_at_call 28; refine (RField_any A n c x l wi _ HN.out (HS.out.up (B5.out.alloc B5.out.size _)) hl2).mono ?_; rintro e w6 ⟨rfl, hb6⟩; rw [HG.out, HO2.out]; have hb6' := (al1 w5 (.cells #[.int .i64 f.id, .string f.nm, .int .i64 f.ty, .int .i64 f.pa] 58)).trans (hb6.mono (al1 w5 (.cells #[.int .i64 f.id, .string f.nm, .int .i64 f.ty, .int .i64 f.pa] 58)).size); have F6 := Li ((CB.new w5 58 [.int .i64 f.id, .string f.nm, .int .i64 f.ty, .int .i64 f.pa]).up hb6); have S6 := Li (S5.out.up hb6'); have C6 := Li (C5.out.up hb6'); have R6 := Li (R5.out.up hb6'); have B6 := Li (below_step B5.out B5.out.size hb6'); have s60 := S6.out.c2; have c60 := C6.out.c8; have zS6 := S6.out.lt; have zC6 := C6.out.lt; have zR6 := R6.out.lt; have f60 := F6.out.cell 0 rfl; have f62 := F6.out.cell 2 rfl; have f63 := F6.out.cell 3 rfl; have zF6 := F6.out.lt; clear hb6 hb6') | ((with_reducible show wpList _ _ _ _ _ _); refine wpList_store_cb rfl 35 (.tmp 4) (.tmp 53) rfl (w.heap.size + 1 + 1) [.slice none 0 0, .int .i64 0] rfl rfl 35 [.slice none 0 0, .int .i64 0] 2 (R6.out.alloc _) sizeS rfl rfl (one_s _ _ _ _) ?_; intro wz hcz hgz hzz))
       all_goals
        refine bodyPost_ret (res_cell Tryz.results35 rfl rfl hcz Tryz.underlying35 sizeS rfl) rfl ⟨?_, below_grown (B6.out.alloc B6.out.size _) hgz (by rw [asz]; omega) (by omega)⟩
        rw [HRX.out]
        exact res_zero _ _ _
     ·
      have e2 : (g.ty != 4) = true := by simpa using h2
      have HRX := Li (HE.out.trans (if_neg (fun h => h2 h.2)))
      clear HE h2 h1
      have S0 := qS w A n c x kd id wi nm ot ty pa sep
      have C0 := qC w A n c x kd id wi nm ot ty pa sep
      have R0 := qR w A n c x kd id wi nm ot ty pa sep
      have B0 := qB w A n c x kd id wi nm ot ty pa sep
      have zR0 := R0.out.lt
      have tokV : Hid True := Li trivial
      go_enter Tryz.func35, Tryz.ntmps35
      go_wp2_with (first | (have tokW := tokV; go_at_call 28; refine (RField_any A n c x l id _ HN.out (HS.out.up B0.out) hl2).mono ?_; rintro e w5 ⟨rfl, hb5⟩; rw [HF.out, HO1.out]; have S5 := Li (S0.out.up hb5); have C5 := Li (C0.out.up hb5); have R5 := Li (R0.out.up hb5); have B5 := Li (below_step B0.out B0.out.size hb5); have s50 := S5.out.c2; have c50 := C5.out.c8; have zS5 := S5.out.lt; have zC5 := C5.out.lt; have zR5 := R5.out.lt; clear hb5 tokV tokW) | (go_at_call 28; refine (RField_any A n c x l wi _ HN.out (HS.out.up (B5.out.alloc B5.out.size _)) hl2).mono ?_; rintro e w6 ⟨rfl, hb6⟩; rw [HG.out, HO2.out]; have hb6' := (al1 w5 (.cells #[.int .i64 f.id, .string f.nm, .int .i64 f.ty, .int .i64 f.pa] 58)).trans (hb6.mono (al1 w5 (.cells #[.int .i64 f.id, .string f.nm, .int .i64 f.ty, .int .i64 f.pa] 58)).size); have F6 := Li ((CB.new w5 58 [.int .i64 f.id, .string f.nm, .int .i64 f.ty, .int .i64 f.pa]).up hb6); have S6 := Li (S5.out.up hb6'); have C6 := Li (C5.out.up hb6'); have R6 := Li (R5.out.up hb6'); have B6 := Li (below_step B5.out B5.out.size hb6'); have s60 := S6.out.c2; have c60 := C6.out.c8; have zS6 := S6.out.lt; have zC6 := C6.out.lt; have zR6 := R6.out.lt; have f60 := F6.out.cell 0 rfl; have f62 := F6.out.cell 2 rfl; have f63 := F6.out.cell 3 rfl; have zF6 := F6.out.lt; clear hb6 hb6') | ((with_reducible show wpList _ _ _ _ _ _); refine wpList_store_cb rfl 35 (.tmp 4) (.tmp 47) rfl (w.heap.size + 1 + 1) [.slice none 0 0, .int .i64 0] rfl rfl 35 [.slice none 0 0, .int .i64 0] 2 (R6.out.alloc _) sizeS rfl rfl (one_s _ _ _ _) ?_; intro wz hcz hgz hzz))
      all_goals
       refine bodyPost_ret (res_cell Tryz.results35 rfl rfl hcz Tryz.underlying35 sizeS rfl) rfl ⟨?_, below_grown (B6.out.alloc B6.out.size _) hgz (by rw [asz]; omega) (by omega)⟩
       rw [HRX.out]
       exact res_zero _ _ _
    ·
     have e1 : (f.ty != 4) = true := by simpa using h1
     have HRX := Li (HE.out.trans (if_neg (fun h => h1 h.1)))
     clear HE h1
     have S0 := qS w A n c x kd id wi nm ot ty pa sep
     have C0 := qC w A n c x kd id wi nm ot ty pa sep
     have R0 := qR w A n c x kd id wi nm ot ty pa sep
     have B0 := qB w A n c x kd id wi nm ot ty pa sep
     have zR0 := R0.out.lt
     have tokV : Hid True := Li trivial
     go_enter Tryz.func35, Tryz.ntmps35
     go_wp2_with (first | (have tokW := tokV; go_at_call 28; refine (RField_any A n c x l id _ HN.out (HS.out.up B0.out) hl2).mono ?_; rintro e w5 ⟨rfl, hb5⟩; rw [HF.out, HO1.out]; have S5 := Li (S0.out.up hb5); have C5 := Li (C0.out.up hb5); have R5 := Li (R0.out.up hb5); have B5 := Li (below_step B0.out B0.out.size hb5); have s50 := S5.out.c2; have c50 := C5.out.c8; have zS5 := S5.out.lt; have zC5 := C5.out.lt; have zR5 := R5.out.lt; clear hb5 tokV tokW) | (go_at_call 28; refine (RField_any A n c x l wi _ HN.out (HS.out.up (B5.out.alloc B5.out.size _)) hl2).mono ?_; rintro e w6 ⟨rfl, hb6⟩; rw [HG.out, HO2.out]; have hb6' := (al1 w5 (.cells #[.int .i64 f.id, .string f.nm, .int .i64 f.ty, .int .i64 f.pa] 58)).trans (hb6.mono (al1 w5 (.cells #[.int .i64 f.id, .string f.nm, .int .i64 f.ty, .int .i64 f.pa] 58)).size); have F6 := Li ((CB.new w5 58 [.int .i64 f.id, .string f.nm, .int .i64 f.ty, .int .i64 f.pa]).up hb6); have S6 := Li (S5.out.up hb6'); have C6 := Li (C5.out.up hb6'); have R6 := Li (R5.out.up hb6'); have B6 := Li (below_step B5.out B5.out.size hb6'); have s60 := S6.out.c2; have c60 := C6.out.c8; have zS6 := S6.out.lt; have zC6 := C6.out.lt; have zR6 := R6.out.lt; have f60 := F6.out.cell 0 rfl; have f62 := F6.out.cell 2 rfl; have f63 := F6.out.cell 3 rfl; have zF6 := F6.out.lt; clear hb6 hb6') | ((with_reducible show wpList _ _ _ _ _ _); refine wpList_store_cb rfl 35 (.tmp 4) (.tmp 47) rfl (w.heap.size + 1 + 1) [.slice none 0 0, .int .i64 0] rfl rfl 35 [.slice none 0 0, .int .i64 0] 2 (R6.out.alloc _) sizeS rfl rfl (one_s _ _ _ _) ?_; intro wz hcz hgz hzz))
     all_goals
      refine bodyPost_ret (res_cell Tryz.results35 rfl rfl hcz Tryz.underlying35 sizeS rfl) rfl ⟨?_, below_grown (B6.out.alloc B6.out.size _) hgz (by rw [asz]; omega) (by omega)⟩
      rw [HRX.out]
      exact res_zero _ _ _

end Go.Proofs.YtfeemipnalgjnaaGreat
namespace Go.Proofs.YtfeemipnalgjnaaGreat
open Go.RowKit

def splitR' (s : Sc) (c : Ch) (f : Fd) : Sc × Int :=
 if f.ty = 4 then (if sepB c.sep = true then (if takB s.fs ⟨0, c.nm, 4, f.pa⟩ f.id f.id = true ∨ takB s.fs ⟨0, c.ot, 4, f.pa⟩ f.id f.id = true ∨ (c.nm.toList == c.ot.toList) = true then (Sc.zero, 60) else if s.fs.length < 64 ∧ s.next ≤ 1073741822 then (withS (withS ⟨dropF2 s.fs f.id f.id, s.next⟩ c.nm 4 f.pa) c.ot 4 f.pa, 0) else (Sc.zero, 2)) else (Sc.zero, 1)) else (Sc.zero, 7)
def splitR (s : Sc) (c : Ch) : Sc × Int := if hasF s.fs c.id = true then splitR' s c (fieldD s.fs c.id) else (Sc.zero, 61)
end Go.Proofs.YtfeemipnalgjnaaGreat
namespace Go.Proofs.YtfeemipnalgjnaaGreat
open Go.RowKit


set_option maxHeartbeats 4000000 in
set_option maxRecDepth 20000 in
theorem Rsplit_any (A : Option Addr) (n c : Nat) (x : Int) (l : List Fd) (kd id wi : Int) (nm ot : ByteArray) (ty pa : Int) (sep : ByteArray) (w : World) (hn : n = l.length) (hs : Fds w w.heap.size A l) (hl0 : n ≤ 1000) (hx0 : 0 ≤ x) (hx1 : x ≤ 2305843009213693952) (hnm : nm.size ≤ 9223372036854775807) (hot : ot.size ≤ 9223372036854775807) (hsep : sep.size ≤ 9223372036854775807) :
  Calls Tryz.prog 34 #[.agg #[.slice A n c, .int .i64 x], .agg #[.int .i64 kd, .int .i64 id, .int .i64 wi, .string nm, .string ot, .int .i64 ty, .int .i64 pa, .string sep]] w fun e w' => ResS w w' (splitR ⟨l, x⟩ ⟨kd, id, wi, nm, ot, ty, pa, sep⟩) e ∧ Below w.heap.size w w' := by
 have HN := Li hn
 have HS := Li hs
 clear hn hs
 have hl : n ≤ 100000 := by omega
 have hl2 : n ≤ 9223372036854775807 := by omega
 have hl3 : n ≤ 1000000 := by omega
 have hx2 : x ≤ 4611686018427387904 := by omega
 obtain ⟨f, hf⟩ : ∃ f, fieldD l id = f := ⟨_, rfl⟩
 obtain ⟨o1, ho1⟩ : ∃ b, hasF l id = b := ⟨_, rfl⟩
 obtain ⟨bP, hP⟩ : ∃ b, sepB sep = b := ⟨_, rfl⟩
 obtain ⟨bT, hT⟩ : ∃ b, takB l ⟨0, nm, 4, f.pa⟩ f.id f.id = b := ⟨_, rfl⟩
 obtain ⟨bK, hK⟩ : ∃ b, takB l ⟨0, ot, 4, f.pa⟩ f.id f.id = b := ⟨_, rfl⟩
 have HE : Hid (splitR ⟨l, x⟩ ⟨kd, id, wi, nm, ot, ty, pa, sep⟩ = if o1 = true then (if f.ty = 4 then (if bP = true then (if bT = true ∨ bK = true ∨ (nm.toList == ot.toList) = true then (Sc.zero, 60) else if n < 64 ∧ x ≤ 1073741822 then (withS (withS ⟨dropF2 l f.id f.id, x⟩ nm 4 f.pa) ot 4 f.pa, 0) else (Sc.zero, 2)) else (Sc.zero, 1)) else (Sc.zero, 7)) else (Sc.zero, 61)) := by
  show _ = _
  unfold splitR splitR'
  simp only [hf, ho1, hP, hT, hK, ← HN.out]
 have HF := Li hf
 have HO1 := Li ho1
 have HP := Li hP
 have HT := Li hT
 have HT2 := Li hK
 clear hf ho1 hP hT hK
 cases o1 with
 | false =>
  have HRX := Li (HE.out.trans (if_neg (by decide)))
  clear HE
  have S0 := qS w A n c x kd id wi nm ot ty pa sep
  have C0 := qC w A n c x kd id wi nm ot ty pa sep
  have R0 := qR w A n c x kd id wi nm ot ty pa sep
  have B0 := qB w A n c x kd id wi nm ot ty pa sep
  have zR0 := R0.out.lt
  have tokV : Hid True := Li trivial
  go_enter Tryz.func34, Tryz.ntmps34
  go_wp2_with (first | (go_at_call 28; refine (RField_any A n c x l id _ HN.out (HS.out.up B0.out) hl2).mono ?_; rintro e w5 ⟨rfl, hb5⟩; rw [HF.out, HO1.out]; have S5 := Li (S0.out.up hb5); have C5 := Li (C0.out.up hb5); have R5 := Li (R0.out.up hb5); have B5 := Li (below_step B0.out B0.out.size hb5); have s50 := S5.out.c2; have c50 := C5.out.c8; have zS5 := S5.out.lt; have zC5 := C5.out.lt; have zR5 := R5.out.lt; clear hb5) | ((with_reducible show wpList _ _ _ (Oper.mk none (.store _ _ _) _ _ _ _ :: _) _ _); refine wpList_store_cb rfl 35 (.tmp 4) (.tmp 19) rfl (w.heap.size + 1 + 1) [.slice none 0 0, .int .i64 0] rfl rfl 35 [.slice none 0 0, .int .i64 0] 2 (R5.out.alloc _) sizeS rfl rfl (one_s _ _ _ _) ?_; intro wz hcz hgz hzz))
  all_goals
   refine bodyPost_ret (res_cell Tryz.results34 rfl rfl hcz Tryz.underlying35 sizeS rfl) rfl ⟨?_, below_grown (B5.out.alloc B5.out.size _) hgz (by rw [asz]; omega) (by omega)⟩
   rw [HRX.out]
   exact res_zero _ _ _
 | true =>
  have HE1 := HE.out.trans (if_pos rfl)
  have HE := Li HE1
  clear HE1
  by_cases h1 : f.ty = 4
  ·
   have e1 : (f.ty != 4) = false := by simpa using h1
   have HE1 := HE.out.trans (if_pos h1)
   have HE := Li HE1
   clear HE1 h1
   cases bP with
   | false =>
    have HRX := Li (HE.out.trans (if_neg (by decide)))
    clear HE
    have S0 := qS w A n c x kd id wi nm ot ty pa sep
    have C0 := qC w A n c x kd id wi nm ot ty pa sep
    have R0 := qR w A n c x kd id wi nm ot ty pa sep
    have B0 := qB w A n c x kd id wi nm ot ty pa sep
    have zR0 := R0.out.lt
    have tokV : Hid True := Li trivial
    go_enter Tryz.func34, Tryz.ntmps34
    go_wp2_with (first | (go_at_call 28; refine (RField_any A n c x l id _ HN.out (HS.out.up B0.out) hl2).mono ?_; rintro e w5 ⟨rfl, hb5⟩; rw [HF.out, HO1.out]; have S5 := Li (S0.out.up hb5); have C5 := Li (C0.out.up hb5); have R5 := Li (R0.out.up hb5); have B5 := Li (below_step B0.out B0.out.size hb5); have s50 := S5.out.c2; have c50 := C5.out.c8; have zS5 := S5.out.lt; have zC5 := C5.out.lt; have zR5 := R5.out.lt; clear hb5) | (go_at_call 51; refine (RSep_any _ _ _ HP.out hsep).mono ?_; rintro e w7 ⟨rfl, hw7⟩; have hb7 : Below (w5.alloc (.cells #[.int .i64 f.id, .string f.nm, .int .i64 f.ty, .int .i64 f.pa] 58)).heap.size (w5.alloc (.cells #[.int .i64 f.id, .string f.nm, .int .i64 f.ty, .int .i64 f.pa] 58)) w7 := (by rw [hw7]; exact Below.refl _ _); have hb7' := (al1 w5 (.cells #[.int .i64 f.id, .string f.nm, .int .i64 f.ty, .int .i64 f.pa] 58)).trans (hb7.mono (al1 w5 (.cells #[.int .i64 f.id, .string f.nm, .int .i64 f.ty, .int .i64 f.pa] 58)).size); have F7 := Li ((CB.new w5 58 [.int .i64 f.id, .string f.nm, .int .i64 f.ty, .int .i64 f.pa]).up hb7); have S7 := Li (S5.out.up hb7'); have C7 := Li (C5.out.up hb7'); have R7 := Li (R5.out.up hb7'); have B7 := Li (below_step B5.out B5.out.size hb7'); have s70 := S7.out.c2; have c70 := C7.out.c8; have zS7 := S7.out.lt; have zC7 := C7.out.lt; have zR7 := R7.out.lt; have f70 := F7.out.cell 0 rfl; have f73 := F7.out.cell 3 rfl; have zF7 := F7.out.lt; clear hb7 hb7' hw7) | ((with_reducible show wpList _ _ _ (Oper.mk none (.store _ _ _) _ _ _ _ :: _) _ _); refine wpList_store_cb rfl 35 (.tmp 4) (.tmp 28) rfl (w.heap.size + 1 + 1) [.slice none 0 0, .int .i64 0] rfl rfl 35 [.slice none 0 0, .int .i64 0] 2 R7.out sizeS rfl rfl (one_s _ _ _ _) ?_; intro wz hcz hgz hzz))
    all_goals
     refine bodyPost_ret (res_cell Tryz.results34 rfl rfl hcz Tryz.underlying35 sizeS rfl) rfl ⟨?_, below_grown B7.out hgz (by omega) (by omega)⟩
     rw [HRX.out]
     exact res_zero _ _ _
   | true =>
    have HE1 := HE.out.trans (if_pos rfl)
    have HE := Li HE1
    clear HE1
    cases bT with
    | true =>
     have HRX := Li (HE.out.trans (if_pos (.inl rfl)))
     clear HE
     have S0 := qS w A n c x kd id wi nm ot ty pa sep
     have C0 := qC w A n c x kd id wi nm ot ty pa sep
     have R0 := qR w A n c x kd id wi nm ot ty pa sep
     have B0 := qB w A n c x kd id wi nm ot ty pa sep
     have zR0 := R0.out.lt
     have tokV : Hid True := Li trivial
     go_enter Tryz.func34, Tryz.ntmps34
     go_wp2_with (first | (go_at_call 28; refine (RField_any A n c x l id _ HN.out (HS.out.up B0.out) hl2).mono ?_; rintro e w5 ⟨rfl, hb5⟩; rw [HF.out, HO1.out]; have S5 := Li (S0.out.up hb5); have C5 := Li (C0.out.up hb5); have R5 := Li (R0.out.up hb5); have B5 := Li (below_step B0.out B0.out.size hb5); have s50 := S5.out.c2; have c50 := C5.out.c8; have zS5 := S5.out.lt; have zC5 := C5.out.lt; have zR5 := R5.out.lt; clear hb5) | (go_at_call 51; refine (RSep_any _ _ _ HP.out hsep).mono ?_; rintro e w7 ⟨rfl, hw7⟩; have hb7 : Below (w5.alloc (.cells #[.int .i64 f.id, .string f.nm, .int .i64 f.ty, .int .i64 f.pa] 58)).heap.size (w5.alloc (.cells #[.int .i64 f.id, .string f.nm, .int .i64 f.ty, .int .i64 f.pa] 58)) w7 := (by rw [hw7]; exact Below.refl _ _); have hb7' := (al1 w5 (.cells #[.int .i64 f.id, .string f.nm, .int .i64 f.ty, .int .i64 f.pa] 58)).trans (hb7.mono (al1 w5 (.cells #[.int .i64 f.id, .string f.nm, .int .i64 f.ty, .int .i64 f.pa] 58)).size); have F7 := Li ((CB.new w5 58 [.int .i64 f.id, .string f.nm, .int .i64 f.ty, .int .i64 f.pa]).up hb7); have S7 := Li (S5.out.up hb7'); have C7 := Li (C5.out.up hb7'); have R7 := Li (R5.out.up hb7'); have B7 := Li (below_step B5.out B5.out.size hb7'); have s70 := S7.out.c2; have c70 := C7.out.c8; have zS7 := S7.out.lt; have zC7 := C7.out.lt; have zR7 := R7.out.lt; have f70 := F7.out.cell 0 rfl; have f73 := F7.out.cell 3 rfl; have zF7 := F7.out.lt; clear hb7 hb7' hw7) | (have tokW := tokV; go_at_call 54; refine (Rtaken_any A n c x l ⟨0, nm, 4, f.pa⟩ f.id f.id _ HN.out (HS.out.up ((B7.out.alloc B7.out.size (.cells #[.int .i64 0, .string nm, .int .i64 4, .int .i64 f.pa] 58)).alloc (B7.out.alloc B7.out.size (.cells #[.int .i64 0, .string nm, .int .i64 4, .int .i64 f.pa] 58)).size (.cells #[.int .i64 0, .string ot, .int .i64 4, .int .i64 f.pa] 58))) hl2 hnm).mono ?_; rintro e w6 ⟨rfl, hb6⟩; rw [HT.out]; have hb6' := (al2 w7 (.cells #[.int .i64 0, .string nm, .int .i64 4, .int .i64 f.pa] 58) (.cells #[.int .i64 0, .string ot, .int .i64 4, .int .i64 f.pa] 58)).trans (hb6.mono (al2 w7 (.cells #[.int .i64 0, .string nm, .int .i64 4, .int .i64 f.pa] 58) (.cells #[.int .i64 0, .string ot, .int .i64 4, .int .i64 f.pa] 58)).size); have F6 := Li (F7.out.up hb6'); have G6 := Li (((CB.new w7 58 [.int .i64 0, .string nm, .int .i64 4, .int .i64 f.pa]).alloc (.cells #[.int .i64 0, .string ot, .int .i64 4, .int .i64 f.pa] 58)).up hb6); have H6 := Li ((CB.new1 w7 (.cells #[.int .i64 0, .string nm, .int .i64 4, .int .i64 f.pa] 58) 58 [.int .i64 0, .string ot, .int .i64 4, .int .i64 f.pa]).up hb6); have S6 := Li (S7.out.up hb6'); have C6 := Li (C7.out.up hb6'); have R6 := Li (R7.out.up hb6'); have B6 := Li (below_step B7.out B7.out.size hb6'); have s60 := S6.out.c2; have c60 := C6.out.c8; have zS6 := S6.out.lt; have zC6 := C6.out.lt; have zR6 := R6.out.lt; have f60 := F6.out.cell 0 rfl; have h60 := H6.out.c4; have zF6 := F6.out.lt; have zG6 := G6.out.lt; have zH6 := H6.out.lt; clear hb6 hb6' tokV tokW) | ((with_reducible show wpList _ _ _ (Oper.mk none (.store _ _ _) _ _ _ _ :: _) _ _); refine wpList_store_cb rfl 35 (.tmp 4) (.tmp 64) rfl (w.heap.size + 1 + 1) [.slice none 0 0, .int .i64 0] rfl rfl 35 [.slice none 0 0, .int .i64 0] 2 R6.out sizeS rfl rfl (one_s _ _ _ _) ?_; intro wz hcz hgz hzz))
     all_goals
      refine bodyPost_ret (res_cell Tryz.results34 rfl rfl hcz Tryz.underlying35 sizeS rfl) rfl ⟨?_, below_grown B6.out hgz (by omega) (by omega)⟩
      rw [HRX.out]
      exact res_zero _ _ _
    | false =>
     cases bK with
     | true =>
      have HRX := Li (HE.out.trans (if_pos (.inr (.inl rfl))))
      clear HE
      have S0 := qS w A n c x kd id wi nm ot ty pa sep
      have C0 := qC w A n c x kd id wi nm ot ty pa sep
      have R0 := qR w A n c x kd id wi nm ot ty pa sep
      have B0 := qB w A n c x kd id wi nm ot ty pa sep
      have zR0 := R0.out.lt
      have tokV : Hid True := Li trivial
      go_enter Tryz.func34, Tryz.ntmps34
      go_wp2_with (first | (go_at_call 28; refine (RField_any A n c x l id _ HN.out (HS.out.up B0.out) hl2).mono ?_; rintro e w5 ⟨rfl, hb5⟩; rw [HF.out, HO1.out]; have S5 := Li (S0.out.up hb5); have C5 := Li (C0.out.up hb5); have R5 := Li (R0.out.up hb5); have B5 := Li (below_step B0.out B0.out.size hb5); have s50 := S5.out.c2; have c50 := C5.out.c8; have zS5 := S5.out.lt; have zC5 := C5.out.lt; have zR5 := R5.out.lt; clear hb5) | (go_at_call 51; refine (RSep_any _ _ _ HP.out hsep).mono ?_; rintro e w7 ⟨rfl, hw7⟩; have hb7 : Below (w5.alloc (.cells #[.int .i64 f.id, .string f.nm, .int .i64 f.ty, .int .i64 f.pa] 58)).heap.size (w5.alloc (.cells #[.int .i64 f.id, .string f.nm, .int .i64 f.ty, .int .i64 f.pa] 58)) w7 := (by rw [hw7]; exact Below.refl _ _); have hb7' := (al1 w5 (.cells #[.int .i64 f.id, .string f.nm, .int .i64 f.ty, .int .i64 f.pa] 58)).trans (hb7.mono (al1 w5 (.cells #[.int .i64 f.id, .string f.nm, .int .i64 f.ty, .int .i64 f.pa] 58)).size); have F7 := Li ((CB.new w5 58 [.int .i64 f.id, .string f.nm, .int .i64 f.ty, .int .i64 f.pa]).up hb7); have S7 := Li (S5.out.up hb7'); have C7 := Li (C5.out.up hb7'); have R7 := Li (R5.out.up hb7'); have B7 := Li (below_step B5.out B5.out.size hb7'); have s70 := S7.out.c2; have c70 := C7.out.c8; have zS7 := S7.out.lt; have zC7 := C7.out.lt; have zR7 := R7.out.lt; have f70 := F7.out.cell 0 rfl; have f73 := F7.out.cell 3 rfl; have zF7 := F7.out.lt; clear hb7 hb7' hw7) | (have tokW := tokV; go_at_call 54; refine (Rtaken_any A n c x l ⟨0, nm, 4, f.pa⟩ f.id f.id _ HN.out (HS.out.up ((B7.out.alloc B7.out.size (.cells #[.int .i64 0, .string nm, .int .i64 4, .int .i64 f.pa] 58)).alloc (B7.out.alloc B7.out.size (.cells #[.int .i64 0, .string nm, .int .i64 4, .int .i64 f.pa] 58)).size (.cells #[.int .i64 0, .string ot, .int .i64 4, .int .i64 f.pa] 58))) hl2 hnm).mono ?_; rintro e w6 ⟨rfl, hb6⟩; rw [HT.out]; have hb6' := (al2 w7 (.cells #[.int .i64 0, .string nm, .int .i64 4, .int .i64 f.pa] 58) (.cells #[.int .i64 0, .string ot, .int .i64 4, .int .i64 f.pa] 58)).trans (hb6.mono (al2 w7 (.cells #[.int .i64 0, .string nm, .int .i64 4, .int .i64 f.pa] 58) (.cells #[.int .i64 0, .string ot, .int .i64 4, .int .i64 f.pa] 58)).size); have F6 := Li (F7.out.up hb6'); have G6 := Li (((CB.new w7 58 [.int .i64 0, .string nm, .int .i64 4, .int .i64 f.pa]).alloc (.cells #[.int .i64 0, .string ot, .int .i64 4, .int .i64 f.pa] 58)).up hb6); have H6 := Li ((CB.new1 w7 (.cells #[.int .i64 0, .string nm, .int .i64 4, .int .i64 f.pa] 58) 58 [.int .i64 0, .string ot, .int .i64 4, .int .i64 f.pa]).up hb6); have S6 := Li (S7.out.up hb6'); have C6 := Li (C7.out.up hb6'); have R6 := Li (R7.out.up hb6'); have B6 := Li (below_step B7.out B7.out.size hb6'); have s60 := S6.out.c2; have c60 := C6.out.c8; have zS6 := S6.out.lt; have zC6 := C6.out.lt; have zR6 := R6.out.lt; have f60 := F6.out.cell 0 rfl; have h60 := H6.out.c4; have zF6 := F6.out.lt; have zG6 := G6.out.lt; have zH6 := H6.out.lt; clear hb6 hb6' tokV tokW) | (go_at_call 54; refine (Rtaken_any A n c x l ⟨0, ot, 4, f.pa⟩ f.id f.id _ HN.out (HS.out.up B6.out) hl2 hot).mono ?_; rintro e w8 ⟨rfl, hb8⟩; rw [HT2.out]; have F8 := Li (F6.out.up hb8); have G8 := Li (G6.out.up hb8); have H8 := Li (H6.out.up hb8); have S8 := Li (S6.out.up hb8); have C8 := Li (C6.out.up hb8); have R8 := Li (R6.out.up hb8); have B8 := Li (below_step B6.out B6.out.size hb8); have s80 := S8.out.c2; have c80 := C8.out.c8; have zS8 := S8.out.lt; have zC8 := C8.out.lt; have zR8 := R8.out.lt; have zF8 := F8.out.lt; have zG8 := G8.out.lt; have zH8 := H8.out.lt; clear hb8) | ((with_reducible show wpList _ _ _ (Oper.mk none (.store _ _ _) _ _ _ _ :: _) _ _); refine wpList_store_cb rfl 35 (.tmp 4) (.tmp 64) rfl (w.heap.size + 1 + 1) [.slice none 0 0, .int .i64 0] rfl rfl 35 [.slice none 0 0, .int .i64 0] 2 R8.out sizeS rfl rfl (one_s _ _ _ _) ?_; intro wz hcz hgz hzz))
      all_goals
       refine bodyPost_ret (res_cell Tryz.results34 rfl rfl hcz Tryz.underlying35 sizeS rfl) rfl ⟨?_, below_grown B8.out hgz (by omega) (by omega)⟩
       rw [HRX.out]
       exact res_zero _ _ _
     | false =>
      cases hq : (nm.toList == ot.toList) with
      | true =>
       have HRX := Li (HE.out.trans (if_pos (.inr (.inr hq))))
       clear HE
       have S0 := qS w A n c x kd id wi nm ot ty pa sep
       have C0 := qC w A n c x kd id wi nm ot ty pa sep
       have R0 := qR w A n c x kd id wi nm ot ty pa sep
       have B0 := qB w A n c x kd id wi nm ot ty pa sep
       have zR0 := R0.out.lt
       have tokV : Hid True := Li trivial
       go_enter Tryz.func34, Tryz.ntmps34
       go_wp2_with (first | (go_at_call 28; refine (RField_any A n c x l id _ HN.out (HS.out.up B0.out) hl2).mono ?_; rintro e w5 ⟨rfl, hb5⟩; rw [HF.out, HO1.out]; have S5 := Li (S0.out.up hb5); have C5 := Li (C0.out.up hb5); have R5 := Li (R0.out.up hb5); have B5 := Li (below_step B0.out B0.out.size hb5); have s50 := S5.out.c2; have c50 := C5.out.c8; have zS5 := S5.out.lt; have zC5 := C5.out.lt; have zR5 := R5.out.lt; clear hb5) | (go_at_call 51; refine (RSep_any _ _ _ HP.out hsep).mono ?_; rintro e w7 ⟨rfl, hw7⟩; have hb7 : Below (w5.alloc (.cells #[.int .i64 f.id, .string f.nm, .int .i64 f.ty, .int .i64 f.pa] 58)).heap.size (w5.alloc (.cells #[.int .i64 f.id, .string f.nm, .int .i64 f.ty, .int .i64 f.pa] 58)) w7 := (by rw [hw7]; exact Below.refl _ _); have hb7' := (al1 w5 (.cells #[.int .i64 f.id, .string f.nm, .int .i64 f.ty, .int .i64 f.pa] 58)).trans (hb7.mono (al1 w5 (.cells #[.int .i64 f.id, .string f.nm, .int .i64 f.ty, .int .i64 f.pa] 58)).size); have F7 := Li ((CB.new w5 58 [.int .i64 f.id, .string f.nm, .int .i64 f.ty, .int .i64 f.pa]).up hb7); have S7 := Li (S5.out.up hb7'); have C7 := Li (C5.out.up hb7'); have R7 := Li (R5.out.up hb7'); have B7 := Li (below_step B5.out B5.out.size hb7'); have s70 := S7.out.c2; have c70 := C7.out.c8; have zS7 := S7.out.lt; have zC7 := C7.out.lt; have zR7 := R7.out.lt; have f70 := F7.out.cell 0 rfl; have f73 := F7.out.cell 3 rfl; have zF7 := F7.out.lt; clear hb7 hb7' hw7) | (have tokW := tokV; go_at_call 54; refine (Rtaken_any A n c x l ⟨0, nm, 4, f.pa⟩ f.id f.id _ HN.out (HS.out.up ((B7.out.alloc B7.out.size (.cells #[.int .i64 0, .string nm, .int .i64 4, .int .i64 f.pa] 58)).alloc (B7.out.alloc B7.out.size (.cells #[.int .i64 0, .string nm, .int .i64 4, .int .i64 f.pa] 58)).size (.cells #[.int .i64 0, .string ot, .int .i64 4, .int .i64 f.pa] 58))) hl2 hnm).mono ?_; rintro e w6 ⟨rfl, hb6⟩; rw [HT.out]; have hb6' := (al2 w7 (.cells #[.int .i64 0, .string nm, .int .i64 4, .int .i64 f.pa] 58) (.cells #[.int .i64 0, .string ot, .int .i64 4, .int .i64 f.pa] 58)).trans (hb6.mono (al2 w7 (.cells #[.int .i64 0, .string nm, .int .i64 4, .int .i64 f.pa] 58) (.cells #[.int .i64 0, .string ot, .int .i64 4, .int .i64 f.pa] 58)).size); have F6 := Li (F7.out.up hb6'); have G6 := Li (((CB.new w7 58 [.int .i64 0, .string nm, .int .i64 4, .int .i64 f.pa]).alloc (.cells #[.int .i64 0, .string ot, .int .i64 4, .int .i64 f.pa] 58)).up hb6); have H6 := Li ((CB.new1 w7 (.cells #[.int .i64 0, .string nm, .int .i64 4, .int .i64 f.pa] 58) 58 [.int .i64 0, .string ot, .int .i64 4, .int .i64 f.pa]).up hb6); have S6 := Li (S7.out.up hb6'); have C6 := Li (C7.out.up hb6'); have R6 := Li (R7.out.up hb6'); have B6 := Li (below_step B7.out B7.out.size hb6'); have s60 := S6.out.c2; have c60 := C6.out.c8; have zS6 := S6.out.lt; have zC6 := C6.out.lt; have zR6 := R6.out.lt; have f60 := F6.out.cell 0 rfl; have h60 := H6.out.c4; have zF6 := F6.out.lt; have zG6 := G6.out.lt; have zH6 := H6.out.lt; clear hb6 hb6' tokV tokW) | (go_at_call 54; refine (Rtaken_any A n c x l ⟨0, ot, 4, f.pa⟩ f.id f.id _ HN.out (HS.out.up B6.out) hl2 hot).mono ?_; rintro e w8 ⟨rfl, hb8⟩; rw [HT2.out]; have F8 := Li (F6.out.up hb8); have G8 := Li (G6.out.up hb8); have H8 := Li (H6.out.up hb8); have S8 := Li (S6.out.up hb8); have C8 := Li (C6.out.up hb8); have R8 := Li (R6.out.up hb8); have B8 := Li (below_step B6.out B6.out.size hb8); have s80 := S8.out.c2; have c80 := C8.out.c8; have zS8 := S8.out.lt; have zC8 := C8.out.lt; have zR8 := R8.out.lt; have zF8 := F8.out.lt; have zG8 := G8.out.lt; have zH8 := H8.out.lt; clear hb8) | ((with_reducible show wpList _ _ _ (Oper.mk none (.store _ _ _) _ _ _ _ :: _) _ _); refine wpList_store_cb rfl 35 (.tmp 4) (.tmp 64) rfl (w.heap.size + 1 + 1) [.slice none 0 0, .int .i64 0] rfl rfl 35 [.slice none 0 0, .int .i64 0] 2 R8.out sizeS rfl rfl (one_s _ _ _ _) ?_; intro wz hcz hgz hzz))
       all_goals
        refine bodyPost_ret (res_cell Tryz.results34 rfl rfl hcz Tryz.underlying35 sizeS rfl) rfl ⟨?_, below_grown B8.out hgz (by omega) (by omega)⟩
        rw [HRX.out]
        exact res_zero _ _ _
      | false =>
       have HE1 := HE.out.trans (if_neg (by simp [hq]))
       have HE := Li HE1
       clear HE1
       by_cases h64 : n < 64
       ·
        have j64 : ¬ (64 : Int) ≤ (n : Int) := by omega
        by_cases hm : x ≤ 1073741822
        ·
         have jm : ¬ (1073741822 : Int) < x := by omega
         have HRX := Li (HE.out.trans (if_pos ⟨h64, hm⟩))
         clear HE
         have S0 := qS w A n c x kd id wi nm ot ty pa sep
         have C0 := qC w A n c x kd id wi nm ot ty pa sep
         have R0 := qR w A n c x kd id wi nm ot ty pa sep
         have B0 := qB w A n c x kd id wi nm ot ty pa sep
         have zR0 := R0.out.lt
         have tokV : Hid True := Li trivial
         go_enter Tryz.func34, Tryz.ntmps34
         go_wp2_with (first | (go_at_call 28; refine (RField_any A n c x l id _ HN.out (HS.out.up B0.out) hl2).mono ?_; rintro e w5 ⟨rfl, hb5⟩; rw [HF.out, HO1.out]; have S5 := Li (S0.out.up hb5); have C5 := Li (C0.out.up hb5); have R5 := Li (R0.out.up hb5); have B5 := Li (below_step B0.out B0.out.size hb5); have s50 := S5.out.c2; have c50 := C5.out.c8; have zS5 := S5.out.lt; have zC5 := C5.out.lt; have zR5 := R5.out.lt; clear hb5) | (go_at_call 51; refine (RSep_any _ _ _ HP.out hsep).mono ?_; rintro e w7 ⟨rfl, hw7⟩; have hb7 : Below (w5.alloc (.cells #[.int .i64 f.id, .string f.nm, .int .i64 f.ty, .int .i64 f.pa] 58)).heap.size (w5.alloc (.cells #[.int .i64 f.id, .string f.nm, .int .i64 f.ty, .int .i64 f.pa] 58)) w7 := (by rw [hw7]; exact Below.refl _ _); have hb7' := (al1 w5 (.cells #[.int .i64 f.id, .string f.nm, .int .i64 f.ty, .int .i64 f.pa] 58)).trans (hb7.mono (al1 w5 (.cells #[.int .i64 f.id, .string f.nm, .int .i64 f.ty, .int .i64 f.pa] 58)).size); have F7 := Li ((CB.new w5 58 [.int .i64 f.id, .string f.nm, .int .i64 f.ty, .int .i64 f.pa]).up hb7); have S7 := Li (S5.out.up hb7'); have C7 := Li (C5.out.up hb7'); have R7 := Li (R5.out.up hb7'); have B7 := Li (below_step B5.out B5.out.size hb7'); have s70 := S7.out.c2; have c70 := C7.out.c8; have zS7 := S7.out.lt; have zC7 := C7.out.lt; have zR7 := R7.out.lt; have f70 := F7.out.cell 0 rfl; have f73 := F7.out.cell 3 rfl; have zF7 := F7.out.lt; clear hb7 hb7' hw7) | (have tokW := tokV; go_at_call 54; refine (Rtaken_any A n c x l ⟨0, nm, 4, f.pa⟩ f.id f.id _ HN.out (HS.out.up ((B7.out.alloc B7.out.size (.cells #[.int .i64 0, .string nm, .int .i64 4, .int .i64 f.pa] 58)).alloc (B7.out.alloc B7.out.size (.cells #[.int .i64 0, .string nm, .int .i64 4, .int .i64 f.pa] 58)).size (.cells #[.int .i64 0, .string ot, .int .i64 4, .int .i64 f.pa] 58))) hl2 hnm).mono ?_; rintro e w6 ⟨rfl, hb6⟩; rw [HT.out]; have hb6' := (al2 w7 (.cells #[.int .i64 0, .string nm, .int .i64 4, .int .i64 f.pa] 58) (.cells #[.int .i64 0, .string ot, .int .i64 4, .int .i64 f.pa] 58)).trans (hb6.mono (al2 w7 (.cells #[.int .i64 0, .string nm, .int .i64 4, .int .i64 f.pa] 58) (.cells #[.int .i64 0, .string ot, .int .i64 4, .int .i64 f.pa] 58)).size); have F6 := Li (F7.out.up hb6'); have G6 := Li (((CB.new w7 58 [.int .i64 0, .string nm, .int .i64 4, .int .i64 f.pa]).alloc (.cells #[.int .i64 0, .string ot, .int .i64 4, .int .i64 f.pa] 58)).up hb6); have H6 := Li ((CB.new1 w7 (.cells #[.int .i64 0, .string nm, .int .i64 4, .int .i64 f.pa] 58) 58 [.int .i64 0, .string ot, .int .i64 4, .int .i64 f.pa]).up hb6); have S6 := Li (S7.out.up hb6'); have C6 := Li (C7.out.up hb6'); have R6 := Li (R7.out.up hb6'); have B6 := Li (below_step B7.out B7.out.size hb6'); have s60 := S6.out.c2; have c60 := C6.out.c8; have zS6 := S6.out.lt; have zC6 := C6.out.lt; have zR6 := R6.out.lt; have f60 := F6.out.cell 0 rfl; have h60 := H6.out.c4; have zF6 := F6.out.lt; have zG6 := G6.out.lt; have zH6 := H6.out.lt; clear hb6 hb6' tokV tokW) | (go_at_call 54; refine (Rtaken_any A n c x l ⟨0, ot, 4, f.pa⟩ f.id f.id _ HN.out (HS.out.up B6.out) hl2 hot).mono ?_; rintro e w8 ⟨rfl, hb8⟩; rw [HT2.out]; have F8 := Li (F6.out.up hb8); have G8 := Li (G6.out.up hb8); have H8 := Li (H6.out.up hb8); have S8 := Li (S6.out.up hb8); have C8 := Li (C6.out.up hb8); have R8 := Li (R6.out.up hb8); have B8 := Li (below_step B6.out B6.out.size hb8); have s80 := S8.out.c2; have c80 := C8.out.c8; have zS8 := S8.out.lt; have zC8 := C8.out.lt; have zR8 := R8.out.lt; have zF8 := F8.out.lt; have zG8 := G8.out.lt; have zH8 := H8.out.lt; clear hb8))
         have HSS : Hid (∀ W, Below w8.heap.size w8 W → W.cell? ⟨w.heap.size, 0, none⟩ = some (.slice A n c) ∧ W.cell? ⟨w.heap.size, 1, none⟩ = some (.int .i64 x) ∧ W.cell? ⟨w5.heap.size, 0, none⟩ = some (.int .i64 f.id) ∧ W.cell? ⟨w7.heap.size, 0, none⟩ = some (.int .i64 0) ∧ W.cell? ⟨w7.heap.size, 1, none⟩ = some (.string nm) ∧ W.cell? ⟨w7.heap.size, 2, none⟩ = some (.int .i64 4) ∧ W.cell? ⟨w7.heap.size, 3, none⟩ = some (.int .i64 f.pa) ∧ W.cell? ⟨w7.heap.size + 1, 0, none⟩ = some (.int .i64 0) ∧ W.cell? ⟨w7.heap.size + 1, 1, none⟩ = some (.string ot) ∧ W.cell? ⟨w7.heap.size + 1, 2, none⟩ = some (.int .i64 4) ∧ W.cell? ⟨w7.heap.size + 1, 3, none⟩ = some (.int .i64 f.pa)) := by
          intro W hW
          exact ⟨(S8.out.up hW).cell 0 rfl, (S8.out.up hW).cell 1 rfl, (F8.out.up hW).cell 0 rfl, (G8.out.up hW).cell 0 rfl, (G8.out.up hW).cell 1 rfl, (G8.out.up hW).cell 2 rfl, (G8.out.up hW).cell 3 rfl, (H8.out.up hW).cell 0 rfl, (H8.out.up hW).cell 1 rfl, (H8.out.up hW).cell 2 rfl, (H8.out.up hW).cell 3 rfl⟩
         have HRES : Hid (∀ W, Below w8.heap.size w8 W → W.cell? ⟨w.heap.size + 1 + 1, 0, none⟩ = some (.slice none 0 0) ∧ W.cell? ⟨w.heap.size + 1 + 1, 1, none⟩ = some (.int .i64 0) ∧ W.frozen? ⟨w.heap.size + 1 + 1, 0, none⟩ = false ∧ W.frozen? ⟨w.heap.size + 1 + 1, 1, none⟩ = false) := by
          intro W hW
          exact ⟨(R8.out.up hW).cell 0 rfl, (R8.out.up hW).cell 1 rfl, (R8.out.up hW).frozen 0, (R8.out.up hW).frozen 1⟩
         have HLEN : (dropF2 l f.id f.id).length ≤ 100000 := by have := dr2_len l f.id f.id; rw [← HN.out] at this; omega
         have HLEN2 : (dropF2 l f.id f.id).length + 1 ≤ 100000 := by have := dr2_len l f.id f.id; rw [← HN.out] at this; omega
         have hx3 : 0 ≤ x + 1 := by omega
         have hx4 : x + 1 ≤ 4611686018427387904 := by omega
         have tokU : Hid True := Li trivial
         obtain ⟨x0, x1, x2, x3, x4, x5, x6, x7, x8, x9, x10⟩ := HSS.out w8 (Below.refl _ _)
         have n5 : ¬ w5.heap.size = w.heap.size + 1 + 1 := by omega
         have n6 : ¬ w7.heap.size = w.heap.size + 1 + 1 := by omega
         have n7 : ¬ w7.heap.size + 1 = w.heap.size + 1 + 1 := by omega
         go_region_held_law (fun w' => w'.cell? ⟨w.heap.size, 0, none⟩ = some (.slice A n c) ∧ w'.cell? ⟨w.heap.size, 1, none⟩ = some (.int .i64 x) ∧ w'.cell? ⟨w5.heap.size, 0, none⟩ = some (.int .i64 f.id) ∧ w'.cell? ⟨w7.heap.size, 0, none⟩ = some (.int .i64 0) ∧ w'.cell? ⟨w7.heap.size, 1, none⟩ = some (.string nm) ∧ w'.cell? ⟨w7.heap.size, 2, none⟩ = some (.int .i64 4) ∧ w'.cell? ⟨w7.heap.size, 3, none⟩ = some (.int .i64 f.pa) ∧ w'.cell? ⟨w7.heap.size + 1, 0, none⟩ = some (.int .i64 0) ∧ w'.cell? ⟨w7.heap.size + 1, 1, none⟩ = some (.string ot) ∧ w'.cell? ⟨w7.heap.size + 1, 2, none⟩ = some (.int .i64 4) ∧ w'.cell? ⟨w7.heap.size + 1, 3, none⟩ = some (.int .i64 f.pa))
          (first | exact HSS.out _ (by first | exact hw9 | exact hw10 | exact hw11 | exact hw9.drew | exact hw10.drew | exact hw11.drew | exact bd _) | (refine ⟨?_, ?_, ?_, ?_, ?_, ?_, ?_, ?_, ?_, ?_, ?_⟩ <;> simp [go_sem, z0, z1, z2, z3, z4, z5, z6, z7, z8, z9, z10]) | go_keep)
          (first | (go_at_call 56; refine (Rwithout_any A n c x l f.id f.id _ HN.out (HS.out.up (B8.out.trans ((show Below w8.heap.size w8 _ by first | exact bd _ | exact Below.refl _ _).mono B8.out.size))) hl3).mono ?_; rintro e w9 ⟨⟨A9, c9, rfl, ho9⟩, hb9⟩; have hw9 : Below w8.heap.size w8 w9 := (by first | exact hb9 | exact (bd _).trans (hb9.mono (bd _).size)); have O9 := Li (ho9.low (b := w.heap.size) (by first | exact B8.out.size | exact Nat.le_trans B8.out.size (bd _).size)); have HB9 := Li hb9; clear ho9 hb9) | (have tokW := tokU; go_at_call 55; refine (Rplus_any A9 (dropF2 l f.id f.id).length c9 x (dropF2 l f.id f.id) 0 nm 4 f.pa _ rfl ((show Fds w9 w9.heap.size A9 (dropF2 l f.id f.id) from O9.out.row.2.2.2).up (by first | exact Below.refl _ _ | exact bd _)) HLEN hx0 hx2).mono ?_; rintro e w10 ⟨⟨A10, c10, rfl, ho10⟩, hb10⟩; have hw10 : Below w8.heap.size w8 w10 := hw9.trans ((show Below w9.heap.size w9 w10 by first | exact hb10 | exact (bd _).trans (hb10.mono (bd _).size)).mono hw9.size); have O10 := Li (ho10.low (b := w.heap.size) (by first | exact Nat.le_trans B8.out.size hw9.size | exact Nat.le_trans B8.out.size (Nat.le_trans hw9.size (bd _).size))); clear ho10 hb10 tokU tokW) | (go_at_call 55; refine (Rplus_any A10 ((dropF2 l f.id f.id).length + 1) c10 (x + 1) (dropF2 l f.id f.id ++ [⟨x, nm, 4, f.pa⟩]) 0 ot 4 f.pa _ (by simp) ((show Fds w10 w10.heap.size A10 (dropF2 l f.id f.id ++ [⟨x, nm, 4, f.pa⟩]) from O10.out.row.2.2.2).up (by first | exact Below.refl _ _ | exact bd _)) HLEN2 hx3 hx4).mono ?_; rintro e w11 ⟨⟨A11, c11, rfl, ho11⟩, hb11⟩; have hw11 : Below w8.heap.size w8 w11 := hw10.trans ((show Below w10.heap.size w10 w11 by first | exact hb11 | exact (bd _).trans (hb11.mono (bd _).size)).mono hw10.size); have O11 := Li (ho11.low (b := w.heap.size) (by first | exact Nat.le_trans B8.out.size hw10.size | exact Nat.le_trans B8.out.size (Nat.le_trans hw10.size (bd _).size))); obtain ⟨y0, y1, y2, y3⟩ := HRES.out _ hw11; obtain ⟨z0, z1, z2, z3, z4, z5, z6, z7, z8, z9, z10⟩ := HSS.out _ hw11; clear ho11 hb11))
         all_goals
          go_wp2
          have hq : CB ((w11.setCell ⟨w.heap.size + 1 + 1, 0, none⟩ (.slice A11 ((dropF2 l f.id f.id).length + 1 + 1) c11)).setCell ⟨w.heap.size + 1 + 1, 1, none⟩ (.int .i64 (x + 1 + 1))) (w.heap.size + 1 + 1) 35 [.slice A11 ((dropF2 l f.id f.id).length + 1 + 1) c11, .int .i64 (x + 1 + 1)] := ((R8.out.up hw11).set_ 0 _).set_ 1 _
          have hne := O11.out.ne (R8.out.up hw11) (by decide)
          refine bodyPost_ret (res_cell Tryz.results34 rfl rfl hq Tryz.underlying35 sizeS rfl) rfl ⟨?_, ((B8.out.trans (hw11.mono B8.out.size)).setCell (p := ⟨w.heap.size + 1 + 1, 0, none⟩) (by show w.heap.size ≤ w.heap.size + 1 + 1; omega) _).setCell (p := ⟨w.heap.size + 1 + 1, 1, none⟩) (by show w.heap.size ≤ w.heap.size + 1 + 1; omega) _⟩
          rw [HRX.out]
          exact ⟨A11, _, c11, rfl, by simp [withS], (O11.out.set_ 0 _ hne).set_ 1 _ hne⟩
        ·
         have jm : (1073741822 : Int) < x := by omega
         have HRX := Li (HE.out.trans (if_neg (fun h => hm h.2)))
         clear HE
         have S0 := qS w A n c x kd id wi nm ot ty pa sep
         have C0 := qC w A n c x kd id wi nm ot ty pa sep
         have R0 := qR w A n c x kd id wi nm ot ty pa sep
         have B0 := qB w A n c x kd id wi nm ot ty pa sep
         have zR0 := R0.out.lt
         have tokV : Hid True := Li trivial
         go_enter Tryz.func34, Tryz.ntmps34
         go_wp2_with (first | (go_at_call 28; refine (RField_any A n c x l id _ HN.out (HS.out.up B0.out) hl2).mono ?_; rintro e w5 ⟨rfl, hb5⟩; rw [HF.out, HO1.out]; have S5 := Li (S0.out.up hb5); have C5 := Li (C0.out.up hb5); have R5 := Li (R0.out.up hb5); have B5 := Li (below_step B0.out B0.out.size hb5); have s50 := S5.out.c2; have c50 := C5.out.c8; have zS5 := S5.out.lt; have zC5 := C5.out.lt; have zR5 := R5.out.lt; clear hb5) | (go_at_call 51; refine (RSep_any _ _ _ HP.out hsep).mono ?_; rintro e w7 ⟨rfl, hw7⟩; have hb7 : Below (w5.alloc (.cells #[.int .i64 f.id, .string f.nm, .int .i64 f.ty, .int .i64 f.pa] 58)).heap.size (w5.alloc (.cells #[.int .i64 f.id, .string f.nm, .int .i64 f.ty, .int .i64 f.pa] 58)) w7 := (by rw [hw7]; exact Below.refl _ _); have hb7' := (al1 w5 (.cells #[.int .i64 f.id, .string f.nm, .int .i64 f.ty, .int .i64 f.pa] 58)).trans (hb7.mono (al1 w5 (.cells #[.int .i64 f.id, .string f.nm, .int .i64 f.ty, .int .i64 f.pa] 58)).size); have F7 := Li ((CB.new w5 58 [.int .i64 f.id, .string f.nm, .int .i64 f.ty, .int .i64 f.pa]).up hb7); have S7 := Li (S5.out.up hb7'); have C7 := Li (C5.out.up hb7'); have R7 := Li (R5.out.up hb7'); have B7 := Li (below_step B5.out B5.out.size hb7'); have s70 := S7.out.c2; have c70 := C7.out.c8; have zS7 := S7.out.lt; have zC7 := C7.out.lt; have zR7 := R7.out.lt; have f70 := F7.out.cell 0 rfl; have f73 := F7.out.cell 3 rfl; have zF7 := F7.out.lt; clear hb7 hb7' hw7) | (have tokW := tokV; go_at_call 54; refine (Rtaken_any A n c x l ⟨0, nm, 4, f.pa⟩ f.id f.id _ HN.out (HS.out.up ((B7.out.alloc B7.out.size (.cells #[.int .i64 0, .string nm, .int .i64 4, .int .i64 f.pa] 58)).alloc (B7.out.alloc B7.out.size (.cells #[.int .i64 0, .string nm, .int .i64 4, .int .i64 f.pa] 58)).size (.cells #[.int .i64 0, .string ot, .int .i64 4, .int .i64 f.pa] 58))) hl2 hnm).mono ?_; rintro e w6 ⟨rfl, hb6⟩; rw [HT.out]; have hb6' := (al2 w7 (.cells #[.int .i64 0, .string nm, .int .i64 4, .int .i64 f.pa] 58) (.cells #[.int .i64 0, .string ot, .int .i64 4, .int .i64 f.pa] 58)).trans (hb6.mono (al2 w7 (.cells #[.int .i64 0, .string nm, .int .i64 4, .int .i64 f.pa] 58) (.cells #[.int .i64 0, .string ot, .int .i64 4, .int .i64 f.pa] 58)).size); have F6 := Li (F7.out.up hb6'); have G6 := Li (((CB.new w7 58 [.int .i64 0, .string nm, .int .i64 4, .int .i64 f.pa]).alloc (.cells #[.int .i64 0, .string ot, .int .i64 4, .int .i64 f.pa] 58)).up hb6); have H6 := Li ((CB.new1 w7 (.cells #[.int .i64 0, .string nm, .int .i64 4, .int .i64 f.pa] 58) 58 [.int .i64 0, .string ot, .int .i64 4, .int .i64 f.pa]).up hb6); have S6 := Li (S7.out.up hb6'); have C6 := Li (C7.out.up hb6'); have R6 := Li (R7.out.up hb6'); have B6 := Li (below_step B7.out B7.out.size hb6'); have s60 := S6.out.c2; have c60 := C6.out.c8; have zS6 := S6.out.lt; have zC6 := C6.out.lt; have zR6 := R6.out.lt; have f60 := F6.out.cell 0 rfl; have h60 := H6.out.c4; have zF6 := F6.out.lt; have zG6 := G6.out.lt; have zH6 := H6.out.lt; clear hb6 hb6' tokV tokW) | (go_at_call 54; refine (Rtaken_any A n c x l ⟨0, ot, 4, f.pa⟩ f.id f.id _ HN.out (HS.out.up B6.out) hl2 hot).mono ?_; rintro e w8 ⟨rfl, hb8⟩; rw [HT2.out]; have F8 := Li (F6.out.up hb8); have G8 := Li (G6.out.up hb8); have H8 := Li (H6.out.up hb8); have S8 := Li (S6.out.up hb8); have C8 := Li (C6.out.up hb8); have R8 := Li (R6.out.up hb8); have B8 := Li (below_step B6.out B6.out.size hb8); have s80 := S8.out.c2; have c80 := C8.out.c8; have zS8 := S8.out.lt; have zC8 := C8.out.lt; have zR8 := R8.out.lt; have zF8 := F8.out.lt; have zG8 := G8.out.lt; have zH8 := H8.out.lt; clear hb8) | ((with_reducible show wpList _ _ _ (Oper.mk none (.store _ _ _) _ _ _ _ :: _) _ _); refine wpList_store_cb rfl 35 (.tmp 4) (.tmp 74) rfl (w.heap.size + 1 + 1) [.slice none 0 0, .int .i64 0] rfl rfl 35 [.slice none 0 0, .int .i64 0] 2 R8.out sizeS rfl rfl (one_s _ _ _ _) ?_; intro wz hcz hgz hzz))
         all_goals
          refine bodyPost_ret (res_cell Tryz.results34 rfl rfl hcz Tryz.underlying35 sizeS rfl) rfl ⟨?_, below_grown B8.out hgz (by omega) (by omega)⟩
          rw [HRX.out]
          exact res_zero _ _ _
       ·
        have j64 : (64 : Int) ≤ (n : Int) := by omega
        have HRX := Li (HE.out.trans (if_neg (fun h => h64 h.1)))
        clear HE
        have S0 := qS w A n c x kd id wi nm ot ty pa sep
        have C0 := qC w A n c x kd id wi nm ot ty pa sep
        have R0 := qR w A n c x kd id wi nm ot ty pa sep
        have B0 := qB w A n c x kd id wi nm ot ty pa sep
        have zR0 := R0.out.lt
        have tokV : Hid True := Li trivial
        go_enter Tryz.func34, Tryz.ntmps34
        go_wp2_with (first | (go_at_call 28; refine (RField_any A n c x l id _ HN.out (HS.out.up B0.out) hl2).mono ?_; rintro e w5 ⟨rfl, hb5⟩; rw [HF.out, HO1.out]; have S5 := Li (S0.out.up hb5); have C5 := Li (C0.out.up hb5); have R5 := Li (R0.out.up hb5); have B5 := Li (below_step B0.out B0.out.size hb5); have s50 := S5.out.c2; have c50 := C5.out.c8; have zS5 := S5.out.lt; have zC5 := C5.out.lt; have zR5 := R5.out.lt; clear hb5) | (go_at_call 51; refine (RSep_any _ _ _ HP.out hsep).mono ?_; rintro e w7 ⟨rfl, hw7⟩; have hb7 : Below (w5.alloc (.cells #[.int .i64 f.id, .string f.nm, .int .i64 f.ty, .int .i64 f.pa] 58)).heap.size (w5.alloc (.cells #[.int .i64 f.id, .string f.nm, .int .i64 f.ty, .int .i64 f.pa] 58)) w7 := (by rw [hw7]; exact Below.refl _ _); have hb7' := (al1 w5 (.cells #[.int .i64 f.id, .string f.nm, .int .i64 f.ty, .int .i64 f.pa] 58)).trans (hb7.mono (al1 w5 (.cells #[.int .i64 f.id, .string f.nm, .int .i64 f.ty, .int .i64 f.pa] 58)).size); have F7 := Li ((CB.new w5 58 [.int .i64 f.id, .string f.nm, .int .i64 f.ty, .int .i64 f.pa]).up hb7); have S7 := Li (S5.out.up hb7'); have C7 := Li (C5.out.up hb7'); have R7 := Li (R5.out.up hb7'); have B7 := Li (below_step B5.out B5.out.size hb7'); have s70 := S7.out.c2; have c70 := C7.out.c8; have zS7 := S7.out.lt; have zC7 := C7.out.lt; have zR7 := R7.out.lt; have f70 := F7.out.cell 0 rfl; have f73 := F7.out.cell 3 rfl; have zF7 := F7.out.lt; clear hb7 hb7' hw7) | (have tokW := tokV; go_at_call 54; refine (Rtaken_any A n c x l ⟨0, nm, 4, f.pa⟩ f.id f.id _ HN.out (HS.out.up ((B7.out.alloc B7.out.size (.cells #[.int .i64 0, .string nm, .int .i64 4, .int .i64 f.pa] 58)).alloc (B7.out.alloc B7.out.size (.cells #[.int .i64 0, .string nm, .int .i64 4, .int .i64 f.pa] 58)).size (.cells #[.int .i64 0, .string ot, .int .i64 4, .int .i64 f.pa] 58))) hl2 hnm).mono ?_; rintro e w6 ⟨rfl, hb6⟩; rw [HT.out]; have hb6' := (al2 w7 (.cells #[.int .i64 0, .string nm, .int .i64 4, .int .i64 f.pa] 58) (.cells #[.int .i64 0, .string ot, .int .i64 4, .int .i64 f.pa] 58)).trans (hb6.mono (al2 w7 (.cells #[.int .i64 0, .string nm, .int .i64 4, .int .i64 f.pa] 58) (.cells #[.int .i64 0, .string ot, .int .i64 4, .int .i64 f.pa] 58)).size); have F6 := Li (F7.out.up hb6'); have G6 := Li (((CB.new w7 58 [.int .i64 0, .string nm, .int .i64 4, .int .i64 f.pa]).alloc (.cells #[.int .i64 0, .string ot, .int .i64 4, .int .i64 f.pa] 58)).up hb6); have H6 := Li ((CB.new1 w7 (.cells #[.int .i64 0, .string nm, .int .i64 4, .int .i64 f.pa] 58) 58 [.int .i64 0, .string ot, .int .i64 4, .int .i64 f.pa]).up hb6); have S6 := Li (S7.out.up hb6'); have C6 := Li (C7.out.up hb6'); have R6 := Li (R7.out.up hb6'); have B6 := Li (below_step B7.out B7.out.size hb6'); have s60 := S6.out.c2; have c60 := C6.out.c8; have zS6 := S6.out.lt; have zC6 := C6.out.lt; have zR6 := R6.out.lt; have f60 := F6.out.cell 0 rfl; have h60 := H6.out.c4; have zF6 := F6.out.lt; have zG6 := G6.out.lt; have zH6 := H6.out.lt; clear hb6 hb6' tokV tokW) | (go_at_call 54; refine (Rtaken_any A n c x l ⟨0, ot, 4, f.pa⟩ f.id f.id _ HN.out (HS.out.up B6.out) hl2 hot).mono ?_; rintro e w8 ⟨rfl, hb8⟩; rw [HT2.out]; have F8 := Li (F6.out.up hb8); have G8 := Li (G6.out.up hb8); have H8 := Li (H6.out.up hb8); have S8 := Li (S6.out.up hb8); have C8 := Li (C6.out.up hb8); have R8 := Li (R6.out.up hb8); have B8 := Li (below_step B6.out B6.out.size hb8); have s80 := S8.out.c2; have c80 := C8.out.c8; have zS8 := S8.out.lt; have zC8 := C8.out.lt; have zR8 := R8.out.lt; have zF8 := F8.out.lt; have zG8 := G8.out.lt; have zH8 := H8.out.lt; clear hb8) | ((with_reducible show wpList _ _ _ (Oper.mk none (.store _ _ _) _ _ _ _ :: _) _ _); refine wpList_store_cb rfl 35 (.tmp 4) (.tmp 74) rfl (w.heap.size + 1 + 1) [.slice none 0 0, .int .i64 0] rfl rfl 35 [.slice none 0 0, .int .i64 0] 2 R8.out sizeS rfl rfl (one_s _ _ _ _) ?_; intro wz hcz hgz hzz))
        all_goals
         refine bodyPost_ret (res_cell Tryz.results34 rfl rfl hcz Tryz.underlying35 sizeS rfl) rfl ⟨?_, below_grown B8.out hgz (by omega) (by omega)⟩
         rw [HRX.out]
         exact res_zero _ _ _
  ·
   have e1 : (f.ty != 4) = true := by simpa using h1
   have HRX := Li (HE.out.trans (if_neg h1))
   clear HE h1
   have S0 := qS w A n c x kd id wi nm ot ty pa sep
   have C0 := qC w A n c x kd id wi nm ot ty pa sep
   have R0 := qR w A n c x kd id wi nm ot ty pa sep
   have B0 := qB w A n c x kd id wi nm ot ty pa sep
   have zR0 := R0.out.lt
   have tokV : Hid True := Li trivial
   go_enter Tryz.func34, Tryz.ntmps34
   go_wp2_with (first | (go_at_call 28; refine (RField_any A n c x l id _ HN.out (HS.out.up B0.out) hl2).mono ?_; rintro e w5 ⟨rfl, hb5⟩; rw [HF.out, HO1.out]; have S5 := Li (S0.out.up hb5); have C5 := Li (C0.out.up hb5); have R5 := Li (R0.out.up hb5); have B5 := Li (below_step B0.out B0.out.size hb5); have s50 := S5.out.c2; have c50 := C5.out.c8; have zS5 := S5.out.lt; have zC5 := C5.out.lt; have zR5 := R5.out.lt; clear hb5) | ((with_reducible show wpList _ _ _ (Oper.mk none (.store _ _ _) _ _ _ _ :: _) _ _); refine wpList_store_cb rfl 35 (.tmp 4) (.tmp 23) rfl (w.heap.size + 1 + 1) [.slice none 0 0, .int .i64 0] rfl rfl 35 [.slice none 0 0, .int .i64 0] 2 (R5.out.alloc _) sizeS rfl rfl (one_s _ _ _ _) ?_; intro wz hcz hgz hzz))
   all_goals
    refine bodyPost_ret (res_cell Tryz.results34 rfl rfl hcz Tryz.underlying35 sizeS rfl) rfl ⟨?_, below_grown (B5.out.alloc B5.out.size _) hgz (by rw [asz]; omega) (by omega)⟩
    rw [HRX.out]
    exact res_zero _ _ _

end Go.Proofs.YtfeemipnalgjnaaGreat
