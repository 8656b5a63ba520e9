/-
  The reference's plus, by a contract.
-/
import Derived.Test.YtpgbpfdedpppeaaRPut
namespace Go.Proofs.Ytpgbpfdedpppeaa
open Go.RowKit

theorem al_up {w X : World} {o : Obj} (h : Below w.heap.size w X) : Below w.heap.size w (X.alloc o) := h.alloc h.size o
theorem dr_up {w X : World} (h : Below w.heap.size w X) : Below w.heap.size w X.drew := h.drew
theorem own_empty1 {E : TypeId} {k : Nat} (w : World) (o : Obj) (c : Array Value) (hc : c = #[]) : Own E k ((w.alloc o).alloc (.cells c E)) w.heap.size (.slice (some ⟨w.heap.size + 1, 0, none⟩) 0 0) [] := by
  have h := own_empty (E := E) (k := k) (w.alloc o) c hc
  rw [asz] at h
  exact h.low (by omega)

set_option maxHeartbeats 1000000 in
set_option maxRecDepth 20000 in
theorem Rplus_any (A : Option Addr) (n c : Nat) (x : Int) (l : List Fd) (i0 : Int) (nm : ByteArray) (ty pa : Int) (w : World) (hn : n = l.length) (hs : Fds w w.heap.size A l) (hl : n ≤ 100000) (hx0 : 0 ≤ x) (hx1 : x ≤ 4611686018427387904) :
    Calls Try.prog 63 #[.agg #[.slice A n c, .int .i64 x], .agg #[.int .i64 i0, .string nm, .int .i64 ty, .int .i64 pa]] w fun e w' => (∃ A' c', e = .returned (.agg #[.slice A' (n + 1) c', .int .i64 (x + 1)]) ∧ Own 41 4 w' w.heap.size (.slice A' (n + 1) c') ((l ++ [(⟨x, nm, ty, pa⟩ : Fd)]).map Fd.cells)) ∧ Below w.heap.size w w' := by
  have HN := Lib.hid hn
  have HS := Lib.hid hs
  clear hn hs
  have HX : Hid (x + 1 ≤ 9223372036854775807) := by show _ ≤ _; omega
  go_enter Try.func63, Try.ntmps63
  go_wp2
  rename_i K hK
  have q0 := ((CB.new w 30 [.slice A n c, .int .i64 x]).alloc (.cells #[.int .i64 x, .string nm, .int .i64 ty, .int .i64 pa] 41)).alloc (.cells #[.slice none 0 0, .int .i64 0] 30)
  have q1 := (CB.new1 w (.cells #[.slice A n c, .int .i64 x] 30) 41 [.int .i64 x, .string nm, .int .i64 ty, .int .i64 pa]).alloc (.cells #[.slice none 0 0, .int .i64 0] 30)
  have q2 := CB.new2 w (.cells #[.slice A n c, .int .i64 x] 30) (.cells #[.int .i64 x, .string nm, .int .i64 ty, .int .i64 pa] 41) 30 [.slice none 0 0, .int .i64 0]
  have qb := al3 w (.cells #[.slice A n c, .int .i64 x] 30) (.cells #[.int .i64 x, .string nm, .int .i64 ty, .int .i64 pa] 41) (.cells #[.slice none 0 0, .int .i64 0] 30)
  generalize ((w.alloc (.cells #[.slice A n c, .int .i64 x] 30)).alloc (.cells #[.int .i64 x, .string nm, .int .i64 ty, .int .i64 pa] 41)).alloc (.cells #[.slice none 0 0, .int .i64 0] 30) = W0 at *
  have Q0 := Lib.hid q0
  have Q1 := Lib.hid q1
  have Q2 := Lib.hid q2
  have QB := Lib.hid qb
  have HS0 := Lib.hid (HS.out.up qb)
  have hwx : IntKind.i64.wrap (x + 1) = x + 1 := IntWalk.i64_in _ ⟨by omega, by omega⟩
  have hneA : some (W0.heap.size + 1) ≠ (Value.slice (some ⟨W0.heap.size, 0, none⟩) 0 0).ownBlock := by simp [Value.ownBlock]
  have hneB : some W0.heap.size ≠ (Value.slice (some ⟨W0.heap.size + 1, 0, none⟩) 0 0).ownBlock := by simp [Value.ownBlock]
  have TAIL : Hid (∀ (g e : Nat) (A8 : Option Addr) (c8 : Nat) (W : World), CB W g 30 [.slice A8 n c8, .int .i64 (x + 1)] → Own 41 4 W W0.heap.size (.slice A8 n c8) (l.map Fd.cells) → CB W (w.heap.size + 1) 41 [.int .i64 x, .string nm, .int .i64 ty, .int .i64 pa] → CB W (w.heap.size + 1 + 1) 30 [.slice none 0 0, .int .i64 0] → Below w.heap.size w W → W0.heap.size ≤ g → K ⟨#[.agg #[.slice A n c, .int .i64 x], .agg #[.int .i64 i0, .string nm, .int .i64 ty, .int .i64 pa], .pointer (some ⟨w.heap.size, 0, none⟩), .pointer (some ⟨w.heap.size + 1, 0, none⟩), .pointer (some ⟨w.heap.size + 1 + 1, 0, none⟩), .pointer (some ⟨g, 0, none⟩), .pointer (some ⟨w.heap.size, 1, none⟩), .int .i64 x, .pointer (some ⟨w.heap.size + 1, 0, none⟩), .pointer (some ⟨w.heap.size, 1, none⟩), .int .i64 x, .int .i64 (x + 1), .slice (some ⟨e, 0, none⟩) 0 0, .pointer (some ⟨w.heap.size, 0, none⟩), .slice A n c, .slice A8 n c8, .agg #[.slice A8 n c8, .int .i64 (x + 1)], undef, undef, undef, undef, undef, undef, undef], []⟩ W) := by
    intro g e A8 c8 W hg ho hf hr hb hge
    have hz1 := hf.lt
    have hz2 := hr.lt
    have hz3 := hg.lt
    have g0 := hg.cell 0 rfl
    have f0 := hf.cell 0 rfl
    have f1 := hf.cell 1 rfl
    have f2 := hf.cell 2 rfl
    have f3 := hf.cell 3 rfl
    have hneg := ho.ne hg (by decide)
    have hner := ho.ne hr (by decide)
    have hw0 : w.heap.size + 1 + 1 < W0.heap.size := Q2.out.lt
    refine hK _ _ ?_
    go_wp2_with (first | (at_builtin; refine push_fd (wr := W) rfl (.tmp 18) (.tmp 20) rfl W0.heap.size _ l ⟨x, nm, ty, pa⟩ W.heap.size rfl rfl rfl rfl ho (by rw [← HN.out]; omega) (by omega) ?_; intro A9 c9 w9 ho9 hg9 hb9; rw [← HN.out] at ho9; rw [← HN.out]; have HO9 := Lib.hid ho9; have G9 := Lib.hid (hg.grown hg9 hneg); have R9 := Lib.hid (hr.grown hg9 hner); have B9 := Lib.hid (hb.trans (hb9.mono (by omega))); have g9 := G9.out.cell 0 rfl; have g91 := G9.out.cell 1 rfl; have g9f := G9.out.frozen 0; clear ho9 hg9 hb9) | ((with_reducible show wpList _ _ _ _ _ _); refine wpList_store_cb rfl 30 (.tmp 4) (.tmp 23) rfl (w.heap.size + 1 + 1) [.slice A9 (n + 1) c9, .int .i64 (x + 1)] rfl rfl 30 [.slice none 0 0, .int .i64 0] 2 (R9.out.set_other 0 _ (by omega)) sizeS rfl rfl (one_s _ _ _ _) ?_; intro w10 hc10 hg10 hz10))
    have B10 := B9.out.setCell (p := ⟨g, 0, none⟩) (by show w.heap.size ≤ g; omega) (.slice A9 (n + 1) c9)
    refine bodyPost_ret (res_cell1 Try.results63 rfl hc10 Try.underlying30 sizeS rfl) rfl ⟨⟨A9, c9, rfl, ((HO9.out.set_ 0 _ (HO9.out.ne G9.out (by decide))).kept hg10 (.inr (HO9.out.ne R9.out (by decide)).symm)).low (by omega)⟩, below_grown B10 hg10 B10.size (by omega)⟩
  have x0 := q0.cell 0 rfl
  have x1 := q0.cell 1 rfl
  have hz0 := q0.lt
  clear q0 q1 q2 qb
  go_region_held_law (fun w' => w'.cell? ⟨w.heap.size, 0, none⟩ = some (.slice A n c) ∧ w'.cell? ⟨w.heap.size, 1, none⟩ = some (.int .i64 x))
    (first | exact ⟨z0, z1⟩ | (refine ⟨?_, ?_⟩ <;> simp [go_sem, z0, z1]) | go_keep)
    (first | (refine step_cat_fd rfl (.tmp 12) (.tmp 14) rfl W0.heap.size (.slice (some ⟨W0.heap.size, 0, none⟩) 0 0) [] A n c W0.heap.size l rfl rfl HN.out (by (iterate 6 (try (first | exact own_empty _ _ rfl | exact own_empty1 _ _ _ rfl | with_reducible apply Own.alloc | with_reducible apply Own.dr)))) (HS0.out.below (by (iterate 6 (try (first | with_reducible exact Below.refl _ _ | with_reducible apply al_up | with_reducible apply dr_up))))) (by simp; omega) (Below.size (show Below W0.heap.size W0 _ by (iterate 6 (try (first | with_reducible exact Below.refl _ _ | with_reducible apply al_up | with_reducible apply dr_up))))) ?_; intro A8 c8 w8 ho8 hg8 hb8; (first | (have YB := Lib.hid (CB.grown (show CB _ (W0.heap.size + 1) 30 [.slice none 0 0, .int .i64 0] by first | exact CB.new1 _ _ _ _ | exact (CB.new1 _ _ _ _).dr | exact (CB.new1 _ _ _ _).dr.dr) hg8 hneA); have y0 := YB.out.cell 0 rfl; have y1 := YB.out.cell 1 rfl; have y2 := YB.out.frozen 0; have y3 := YB.out.frozen 1) | skip); simp only [List.length_nil, Nat.zero_add, List.nil_append] at ho8; have HO8 := Lib.hid ho8; have hw8 : Below W0.heap.size W0 w8 := (show Below W0.heap.size W0 _ by (iterate 6 (try (first | with_reducible exact Below.refl _ _ | with_reducible apply al_up | with_reducible apply dr_up)))).trans hb8; have z0 := (Q0.out.up hw8).cell 0 rfl; have z1 := (Q0.out.up hw8).cell 1 rfl; clear ho8 hg8 hb8) | (refine step_cat_fd rfl (.tmp 12) (.tmp 14) rfl W0.heap.size (.slice (some ⟨W0.heap.size + 1, 0, none⟩) 0 0) [] A n c W0.heap.size l rfl rfl HN.out (by (iterate 6 (try (first | exact own_empty _ _ rfl | exact own_empty1 _ _ _ rfl | with_reducible apply Own.alloc | with_reducible apply Own.dr)))) (HS0.out.below (by (iterate 6 (try (first | with_reducible exact Below.refl _ _ | with_reducible apply al_up | with_reducible apply dr_up))))) (by simp; omega) (Below.size (show Below W0.heap.size W0 _ by (iterate 6 (try (first | with_reducible exact Below.refl _ _ | with_reducible apply al_up | with_reducible apply dr_up))))) ?_; intro A8 c8 w8 ho8 hg8 hb8; (first | (have YB := Lib.hid (CB.grown (show CB _ (W0.heap.size) 30 [.slice none 0 0, .int .i64 0] by first | exact (CB.new _ _ _).alloc _ | exact ((CB.new _ _ _).alloc _).dr | exact ((CB.new _ _ _).dr).alloc _ | exact (((CB.new _ _ _).dr).alloc _).dr) hg8 hneB); have y0 := YB.out.cell 0 rfl; have y1 := YB.out.cell 1 rfl; have y2 := YB.out.frozen 0; have y3 := YB.out.frozen 1) | skip); simp only [List.length_nil, Nat.zero_add, List.nil_append] at ho8; have HO8 := Lib.hid ho8; have hw8 : Below W0.heap.size W0 w8 := (show Below W0.heap.size W0 _ by (iterate 6 (try (first | with_reducible exact Below.refl _ _ | with_reducible apply al_up | with_reducible apply dr_up)))).trans hb8; have z0 := (Q0.out.up hw8).cell 0 rfl; have z1 := (Q0.out.up hw8).cell 1 rfl; clear ho8 hg8 hb8))
  all_goals
    have hq1 := Q1.out.lt
    have hq2 := Q2.out.lt
    have hB8 := QB.out.trans (hw8.mono QB.out.size)
    first
      | exact TAIL.out _ _ _ _ _ (CB.new w8 _ _) (HO8.out.alloc _) ((Q1.out.up hw8).alloc _) ((Q2.out.up hw8).alloc _) (hB8.alloc hB8.size _) hw8.size
      | exact TAIL.out _ _ _ _ _ ((YB.out.set_ 0 _).set_ 1 _) ((HO8.out.set_ 0 _ (HO8.out.ne YB.out (by decide))).set_ 1 _ (HO8.out.ne YB.out (by decide))) (((Q1.out.up hw8).set_other 0 _ (by omega)).set_other 1 _ (by omega)) (((Q2.out.up hw8).set_other 0 _ (by omega)).set_other 1 _ (by omega)) ((hB8.setCell (p := ⟨W0.heap.size + 1, 0, none⟩) (by show w.heap.size ≤ W0.heap.size + 1; omega) _).setCell (p := ⟨W0.heap.size + 1, 1, none⟩) (by show w.heap.size ≤ W0.heap.size + 1; omega) _) (by omega)
      | exact TAIL.out _ _ _ _ _ ((YB.out.set_ 0 _).set_ 1 _) ((HO8.out.set_ 0 _ (HO8.out.ne YB.out (by decide))).set_ 1 _ (HO8.out.ne YB.out (by decide))) (((Q1.out.up hw8).set_other 0 _ (by omega)).set_other 1 _ (by omega)) (((Q2.out.up hw8).set_other 0 _ (by omega)).set_other 1 _ (by omega)) ((hB8.setCell (p := ⟨W0.heap.size, 0, none⟩) (by show w.heap.size ≤ W0.heap.size; omega) _).setCell (p := ⟨W0.heap.size, 1, none⟩) (by show w.heap.size ≤ W0.heap.size; omega) _) (by omega)
end Go.Proofs.Ytpgbpfdedpppeaa
