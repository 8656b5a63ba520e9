/-
  The program's Clone, with, without, replacing, by contracts.
-/
import Derived.Test.YtpgbpfdedpppeaaFldP
import Derived.WalkSpells
import Derived.Deep.RegionHeldLaw
import Derived.Deep.RegionWith
namespace Go.Proofs.Ytpgbpfdedpppeaa
open Go.RowKit

theorem fds_one (l : List Fd) : ∀ vs ∈ l.map Fd.cells, ∀ u ∈ vs, u.oneCell' = true := by
  intro vs hv u hu
  obtain ⟨f, _, rfl⟩ := List.mem_map.1 hv
  exact one_f f u hu
theorem fds_len (l : List Fd) : ∀ vs ∈ l.map Fd.cells, vs.length = 4 := by
  intro vs hv
  obtain ⟨f, _, rfl⟩ := List.mem_map.1 hv
  rfl
/-- append(v, l...): v the call's own row of fields. -/
theorem cat_fd {w : World} {ops : Array Oper} {rest : List Oper} {o : Oper} {a : Act} {Q : Exit → Act → World → Prop} (hgd : o.guard = none) (d x : Operand)
    (ho : o.op = .call { callee := .builtin .append, args := #[d, x], argTypes := #[28, 28] }) (base : Nat) (v : Value) (acc : List Fd) (A : Option Addr) (n c B : Nat) (l : List Fd) (hs : a.eval d = v) (hx : a.eval x = .slice A n c)
    (hn : n = l.length) (hr : Own 41 4 w base v (acc.map Fd.cells)) (h2 : Fds w B A l) (hroom : acc.length + n ≤ 1000000) (hbase : base ≤ w.heap.size)
    (hK : ∀ A' c' w', Own 41 4 w' base (.slice A' (acc.length + n) c') ((acc ++ l).map Fd.cells) → w.grownBy w' v.ownBlock → Below base w w' → wpList Try.prog ops Q rest (a.put o.dst (.slice A' (acc.length + n) c')) w') : wpList Try.prog ops Q (o :: rest) a w := by
  refine wpList_cat hgd d x ho Try.underlying28 infoF rfl (by decide) base v (acc.map Fd.cells) A n c B (l.map Fd.cells) hs hx (by simpa using hn) hr h2 (fds_len l) (fds_one l) (by rw [List.length_map]; omega) (by decide) hbase ?_
  intro A' c' w' h1 h2 h3
  rw [List.length_map] at h1 ⊢
  exact hK A' c' w' (by simpa using h1) h2 h3

set_option maxHeartbeats 1000000 in
set_option maxRecDepth 20000 in
theorem Clone_any (A : Option Addr) (n c : Nat) (l : List Fd) (w : World) (hn : n = l.length) (hs : Fds w w.heap.size A l) (hl : n ≤ 1000000) :
    Calls Try.prog 82 #[.slice A n c] w fun e w' => (∃ A' c', e = .returned (.slice A' n c') ∧ Own 41 4 w' w.heap.size (.slice A' n c') (l.map Fd.cells)) ∧ Below w.heap.size w w' := by
  cases A with
  | none =>
    have h0 : l = [] := by
      rcases Nat.eq_zero_or_pos l.length with h0 | h0
      · exact List.eq_nil_of_length_eq_zero h0
      · obtain ⟨b, off, h, _⟩ := hs (by simpa using h0)
        cases h
    subst h0
    obtain rfl : n = 0 := hn
    clear hs
    have he := fun (w : World) => Lib.run_eql_slice_nil (P := Try.prog) w 28 41 none 0 c 0 0 Try.underlying28
    go_enter Try.func82, Try.ntmps82
    go_wp2
    go_ret
    exact ⟨⟨_, _, rfl, Own.nil _ _ _ _⟩, Below.refl _ _⟩
  | some ad =>
    have HN := Lib.hid hn
    have HS := Lib.hid hs
    clear hn hs
    have he := fun (w : World) => Lib.run_eql_slice_nil (P := Try.prog) w 28 41 (some ad) n c 0 0 Try.underlying28
    go_enter Try.func82, Try.ntmps82
    go_wp2_with (at_builtin; refine cat_fd rfl (.tmp 5) (.tmp 6) rfl w.heap.size (.slice (some ⟨w.heap.size, 0, none⟩) 0 0) [] (some ad) n c w.heap.size l rfl rfl HN.out (own_empty w _ rfl) (HS.out.below (al1 w _)) (by simp; omega) (by rw [asz]; omega) ?_; intro A7 c7 w7 ho7 hg7 hb7; have HO7 := Lib.hid ho7; have HB7 := Lib.hid hb7; clear ho7 hb7 hg7)
    go_ret
    simp only [List.length_nil, Nat.zero_add, List.nil_append] at HO7
    exact ⟨⟨_, _, rfl, HO7.out⟩, (al1 w _).trans HB7.out⟩

theorem step_push_fd {w : World} {ops : Array Oper} {o : Oper} {a : Act} {K : Act → World → Prop} {Q : Exit → Act → World → Prop} {F : Prop} (hgd : o.guard = none) (d x : Operand)
    (ho : o.op = .call { callee := .builtin .append, args := #[d, x], argTypes := #[28, 28] }) (base : Nat) (v : Value) (acc : List Fd) (f : Fd) (g n : Nat) (hs : a.eval d = v) (hx : a.eval x = .slice (some ⟨g, 0, none⟩) 1 1) (hn : n = acc.length)
    (hr : Own 41 4 w base v (acc.map Fd.cells)) (hg : CB w g 41 f.cells) (hroom : n ≤ 1000000) (hbase : base ≤ w.heap.size)
    (hK : ∀ A' c' w', Own 41 4 w' base (.slice A' (n + 1) c') ((acc ++ [f]).map Fd.cells) → w.grownBy w' v.ownBlock → Below base w w' → K (a.put o.dst (.slice A' (n + 1) c')) w') : if Region.wanted o (yielded ops a.tmps) = true then Oper.wp Try.prog o a w K Q else F := by
  subst hn
  refine step_push hgd d x ho Try.underlying28 infoF rfl (by decide) base v (acc.map Fd.cells) f.cells g hs hx hr hg rfl (one_f f) (by rw [List.length_map]; omega) (by decide) hbase ?_
  intro A' c' w' h1 h2 h3
  rw [List.length_map] at h1 ⊢
  exact hK A' c' w' (by simpa using h1) h2 h3

set_option maxHeartbeats 2000000 in
set_option maxRecDepth 20000 in
theorem with_any (A : Option Addr) (n c : Nat) (x : Int) (l : List Fd) (nm : ByteArray) (ty pa : Int) (w : World) (hn : n = l.length) (hs : Fds w w.heap.size A l) (hl : n ≤ 1000000) (hx0 : 0 ≤ x) (hx1 : x ≤ 4611686018427387904) :
    Calls Try.prog 75 #[.agg #[.slice A n c, .int .i64 x], .string nm, .int .i64 ty, .int .i64 pa] w fun e w' => (∃ A' c', e = .returned (.agg #[.slice A' (n + 1) c', .int .i64 (x + 1)]) ∧ Own 41 4 w' w.heap.size (.slice A' (n + 1) c') ((l ++ [(⟨x, nm, ty, pa⟩ : Fd)]).map Fd.cells)) ∧ Below w.heap.size w w' := by
  have HN := Lib.hid hn
  have HS := Lib.hid hs
  clear hn hs
  have HX : Hid (x + 1 ≤ 9223372036854775807) := by show _ ≤ _; omega
  go_enter Try.func75, Try.ntmps75
  go_wp2
  have q0 := ((CB.new w 30 [.slice A n c, .int .i64 x]).alloc (.cells #[.slice none 0 0, .int .i64 0] 30)).alloc (.cells #[.int .i64 x, .string nm, .int .i64 ty, .int .i64 pa] 41)
  have q1 := (CB.new1 w (.cells #[.slice A n c, .int .i64 x] 30) 30 [.slice none 0 0, .int .i64 0]).alloc (.cells #[.int .i64 x, .string nm, .int .i64 ty, .int .i64 pa] 41)
  have q2 := CB.new2 w (.cells #[.slice A n c, .int .i64 x] 30) (.cells #[.slice none 0 0, .int .i64 0] 30) 41 [.int .i64 x, .string nm, .int .i64 ty, .int .i64 pa]
  have qb := al3 w (.cells #[.slice A n c, .int .i64 x] 30) (.cells #[.slice none 0 0, .int .i64 0] 30) (.cells #[.int .i64 x, .string nm, .int .i64 ty, .int .i64 pa] 41)
  generalize ((w.alloc (.cells #[.slice A n c, .int .i64 x] 30)).alloc (.cells #[.slice none 0 0, .int .i64 0] 30)).alloc (.cells #[.int .i64 x, .string nm, .int .i64 ty, .int .i64 pa] 41) = W0 at *
  have Q0 := Lib.hid q0
  have Q1 := Lib.hid q1
  have Q2 := Lib.hid q2
  have QB := Lib.hid qb
  have HCELL : Hid (∀ W, Below W0.heap.size W0 W → W.cell? ⟨w.heap.size, 0, none⟩ = some (.slice A n c) ∧ W.cell? ⟨w.heap.size, 1, none⟩ = some (.int .i64 x) ∧ W.cell? ⟨w.heap.size + 1 + 1, 0, none⟩ = some (.int .i64 x) ∧ W.cell? ⟨w.heap.size + 1 + 1, 1, none⟩ = some (.string nm) ∧ W.cell? ⟨w.heap.size + 1 + 1, 2, none⟩ = some (.int .i64 ty) ∧ W.cell? ⟨w.heap.size + 1 + 1, 3, none⟩ = some (.int .i64 pa)) := by
    intro W hW
    exact ⟨(Q0.out.up hW).cell 0 rfl, (Q0.out.up hW).cell 1 rfl, (Q2.out.up hW).cell 0 rfl, (Q2.out.up hW).cell 1 rfl, (Q2.out.up hW).cell 2 rfl, (Q2.out.up hW).cell 3 rfl⟩
  have HRES : Hid (∀ W, Below W0.heap.size W0 W → W.cell? ⟨w.heap.size + 1, 0, none⟩ = some (.slice none 0 0) ∧ W.cell? ⟨w.heap.size + 1, 1, none⟩ = some (.int .i64 0) ∧ W.frozen? ⟨w.heap.size + 1, 0, none⟩ = false ∧ W.frozen? ⟨w.heap.size + 1, 1, none⟩ = false) := by
    intro W hW
    exact ⟨(Q1.out.up hW).cell 0 rfl, (Q1.out.up hW).cell 1 rfl, (Q1.out.up hW).frozen 0, (Q1.out.up hW).frozen 1⟩
  have hwx : IntKind.i64.wrap (x + 1) = x + 1 := IntWalk.i64_in _ ⟨by omega, by omega⟩
  obtain ⟨x0, x1, x2, x3, x4, x5⟩ := HCELL.out W0 (Below.refl _ _)
  clear q0 q1 q2 qb
  go_region_held_law (fun w' => w'.cell? ⟨w.heap.size, 0, none⟩ = some (.slice A n c) ∧ w'.cell? ⟨w.heap.size, 1, none⟩ = some (.int .i64 x) ∧ w'.cell? ⟨w.heap.size + 1 + 1, 0, none⟩ = some (.int .i64 x) ∧ w'.cell? ⟨w.heap.size + 1 + 1, 1, none⟩ = some (.string nm) ∧ w'.cell? ⟨w.heap.size + 1 + 1, 2, none⟩ = some (.int .i64 ty) ∧ w'.cell? ⟨w.heap.size + 1 + 1, 3, none⟩ = some (.int .i64 pa))
    (first | exact HCELL.out _ (by first | exact hw7 | exact hw8 | exact hw7.alloc hw7.size _ | exact hw7.drew | exact hw7.drew.alloc hw7.size _ | exact bd _ | exact bda _ _ | exact bdad _ _ | exact bad _ _) | (refine ⟨?_, ?_, ?_, ?_, ?_, ?_⟩ <;> simp [go_sem, z0, z1, z2, z3, z4, z5]) | go_keep)
    (first | (go_at_call 82; refine (Clone_any A n c l _ HN.out (HS.out.up (QB.out.trans ((show Below W0.heap.size W0 _ by first | exact bd _ | exact bda _ _ | exact bdad _ _ | exact bad _ _).mono QB.out.size))) hl).mono ?_; rintro e w7 ⟨⟨A7, c7, rfl, ho7⟩, hb7⟩; have hw7 : Below W0.heap.size W0 w7 := (by first | exact (bd _).trans (hb7.mono (bd _).size) | exact (bda _ _).trans (hb7.mono (bda _ _).size) | exact (bdad _ _).trans (hb7.mono (bdad _ _).size) | exact (bad _ _).trans (hb7.mono (bad _ _).size)); have HO7 := Lib.hid (ho7.low (b := W0.heap.size) (by first | exact (bd W0).size | exact (bda W0 _).size | exact (bdad W0 _).size | exact (bad W0 _).size)); have HB7 := Lib.hid hb7; clear ho7 hb7) | (refine step_push_fd rfl (.tmp 18) (.tmp 20) rfl W0.heap.size (.slice A7 n c7) l ⟨x, nm, ty, pa⟩ _ n rfl rfl HN.out (by first | exact HO7.out | exact HO7.out.alloc _ | exact HO7.out.dr | exact (HO7.out.dr).alloc _) (by first | exact CB.new _ _ _ | exact (CB.new _ _ _).up HB7.out | exact ((CB.new _ _ _).dr).up HB7.out) hl (by first | exact hw7.size | exact Nat.le_trans hw7.size (al1 _ _).size | exact Nat.le_trans hw7.size (bda _ _).size) ?_; intro A8 c8 w8 ho8 hg8 hb8; have hw8 : Below W0.heap.size W0 w8 := (by first | exact hw7.trans hb8 | exact (hw7.alloc hw7.size _).trans hb8 | exact (hw7.drew.alloc hw7.size _).trans hb8); have HO8 := Lib.hid ho8; obtain ⟨y6, y7, y8, y9⟩ := HRES.out _ hw8; obtain ⟨z0, z1, z2, z3, z4, z5⟩ := HCELL.out _ hw8; clear ho8 hg8 hb8)  )
  all_goals
    go_wp2
    have hq : CB ((w8.setCell ⟨w.heap.size + 1, 0, none⟩ (.slice A8 (n + 1) c8)).setCell ⟨w.heap.size + 1, 1, none⟩ (.int .i64 (x + 1))) (w.heap.size + 1) 30 [.slice A8 (n + 1) c8, .int .i64 (x + 1)] := ((Q1.out.up hw8).set_ 0 (.slice A8 (n + 1) c8)).set_ 1 (.int .i64 (x + 1))
    have hne := HO8.out.ne (Q1.out.up hw8) (by decide)
    refine bodyPost_ret (res_cell1 Try.results75 rfl hq Try.underlying30 sizeS rfl) rfl ⟨⟨A8, c8, rfl, ((HO8.out.low QB.out.size).set_ 0 _ hne).set_ 1 _ hne⟩, ?_⟩
    exact ((QB.out.trans (hw8.mono QB.out.size)).setCell (p := ⟨w.heap.size + 1, 0, none⟩) (by show w.heap.size ≤ w.heap.size + 1; omega) _).setCell (p := ⟨w.heap.size + 1, 1, none⟩) (by show w.heap.size ≤ w.heap.size + 1; omega) _
end Go.Proofs.Ytpgbpfdedpppeaa
