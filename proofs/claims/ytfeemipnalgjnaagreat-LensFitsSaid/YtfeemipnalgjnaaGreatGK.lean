/-
 Layer 6's contracts and plain theorems, texts of layer 6's own claims put together: EdP RepP KindP.
-/
import Derived.Test.YtfeemipnalgjnaaGreatHb
import Derived.Test.YtfeemipnalgjnaaGreatGA
import Derived.WalkSpells
import Derived.Deep.RegionHeldLaw
import Derived.Deep.RegionWith
import Derived.BigQuiet
import Derived.Deep.QuietTactic
namespace Go.Proofs.YtfeemipnalgjnaaGreat
open Go.RowKit

theorem fds_one (l : List Fd) : ∀ vs ∈ l.map Fd.cells, ∀ u ∈ vs, u.oneCell' = true := by
 intro vs hv u hu
 obtain ⟨f, _, rfl⟩ := List.mem_map.1 hv
 exact one_f f u hu
theorem fds_len (l : List Fd) : ∀ vs ∈ l.map Fd.cells, vs.length = 4 := by
 intro vs hv
 obtain ⟨f, _, rfl⟩ := List.mem_map.1 hv
 rfl
/-- append(v, l...): v the call's own row of fields. -/
theorem cat_fd {w : World} {ops : Array Oper} {rest : List Oper} {o : Oper} {a : Act} {Q : Exit → Act → World → Prop} (hgd : o.guard = none) (d x : Operand)
  (ho : o.op = .call { callee := .builtin .append, args := #[d, x], argTypes := #[33, 33] }) (base : Nat) (v : Value) (acc : List Fd) (A : Option Addr) (n c B : Nat) (l : List Fd) (hs : a.eval d = v) (hx : a.eval x = .slice A n c)
  (hn : n = l.length) (hr : Own 58 4 w base v (acc.map Fd.cells)) (h2 : Fds w B A l) (hroom : acc.length + n ≤ 1000000) (hbase : base ≤ w.heap.size)
  (hK : ∀ A' c' w', Own 58 4 w' base (.slice A' (acc.length + n) c') ((acc ++ l).map Fd.cells) → w.grownBy w' v.ownBlock → Below base w w' → wpList Tryz.prog ops Q rest (a.put o.dst (.slice A' (acc.length + n) c')) w') : wpList Tryz.prog ops Q (o :: rest) a w := by
 refine wpList_cat hgd d x ho Tryz.underlying33 infoF rfl (by decide) base v (acc.map Fd.cells) A n c B (l.map Fd.cells) hs hx (by simpa using hn) hr h2 (fds_len l) (fds_one l) (by rw [List.length_map]; omega) (by decide) hbase ?_
 intro A' c' w' h1 h2 h3
 rw [List.length_map] at h1 ⊢
 exact hK A' c' w' (by simpa using h1) h2 h3

set_option maxHeartbeats 1000000 in
set_option maxRecDepth 20000 in
theorem Clone_any (A : Option Addr) (n c : Nat) (l : List Fd) (w : World) (hn : n = l.length) (hs : Fds w w.heap.size A l) (hl : n ≤ 1000000) :
  Calls Tryz.prog 116 #[.slice A n c] w fun e w' => (∃ A' c', e = .returned (.slice A' n c') ∧ Own 58 4 w' w.heap.size (.slice A' n c') (l.map Fd.cells)) ∧ Below w.heap.size w w' := by
 cases A with
 | none =>
  have h0 : l = [] := by
   rcases Nat.eq_zero_or_pos l.length with h0 | h0
   ·
    exact List.eq_nil_of_length_eq_zero h0
   ·
    obtain ⟨b, off, h, _⟩ := hs (by simpa using h0)
    cases h
  subst h0
  obtain rfl : n = 0 := hn
  clear hs
  have he := fun (w : World) => Lib.run_eql_slice_nil (P := Tryz.prog) w 33 58 none 0 c 0 0 Tryz.underlying33
  go_enter Tryz.func116, Tryz.ntmps116
  go_wp2
  go_ret
  exact ⟨⟨_, _, rfl, Own.nil _ _ _ _⟩, Below.refl _ _⟩
 | some ad =>
  have HN := Li hn
  have HS := Li hs
  clear hn hs
  have he := fun (w : World) => Lib.run_eql_slice_nil (P := Tryz.prog) w 33 58 (some ad) n c 0 0 Tryz.underlying33
  go_enter Tryz.func116, Tryz.ntmps116
  go_wp2_with (at_builtin; refine cat_fd rfl (.tmp 5) (.tmp 6) rfl w.heap.size (.slice (some ⟨w.heap.size, 0, none⟩) 0 0) [] (some ad) n c w.heap.size l rfl rfl HN.out (own_empty w _ rfl) (HS.out.below (al1 w _)) (by simp; omega) (by rw [asz]; omega) ?_; intro A7 c7 w7 ho7 hg7 hb7; have HO7 := Li ho7; have HB7 := Li hb7; clear ho7 hb7 hg7)
  go_ret
  simp only [List.length_nil, Nat.zero_add, List.nil_append] at HO7
  exact ⟨⟨_, _, rfl, HO7.out⟩, (al1 w _).trans HB7.out⟩

theorem step_push_fd {w : World} {ops : Array Oper} {o : Oper} {a : Act} {K : Act → World → Prop} {Q : Exit → Act → World → Prop} {F : Prop} (hgd : o.guard = none) (d x : Operand)
  (ho : o.op = .call { callee := .builtin .append, args := #[d, x], argTypes := #[33, 33] }) (base : Nat) (v : Value) (acc : List Fd) (f : Fd) (g n : Nat) (hs : a.eval d = v) (hx : a.eval x = .slice (some ⟨g, 0, none⟩) 1 1) (hn : n = acc.length)
  (hr : Own 58 4 w base v (acc.map Fd.cells)) (hg : CB w g 58 f.cells) (hroom : n ≤ 1000000) (hbase : base ≤ w.heap.size)
  (hK : ∀ A' c' w', Own 58 4 w' base (.slice A' (n + 1) c') ((acc ++ [f]).map Fd.cells) → w.grownBy w' v.ownBlock → Below base w w' → K (a.put o.dst (.slice A' (n + 1) c')) w') : if Region.wanted o (yielded ops a.tmps) = true then Oper.wp Tryz.prog o a w K Q else F := by
 subst hn
 refine step_push hgd d x ho Tryz.underlying33 infoF rfl (by decide) base v (acc.map Fd.cells) f.cells g hs hx hr hg rfl (one_f f) (by rw [List.length_map]; omega) (by decide) hbase ?_
 intro A' c' w' h1 h2 h3
 rw [List.length_map] at h1 ⊢
 exact hK A' c' w' (by simpa using h1) h2 h3

set_option maxHeartbeats 2000000 in
set_option maxRecDepth 20000 in
theorem with_any (A : Option Addr) (n c : Nat) (x : Int) (l : List Fd) (nm : ByteArray) (ty pa : Int) (w : World) (hn : n = l.length) (hs : Fds w w.heap.size A l) (hl : n ≤ 1000000) (hx0 : 0 ≤ x) (hx1 : x ≤ 4611686018427387904) :
  Calls Tryz.prog 107 #[.agg #[.slice A n c, .int .i64 x], .string nm, .int .i64 ty, .int .i64 pa] w fun e w' => (∃ A' c', e = .returned (.agg #[.slice A' (n + 1) c', .int .i64 (x + 1)]) ∧ Own 58 4 w' w.heap.size (.slice A' (n + 1) c') ((l ++ [(⟨x, nm, ty, pa⟩ : Fd)]).map Fd.cells)) ∧ Below w.heap.size w w' := by
 have HN := Li hn
 have HS := Li hs
 clear hn hs
 have HX : Hid (x + 1 ≤ 9223372036854775807) := by show _ ≤ _; omega
 go_enter Tryz.func107, Tryz.ntmps107
 go_wp2
 have q0 := ((CB.new w 35 [.slice A n c, .int .i64 x]).alloc (.cells #[.slice none 0 0, .int .i64 0] 35)).alloc (.cells #[.int .i64 x, .string nm, .int .i64 ty, .int .i64 pa] 58)
 have q1 := (CB.new1 w (.cells #[.slice A n c, .int .i64 x] 35) 35 [.slice none 0 0, .int .i64 0]).alloc (.cells #[.int .i64 x, .string nm, .int .i64 ty, .int .i64 pa] 58)
 have q2 := CB.new2 w (.cells #[.slice A n c, .int .i64 x] 35) (.cells #[.slice none 0 0, .int .i64 0] 35) 58 [.int .i64 x, .string nm, .int .i64 ty, .int .i64 pa]
 have qb := al3 w (.cells #[.slice A n c, .int .i64 x] 35) (.cells #[.slice none 0 0, .int .i64 0] 35) (.cells #[.int .i64 x, .string nm, .int .i64 ty, .int .i64 pa] 58)
 generalize ((w.alloc (.cells #[.slice A n c, .int .i64 x] 35)).alloc (.cells #[.slice none 0 0, .int .i64 0] 35)).alloc (.cells #[.int .i64 x, .string nm, .int .i64 ty, .int .i64 pa] 58) = W0 at *
 have Q0 := Li q0
 have Q1 := Li q1
 have Q2 := Li q2
 have QB := Li qb
 have HCELL : Hid (∀ W, Below W0.heap.size W0 W → W.cell? ⟨w.heap.size, 0, none⟩ = some (.slice A n c) ∧ W.cell? ⟨w.heap.size, 1, none⟩ = some (.int .i64 x) ∧ W.cell? ⟨w.heap.size + 1 + 1, 0, none⟩ = some (.int .i64 x) ∧ W.cell? ⟨w.heap.size + 1 + 1, 1, none⟩ = some (.string nm) ∧ W.cell? ⟨w.heap.size + 1 + 1, 2, none⟩ = some (.int .i64 ty) ∧ W.cell? ⟨w.heap.size + 1 + 1, 3, none⟩ = some (.int .i64 pa)) := by
  intro W hW
  exact ⟨(Q0.out.up hW).cell 0 rfl, (Q0.out.up hW).cell 1 rfl, (Q2.out.up hW).cell 0 rfl, (Q2.out.up hW).cell 1 rfl, (Q2.out.up hW).cell 2 rfl, (Q2.out.up hW).cell 3 rfl⟩
 have HRES : Hid (∀ W, Below W0.heap.size W0 W → W.cell? ⟨w.heap.size + 1, 0, none⟩ = some (.slice none 0 0) ∧ W.cell? ⟨w.heap.size + 1, 1, none⟩ = some (.int .i64 0) ∧ W.frozen? ⟨w.heap.size + 1, 0, none⟩ = false ∧ W.frozen? ⟨w.heap.size + 1, 1, none⟩ = false) := by
  intro W hW
  exact ⟨(Q1.out.up hW).cell 0 rfl, (Q1.out.up hW).cell 1 rfl, (Q1.out.up hW).frozen 0, (Q1.out.up hW).frozen 1⟩
 have hwx : IntKind.i64.wrap (x + 1) = x + 1 := IntWalk.i64_in _ ⟨by omega, by omega⟩
 obtain ⟨x0, x1, x2, x3, x4, x5⟩ := HCELL.out W0 (Below.refl _ _)
 clear q0 q1 q2 qb
 go_region_held_law (fun w' => w'.cell? ⟨w.heap.size, 0, none⟩ = some (.slice A n c) ∧ w'.cell? ⟨w.heap.size, 1, none⟩ = some (.int .i64 x) ∧ w'.cell? ⟨w.heap.size + 1 + 1, 0, none⟩ = some (.int .i64 x) ∧ w'.cell? ⟨w.heap.size + 1 + 1, 1, none⟩ = some (.string nm) ∧ w'.cell? ⟨w.heap.size + 1 + 1, 2, none⟩ = some (.int .i64 ty) ∧ w'.cell? ⟨w.heap.size + 1 + 1, 3, none⟩ = some (.int .i64 pa))
  (first | exact HCELL.out _ (by first | exact hw7 | exact hw8 | exact hw7.alloc hw7.size _ | exact hw7.drew | exact hw7.drew.alloc hw7.size _ | exact bd _ | exact bda _ _ | exact bdad _ _ | exact bad _ _) | (refine ⟨?_, ?_, ?_, ?_, ?_, ?_⟩ <;> simp [go_sem, z0, z1, z2, z3, z4, z5]) | go_keep)
  (first | (go_at_call 116; refine (Clone_any A n c l _ HN.out (HS.out.up (QB.out.trans ((show Below W0.heap.size W0 _ by first | exact bd _ | exact bda _ _ | exact bdad _ _ | exact bad _ _).mono QB.out.size))) hl).mono ?_; rintro e w7 ⟨⟨A7, c7, rfl, ho7⟩, hb7⟩; have hw7 : Below W0.heap.size W0 w7 := (by first | exact (bd _).trans (hb7.mono (bd _).size) | exact (bda _ _).trans (hb7.mono (bda _ _).size) | exact (bdad _ _).trans (hb7.mono (bdad _ _).size) | exact (bad _ _).trans (hb7.mono (bad _ _).size)); have HO7 := Li (ho7.low (b := W0.heap.size) (by first | exact (bd W0).size | exact (bda W0 _).size | exact (bdad W0 _).size | exact (bad W0 _).size)); have HB7 := Li hb7; clear ho7 hb7) | (refine step_push_fd rfl (.tmp 18) (.tmp 20) rfl W0.heap.size (.slice A7 n c7) l ⟨x, nm, ty, pa⟩ _ n rfl rfl HN.out (by first | exact HO7.out | exact HO7.out.alloc _ | exact HO7.out.dr | exact (HO7.out.dr).alloc _) (by first | exact CB.new _ _ _ | exact (CB.new _ _ _).up HB7.out | exact ((CB.new _ _ _).dr).up HB7.out) hl (by first | exact hw7.size | exact Nat.le_trans hw7.size (al1 _ _).size | exact Nat.le_trans hw7.size (bda _ _).size) ?_; intro A8 c8 w8 ho8 hg8 hb8; have hw8 : Below W0.heap.size W0 w8 := (by first | exact hw7.trans hb8 | exact (hw7.alloc hw7.size _).trans hb8 | exact (hw7.drew.alloc hw7.size _).trans hb8); have HO8 := Li ho8; obtain ⟨y6, y7, y8, y9⟩ := HRES.out _ hw8; obtain ⟨z0, z1, z2, z3, z4, z5⟩ := HCELL.out _ hw8; clear ho8 hg8 hb8)  )
 all_goals
  go_wp2
  have hq : CB ((w8.setCell ⟨w.heap.size + 1, 0, none⟩ (.slice A8 (n + 1) c8)).setCell ⟨w.heap.size + 1, 1, none⟩ (.int .i64 (x + 1))) (w.heap.size + 1) 35 [.slice A8 (n + 1) c8, .int .i64 (x + 1)] := ((Q1.out.up hw8).set_ 0 (.slice A8 (n + 1) c8)).set_ 1 (.int .i64 (x + 1))
  have hne := HO8.out.ne (Q1.out.up hw8) (by decide)
  refine bodyPost_ret (res_cell1 Tryz.results107 rfl hq Tryz.underlying35 sizeS rfl) rfl ⟨⟨A8, c8, rfl, ((HO8.out.low QB.out.size).set_ 0 _ hne).set_ 1 _ hne⟩, ?_⟩
  exact ((QB.out.trans (hw8.mono QB.out.size)).setCell (p := ⟨w.heap.size + 1, 0, none⟩) (by show w.heap.size ≤ w.heap.size + 1; omega) _).setCell (p := ⟨w.heap.size + 1, 1, none⟩) (by show w.heap.size ≤ w.heap.size + 1; omega) _
end Go.Proofs.YtfeemipnalgjnaaGreat
namespace Go.Proofs.YtfeemipnalgjnaaGreat
open Go.RowKit

def dropF (l : List Fd) (i : Int) : List Fd := l.filter fun f => !(f.id == i)
def putF (l : List Fd) (g : Fd) : List Fd := l.map fun f => if f.id = g.id then g else f
theorem drp_yes {l : List Fd} {k : Nat} {f : Fd} {i : Int} (h : l.take (k + 1) = l.take k ++ [f]) (ht : f.id = i) : dropF (l.take (k + 1)) i = dropF (l.take k) i := by
 unfold dropF
 rw [h, List.filter_append]
 simp [ht]
theorem drp_no {l : List Fd} {k : Nat} {f : Fd} {i : Int} (h : l.take (k + 1) = l.take k ++ [f]) (ht : ¬ f.id = i) : dropF (l.take (k + 1)) i = dropF (l.take k) i ++ [f] := by
 unfold dropF
 rw [h, List.filter_append]
 simp [ht]
theorem drp_len (l : List Fd) (i : Int) : (dropF l i).length ≤ l.length := List.length_filter_le _ _
theorem take_snoc' {α : Type} {l : List α} {k : Nat} {f : α} (h : l[k]? = some f) : l.take (k + 1) = l.take k ++ [f] := by
 rw [List.take_add_one, h]
 rfl

set_option maxHeartbeats 1000000 in
set_option maxRecDepth 20000 in
theorem without_any (A : Option Addr) (n c : Nat) (x : Int) (l : List Fd) (i : Int) (w : World) (hn : n = l.length) (hs : Fds w w.heap.size A l) (hl : n ≤ 1000000) :
  Calls Tryz.prog 108 #[.agg #[.slice A n c, .int .i64 x], .int .i64 i] w fun e w' => (∃ A' c', e = .returned (.agg #[.slice A' (dropF l i).length c', .int .i64 x]) ∧ Own 58 4 w' w.heap.size (.slice A' (dropF l i).length c') ((dropF l i).map Fd.cells)) ∧ Below w.heap.size w w' := by
 have HN := Li hn
 have HS := Li hs
 clear hn hs
 go_enter Tryz.func108, Tryz.ntmps108
 go_wp2
 go_loopw [5, 11] (fun v j wr => ∃ k : Nat, k ≤ n ∧ j = .int .i64 k ∧ Hid (Own 58 4 wr w.heap.size v ((dropF (l.take k) i).map Fd.cells)) ∧ Hid (Below w.heap.size w wr) ∧ Hid (CB wr w.heap.size 35 [.slice A n c, .int .i64 x]) ∧ Hid (CB wr (w.heap.size + 1) 35 [.slice none 0 0, .int .i64 0])) (fun _ j _ => n - (intOf j).toNat)
 case atStart => exact ⟨0, by omega, rfl, Own.nil _ _ _ _, al2 _ _ _, (CB.new _ _ _).alloc _, CB.new1 _ _ _ _⟩
 case round =>
  obtain ⟨k, hk, rfl, hown, hbel, hcs, hcr⟩ := hrel
  have hz := hcr.out.lt
  obtain ⟨A3, c3', hv3, hlc, hc3⟩ := hown.out.slice
  rw [List.length_map] at hv3 hlc
  by_cases hlt : k < n
  ·
   have i1 : (k : Int) < (n : Int) := by omega
   obtain ⟨f, hf⟩ := getD_of (l := l) (k := k) (by rw [← HN.out]; exact hlt)
   obtain ⟨b, off, rfl, hb, c0, c1, c2, c3⟩ := (HS.out.below hbel.out).one hf
   have ht := Li (take_snoc' hf)
   have hll : (dropF (l.take k) i).length ≤ 1000000 := by have := drp_len (l.take k) i; simp at this; omega
   clear hf
   by_cases hy : f.id = i
   ·
    have y2 : (f.id != i) = false := by simpa using hy
    have HE := Li (drp_yes ht.out hy)
    clear hy
    go_wp2
    go_roundw
    case rel => exact ⟨k + 1, by omega, by go_num, by rw [HE.out]; exact hown.out.alloc _, hbel.out.alloc (by omega) _, hcs.out.alloc _, hcr.out.alloc _⟩
    case measure => simp [intOf]; omega
   ·
    have y2 : (f.id != i) = true := by simpa using hy
    have HE := Li (drp_no ht.out hy)
    have HV := Li hv3
    clear hy hv3
    go_wp2_with (at_builtin; refine push_fd (wr := wr.alloc (.cells #[.int .i64 f.id, .string f.nm, .int .i64 f.ty, .int .i64 f.pa] 58)) rfl (.tmp 19) (.tmp 21) rfl w.heap.size _ (dropF (l.take k) i) f (wr.heap.size + 1) rfl rfl (asz _ _).symm rfl (hown.out.alloc _) hll (by rw [asz]; omega) ?_; intro A7 c7 w7 ho7 hg7 hb7; have HO7 := Li ho7; have HB7 := Li hb7; have HCS := Li ((hcs.out.alloc _).grown hg7 (hown.out.ne hcs.out (by decide))); have HCR := Li ((hcr.out.alloc _).grown hg7 (hown.out.ne hcr.out (by decide))); clear ho7 hb7 hg7)
    go_roundw
    case rel => exact ⟨k + 1, by omega, by go_num, by rw [HE.out]; exact HO7.out, (hbel.out.alloc (by omega) _).trans HB7.out, HCS.out, HCR.out⟩
    case measure => simp [intOf]; omega
  ·
   have i1 : ¬ (k : Int) < (n : Int) := by omega
   have e : l.take k = l := List.take_of_length_le (by rw [← HN.out]; omega)
   rw [e] at hv3 hown hlc
   subst hv3
   have d1 := hcs.out.cell 1 rfl
   go_wp2_with ((with_reducible show wpList _ _ _ _ _ _); refine wpList_store_cb rfl 35 (.tmp 4) (.tmp 27) rfl (w.heap.size + 1) [.slice A3 (dropF l i).length c3', .int .i64 x] rfl rfl 35 [.slice none 0 0, .int .i64 0] 2 hcr.out sizeS rfl rfl (one_s _ _ _ _) ?_; intro w9 hc9 hg9 hz9)
   refine bodyPost_ret (res_cell1 Tryz.results108 rfl hc9 Tryz.underlying35 sizeS rfl) rfl ⟨⟨A3, c3', rfl, hown.out.kept hg9 (.inr (hown.out.ne hcr.out (by decide)).symm)⟩, below_grown hbel.out hg9 (by omega) (by omega)⟩

theorem put_step {l : List Fd} {k : Nat} {f g : Fd} (hf : l[k]? = some f) : (putF (l.take k) g ++ l.drop k).set k (if f.id = g.id then g else f) = putF (l.take (k + 1)) g ++ l.drop (k + 1) := by
 have hk := (List.getElem?_eq_some_iff.1 hf).1
 rw [take_snoc' hf, drop_cons hf]
 unfold putF
 rw [List.map_append, List.append_assoc]
 rw [List.set_append_right _ _ (by simp; omega)]
 congr 1
 rw [show k - ((l.take k).map fun f => if f.id = g.id then g else f).length = 0 by simp; omega]
 rfl
theorem put_keep {l : List Fd} {k : Nat} {f g : Fd} (hf : l[k]? = some f) (hne : ¬ f.id = g.id) : putF (l.take (k + 1)) g ++ l.drop (k + 1) = putF (l.take k) g ++ l.drop k := by
 rw [take_snoc' hf, drop_cons hf]
 unfold putF
 rw [List.map_append, List.append_assoc]
 simp [hne]
theorem put_get {l : List Fd} {k : Nat} {f g : Fd} (hf : l[k]? = some f) : (putF (l.take k) g ++ l.drop k)[k]? = some f := by
 have hk := (List.getElem?_eq_some_iff.1 hf).1
 rw [List.getElem?_append_right (by unfold putF; simp; omega), List.getElem?_drop]
 rw [show k + (k - (putF (l.take k) g).length) = k by unfold putF; simp; omega]
 exact hf
theorem put_len {l : List Fd} {k : Nat} {g : Fd} : (putF (l.take k) g ++ l.drop k).length = l.length := by unfold putF; simp; omega

set_option maxHeartbeats 2000000 in
set_option maxRecDepth 20000 in
theorem replacing_any (A : Option Addr) (n c : Nat) (x : Int) (l : List Fd) (g : Fd) (w : World) (hn : n = l.length) (hs : Fds w w.heap.size A l) (hl : n ≤ 1000000) :
  Calls Tryz.prog 109 #[.agg #[.slice A n c, .int .i64 x], .agg #[.int .i64 g.id, .string g.nm, .int .i64 g.ty, .int .i64 g.pa]] w fun e w' => (∃ A' c', e = .returned (.agg #[.slice A' n c', .int .i64 x]) ∧ Own 58 4 w' w.heap.size (.slice A' n c') ((putF l g).map Fd.cells)) ∧ Below w.heap.size w w' := by
 have HN := Li hn
 have HS := Li hs
 clear hn hs
 have HS2 := Li (HS.out.up (al3 w (.cells #[.slice A n c, .int .i64 x] 35) (.cells #[.int .i64 g.id, .string g.nm, .int .i64 g.ty, .int .i64 g.pa] 58) (.cells #[.slice none 0 0, .int .i64 0] 35)))
 have q0 := Li (((CB.new w 35 [.slice A n c, .int .i64 x]).alloc (.cells #[.int .i64 g.id, .string g.nm, .int .i64 g.ty, .int .i64 g.pa] 58)).alloc (.cells #[.slice none 0 0, .int .i64 0] 35))
 have q1 := Li ((CB.new1 w (.cells #[.slice A n c, .int .i64 x] 35) 58 [.int .i64 g.id, .string g.nm, .int .i64 g.ty, .int .i64 g.pa]).alloc (.cells #[.slice none 0 0, .int .i64 0] 35))
 have q2 := Li (CB.new2 w (.cells #[.slice A n c, .int .i64 x] 35) (.cells #[.int .i64 g.id, .string g.nm, .int .i64 g.ty, .int .i64 g.pa] 58) 35 [.slice none 0 0, .int .i64 0])
 have qb := Li (al3 w (.cells #[.slice A n c, .int .i64 x] 35) (.cells #[.int .i64 g.id, .string g.nm, .int .i64 g.ty, .int .i64 g.pa] 58) (.cells #[.slice none 0 0, .int .i64 0] 35))
 go_enter Tryz.func109, Tryz.ntmps109
 go_wp2_with (go_at_call 116; refine (Clone_any A n c l _ HN.out HS2.out hl).mono ?_; rintro e w7 ⟨⟨A7, c7, rfl, ho7⟩, hb7⟩; have HO7 := Li (ho7.low (b := w.heap.size + 1 + 1 + 1) (by rw [asz, asz, asz]; exact Nat.le_refl _)); have HB7 := Li (below_step qb.out qb.out.size hb7); have Q0 := Li (q0.out.up hb7); have Q1 := Li (q1.out.up hb7); have Q2 := Li (q2.out.up hb7); clear ho7 hb7)
 clear q0 q1 q2 qb HS2
 go_loopw [12] (fun j wr => ∃ k : Nat, k ≤ n ∧ j = .int .i64 k ∧ Hid (Own 58 4 wr (w.heap.size + 1 + 1 + 1) (.slice A7 n c7) ((putF (l.take k) g ++ l.drop k).map Fd.cells)) ∧ Hid (Below w.heap.size w wr) ∧ Hid (CB wr w.heap.size 35 [.slice A n c, .int .i64 x]) ∧ Hid (CB wr (w.heap.size + 1) 58 [.int .i64 g.id, .string g.nm, .int .i64 g.ty, .int .i64 g.pa]) ∧ Hid (CB wr (w.heap.size + 1 + 1) 35 [.slice none 0 0, .int .i64 0])) (fun j _ => n - (intOf j).toNat)
 case atStart => exact ⟨0, by omega, rfl, by (have h := HO7.out; show Own _ _ _ _ _ _; simpa [putF] using h), HB7.out, Q0.out, Q1.out, Q2.out⟩
 case round =>
  obtain ⟨k, hk, rfl, hown, hbel, hcs, hcf, hcr⟩ := hrel
  have hz := hcr.out.lt
  by_cases hlt : k < n
  ·
   have i1 : (k : Int) < (n : Int) := by omega
   have i0 : (0 : Int) ≤ (k : Int) := by omega
   obtain ⟨f, hf⟩ := getD_of (l := l) (k := k) (by rw [← HN.out]; exact hlt)
   have hrow : Fds wr wr.heap.size A7 (putF (l.take k) g ++ l.drop k) := hown.out.row.2.2.2
   obtain ⟨b, off, rfl, hb, c0, c1, c2, c3⟩ := hrow.one (put_get (g := g) hf)
   have hoff : off = 0 := by
    rcases hown.out.shape with ⟨e, _⟩ | ⟨g', cap, e, _⟩
    ·
     cases e
    ·
     injection e with e; injection e with e; injection e with e1 e2
   subst hoff
   rw [Nat.zero_add] at c0 c1 c2 c3
   have f0 := hcf.out.c4
   have HP := Li (put_step (g := g) hf)
   have HK := Li (put_keep (g := g) hf)
   have hlen : k < (List.map Fd.cells (putF (l.take k) g ++ l.drop k)).length := by rw [List.length_map, put_len, ← HN.out]; exact hlt
   clear hf hrow
   by_cases he : f.id = g.id
   ·
    have e1 : (f.id == g.id) = true := by simpa using he
    have HE := Li he
    clear he
    go_wp2
    go_quiet (fail)
    go_wp2_with ((with_reducible show wpList _ _ _ _ _ _); refine wpList_store_own rfl 58 (.tmp 26) (.tmp 25) rfl (w.heap.size + 1 + 1 + 1) b n c7 k _ _ g.cells rfl rfl rfl hown.out (by decide) hlen rfl sizeF (one_f g) ?_; intro w9 ho9 hg9 hz9; have HO9 := Li ho9; have HG9 := Li hg9; clear ho9 hg9 hz9)
    go_roundw
    case rel =>
     have hne : ∀ u, u < w.heap.size + 1 + 1 + 1 → some u ≠ some b := fun u hu => hown.out.below_ne hu
     refine ⟨k + 1, by omega, by go_num, ?_, below_grown (below_drewN hbel.out _) HG9.out (by show w.heap.size ≤ wr.heap.size; omega) (by have := hown.out.lt b rfl; omega), (hcs.out.drewN _).grown HG9.out (hne _ (by omega)), (hcf.out.drewN _).grown HG9.out (hne _ (by omega)), (hcr.out.drewN _).grown HG9.out (hne _ (by omega))⟩
     have h1 := HP.out
     rw [if_pos HE.out] at h1
     show Own _ _ _ _ _ _
     rw [← h1, List.map_set]
     exact HO9.out
    case measure => simp [intOf]; omega
   ·
    have e1 : (f.id == g.id) = false := by simpa using he
    have HE := Li he
    clear he
    go_wp2
    go_quiet (fail)
    go_wp2
    go_roundw
    case rel =>
     exact ⟨k + 1, by omega, by go_num, by rw [HK.out HE.out]; exact hown.out.drewN _, below_drewN hbel.out _, hcs.out.drewN _, hcf.out.drewN _, hcr.out.drewN _⟩
    case measure => simp [intOf]; omega
  ·
   have i1 : ¬ (k : Int) < (n : Int) := by omega
   have e : putF (l.take k) g ++ l.drop k = putF l g := by rw [List.take_of_length_le (by rw [← HN.out]; omega), List.drop_of_length_le (by rw [← HN.out]; omega), List.append_nil]
   rw [e] at hown
   have d1 := hcs.out.cell 1 rfl
   go_wp2_with ((with_reducible show wpList _ _ _ _ _ _); refine wpList_store_cb rfl 35 (.tmp 4) (.tmp 31) rfl (w.heap.size + 1 + 1) [.slice A7 n c7, .int .i64 x] rfl rfl 35 [.slice none 0 0, .int .i64 0] 2 hcr.out sizeS rfl rfl (one_s _ _ _ _) ?_; intro w9 hc9 hg9 hz9)
   refine bodyPost_ret (res_cell1 Tryz.results109 rfl hc9 Tryz.underlying35 sizeS rfl) rfl ⟨⟨A7, c7, rfl, (hown.out.kept hg9 (.inr (hown.out.ne hcr.out (by decide)).symm)).low (by omega)⟩, below_grown hbel.out hg9 (by omega) (by omega)⟩
end Go.Proofs.YtfeemipnalgjnaaGreat
namespace Go.Proofs.YtfeemipnalgjnaaGreat
open Go.RowKit

def withS (s : Sc) (nm : ByteArray) (ty pa : Int) : Sc := ⟨s.fs ++ [⟨s.next, nm, ty, pa⟩], s.next + 1⟩
def dropS (s : Sc) (i : Int) : Sc := ⟨dropF s.fs i, s.next⟩
def putS (s : Sc) (g : Fd) : Sc := ⟨putF s.fs g, s.next⟩
/-- a schema and an error, the schema's fields in the call's own row -/
def ResS (w w' : World) (r : Sc × Int) (e : Ending) : Prop := ∃ A' m' c', e = .returned (.tuple #[.agg #[.slice A' m' c', .int .i64 r.1.next], .int .i64 r.2]) ∧ m' = r.1.fs.length ∧ Own 58 4 w' w.heap.size (.slice A' m' c') (r.1.fs.map Fd.cells)
theorem res_zero (w w' : World) (er : Int) : ResS w w' (Sc.zero, er) (.returned (.tuple #[.agg #[.slice none 0 0, .int .i64 0], .int .i64 er])) := ⟨none, 0, 0, rfl, rfl, Own.nil _ _ _ _⟩
def addE (s : Sc) (c : Ch) : Sc × Int := if typB c.ty then (withS s c.nm c.ty c.pa, 0) else (Sc.zero, 7)
def dropE (s : Sc) (c : Ch) : Sc × Int := if hasF s.fs c.id then (dropS s (fieldD s.fs c.id).id, 0) else (Sc.zero, 61)
def renE (s : Sc) (c : Ch) : Sc × Int := if hasF s.fs c.id then (putS s { fieldD s.fs c.id with nm := c.nm }, 0) else (Sc.zero, 61)
def widE (s : Sc) (c : Ch) : Sc × Int := if hasF s.fs c.id then (if (fieldD s.fs c.id).ty = 2 then (putS s { fieldD s.fs c.id with ty := 3 }, 0) else (Sc.zero, 62)) else (Sc.zero, 61)
def movE (s : Sc) (c : Ch) : Sc × Int := if hasF s.fs c.id then (putS s { fieldD s.fs c.id with pa := c.pa }, 0) else (Sc.zero, 61)
def splE (s : Sc) (c : Ch) : Sc × Int := if hasF s.fs c.id then (if (fieldD s.fs c.id).ty = 4 then (if sepB c.sep then (withS (withS (dropS s (fieldD s.fs c.id).id) c.nm 4 (fieldD s.fs c.id).pa) c.ot 4 (fieldD s.fs c.id).pa, 0) else (Sc.zero, 1)) else (Sc.zero, 7)) else (Sc.zero, 61)
def joiE (s : Sc) (c : Ch) : Sc × Int :=
 if hasF s.fs c.id = true ∧ hasF s.fs c.wi = true ∧ (fieldD s.fs c.id).id ≠ (fieldD s.fs c.wi).id then
  (if (fieldD s.fs c.id).ty = 4 ∧ (fieldD s.fs c.wi).ty = 4 then (if (fieldD s.fs c.id).pa = (fieldD s.fs c.wi).pa then (if sepB c.sep then (withS (dropS (dropS s (fieldD s.fs c.id).id) (fieldD s.fs c.wi).id) c.nm 4 (fieldD s.fs c.id).pa, 0) else (Sc.zero, 1)) else (Sc.zero, 63)) else (Sc.zero, 7))
 else (Sc.zero, 61)

set_option maxHeartbeats 2000000 in
set_option maxRecDepth 20000 in
theorem add_any (A : Option Addr) (n c : Nat) (x : Int) (l : List Fd) (kd id wi : Int) (nm ot : ByteArray) (ty pa : Int) (sep : ByteArray) (w : World) (hn : n = l.length) (hs : Fds w w.heap.size A l) (hl0 : n ≤ 1000) (hx0 : 0 ≤ x) (hx1 : x ≤ 2305843009213693952) (_hsep : sep.size ≤ 9223372036854775807) :
  Calls Tryz.prog 94 #[.agg #[.slice A n c, .int .i64 x, .int .i64 kd, .int .i64 id, .int .i64 wi, .string nm, .string ot, .int .i64 ty, .int .i64 pa, .string sep]] w fun e w' => ResS w w' (addE ⟨l, x⟩ ⟨kd, id, wi, nm, ot, ty, pa, sep⟩) e ∧ Below w.heap.size w w' := by
 have HN := Li hn
 have HS := Li hs
 clear hn hs
 have hl : n ≤ 1000000 := by omega
 have hl2 : n ≤ 9223372036854775807 := by omega
 have hwx : IntKind.i64.wrap (x + 1) = x + 1 := IntWalk.i64_in _ ⟨by omega, by omega⟩
 cases ht : typB ty with
 | false =>
  have HT := Li ht
  clear ht
  go_enter Tryz.func94, Tryz.ntmps94
  go_wp2_with (first | (go_at_call 106; refine (schType_any _ false _ HT.out).mono ?_; rintro e w' ⟨rfl, rfl⟩) | ((with_reducible show wpList _ _ _ _ _ _); refine wpList_store_cb rfl 35 (.tmp 2) (.tmp 9) rfl (w.heap.size + 1) [.slice none 0 0, .int .i64 0] rfl rfl 35 [.slice none 0 0, .int .i64 0] 2 (CB.new1 w _ _ _) sizeS rfl rfl (one_s _ _ _ _) ?_; intro w9 hc9 hg9 hz9))
  refine bodyPost_ret (res_cell Tryz.results94 rfl rfl hc9 Tryz.underlying35 sizeS rfl) rfl ⟨?_, below_grown (al2 w _ _) hg9 (by rw [asz, asz]; omega) (by omega)⟩
  unfold addE
  rw [if_neg (by simp only [HT.out]; decide)]
  exact res_zero _ _ _
 | true =>
  have HT := Li ht
  clear ht
  go_enter Tryz.func94, Tryz.ntmps94
  go_wp2_with (first | (go_at_call 106; refine (schType_any _ true _ HT.out).mono ?_; rintro e w' ⟨rfl, rfl⟩) | (go_at_call 107; refine (with_any _ n c x l nm ty pa _ HN.out (HS.out.up (al2 w _ _)) hl hx0 (by omega)).mono ?_; rintro e w6 ⟨⟨A6, c6, rfl, ho6⟩, hb6⟩; have HB6 := Li ((al2 w _ _).trans (hb6.mono (al2 w _ _).size)); have HR6 := Li ((CB.new1 w (.cells #[.slice A n c, .int .i64 x, .int .i64 kd, .int .i64 id, .int .i64 wi, .string nm, .string ot, .int .i64 ty, .int .i64 pa, .string sep] 111) 35 [.slice none 0 0, .int .i64 0]).up hb6); have HO6 := Li (ho6.low (al2 w _ _).size); have hz6 : w.heap.size + 1 < w6.heap.size := HR6.out.lt; clear ho6 hb6) | ((with_reducible show wpList _ _ _ _ _ _); refine wpList_store_cb rfl 35 (.tmp 2) (.tmp 21) rfl (w.heap.size + 1) [.slice A6 (n + 1) c6, .int .i64 (x + 1)] rfl rfl 35 [.slice none 0 0, .int .i64 0] 2 HR6.out sizeS rfl rfl (one_s _ _ _ _) ?_; intro w9 hc9 hg9 hz9))
  refine bodyPost_ret (res_cell Tryz.results94 rfl rfl hc9 Tryz.underlying35 sizeS rfl) rfl ⟨?_, below_grown HB6.out hg9 (by omega) (by omega)⟩
  unfold addE
  rw [if_pos (by exact HT.out)]
  exact ⟨A6, n + 1, c6, rfl, by rw [HN.out]; simp [withS], HO6.out.kept hg9 (.inr (HO6.out.ne HR6.out (by decide)).symm)⟩

set_option maxHeartbeats 2000000 in
set_option maxRecDepth 20000 in
theorem drop_any (A : Option Addr) (n c : Nat) (x : Int) (l : List Fd) (kd id wi : Int) (nm ot : ByteArray) (ty pa : Int) (sep : ByteArray) (w : World) (hn : n = l.length) (hs : Fds w w.heap.size A l) (hl0 : n ≤ 1000) (_hx0 : 0 ≤ x) (_hx1 : x ≤ 2305843009213693952) (_hsep : sep.size ≤ 9223372036854775807) :
  Calls Tryz.prog 95 #[.agg #[.slice A n c, .int .i64 x, .int .i64 kd, .int .i64 id, .int .i64 wi, .string nm, .string ot, .int .i64 ty, .int .i64 pa, .string sep]] w fun e w' => ResS w w' (dropE ⟨l, x⟩ ⟨kd, id, wi, nm, ot, ty, pa, sep⟩) e ∧ Below w.heap.size w w' := by
 have HN := Li hn
 have HS := Li hs
 clear hn hs
 have hl : n ≤ 1000000 := by omega
 have hl2 : n ≤ 9223372036854775807 := by omega
 obtain ⟨g, hg⟩ : ∃ g, fieldD l id = g := ⟨_, rfl⟩
 obtain ⟨ok, hok⟩ : ∃ ok, hasF l id = ok := ⟨_, rfl⟩
 have HG := Li hg
 have HO := Li hok
 clear hg hok
 cases ok with
 | false =>
  go_enter Tryz.func95, Tryz.ntmps95
  go_wp2_with (first | (go_at_call 72; refine (Field_any _ n c x l id _ HN.out (HS.out.up (al2 w _ _)) hl2).mono ?_; rintro e w5 ⟨rfl, hb5⟩; rw [HG.out, HO.out]; have HB5 := Li ((al2 w _ _).trans (hb5.mono (al2 w _ _).size)); have HR5 := Li ((CB.new1 w (.cells #[.slice A n c, .int .i64 x, .int .i64 kd, .int .i64 id, .int .i64 wi, .string nm, .string ot, .int .i64 ty, .int .i64 pa, .string sep] 111) 35 [.slice none 0 0, .int .i64 0]).up hb5); have HE5 := Li (((CB.new w 111 [.slice A n c, .int .i64 x, .int .i64 kd, .int .i64 id, .int .i64 wi, .string nm, .string ot, .int .i64 ty, .int .i64 pa, .string sep]).alloc (.cells #[.slice none 0 0, .int .i64 0] 35)).up hb5); have hz5 : w.heap.size + 1 < w5.heap.size := HR5.out.lt; have hy5 : w.heap.size < w5.heap.size := HE5.out.lt; have e5_0 := HE5.out.c10; clear hb5) | ((with_reducible show wpList _ _ _ _ _ _); refine wpList_store_cb rfl 35 (.tmp 2) (.tmp 17) rfl (w.heap.size + 1) [.slice none 0 0, .int .i64 0] rfl rfl 35 [.slice none 0 0, .int .i64 0] 2 (HR5.out.alloc _) sizeS rfl rfl (one_s _ _ _ _) ?_; intro w9 hc9 hg9 hz9))
  refine bodyPost_ret (res_cell Tryz.results95 rfl rfl hc9 Tryz.underlying35 sizeS rfl) rfl ⟨?_, below_grown (HB5.out.alloc (by omega) _) hg9 (by rw [asz]; omega) (by omega)⟩
  unfold dropE
  rw [if_neg (by simp only [HO.out]; decide)]
  exact res_zero _ _ _
 | true =>
  go_enter Tryz.func95, Tryz.ntmps95
  go_wp2_with (first | (go_at_call 72; refine (Field_any _ n c x l id _ HN.out (HS.out.up (al2 w _ _)) hl2).mono ?_; rintro e w5 ⟨rfl, hb5⟩; rw [HG.out, HO.out]; have HB5 := Li ((al2 w _ _).trans (hb5.mono (al2 w _ _).size)); have HR5 := Li ((CB.new1 w (.cells #[.slice A n c, .int .i64 x, .int .i64 kd, .int .i64 id, .int .i64 wi, .string nm, .string ot, .int .i64 ty, .int .i64 pa, .string sep] 111) 35 [.slice none 0 0, .int .i64 0]).up hb5); have HE5 := Li (((CB.new w 111 [.slice A n c, .int .i64 x, .int .i64 kd, .int .i64 id, .int .i64 wi, .string nm, .string ot, .int .i64 ty, .int .i64 pa, .string sep]).alloc (.cells #[.slice none 0 0, .int .i64 0] 35)).up hb5); have hz5 : w.heap.size + 1 < w5.heap.size := HR5.out.lt; have hy5 : w.heap.size < w5.heap.size := HE5.out.lt; have e5_0 := HE5.out.c10; clear hb5) | (go_at_call 108; refine (without_any _ n c x l g.id _ HN.out (HS.out.up (HB5.out.alloc (by omega) _)) hl).mono ?_; rintro e w6 ⟨⟨A6, c6, rfl, ho6⟩, hb6⟩; have HB6 := Li (below_step (HB5.out.alloc (by omega) _) (by rw [asz]; omega) hb6); have HR6 := Li ((HR5.out.alloc _).up hb6); have HO6 := Li (ho6.low (b := w.heap.size) (by rw [asz]; omega)); have hz6 : w.heap.size + 1 < w6.heap.size := HR6.out.lt; clear ho6 hb6) | ((with_reducible show wpList _ _ _ _ _ _); refine wpList_store_cb rfl 35 (.tmp 2) (.tmp 22) rfl (w.heap.size + 1) [.slice A6 (dropF l g.id).length c6, .int .i64 x] rfl rfl 35 [.slice none 0 0, .int .i64 0] 2 HR6.out sizeS rfl rfl (one_s _ _ _ _) ?_; intro w9 hc9 hg9 hz9))
  refine bodyPost_ret (res_cell Tryz.results95 rfl rfl hc9 Tryz.underlying35 sizeS rfl) rfl ⟨?_, below_grown HB6.out hg9 (by omega) (by omega)⟩
  unfold dropE
  rw [if_pos (by exact HO.out)]
  simp only [HG.out]
  exact ⟨A6, _, c6, rfl, rfl, HO6.out.kept hg9 (.inr (HO6.out.ne HR6.out (by decide)).symm)⟩

set_option maxHeartbeats 2000000 in
set_option maxRecDepth 20000 in
theorem ren_any (A : Option Addr) (n c : Nat) (x : Int) (l : List Fd) (kd id wi : Int) (nm ot : ByteArray) (ty pa : Int) (sep : ByteArray) (w : World) (hn : n = l.length) (hs : Fds w w.heap.size A l) (hl0 : n ≤ 1000) (_hx0 : 0 ≤ x) (_hx1 : x ≤ 2305843009213693952) (_hsep : sep.size ≤ 9223372036854775807) :
  Calls Tryz.prog 96 #[.agg #[.slice A n c, .int .i64 x, .int .i64 kd, .int .i64 id, .int .i64 wi, .string nm, .string ot, .int .i64 ty, .int .i64 pa, .string sep]] w fun e w' => ResS w w' (renE ⟨l, x⟩ ⟨kd, id, wi, nm, ot, ty, pa, sep⟩) e ∧ Below w.heap.size w w' := by
 have HN := Li hn
 have HS := Li hs
 clear hn hs
 have hl : n ≤ 1000000 := by omega
 have hl2 : n ≤ 9223372036854775807 := by omega
 obtain ⟨g, hg⟩ : ∃ g, fieldD l id = g := ⟨_, rfl⟩
 obtain ⟨ok, hok⟩ : ∃ ok, hasF l id = ok := ⟨_, rfl⟩
 have HG := Li hg
 have HO := Li hok
 clear hg hok
 cases ok with
 | false =>
  go_enter Tryz.func96, Tryz.ntmps96
  go_wp2_with (first | (go_at_call 72; refine (Field_any _ n c x l id _ HN.out (HS.out.up (al2 w _ _)) hl2).mono ?_; rintro e w5 ⟨rfl, hb5⟩; rw [HG.out, HO.out]; have HB5 := Li ((al2 w _ _).trans (hb5.mono (al2 w _ _).size)); have HR5 := Li ((CB.new1 w (.cells #[.slice A n c, .int .i64 x, .int .i64 kd, .int .i64 id, .int .i64 wi, .string nm, .string ot, .int .i64 ty, .int .i64 pa, .string sep] 111) 35 [.slice none 0 0, .int .i64 0]).up hb5); have HE5 := Li (((CB.new w 111 [.slice A n c, .int .i64 x, .int .i64 kd, .int .i64 id, .int .i64 wi, .string nm, .string ot, .int .i64 ty, .int .i64 pa, .string sep]).alloc (.cells #[.slice none 0 0, .int .i64 0] 35)).up hb5); have hz5 : w.heap.size + 1 < w5.heap.size := HR5.out.lt; have hy5 : w.heap.size < w5.heap.size := HE5.out.lt; have e5_0 := HE5.out.c10; clear hb5) | ((with_reducible show wpList _ _ _ _ _ _); refine wpList_store_cb rfl 35 (.tmp 2) (.tmp 17) rfl (w.heap.size + 1) [.slice none 0 0, .int .i64 0] rfl rfl 35 [.slice none 0 0, .int .i64 0] 2 (HR5.out.alloc _) sizeS rfl rfl (one_s _ _ _ _) ?_; intro w9 hc9 hg9 hz9))
  refine bodyPost_ret (res_cell Tryz.results96 rfl rfl hc9 Tryz.underlying35 sizeS rfl) rfl ⟨?_, below_grown (HB5.out.alloc (by omega) _) hg9 (by rw [asz]; omega) (by omega)⟩
  unfold renE
  rw [if_neg (by simp only [HO.out]; decide)]
  exact res_zero _ _ _
 | true =>
  go_enter Tryz.func96, Tryz.ntmps96
  go_wp2_with (first | (go_at_call 72; refine (Field_any _ n c x l id _ HN.out (HS.out.up (al2 w _ _)) hl2).mono ?_; rintro e w5 ⟨rfl, hb5⟩; rw [HG.out, HO.out]; have HB5 := Li ((al2 w _ _).trans (hb5.mono (al2 w _ _).size)); have HR5 := Li ((CB.new1 w (.cells #[.slice A n c, .int .i64 x, .int .i64 kd, .int .i64 id, .int .i64 wi, .string nm, .string ot, .int .i64 ty, .int .i64 pa, .string sep] 111) 35 [.slice none 0 0, .int .i64 0]).up hb5); have HE5 := Li (((CB.new w 111 [.slice A n c, .int .i64 x, .int .i64 kd, .int .i64 id, .int .i64 wi, .string nm, .string ot, .int .i64 ty, .int .i64 pa, .string sep]).alloc (.cells #[.slice none 0 0, .int .i64 0] 35)).up hb5); have hz5 : w.heap.size + 1 < w5.heap.size := HR5.out.lt; have hy5 : w.heap.size < w5.heap.size := HE5.out.lt; have e5_0 := HE5.out.c10; clear hb5) | (go_at_call 109; refine (replacing_any _ n c x l ⟨g.id, nm, g.ty, g.pa⟩ _ HN.out (HS.out.up (HB5.out.alloc (by omega) _)) hl).mono ?_; rintro e w6 ⟨⟨A6, c6, rfl, ho6⟩, hb6⟩; have HB6 := Li (below_step (HB5.out.alloc (by omega) _) (by rw [asz]; omega) hb6); have HR6 := Li ((HR5.out.alloc _).up hb6); have HO6 := Li (ho6.low (b := w.heap.size) (by rw [asz]; omega)); have hz6 : w.heap.size + 1 < w6.heap.size := HR6.out.lt; clear ho6 hb6) | ((with_reducible show wpList _ _ _ _ _ _); refine wpList_store_cb rfl 35 (.tmp 2) (.tmp 25) rfl (w.heap.size + 1) [.slice A6 n c6, .int .i64 x] rfl rfl 35 [.slice none 0 0, .int .i64 0] 2 HR6.out sizeS rfl rfl (one_s _ _ _ _) ?_; intro w9 hc9 hg9 hz9))
  refine bodyPost_ret (res_cell Tryz.results96 rfl rfl hc9 Tryz.underlying35 sizeS rfl) rfl ⟨?_, below_grown HB6.out hg9 (by omega) (by omega)⟩
  unfold renE
  rw [if_pos (by exact HO.out)]
  simp only [HG.out]
  exact ⟨A6, n, c6, rfl, by rw [HN.out]; simp [putS, putF], HO6.out.kept hg9 (.inr (HO6.out.ne HR6.out (by decide)).symm)⟩

set_option maxHeartbeats 2000000 in
set_option maxRecDepth 20000 in
theorem mov_any (A : Option Addr) (n c : Nat) (x : Int) (l : List Fd) (kd id wi : Int) (nm ot : ByteArray) (ty pa : Int) (sep : ByteArray) (w : World) (hn : n = l.length) (hs : Fds w w.heap.size A l) (hl0 : n ≤ 1000) (_hx0 : 0 ≤ x) (_hx1 : x ≤ 2305843009213693952) (_hsep : sep.size ≤ 9223372036854775807) :
  Calls Tryz.prog 98 #[.agg #[.slice A n c, .int .i64 x, .int .i64 kd, .int .i64 id, .int .i64 wi, .string nm, .string ot, .int .i64 ty, .int .i64 pa, .string sep]] w fun e w' => ResS w w' (movE ⟨l, x⟩ ⟨kd, id, wi, nm, ot, ty, pa, sep⟩) e ∧ Below w.heap.size w w' := by
 have HN := Li hn
 have HS := Li hs
 clear hn hs
 have hl : n ≤ 1000000 := by omega
 have hl2 : n ≤ 9223372036854775807 := by omega
 obtain ⟨g, hg⟩ : ∃ g, fieldD l id = g := ⟨_, rfl⟩
 obtain ⟨ok, hok⟩ : ∃ ok, hasF l id = ok := ⟨_, rfl⟩
 have HG := Li hg
 have HO := Li hok
 clear hg hok
 cases ok with
 | false =>
  go_enter Tryz.func98, Tryz.ntmps98
  go_wp2_with (first | (go_at_call 72; refine (Field_any _ n c x l id _ HN.out (HS.out.up (al2 w _ _)) hl2).mono ?_; rintro e w5 ⟨rfl, hb5⟩; rw [HG.out, HO.out]; have HB5 := Li ((al2 w _ _).trans (hb5.mono (al2 w _ _).size)); have HR5 := Li ((CB.new1 w (.cells #[.slice A n c, .int .i64 x, .int .i64 kd, .int .i64 id, .int .i64 wi, .string nm, .string ot, .int .i64 ty, .int .i64 pa, .string sep] 111) 35 [.slice none 0 0, .int .i64 0]).up hb5); have HE5 := Li (((CB.new w 111 [.slice A n c, .int .i64 x, .int .i64 kd, .int .i64 id, .int .i64 wi, .string nm, .string ot, .int .i64 ty, .int .i64 pa, .string sep]).alloc (.cells #[.slice none 0 0, .int .i64 0] 35)).up hb5); have hz5 : w.heap.size + 1 < w5.heap.size := HR5.out.lt; have hy5 : w.heap.size < w5.heap.size := HE5.out.lt; have e5_0 := HE5.out.c10; clear hb5) | ((with_reducible show wpList _ _ _ _ _ _); refine wpList_store_cb rfl 35 (.tmp 2) (.tmp 17) rfl (w.heap.size + 1) [.slice none 0 0, .int .i64 0] rfl rfl 35 [.slice none 0 0, .int .i64 0] 2 (HR5.out.alloc _) sizeS rfl rfl (one_s _ _ _ _) ?_; intro w9 hc9 hg9 hz9))
  refine bodyPost_ret (res_cell Tryz.results98 rfl rfl hc9 Tryz.underlying35 sizeS rfl) rfl ⟨?_, below_grown (HB5.out.alloc (by omega) _) hg9 (by rw [asz]; omega) (by omega)⟩
  unfold movE
  rw [if_neg (by simp only [HO.out]; decide)]
  exact res_zero _ _ _
 | true =>
  go_enter Tryz.func98, Tryz.ntmps98
  go_wp2_with (first | (go_at_call 72; refine (Field_any _ n c x l id _ HN.out (HS.out.up (al2 w _ _)) hl2).mono ?_; rintro e w5 ⟨rfl, hb5⟩; rw [HG.out, HO.out]; have HB5 := Li ((al2 w _ _).trans (hb5.mono (al2 w _ _).size)); have HR5 := Li ((CB.new1 w (.cells #[.slice A n c, .int .i64 x, .int .i64 kd, .int .i64 id, .int .i64 wi, .string nm, .string ot, .int .i64 ty, .int .i64 pa, .string sep] 111) 35 [.slice none 0 0, .int .i64 0]).up hb5); have HE5 := Li (((CB.new w 111 [.slice A n c, .int .i64 x, .int .i64 kd, .int .i64 id, .int .i64 wi, .string nm, .string ot, .int .i64 ty, .int .i64 pa, .string sep]).alloc (.cells #[.slice none 0 0, .int .i64 0] 35)).up hb5); have hz5 : w.heap.size + 1 < w5.heap.size := HR5.out.lt; have hy5 : w.heap.size < w5.heap.size := HE5.out.lt; have e5_0 := HE5.out.c10; clear hb5) | (go_at_call 109; refine (replacing_any _ n c x l ⟨g.id, g.nm, g.ty, pa⟩ _ HN.out (HS.out.up (HB5.out.alloc (by omega) _)) hl).mono ?_; rintro e w6 ⟨⟨A6, c6, rfl, ho6⟩, hb6⟩; have HB6 := Li (below_step (HB5.out.alloc (by omega) _) (by rw [asz]; omega) hb6); have HR6 := Li ((HR5.out.alloc _).up hb6); have HO6 := Li (ho6.low (b := w.heap.size) (by rw [asz]; omega)); have hz6 : w.heap.size + 1 < w6.heap.size := HR6.out.lt; clear ho6 hb6) | ((with_reducible show wpList _ _ _ _ _ _); refine wpList_store_cb rfl 35 (.tmp 2) (.tmp 25) rfl (w.heap.size + 1) [.slice A6 n c6, .int .i64 x] rfl rfl 35 [.slice none 0 0, .int .i64 0] 2 HR6.out sizeS rfl rfl (one_s _ _ _ _) ?_; intro w9 hc9 hg9 hz9))
  refine bodyPost_ret (res_cell Tryz.results98 rfl rfl hc9 Tryz.underlying35 sizeS rfl) rfl ⟨?_, below_grown HB6.out hg9 (by omega) (by omega)⟩
  unfold movE
  rw [if_pos (by exact HO.out)]
  simp only [HG.out]
  exact ⟨A6, n, c6, rfl, by rw [HN.out]; simp [putS, putF], HO6.out.kept hg9 (.inr (HO6.out.ne HR6.out (by decide)).symm)⟩

set_option maxHeartbeats 2000000 in
set_option maxRecDepth 20000 in
theorem wid_any (A : Option Addr) (n c : Nat) (x : Int) (l : List Fd) (kd id wi : Int) (nm ot : ByteArray) (ty pa : Int) (sep : ByteArray) (w : World) (hn : n = l.length) (hs : Fds w w.heap.size A l) (hl0 : n ≤ 1000) (_hx0 : 0 ≤ x) (_hx1 : x ≤ 2305843009213693952) (_hsep : sep.size ≤ 9223372036854775807) :
  Calls Tryz.prog 97 #[.agg #[.slice A n c, .int .i64 x, .int .i64 kd, .int .i64 id, .int .i64 wi, .string nm, .string ot, .int .i64 ty, .int .i64 pa, .string sep]] w fun e w' => ResS w w' (widE ⟨l, x⟩ ⟨kd, id, wi, nm, ot, ty, pa, sep⟩) e ∧ Below w.heap.size w w' := by
 have HN := Li hn
 have HS := Li hs
 clear hn hs
 have hl : n ≤ 1000000 := by omega
 have hl2 : n ≤ 9223372036854775807 := by omega
 obtain ⟨g, hg⟩ : ∃ g, fieldD l id = g := ⟨_, rfl⟩
 obtain ⟨ok, hok⟩ : ∃ ok, hasF l id = ok := ⟨_, rfl⟩
 have HG := Li hg
 have HO := Li hok
 clear hg hok
 cases ok with
 | false =>
  go_enter Tryz.func97, Tryz.ntmps97
  go_wp2_with (first | (go_at_call 72; refine (Field_any _ n c x l id _ HN.out (HS.out.up (al2 w _ _)) hl2).mono ?_; rintro e w5 ⟨rfl, hb5⟩; rw [HG.out, HO.out]; have HB5 := Li ((al2 w _ _).trans (hb5.mono (al2 w _ _).size)); have HR5 := Li ((CB.new1 w (.cells #[.slice A n c, .int .i64 x, .int .i64 kd, .int .i64 id, .int .i64 wi, .string nm, .string ot, .int .i64 ty, .int .i64 pa, .string sep] 111) 35 [.slice none 0 0, .int .i64 0]).up hb5); have HE5 := Li (((CB.new w 111 [.slice A n c, .int .i64 x, .int .i64 kd, .int .i64 id, .int .i64 wi, .string nm, .string ot, .int .i64 ty, .int .i64 pa, .string sep]).alloc (.cells #[.slice none 0 0, .int .i64 0] 35)).up hb5); have hz5 : w.heap.size + 1 < w5.heap.size := HR5.out.lt; have hy5 : w.heap.size < w5.heap.size := HE5.out.lt; have e5_0 := HE5.out.c10; clear hb5) | ((with_reducible show wpList _ _ _ _ _ _); refine wpList_store_cb rfl 35 (.tmp 2) (.tmp 18) rfl (w.heap.size + 1) [.slice none 0 0, .int .i64 0] rfl rfl 35 [.slice none 0 0, .int .i64 0] 2 (HR5.out.alloc _) sizeS rfl rfl (one_s _ _ _ _) ?_; intro w9 hc9 hg9 hz9))
  refine bodyPost_ret (res_cell Tryz.results97 rfl rfl hc9 Tryz.underlying35 sizeS rfl) rfl ⟨?_, below_grown (HB5.out.alloc (by omega) _) hg9 (by rw [asz]; omega) (by omega)⟩
  unfold widE
  rw [if_neg (by simp only [HO.out]; decide)]
  exact res_zero _ _ _
 | true =>
  by_cases hy : g.ty = 2
  ·
   have y1 : (g.ty != 2) = false := by simpa using hy
   have HY := Li hy
   clear hy
   go_enter Tryz.func97, Tryz.ntmps97
   go_wp2_with (first | (go_at_call 72; refine (Field_any _ n c x l id _ HN.out (HS.out.up (al2 w _ _)) hl2).mono ?_; rintro e w5 ⟨rfl, hb5⟩; rw [HG.out, HO.out]; have HB5 := Li ((al2 w _ _).trans (hb5.mono (al2 w _ _).size)); have HR5 := Li ((CB.new1 w (.cells #[.slice A n c, .int .i64 x, .int .i64 kd, .int .i64 id, .int .i64 wi, .string nm, .string ot, .int .i64 ty, .int .i64 pa, .string sep] 111) 35 [.slice none 0 0, .int .i64 0]).up hb5); have HE5 := Li (((CB.new w 111 [.slice A n c, .int .i64 x, .int .i64 kd, .int .i64 id, .int .i64 wi, .string nm, .string ot, .int .i64 ty, .int .i64 pa, .string sep]).alloc (.cells #[.slice none 0 0, .int .i64 0] 35)).up hb5); have hz5 : w.heap.size + 1 < w5.heap.size := HR5.out.lt; have hy5 : w.heap.size < w5.heap.size := HE5.out.lt; have e5_0 := HE5.out.c10; clear hb5) | (go_at_call 109; refine (replacing_any _ n c x l ⟨g.id, g.nm, 3, g.pa⟩ _ HN.out (HS.out.up (HB5.out.alloc (by omega) _)) hl).mono ?_; rintro e w6 ⟨⟨A6, c6, rfl, ho6⟩, hb6⟩; have HB6 := Li (below_step (HB5.out.alloc (by omega) _) (by rw [asz]; omega) hb6); have HR6 := Li ((HR5.out.alloc _).up hb6); have HO6 := Li (ho6.low (b := w.heap.size) (by rw [asz]; omega)); have hz6 : w.heap.size + 1 < w6.heap.size := HR6.out.lt; clear ho6 hb6) | ((with_reducible show wpList _ _ _ _ _ _); refine wpList_store_cb rfl 35 (.tmp 2) (.tmp 28) rfl (w.heap.size + 1) [.slice A6 n c6, .int .i64 x] rfl rfl 35 [.slice none 0 0, .int .i64 0] 2 HR6.out sizeS rfl rfl (one_s _ _ _ _) ?_; intro w9 hc9 hg9 hz9))
   refine bodyPost_ret (res_cell Tryz.results97 rfl rfl hc9 Tryz.underlying35 sizeS rfl) rfl ⟨?_, below_grown HB6.out hg9 (by omega) (by omega)⟩
   unfold widE
   rw [if_pos (by exact HO.out)]
   rw [if_pos (by rw [HG.out]; exact HY.out)]
   simp only [HG.out]
   exact ⟨A6, n, c6, rfl, by rw [HN.out]; simp [putS, putF], HO6.out.kept hg9 (.inr (HO6.out.ne HR6.out (by decide)).symm)⟩
  ·
   have y1 : (g.ty != 2) = true := by simpa using hy
   have HY := Li hy
   clear hy
   go_enter Tryz.func97, Tryz.ntmps97
   go_wp2_with (first | (go_at_call 72; refine (Field_any _ n c x l id _ HN.out (HS.out.up (al2 w _ _)) hl2).mono ?_; rintro e w5 ⟨rfl, hb5⟩; rw [HG.out, HO.out]; have HB5 := Li ((al2 w _ _).trans (hb5.mono (al2 w _ _).size)); have HR5 := Li ((CB.new1 w (.cells #[.slice A n c, .int .i64 x, .int .i64 kd, .int .i64 id, .int .i64 wi, .string nm, .string ot, .int .i64 ty, .int .i64 pa, .string sep] 111) 35 [.slice none 0 0, .int .i64 0]).up hb5); have HE5 := Li (((CB.new w 111 [.slice A n c, .int .i64 x, .int .i64 kd, .int .i64 id, .int .i64 wi, .string nm, .string ot, .int .i64 ty, .int .i64 pa, .string sep]).alloc (.cells #[.slice none 0 0, .int .i64 0] 35)).up hb5); have hz5 : w.heap.size + 1 < w5.heap.size := HR5.out.lt; have hy5 : w.heap.size < w5.heap.size := HE5.out.lt; have e5_0 := HE5.out.c10; clear hb5) | ((with_reducible show wpList _ _ _ _ _ _); refine wpList_store_cb rfl 35 (.tmp 2) (.tmp 23) rfl (w.heap.size + 1) [.slice none 0 0, .int .i64 0] rfl rfl 35 [.slice none 0 0, .int .i64 0] 2 (HR5.out.alloc _) sizeS rfl rfl (one_s _ _ _ _) ?_; intro w9 hc9 hg9 hz9))
   refine bodyPost_ret (res_cell Tryz.results97 rfl rfl hc9 Tryz.underlying35 sizeS rfl) rfl ⟨?_, below_grown (HB5.out.alloc (by omega) _) hg9 (by rw [asz]; omega) (by omega)⟩
   unfold widE
   rw [if_pos (by exact HO.out), if_neg (by rw [HG.out]; exact HY.out)]
   exact res_zero _ _ _
end Go.Proofs.YtfeemipnalgjnaaGreat
