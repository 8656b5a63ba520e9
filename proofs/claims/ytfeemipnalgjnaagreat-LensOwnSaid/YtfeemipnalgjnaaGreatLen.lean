/-
 lensOf by a contract.
-/
import Derived.Test.YtfeemipnalgjnaaGreatHd
import Derived.Test.YtfeemipnalgjnaaGreatTrl
import Derived.Laws.EntriesVeiled
import Derived.Deep.CutRange
import Derived.Deep.DeepCutAuto
namespace Go.Proofs.YtfeemipnalgjnaaGreat
open Go.RowKit

def fwdK (s : Sc) (c : Ch) : Cl := if c.kind = 2 then .drop c.id else if c.kind = 6 then .div c.id s.next (s.next + 1) c.sep else if c.kind = 7 then .con false c.id c.wi s.next c.sep else .un
def bakK (s : Sc) (c : Ch) : Cl := if c.kind = 1 then .drop s.next else if c.kind = 4 then .nar c.id else if c.kind = 6 then .con true s.next (s.next + 1) c.id c.sep else if c.kind = 7 then .div s.next c.id c.wi c.sep else .un
/-- a lens, a schema and an error -/
def LensR (w w' : World) (s : Sc) (c : Ch) (e : Ending) : Prop := ∃ (A' : Option Addr) (m' c' : Nat) (fv bv : Value), e = .returned (.tuple #[.agg #[fv, bv], .agg #[.slice A' m' c', .int .i64 (applyP s c).1.next], .int .i64 (applyP s c).2]) ∧ m' = (applyP s c).1.fs.length ∧ Own 58 4 w' w.heap.size (.slice A' m' c') ((applyP s c).1.fs.map Fd.cells) ∧
 (if (applyP s c).2 = 0 then Cl.At w' fv (fwdK s c) ∧ Cl.At w' bv (bakK s c) else fv = .nilFunc ∧ bv = .nilFunc)
theorem cb_new3 (w : World) (o o' o'' : Obj) (t : TypeId) (l : List Value) : CB ((((w.alloc o).alloc o').alloc o'').alloc (.cells l.toArray t)) (w.heap.size + 1 + 1 + 1) t l := by
 have := CB.new (((w.alloc o).alloc o').alloc o'') t l
 rwa [asz, asz, asz] at this
theorem cl_cast {w : World} {v : Value} {k k' : Cl} (e : k = k') (h : Cl.At w v k') : Cl.At w v k := e ▸ h
theorem one_fn (f b : Value) (hf : f.oneCell' = true) (hb : b.oneCell' = true) : ∀ u ∈ [f, b], u.oneCell' = true := by
 intro u hu
 simp only [List.mem_cons, List.not_mem_nil, or_false] at hu
 rcases hu with rfl | rfl
 ·
  exact hf
 ·
  exact hb
theorem cb_at (W : World) (N : Nat) (hN : N = W.heap.size) (t : TypeId) (l : List Value) : CB (W.alloc (.cells l.toArray t)) N t l := by
 subst hN
 exact CB.new _ _ _
theorem al_up2 {w W : World} (h : Below w.heap.size w W) (o : Obj) : Below w.heap.size w (W.alloc o) := h.alloc h.size o
theorem alx2 (w : World) (t0 : TypeId) (l0 : List Value) (t1 : TypeId) (l1 : List Value) : Hid (CB ((w.alloc (.cells l0.toArray t0)).alloc (.cells l1.toArray t1)) (w.heap.size) t0 l0) ∧ Hid (CB ((w.alloc (.cells l0.toArray t0)).alloc (.cells l1.toArray t1)) (w.heap.size + 1) t1 l1) ∧ Below w.heap.size w ((w.alloc (.cells l0.toArray t0)).alloc (.cells l1.toArray t1)) :=
 ⟨Li ((cb_at w (w.heap.size) (by simp) t0 l0).alloc _), Li (cb_at (w.alloc (.cells l0.toArray t0)) (w.heap.size + 1) (by simp) t1 l1), al_up2 (al_up2 (Below.refl _ _) _) _⟩
theorem alx3 (w : World) (t0 : TypeId) (l0 : List Value) (t1 : TypeId) (l1 : List Value) (t2 : TypeId) (l2 : List Value) : Hid (CB (((w.alloc (.cells l0.toArray t0)).alloc (.cells l1.toArray t1)).alloc (.cells l2.toArray t2)) (w.heap.size) t0 l0) ∧ Hid (CB (((w.alloc (.cells l0.toArray t0)).alloc (.cells l1.toArray t1)).alloc (.cells l2.toArray t2)) (w.heap.size + 1) t1 l1) ∧ Hid (CB (((w.alloc (.cells l0.toArray t0)).alloc (.cells l1.toArray t1)).alloc (.cells l2.toArray t2)) (w.heap.size + 1 + 1) t2 l2) ∧ Below w.heap.size w (((w.alloc (.cells l0.toArray t0)).alloc (.cells l1.toArray t1)).alloc (.cells l2.toArray t2)) :=
 ⟨Li (((cb_at w (w.heap.size) (by simp) t0 l0).alloc _).alloc _), Li ((cb_at (w.alloc (.cells l0.toArray t0)) (w.heap.size + 1) (by simp) t1 l1).alloc _), Li (cb_at ((w.alloc (.cells l0.toArray t0)).alloc (.cells l1.toArray t1)) (w.heap.size + 1 + 1) (by simp) t2 l2), al_up2 (al_up2 (al_up2 (Below.refl _ _) _) _) _⟩
theorem alx9 (w : World) (t0 : TypeId) (l0 : List Value) (t1 : TypeId) (l1 : List Value) (t2 : TypeId) (l2 : List Value) (t3 : TypeId) (l3 : List Value) (t4 : TypeId) (l4 : List Value) (t5 : TypeId) (l5 : List Value) (t6 : TypeId) (l6 : List Value) (t7 : TypeId) (l7 : List Value) (t8 : TypeId) (l8 : List Value) : Hid (CB (((((((((w.alloc (.cells l0.toArray t0)).alloc (.cells l1.toArray t1)).alloc (.cells l2.toArray t2)).alloc (.cells l3.toArray t3)).alloc (.cells l4.toArray t4)).alloc (.cells l5.toArray t5)).alloc (.cells l6.toArray t6)).alloc (.cells l7.toArray t7)).alloc (.cells l8.toArray t8)) (w.heap.size) t0 l0) ∧ Hid (CB (((((((((w.alloc (.cells l0.toArray t0)).alloc (.cells l1.toArray t1)).alloc (.cells l2.toArray t2)).alloc (.cells l3.toArray t3)).alloc (.cells l4.toArray t4)).alloc (.cells l5.toArray t5)).alloc (.cells l6.toArray t6)).alloc (.cells l7.toArray t7)).alloc (.cells l8.toArray t8)) (w.heap.size + 1) t1 l1) ∧ Hid (CB (((((((((w.alloc (.cells l0.toArray t0)).alloc (.cells l1.toArray t1)).alloc (.cells l2.toArray t2)).alloc (.cells l3.toArray t3)).alloc (.cells l4.toArray t4)).alloc (.cells l5.toArray t5)).alloc (.cells l6.toArray t6)).alloc (.cells l7.toArray t7)).alloc (.cells l8.toArray t8)) (w.heap.size + 1 + 1) t2 l2) ∧ Hid (CB (((((((((w.alloc (.cells l0.toArray t0)).alloc (.cells l1.toArray t1)).alloc (.cells l2.toArray t2)).alloc (.cells l3.toArray t3)).alloc (.cells l4.toArray t4)).alloc (.cells l5.toArray t5)).alloc (.cells l6.toArray t6)).alloc (.cells l7.toArray t7)).alloc (.cells l8.toArray t8)) (w.heap.size + 1 + 1 + 1) t3 l3) ∧ Hid (CB (((((((((w.alloc (.cells l0.toArray t0)).alloc (.cells l1.toArray t1)).alloc (.cells l2.toArray t2)).alloc (.cells l3.toArray t3)).alloc (.cells l4.toArray t4)).alloc (.cells l5.toArray t5)).alloc (.cells l6.toArray t6)).alloc (.cells l7.toArray t7)).alloc (.cells l8.toArray t8)) (w.heap.size + 1 + 1 + 1 + 1) t4 l4) ∧ Hid (CB (((((((((w.alloc (.cells l0.toArray t0)).alloc (.cells l1.toArray t1)).alloc (.cells l2.toArray t2)).alloc (.cells l3.toArray t3)).alloc (.cells l4.toArray t4)).alloc (.cells l5.toArray t5)).alloc (.cells l6.toArray t6)).alloc (.cells l7.toArray t7)).alloc (.cells l8.toArray t8)) (w.heap.size + 1 + 1 + 1 + 1 + 1) t5 l5) ∧ Hid (CB (((((((((w.alloc (.cells l0.toArray t0)).alloc (.cells l1.toArray t1)).alloc (.cells l2.toArray t2)).alloc (.cells l3.toArray t3)).alloc (.cells l4.toArray t4)).alloc (.cells l5.toArray t5)).alloc (.cells l6.toArray t6)).alloc (.cells l7.toArray t7)).alloc (.cells l8.toArray t8)) (w.heap.size + 1 + 1 + 1 + 1 + 1 + 1) t6 l6) ∧ Hid (CB (((((((((w.alloc (.cells l0.toArray t0)).alloc (.cells l1.toArray t1)).alloc (.cells l2.toArray t2)).alloc (.cells l3.toArray t3)).alloc (.cells l4.toArray t4)).alloc (.cells l5.toArray t5)).alloc (.cells l6.toArray t6)).alloc (.cells l7.toArray t7)).alloc (.cells l8.toArray t8)) (w.heap.size + 1 + 1 + 1 + 1 + 1 + 1 + 1) t7 l7) ∧ Hid (CB (((((((((w.alloc (.cells l0.toArray t0)).alloc (.cells l1.toArray t1)).alloc (.cells l2.toArray t2)).alloc (.cells l3.toArray t3)).alloc (.cells l4.toArray t4)).alloc (.cells l5.toArray t5)).alloc (.cells l6.toArray t6)).alloc (.cells l7.toArray t7)).alloc (.cells l8.toArray t8)) (w.heap.size + 1 + 1 + 1 + 1 + 1 + 1 + 1 + 1) t8 l8) ∧ Below w.heap.size w (((((((((w.alloc (.cells l0.toArray t0)).alloc (.cells l1.toArray t1)).alloc (.cells l2.toArray t2)).alloc (.cells l3.toArray t3)).alloc (.cells l4.toArray t4)).alloc (.cells l5.toArray t5)).alloc (.cells l6.toArray t6)).alloc (.cells l7.toArray t7)).alloc (.cells l8.toArray t8)) :=
 ⟨Li (((((((((cb_at w (w.heap.size) (by simp) t0 l0).alloc _).alloc _).alloc _).alloc _).alloc _).alloc _).alloc _).alloc _), Li ((((((((cb_at (w.alloc (.cells l0.toArray t0)) (w.heap.size + 1) (by simp) t1 l1).alloc _).alloc _).alloc _).alloc _).alloc _).alloc _).alloc _), Li (((((((cb_at ((w.alloc (.cells l0.toArray t0)).alloc (.cells l1.toArray t1)) (w.heap.size + 1 + 1) (by simp) t2 l2).alloc _).alloc _).alloc _).alloc _).alloc _).alloc _), Li ((((((cb_at (((w.alloc (.cells l0.toArray t0)).alloc (.cells l1.toArray t1)).alloc (.cells l2.toArray t2)) (w.heap.size + 1 + 1 + 1) (by simp) t3 l3).alloc _).alloc _).alloc _).alloc _).alloc _), Li (((((cb_at ((((w.alloc (.cells l0.toArray t0)).alloc (.cells l1.toArray t1)).alloc (.cells l2.toArray t2)).alloc (.cells l3.toArray t3)) (w.heap.size + 1 + 1 + 1 + 1) (by simp) t4 l4).alloc _).alloc _).alloc _).alloc _), Li ((((cb_at (((((w.alloc (.cells l0.toArray t0)).alloc (.cells l1.toArray t1)).alloc (.cells l2.toArray t2)).alloc (.cells l3.toArray t3)).alloc (.cells l4.toArray t4)) (w.heap.size + 1 + 1 + 1 + 1 + 1) (by simp) t5 l5).alloc _).alloc _).alloc _), Li (((cb_at ((((((w.alloc (.cells l0.toArray t0)).alloc (.cells l1.toArray t1)).alloc (.cells l2.toArray t2)).alloc (.cells l3.toArray t3)).alloc (.cells l4.toArray t4)).alloc (.cells l5.toArray t5)) (w.heap.size + 1 + 1 + 1 + 1 + 1 + 1) (by simp) t6 l6).alloc _).alloc _), Li ((cb_at (((((((w.alloc (.cells l0.toArray t0)).alloc (.cells l1.toArray t1)).alloc (.cells l2.toArray t2)).alloc (.cells l3.toArray t3)).alloc (.cells l4.toArray t4)).alloc (.cells l5.toArray t5)).alloc (.cells l6.toArray t6)) (w.heap.size + 1 + 1 + 1 + 1 + 1 + 1 + 1) (by simp) t7 l7).alloc _), Li (cb_at ((((((((w.alloc (.cells l0.toArray t0)).alloc (.cells l1.toArray t1)).alloc (.cells l2.toArray t2)).alloc (.cells l3.toArray t3)).alloc (.cells l4.toArray t4)).alloc (.cells l5.toArray t5)).alloc (.cells l6.toArray t6)).alloc (.cells l7.toArray t7)) (w.heap.size + 1 + 1 + 1 + 1 + 1 + 1 + 1 + 1) (by simp) t8 l8), al_up2 (al_up2 (al_up2 (al_up2 (al_up2 (al_up2 (al_up2 (al_up2 (al_up2 (Below.refl _ _) _) _) _) _) _) _) _) _) _⟩
theorem sizeLe : (Tryz.prog.info? 73).map (·.size) = some 2 := by kernel_rfl
/-- three results, two of them in blocks -/
theorem res_cells3 {fn : Func} {p u v : Tmp} {ty ty' T T' : TypeId} {tmps : Array Value} {P : Program} {w : World} {g g' : Nat} {l l' : List Value} {fs fs' : Array Go.Field} {n n' : Nat} {y : Value} (h : fn.results = #[.cell p ty, .cell u ty', .tmp v]) (hp : tmps.getD p undef = .pointer (some ⟨g, 0, none⟩)) (hx : tmps.getD u undef = .pointer (some ⟨g', 0, none⟩)) (hy : tmps.getD v undef = y)
  (hg : CB w g T l) (hg' : CB w g' T' l') (hu : P.underlying ty = some (.struct fs)) (hi : (P.info? ty).map (·.size) = some n) (hl : l.length = n) (hu' : P.underlying ty' = some (.struct fs')) (hi' : (P.info? ty').map (·.size) = some n') (hl' : l'.length = n') :
  (results fn tmps).run P w = .ok (.tuple #[.agg l.toArray, .agg l'.toArray, y]) w := by
 rw [Array.getD_eq_getD_getElem?] at hp hx hy
 simp only [results, h]
 simp [hp, hx, hy, asAddr, run_loadVar_row _ _ _ _ _ (0, 0) _ hg hu rfl (by rw [hi]; simp [hl]), run_loadVar_row _ _ _ _ _ (0, 0) _ hg' hu' rfl (by rw [hi']; simp [hl'])]

set_option maxHeartbeats 8000000 in
set_option maxRecDepth 20000 in
theorem lensOf_e (A : Option Addr) (n c : Nat) (x : Int) (l : List Fd) (kd : Int) (id wi : Int) (nm ot : ByteArray) (ty pa : Int) (sep : ByteArray) (w : World) (hn : n = l.length) (hs : Fds w w.heap.size A l) (ho : Ok ⟨l, x⟩) (hcw : CW ⟨kd, id, wi, nm, ot, ty, pa, sep⟩) (he : (applyP ⟨l, x⟩ ⟨kd, id, wi, nm, ot, ty, pa, sep⟩).2 ≠ 0) :
  Calls Tryz.prog 37 #[.agg #[.slice A n c, .int .i64 x], .agg #[.int .i64 kd, .int .i64 id, .int .i64 wi, .string nm, .string ot, .int .i64 ty, .int .i64 pa, .string sep]] w fun e w' => LensR w w' ⟨l, x⟩ ⟨kd, id, wi, nm, ot, ty, pa, sep⟩ e ∧ Below w.heap.size w w' := by
 obtain ⟨er, her⟩ : ∃ er, (applyP ⟨l, x⟩ ⟨kd, id, wi, nm, ot, ty, pa, sep⟩).2 = er := ⟨_, rfl⟩
 have hap : applyP ⟨l, x⟩ ⟨kd, id, wi, nm, ot, ty, pa, sep⟩ = (Sc.zero, er) := Prod.ext (err_apply he) her
 rw [her] at he
 unfold LensR
 rw [hap]
 have HAP := Li hap
 clear hap her
 have HN := Li hn
 have HS := Li hs
 have hl1 : n ≤ 1000 := by have := ho.big.1; simp only at this; omega
 have hx0 : 0 ≤ x := by have := ho.nx; simp only at this; omega
 have hx1 : x ≤ 1073741824 := ho.big.2
 have HNL : Hid (AllN (fun s => s.size ≤ 9223372036854775807) l) := fun f hf => nam_small (ho.nam.1 f hf)
 have HCW := Li hcw
 have S0 := Li ((((CB.new w 35 [.slice A n c, .int .i64 x]).alloc (.cells #[.int .i64 kd, .int .i64 id, .int .i64 wi, .string nm, .string ot, .int .i64 ty, .int .i64 pa, .string sep] 24)).alloc (.cells #[.nilFunc, .nilFunc] 73)).alloc (.cells #[.slice none 0 0, .int .i64 0] 35))
 have C0 := Li (((CB.new1 w (.cells #[.slice A n c, .int .i64 x] 35) 24 [.int .i64 kd, .int .i64 id, .int .i64 wi, .string nm, .string ot, .int .i64 ty, .int .i64 pa, .string sep]).alloc (.cells #[.nilFunc, .nilFunc] 73)).alloc (.cells #[.slice none 0 0, .int .i64 0] 35))
 have L0 := Li ((CB.new2 w (.cells #[.slice A n c, .int .i64 x] 35) (.cells #[.int .i64 kd, .int .i64 id, .int .i64 wi, .string nm, .string ot, .int .i64 ty, .int .i64 pa, .string sep] 24) 73 [.nilFunc, .nilFunc]).alloc (.cells #[.slice none 0 0, .int .i64 0] 35))
 have Z0 := Li (cb_new3 w (.cells #[.slice A n c, .int .i64 x] 35) (.cells #[.int .i64 kd, .int .i64 id, .int .i64 wi, .string nm, .string ot, .int .i64 ty, .int .i64 pa, .string sep] 24) (.cells #[.nilFunc, .nilFunc] 73) 35 [.slice none 0 0, .int .i64 0])
 have B0 := Li (al4 w (.cells #[.slice A n c, .int .i64 x] 35) (.cells #[.int .i64 kd, .int .i64 id, .int .i64 wi, .string nm, .string ot, .int .i64 ty, .int .i64 pa, .string sep] 24) (.cells #[.nilFunc, .nilFunc] 73) (.cells #[.slice none 0 0, .int .i64 0] 35))
 clear hn hs ho hcw
 have i0 : ¬ er = 0 := he
 have i1 : (er != 0) = true := by simpa using he
 go_enter Tryz.func37, Tryz.ntmps37
 go_wp2_with (go_at_call 61; go_loud (refine (Apply_any A n c x l kd id wi nm ot ty pa sep _ HN.out (HS.out.up B0.out) hl1 hx0 (by omega) HCW.out.2.2.2 HNL.out HCW.out.2.1 HCW.out.2.2.1 HCW.out.1).mono ?_; rintro e w1 ⟨⟨A1, m1, c1, rfl, hm1, ho1⟩, hb1⟩; rw [HAP.out] at hm1 ho1; rw [HAP.out]; have HM1 := Li hm1; have O1 := Li (ho1.low (b := w.heap.size) B0.out.size); have B1 := Li (below_step B0.out B0.out.size hb1); have S1 := Li (S0.out.up hb1); have C1 := Li (C0.out.up hb1); have L1 := Li (L0.out.up hb1); have Z1 := Li (Z0.out.up hb1); clear hb1 ho1 hm1; have zL := L1.out.lt; have zZ := Z1.out.lt; have a0 := L1.out.c2; have f0 := L1.out.frozen 0; have f1 := L1.out.frozen 1; have b0 := Z1.out.c2; have g0 := Z1.out.frozen 0; have g1 := Z1.out.frozen 1))
 have h1 : CB ((((w1.setCell ⟨w.heap.size + 1 + 1, 0, none⟩ .nilFunc).setCell ⟨w.heap.size + 1 + 1, 1, none⟩ .nilFunc).setCell ⟨w.heap.size + 1 + 1 + 1, 0, none⟩ (.slice none 0 0)).setCell ⟨w.heap.size + 1 + 1 + 1, 1, none⟩ (.int .i64 0)) (w.heap.size + 1 + 1) 73 [.nilFunc, .nilFunc] := ((((L1.out.set_ 0 .nilFunc).set_ 1 .nilFunc).grown (row := some (w.heap.size + 1 + 1 + 1)) (grown_set _ _ _ _) (by intro h; injection h with h; omega)).grown (row := some (w.heap.size + 1 + 1 + 1)) (grown_set _ _ _ _) (by intro h; injection h with h; omega))
 have h2 : CB ((((w1.setCell ⟨w.heap.size + 1 + 1, 0, none⟩ .nilFunc).setCell ⟨w.heap.size + 1 + 1, 1, none⟩ .nilFunc).setCell ⟨w.heap.size + 1 + 1 + 1, 0, none⟩ (.slice none 0 0)).setCell ⟨w.heap.size + 1 + 1 + 1, 1, none⟩ (.int .i64 0)) (w.heap.size + 1 + 1 + 1) 35 [.slice none 0 0, .int .i64 0] := ((((Z1.out.grown (row := some (w.heap.size + 1 + 1)) (grown_set _ _ _ _) (by intro h; injection h with h; omega)).grown (row := some (w.heap.size + 1 + 1)) (grown_set _ _ _ _) (by intro h; injection h with h; omega)).set_ 0 (.slice none 0 0)).set_ 1 (.int .i64 0))
 have h3 : Below w.heap.size w ((((w1.setCell ⟨w.heap.size + 1 + 1, 0, none⟩ .nilFunc).setCell ⟨w.heap.size + 1 + 1, 1, none⟩ .nilFunc).setCell ⟨w.heap.size + 1 + 1 + 1, 0, none⟩ (.slice none 0 0)).setCell ⟨w.heap.size + 1 + 1 + 1, 1, none⟩ (.int .i64 0)) := (((B1.out.setCell (p := ⟨w.heap.size + 1 + 1, 0, none⟩) (by show w.heap.size ≤ w.heap.size + 1 + 1; omega) _).setCell (p := ⟨w.heap.size + 1 + 1, 1, none⟩) (by show w.heap.size ≤ w.heap.size + 1 + 1; omega) _).setCell (p := ⟨w.heap.size + 1 + 1 + 1, 0, none⟩) (by show w.heap.size ≤ w.heap.size + 1 + 1 + 1; omega) _).setCell (p := ⟨w.heap.size + 1 + 1 + 1, 1, none⟩) (by show w.heap.size ≤ w.heap.size + 1 + 1 + 1; omega) _
 refine bodyPost_ret (res_cells3 Tryz.results37 rfl rfl rfl (h1.alloc _) (h2.alloc _) Tryz.underlying73 sizeLe rfl Tryz.underlying35 sizeS rfl) rfl ⟨⟨none, 0, 0, .nilFunc, .nilFunc, rfl, rfl, Own.nil _ _ _ _, ?_⟩, h3.alloc h3.size _⟩
 try rw [if_neg i0]
 exact ⟨rfl, rfl⟩

set_option maxHeartbeats 8000000 in
set_option maxRecDepth 20000 in
theorem lensOf_1 (A : Option Addr) (n c : Nat) (x : Int) (l : List Fd) (id wi : Int) (nm ot : ByteArray) (ty pa : Int) (sep : ByteArray) (w : World) (hn : n = l.length) (hs : Fds w w.heap.size A l) (ho : Ok ⟨l, x⟩) (hcw : CW ⟨1, id, wi, nm, ot, ty, pa, sep⟩) (t : Sc) (hap : applyP ⟨l, x⟩ ⟨1, id, wi, nm, ot, ty, pa, sep⟩ = (t, 0)) :
  Calls Tryz.prog 37 #[.agg #[.slice A n c, .int .i64 x], .agg #[.int .i64 1, .int .i64 id, .int .i64 wi, .string nm, .string ot, .int .i64 ty, .int .i64 pa, .string sep]] w fun e w' => LensR w w' ⟨l, x⟩ ⟨1, id, wi, nm, ot, ty, pa, sep⟩ e ∧ Below w.heap.size w w' := by
 unfold LensR
 rw [hap]
 have HAP := Li hap
 clear hap
 have HN := Li hn
 have HS := Li hs
 have hl1 : n ≤ 1000 := by have := ho.big.1; simp only at this; omega
 have hx0 : 0 ≤ x := by have := ho.nx; simp only at this; omega
 have hx1 : x ≤ 1073741824 := ho.big.2
 have HNL : Hid (AllN (fun s => s.size ≤ 9223372036854775807) l) := fun f hf => nam_small (ho.nam.1 f hf)
 have HCW := Li hcw
 have S0 := Li ((((CB.new w 35 [.slice A n c, .int .i64 x]).alloc (.cells #[.int .i64 1, .int .i64 id, .int .i64 wi, .string nm, .string ot, .int .i64 ty, .int .i64 pa, .string sep] 24)).alloc (.cells #[.nilFunc, .nilFunc] 73)).alloc (.cells #[.slice none 0 0, .int .i64 0] 35))
 have C0 := Li (((CB.new1 w (.cells #[.slice A n c, .int .i64 x] 35) 24 [.int .i64 1, .int .i64 id, .int .i64 wi, .string nm, .string ot, .int .i64 ty, .int .i64 pa, .string sep]).alloc (.cells #[.nilFunc, .nilFunc] 73)).alloc (.cells #[.slice none 0 0, .int .i64 0] 35))
 have L0 := Li ((CB.new2 w (.cells #[.slice A n c, .int .i64 x] 35) (.cells #[.int .i64 1, .int .i64 id, .int .i64 wi, .string nm, .string ot, .int .i64 ty, .int .i64 pa, .string sep] 24) 73 [.nilFunc, .nilFunc]).alloc (.cells #[.slice none 0 0, .int .i64 0] 35))
 have Z0 := Li (cb_new3 w (.cells #[.slice A n c, .int .i64 x] 35) (.cells #[.int .i64 1, .int .i64 id, .int .i64 wi, .string nm, .string ot, .int .i64 ty, .int .i64 pa, .string sep] 24) (.cells #[.nilFunc, .nilFunc] 73) 35 [.slice none 0 0, .int .i64 0])
 have B0 := Li (al4 w (.cells #[.slice A n c, .int .i64 x] 35) (.cells #[.int .i64 1, .int .i64 id, .int .i64 wi, .string nm, .string ot, .int .i64 ty, .int .i64 pa, .string sep] 24) (.cells #[.nilFunc, .nilFunc] 73) (.cells #[.slice none 0 0, .int .i64 0] 35))
 clear hn hs ho hcw
 go_enter Tryz.func37, Tryz.ntmps37
 go_upto_region 20 with (first | (go_at_call 61; go_loud (refine (Apply_any A n c x l 1 id wi nm ot ty pa sep _ HN.out (HS.out.up B0.out) hl1 hx0 (by omega) HCW.out.2.2.2 HNL.out HCW.out.2.1 HCW.out.2.2.1 HCW.out.1).mono ?_; rintro e w1 ⟨⟨A1, m1, c1, rfl, hm1, ho1⟩, hb1⟩; rw [HAP.out] at hm1 ho1; rw [HAP.out]; have HM1 := Li hm1; have O1 := Li (ho1.low (b := w.heap.size) B0.out.size); have B1 := Li (below_step B0.out B0.out.size hb1); have S1 := Li (S0.out.up hb1); have C1 := Li (C0.out.up hb1); have L1 := Li (L0.out.up hb1); have Z1 := Li (Z0.out.up hb1); clear hb1 ho1 hm1; have zL := L1.out.lt; have zZ := Z1.out.lt; have zS := S1.out.lt; have zC := C1.out.lt; have c0 := C1.out.cell 0 rfl; have cc1 := C1.out.cell 1 rfl; have c2 := C1.out.cell 2 rfl; have c7 := C1.out.cell 7 rfl; have s1 := S1.out.cell 1 rfl)) | (go_at_call 63; refine (dropping_any _ _).mono ?_; rintro e w2 ⟨rfl, rfl⟩) | (go_at_call 64; refine (narrowing_any _ _).mono ?_; rintro e w2 ⟨rfl, rfl⟩) | (go_at_call 65; refine (dividing_any _ _ _ _ _).mono ?_; rintro e w2 ⟨rfl, rfl⟩) | (go_at_call 66; refine (connecting_any _ _ _ _ _ _).mono ?_; rintro e w2 ⟨rfl, rfl⟩))
 obtain ⟨N7, N9, K2, hal⟩ := alx3 w1 35 [.slice A1 m1 c1, .int .i64 t.next] 73 [(.func (.func 62) #[] #[]), (.func (.func 84) #[] #[.pointer (some ⟨w1.heap.size + 1 + 1, 0, none⟩)])] 3 [.int .i64 x]
 have L1 := Li (L1.out.up hal)
 have Z1 := Li (Z1.out.up hal)
 have C1 := Li (C1.out.up hal)
 have O1 := Li (O1.out.up hal)
 have BB := Li (below_step B1.out B1.out.size hal)
 clear hal B1 B0 S1 S0 L0 Z0 C0 zL zS c0 cc1 c2 c7 s1
 generalize (((w1.alloc (.cells #[.slice A1 m1 c1, .int .i64 t.next] 35)).alloc (.cells #[(.func (.func 62) #[] #[]), (.func (.func 84) #[] #[.pointer (some ⟨w1.heap.size + 1 + 1, 0, none⟩)])] 73)).alloc (.cells #[.int .i64 x] 3)) = W0 at *
 have N9 := Li N9.out.dr
 have N7 := Li N7.out.dr
 have L1 := Li L1.out.dr
 have Z1 := Li Z1.out.dr
 have C1 := Li C1.out.dr
 have K2 := Li K2.out.dr
 have O1 := Li O1.out.dr
 have BB := Li BB.out.drew
 refine wp_region_held_drew (S := fun w' => Hid (CB w' (w1.heap.size + 1) 73 [(.func (.func 62) #[] #[]), (.func (.func 84) #[] #[.pointer (some ⟨w1.heap.size + 1 + 1, 0, none⟩)])] ∧ CB w' (w1.heap.size) 35 [.slice A1 m1 c1, .int .i64 t.next])) (by kernel_rfl) (Li ⟨N9.out, N7.out⟩) (fun hHeld => ?_)
 revert hHeld N9 N7 L1 Z1 C1 K2 O1 BB
 generalize W0.drew = X0
 intro N9 N7 L1 Z1 C1 K2 O1 BB hHeld
 refine htf 0 (fun _ h => And.intro (h.out.1.c2) (And.intro (h.out.1.lt) (And.intro (h.out.2.c2) (h.out.2.lt)))) ?_
 refine htf 1 (fun _ h => And.intro (h.out.1.c2) (And.intro (h.out.1.lt) (And.intro (h.out.2.c2) (h.out.2.lt)))) ?_
 refine rd1 2 fun KK hK => ?_
 refine step_store_cb rfl 73 (.tmp 4) (.tmp 85) rfl (w.heap.size + 1 + 1) [(.func (.func 62) #[] #[]), (.func (.func 84) #[] #[.pointer (some ⟨w1.heap.size + 1 + 1, 0, none⟩)])] rfl rfl 73 [.nilFunc, .nilFunc] 2 L1.out sizeLe rfl rfl (one_fn _ _ (by rfl) (by rfl)) ?_
 intro s2 hc2 hg2 hz2
 have N9 := Li (N9.out.grown hg2 (by intro h; injection h with h; omega))
 have N7 := Li (N7.out.grown hg2 (by intro h; injection h with h; omega))
 have Z1 := Li (Z1.out.grown hg2 (by intro h; injection h with h; omega))
 have C1 := Li (C1.out.grown hg2 (by intro h; injection h with h; omega))
 have K2 := Li (K2.out.grown hg2 (by intro h; injection h with h; omega))
 have O1 := Li (O1.out.kept hg2 (.inr (O1.out.ne L1.out (by decide)).symm))
 have L1 := Li hc2
 have BB := Li (below_grown BB.out hg2 BB.out.size (by omega))
 refine hK.out _ _ (Li ⟨N9.out, N7.out⟩) (fun hHeld => ?_)
 clear hK KK
 try simp only [pnz]
 refine rd1 3 fun KK hK => ?_
 refine step_store_cb rfl 35 (.tmp 5) (.tmp 86) rfl (w.heap.size + 1 + 1 + 1) [.slice A1 m1 c1, .int .i64 t.next] rfl rfl 35 [.slice none 0 0, .int .i64 0] 2 Z1.out sizeS rfl rfl (one_s _ _ _ _) ?_
 intro s3 hc3 hg3 hz3
 have N9 := Li (N9.out.grown hg3 (by intro h; injection h with h; omega))
 have N7 := Li (N7.out.grown hg3 (by intro h; injection h with h; omega))
 have L1 := Li (L1.out.grown hg3 (by intro h; injection h with h; omega))
 have C1 := Li (C1.out.grown hg3 (by intro h; injection h with h; omega))
 have K2 := Li (K2.out.grown hg3 (by intro h; injection h with h; omega))
 have O1 := Li (O1.out.kept hg3 (.inr (O1.out.ne Z1.out (by decide)).symm))
 have Z1 := Li hc3
 have BB := Li (below_grown BB.out hg3 BB.out.size (by omega))
 refine hK.out _ _ (Li ⟨N9.out, N7.out⟩) (fun hHeld => ?_)
 clear hK KK
 try simp only [pnz]
 refine htk 4 ?_
 refine wpAnyH_done (by kernel_rfl) ?_ _
 go_wp2_with fail
 refine bodyPost_ret (res_cells3 Tryz.results37 rfl rfl rfl L1.out Z1.out Tryz.underlying73 sizeLe rfl Tryz.underlying35 sizeS rfl) rfl ⟨⟨A1, m1, c1, _, _, rfl, HM1.out, O1.out, ?_⟩, BB.out⟩
 try rw [if_pos rfl]
 exact ⟨cl_cast (by simp [fwdK]) (show Cl.At _ _ (.un) from rfl), cl_cast (by simp [bakK]) (show Cl.At _ _ (.drop x) from ⟨_, rfl, K2.out⟩)⟩

set_option maxHeartbeats 8000000 in
set_option maxRecDepth 20000 in
theorem lensOf_2 (A : Option Addr) (n c : Nat) (x : Int) (l : List Fd) (id wi : Int) (nm ot : ByteArray) (ty pa : Int) (sep : ByteArray) (w : World) (hn : n = l.length) (hs : Fds w w.heap.size A l) (ho : Ok ⟨l, x⟩) (hcw : CW ⟨2, id, wi, nm, ot, ty, pa, sep⟩) (t : Sc) (hap : applyP ⟨l, x⟩ ⟨2, id, wi, nm, ot, ty, pa, sep⟩ = (t, 0)) :
  Calls Tryz.prog 37 #[.agg #[.slice A n c, .int .i64 x], .agg #[.int .i64 2, .int .i64 id, .int .i64 wi, .string nm, .string ot, .int .i64 ty, .int .i64 pa, .string sep]] w fun e w' => LensR w w' ⟨l, x⟩ ⟨2, id, wi, nm, ot, ty, pa, sep⟩ e ∧ Below w.heap.size w w' := by
 unfold LensR
 rw [hap]
 have HAP := Li hap
 clear hap
 have HN := Li hn
 have HS := Li hs
 have hl1 : n ≤ 1000 := by have := ho.big.1; simp only at this; omega
 have hx0 : 0 ≤ x := by have := ho.nx; simp only at this; omega
 have hx1 : x ≤ 1073741824 := ho.big.2
 have HNL : Hid (AllN (fun s => s.size ≤ 9223372036854775807) l) := fun f hf => nam_small (ho.nam.1 f hf)
 have HCW := Li hcw
 have S0 := Li ((((CB.new w 35 [.slice A n c, .int .i64 x]).alloc (.cells #[.int .i64 2, .int .i64 id, .int .i64 wi, .string nm, .string ot, .int .i64 ty, .int .i64 pa, .string sep] 24)).alloc (.cells #[.nilFunc, .nilFunc] 73)).alloc (.cells #[.slice none 0 0, .int .i64 0] 35))
 have C0 := Li (((CB.new1 w (.cells #[.slice A n c, .int .i64 x] 35) 24 [.int .i64 2, .int .i64 id, .int .i64 wi, .string nm, .string ot, .int .i64 ty, .int .i64 pa, .string sep]).alloc (.cells #[.nilFunc, .nilFunc] 73)).alloc (.cells #[.slice none 0 0, .int .i64 0] 35))
 have L0 := Li ((CB.new2 w (.cells #[.slice A n c, .int .i64 x] 35) (.cells #[.int .i64 2, .int .i64 id, .int .i64 wi, .string nm, .string ot, .int .i64 ty, .int .i64 pa, .string sep] 24) 73 [.nilFunc, .nilFunc]).alloc (.cells #[.slice none 0 0, .int .i64 0] 35))
 have Z0 := Li (cb_new3 w (.cells #[.slice A n c, .int .i64 x] 35) (.cells #[.int .i64 2, .int .i64 id, .int .i64 wi, .string nm, .string ot, .int .i64 ty, .int .i64 pa, .string sep] 24) (.cells #[.nilFunc, .nilFunc] 73) 35 [.slice none 0 0, .int .i64 0])
 have B0 := Li (al4 w (.cells #[.slice A n c, .int .i64 x] 35) (.cells #[.int .i64 2, .int .i64 id, .int .i64 wi, .string nm, .string ot, .int .i64 ty, .int .i64 pa, .string sep] 24) (.cells #[.nilFunc, .nilFunc] 73) (.cells #[.slice none 0 0, .int .i64 0] 35))
 clear hn hs ho hcw
 go_enter Tryz.func37, Tryz.ntmps37
 go_upto_region 20 with (first | (go_at_call 61; go_loud (refine (Apply_any A n c x l 2 id wi nm ot ty pa sep _ HN.out (HS.out.up B0.out) hl1 hx0 (by omega) HCW.out.2.2.2 HNL.out HCW.out.2.1 HCW.out.2.2.1 HCW.out.1).mono ?_; rintro e w1 ⟨⟨A1, m1, c1, rfl, hm1, ho1⟩, hb1⟩; rw [HAP.out] at hm1 ho1; rw [HAP.out]; have HM1 := Li hm1; have O1 := Li (ho1.low (b := w.heap.size) B0.out.size); have B1 := Li (below_step B0.out B0.out.size hb1); have S1 := Li (S0.out.up hb1); have C1 := Li (C0.out.up hb1); have L1 := Li (L0.out.up hb1); have Z1 := Li (Z0.out.up hb1); clear hb1 ho1 hm1; have zL := L1.out.lt; have zZ := Z1.out.lt; have zS := S1.out.lt; have zC := C1.out.lt; have c0 := C1.out.cell 0 rfl; have cc1 := C1.out.cell 1 rfl; have c2 := C1.out.cell 2 rfl; have c7 := C1.out.cell 7 rfl; have s1 := S1.out.cell 1 rfl)) | (go_at_call 63; refine (dropping_any _ _).mono ?_; rintro e w2 ⟨rfl, rfl⟩) | (go_at_call 64; refine (narrowing_any _ _).mono ?_; rintro e w2 ⟨rfl, rfl⟩) | (go_at_call 65; refine (dividing_any _ _ _ _ _).mono ?_; rintro e w2 ⟨rfl, rfl⟩) | (go_at_call 66; refine (connecting_any _ _ _ _ _ _).mono ?_; rintro e w2 ⟨rfl, rfl⟩))
 obtain ⟨N7, N9, K2, hal⟩ := alx3 w1 35 [.slice A1 m1 c1, .int .i64 t.next] 73 [(.func (.func 84) #[] #[.pointer (some ⟨w1.heap.size + 1 + 1, 0, none⟩)]), (.func (.func 62) #[] #[])] 3 [.int .i64 id]
 have L1 := Li (L1.out.up hal)
 have Z1 := Li (Z1.out.up hal)
 have C1 := Li (C1.out.up hal)
 have O1 := Li (O1.out.up hal)
 have BB := Li (below_step B1.out B1.out.size hal)
 clear hal B1 B0 S1 S0 L0 Z0 C0 zL zS c0 cc1 c2 c7 s1
 generalize (((w1.alloc (.cells #[.slice A1 m1 c1, .int .i64 t.next] 35)).alloc (.cells #[(.func (.func 84) #[] #[.pointer (some ⟨w1.heap.size + 1 + 1, 0, none⟩)]), (.func (.func 62) #[] #[])] 73)).alloc (.cells #[.int .i64 id] 3)) = W0 at *
 have N9 := Li N9.out.dr
 have N7 := Li N7.out.dr
 have L1 := Li L1.out.dr
 have Z1 := Li Z1.out.dr
 have C1 := Li C1.out.dr
 have K2 := Li K2.out.dr
 have O1 := Li O1.out.dr
 have BB := Li BB.out.drew
 refine wp_region_held_drew (S := fun w' => Hid (CB w' (w1.heap.size + 1) 73 [(.func (.func 84) #[] #[.pointer (some ⟨w1.heap.size + 1 + 1, 0, none⟩)]), (.func (.func 62) #[] #[])] ∧ CB w' (w1.heap.size) 35 [.slice A1 m1 c1, .int .i64 t.next])) (by kernel_rfl) (Li ⟨N9.out, N7.out⟩) (fun hHeld => ?_)
 revert hHeld N9 N7 L1 Z1 C1 K2 O1 BB
 generalize W0.drew = X0
 intro N9 N7 L1 Z1 C1 K2 O1 BB hHeld
 refine htf 0 (fun _ h => And.intro (h.out.1.c2) (And.intro (h.out.1.lt) (And.intro (h.out.2.c2) (h.out.2.lt)))) ?_
 refine htf 1 (fun _ h => And.intro (h.out.1.c2) (And.intro (h.out.1.lt) (And.intro (h.out.2.c2) (h.out.2.lt)))) ?_
 refine rd1 2 fun KK hK => ?_
 refine step_store_cb rfl 73 (.tmp 4) (.tmp 85) rfl (w.heap.size + 1 + 1) [(.func (.func 84) #[] #[.pointer (some ⟨w1.heap.size + 1 + 1, 0, none⟩)]), (.func (.func 62) #[] #[])] rfl rfl 73 [.nilFunc, .nilFunc] 2 L1.out sizeLe rfl rfl (one_fn _ _ (by rfl) (by rfl)) ?_
 intro s2 hc2 hg2 hz2
 have N9 := Li (N9.out.grown hg2 (by intro h; injection h with h; omega))
 have N7 := Li (N7.out.grown hg2 (by intro h; injection h with h; omega))
 have Z1 := Li (Z1.out.grown hg2 (by intro h; injection h with h; omega))
 have C1 := Li (C1.out.grown hg2 (by intro h; injection h with h; omega))
 have K2 := Li (K2.out.grown hg2 (by intro h; injection h with h; omega))
 have O1 := Li (O1.out.kept hg2 (.inr (O1.out.ne L1.out (by decide)).symm))
 have L1 := Li hc2
 have BB := Li (below_grown BB.out hg2 BB.out.size (by omega))
 refine hK.out _ _ (Li ⟨N9.out, N7.out⟩) (fun hHeld => ?_)
 clear hK KK
 try simp only [pnz]
 refine rd1 3 fun KK hK => ?_
 refine step_store_cb rfl 35 (.tmp 5) (.tmp 86) rfl (w.heap.size + 1 + 1 + 1) [.slice A1 m1 c1, .int .i64 t.next] rfl rfl 35 [.slice none 0 0, .int .i64 0] 2 Z1.out sizeS rfl rfl (one_s _ _ _ _) ?_
 intro s3 hc3 hg3 hz3
 have N9 := Li (N9.out.grown hg3 (by intro h; injection h with h; omega))
 have N7 := Li (N7.out.grown hg3 (by intro h; injection h with h; omega))
 have L1 := Li (L1.out.grown hg3 (by intro h; injection h with h; omega))
 have C1 := Li (C1.out.grown hg3 (by intro h; injection h with h; omega))
 have K2 := Li (K2.out.grown hg3 (by intro h; injection h with h; omega))
 have O1 := Li (O1.out.kept hg3 (.inr (O1.out.ne Z1.out (by decide)).symm))
 have Z1 := Li hc3
 have BB := Li (below_grown BB.out hg3 BB.out.size (by omega))
 refine hK.out _ _ (Li ⟨N9.out, N7.out⟩) (fun hHeld => ?_)
 clear hK KK
 try simp only [pnz]
 refine htk 4 ?_
 refine wpAnyH_done (by kernel_rfl) ?_ _
 go_wp2_with fail
 refine bodyPost_ret (res_cells3 Tryz.results37 rfl rfl rfl L1.out Z1.out Tryz.underlying73 sizeLe rfl Tryz.underlying35 sizeS rfl) rfl ⟨⟨A1, m1, c1, _, _, rfl, HM1.out, O1.out, ?_⟩, BB.out⟩
 try rw [if_pos rfl]
 exact ⟨cl_cast (by simp [fwdK]) (show Cl.At _ _ (.drop id) from ⟨_, rfl, K2.out⟩), cl_cast (by simp [bakK]) (show Cl.At _ _ (.un) from rfl)⟩

set_option maxHeartbeats 8000000 in
set_option maxRecDepth 20000 in
theorem lensOf_4 (A : Option Addr) (n c : Nat) (x : Int) (l : List Fd) (id wi : Int) (nm ot : ByteArray) (ty pa : Int) (sep : ByteArray) (w : World) (hn : n = l.length) (hs : Fds w w.heap.size A l) (ho : Ok ⟨l, x⟩) (hcw : CW ⟨4, id, wi, nm, ot, ty, pa, sep⟩) (t : Sc) (hap : applyP ⟨l, x⟩ ⟨4, id, wi, nm, ot, ty, pa, sep⟩ = (t, 0)) :
  Calls Tryz.prog 37 #[.agg #[.slice A n c, .int .i64 x], .agg #[.int .i64 4, .int .i64 id, .int .i64 wi, .string nm, .string ot, .int .i64 ty, .int .i64 pa, .string sep]] w fun e w' => LensR w w' ⟨l, x⟩ ⟨4, id, wi, nm, ot, ty, pa, sep⟩ e ∧ Below w.heap.size w w' := by
 unfold LensR
 rw [hap]
 have HAP := Li hap
 clear hap
 have HN := Li hn
 have HS := Li hs
 have hl1 : n ≤ 1000 := by have := ho.big.1; simp only at this; omega
 have hx0 : 0 ≤ x := by have := ho.nx; simp only at this; omega
 have hx1 : x ≤ 1073741824 := ho.big.2
 have HNL : Hid (AllN (fun s => s.size ≤ 9223372036854775807) l) := fun f hf => nam_small (ho.nam.1 f hf)
 have HCW := Li hcw
 have S0 := Li ((((CB.new w 35 [.slice A n c, .int .i64 x]).alloc (.cells #[.int .i64 4, .int .i64 id, .int .i64 wi, .string nm, .string ot, .int .i64 ty, .int .i64 pa, .string sep] 24)).alloc (.cells #[.nilFunc, .nilFunc] 73)).alloc (.cells #[.slice none 0 0, .int .i64 0] 35))
 have C0 := Li (((CB.new1 w (.cells #[.slice A n c, .int .i64 x] 35) 24 [.int .i64 4, .int .i64 id, .int .i64 wi, .string nm, .string ot, .int .i64 ty, .int .i64 pa, .string sep]).alloc (.cells #[.nilFunc, .nilFunc] 73)).alloc (.cells #[.slice none 0 0, .int .i64 0] 35))
 have L0 := Li ((CB.new2 w (.cells #[.slice A n c, .int .i64 x] 35) (.cells #[.int .i64 4, .int .i64 id, .int .i64 wi, .string nm, .string ot, .int .i64 ty, .int .i64 pa, .string sep] 24) 73 [.nilFunc, .nilFunc]).alloc (.cells #[.slice none 0 0, .int .i64 0] 35))
 have Z0 := Li (cb_new3 w (.cells #[.slice A n c, .int .i64 x] 35) (.cells #[.int .i64 4, .int .i64 id, .int .i64 wi, .string nm, .string ot, .int .i64 ty, .int .i64 pa, .string sep] 24) (.cells #[.nilFunc, .nilFunc] 73) 35 [.slice none 0 0, .int .i64 0])
 have B0 := Li (al4 w (.cells #[.slice A n c, .int .i64 x] 35) (.cells #[.int .i64 4, .int .i64 id, .int .i64 wi, .string nm, .string ot, .int .i64 ty, .int .i64 pa, .string sep] 24) (.cells #[.nilFunc, .nilFunc] 73) (.cells #[.slice none 0 0, .int .i64 0] 35))
 clear hn hs ho hcw
 go_enter Tryz.func37, Tryz.ntmps37
 go_upto_region 20 with (first | (go_at_call 61; go_loud (refine (Apply_any A n c x l 4 id wi nm ot ty pa sep _ HN.out (HS.out.up B0.out) hl1 hx0 (by omega) HCW.out.2.2.2 HNL.out HCW.out.2.1 HCW.out.2.2.1 HCW.out.1).mono ?_; rintro e w1 ⟨⟨A1, m1, c1, rfl, hm1, ho1⟩, hb1⟩; rw [HAP.out] at hm1 ho1; rw [HAP.out]; have HM1 := Li hm1; have O1 := Li (ho1.low (b := w.heap.size) B0.out.size); have B1 := Li (below_step B0.out B0.out.size hb1); have S1 := Li (S0.out.up hb1); have C1 := Li (C0.out.up hb1); have L1 := Li (L0.out.up hb1); have Z1 := Li (Z0.out.up hb1); clear hb1 ho1 hm1; have zL := L1.out.lt; have zZ := Z1.out.lt; have zS := S1.out.lt; have zC := C1.out.lt; have c0 := C1.out.cell 0 rfl; have cc1 := C1.out.cell 1 rfl; have c2 := C1.out.cell 2 rfl; have c7 := C1.out.cell 7 rfl; have s1 := S1.out.cell 1 rfl)) | (go_at_call 63; refine (dropping_any _ _).mono ?_; rintro e w2 ⟨rfl, rfl⟩) | (go_at_call 64; refine (narrowing_any _ _).mono ?_; rintro e w2 ⟨rfl, rfl⟩) | (go_at_call 65; refine (dividing_any _ _ _ _ _).mono ?_; rintro e w2 ⟨rfl, rfl⟩) | (go_at_call 66; refine (connecting_any _ _ _ _ _ _).mono ?_; rintro e w2 ⟨rfl, rfl⟩))
 obtain ⟨N7, N9, K2, hal⟩ := alx3 w1 35 [.slice A1 m1 c1, .int .i64 t.next] 73 [(.func (.func 62) #[] #[]), (.func (.func 87) #[] #[.pointer (some ⟨w1.heap.size + 1 + 1, 0, none⟩)])] 3 [.int .i64 id]
 have L1 := Li (L1.out.up hal)
 have Z1 := Li (Z1.out.up hal)
 have C1 := Li (C1.out.up hal)
 have O1 := Li (O1.out.up hal)
 have BB := Li (below_step B1.out B1.out.size hal)
 clear hal B1 B0 S1 S0 L0 Z0 C0 zL zS c0 cc1 c2 c7 s1
 generalize (((w1.alloc (.cells #[.slice A1 m1 c1, .int .i64 t.next] 35)).alloc (.cells #[(.func (.func 62) #[] #[]), (.func (.func 87) #[] #[.pointer (some ⟨w1.heap.size + 1 + 1, 0, none⟩)])] 73)).alloc (.cells #[.int .i64 id] 3)) = W0 at *
 have N9 := Li N9.out.dr
 have N7 := Li N7.out.dr
 have L1 := Li L1.out.dr
 have Z1 := Li Z1.out.dr
 have C1 := Li C1.out.dr
 have K2 := Li K2.out.dr
 have O1 := Li O1.out.dr
 have BB := Li BB.out.drew
 refine wp_region_held_drew (S := fun w' => Hid (CB w' (w1.heap.size + 1) 73 [(.func (.func 62) #[] #[]), (.func (.func 87) #[] #[.pointer (some ⟨w1.heap.size + 1 + 1, 0, none⟩)])] ∧ CB w' (w1.heap.size) 35 [.slice A1 m1 c1, .int .i64 t.next])) (by kernel_rfl) (Li ⟨N9.out, N7.out⟩) (fun hHeld => ?_)
 revert hHeld N9 N7 L1 Z1 C1 K2 O1 BB
 generalize W0.drew = X0
 intro N9 N7 L1 Z1 C1 K2 O1 BB hHeld
 refine htf 0 (fun _ h => And.intro (h.out.1.c2) (And.intro (h.out.1.lt) (And.intro (h.out.2.c2) (h.out.2.lt)))) ?_
 refine htf 1 (fun _ h => And.intro (h.out.1.c2) (And.intro (h.out.1.lt) (And.intro (h.out.2.c2) (h.out.2.lt)))) ?_
 refine rd1 2 fun KK hK => ?_
 refine step_store_cb rfl 73 (.tmp 4) (.tmp 85) rfl (w.heap.size + 1 + 1) [(.func (.func 62) #[] #[]), (.func (.func 87) #[] #[.pointer (some ⟨w1.heap.size + 1 + 1, 0, none⟩)])] rfl rfl 73 [.nilFunc, .nilFunc] 2 L1.out sizeLe rfl rfl (one_fn _ _ (by rfl) (by rfl)) ?_
 intro s2 hc2 hg2 hz2
 have N9 := Li (N9.out.grown hg2 (by intro h; injection h with h; omega))
 have N7 := Li (N7.out.grown hg2 (by intro h; injection h with h; omega))
 have Z1 := Li (Z1.out.grown hg2 (by intro h; injection h with h; omega))
 have C1 := Li (C1.out.grown hg2 (by intro h; injection h with h; omega))
 have K2 := Li (K2.out.grown hg2 (by intro h; injection h with h; omega))
 have O1 := Li (O1.out.kept hg2 (.inr (O1.out.ne L1.out (by decide)).symm))
 have L1 := Li hc2
 have BB := Li (below_grown BB.out hg2 BB.out.size (by omega))
 refine hK.out _ _ (Li ⟨N9.out, N7.out⟩) (fun hHeld => ?_)
 clear hK KK
 try simp only [pnz]
 refine rd1 3 fun KK hK => ?_
 refine step_store_cb rfl 35 (.tmp 5) (.tmp 86) rfl (w.heap.size + 1 + 1 + 1) [.slice A1 m1 c1, .int .i64 t.next] rfl rfl 35 [.slice none 0 0, .int .i64 0] 2 Z1.out sizeS rfl rfl (one_s _ _ _ _) ?_
 intro s3 hc3 hg3 hz3
 have N9 := Li (N9.out.grown hg3 (by intro h; injection h with h; omega))
 have N7 := Li (N7.out.grown hg3 (by intro h; injection h with h; omega))
 have L1 := Li (L1.out.grown hg3 (by intro h; injection h with h; omega))
 have C1 := Li (C1.out.grown hg3 (by intro h; injection h with h; omega))
 have K2 := Li (K2.out.grown hg3 (by intro h; injection h with h; omega))
 have O1 := Li (O1.out.kept hg3 (.inr (O1.out.ne Z1.out (by decide)).symm))
 have Z1 := Li hc3
 have BB := Li (below_grown BB.out hg3 BB.out.size (by omega))
 refine hK.out _ _ (Li ⟨N9.out, N7.out⟩) (fun hHeld => ?_)
 clear hK KK
 try simp only [pnz]
 refine htk 4 ?_
 refine wpAnyH_done (by kernel_rfl) ?_ _
 go_wp2_with fail
 refine bodyPost_ret (res_cells3 Tryz.results37 rfl rfl rfl L1.out Z1.out Tryz.underlying73 sizeLe rfl Tryz.underlying35 sizeS rfl) rfl ⟨⟨A1, m1, c1, _, _, rfl, HM1.out, O1.out, ?_⟩, BB.out⟩
 try rw [if_pos rfl]
 exact ⟨cl_cast (by simp [fwdK]) (show Cl.At _ _ (.un) from rfl), cl_cast (by simp [bakK]) (show Cl.At _ _ (.nar id) from ⟨_, rfl, K2.out⟩)⟩

set_option maxHeartbeats 8000000 in
set_option maxRecDepth 20000 in
theorem lensOf_6 (A : Option Addr) (n c : Nat) (x : Int) (l : List Fd) (id wi : Int) (nm ot : ByteArray) (ty pa : Int) (sep : ByteArray) (w : World) (hn : n = l.length) (hs : Fds w w.heap.size A l) (ho : Ok ⟨l, x⟩) (hcw : CW ⟨6, id, wi, nm, ot, ty, pa, sep⟩) (t : Sc) (hap : applyP ⟨l, x⟩ ⟨6, id, wi, nm, ot, ty, pa, sep⟩ = (t, 0)) (hsep : sep.size ≤ 1000000) :
  Calls Tryz.prog 37 #[.agg #[.slice A n c, .int .i64 x], .agg #[.int .i64 6, .int .i64 id, .int .i64 wi, .string nm, .string ot, .int .i64 ty, .int .i64 pa, .string sep]] w fun e w' => LensR w w' ⟨l, x⟩ ⟨6, id, wi, nm, ot, ty, pa, sep⟩ e ∧ Below w.heap.size w w' := by
 unfold LensR
 rw [hap]
 have HAP := Li hap
 clear hap
 have HN := Li hn
 have HS := Li hs
 have hl1 : n ≤ 1000 := by have := ho.big.1; simp only at this; omega
 have hx0 : 0 ≤ x := by have := ho.nx; simp only at this; omega
 have hx1 : x ≤ 1073741824 := ho.big.2
 have HNL : Hid (AllN (fun s => s.size ≤ 9223372036854775807) l) := fun f hf => nam_small (ho.nam.1 f hf)
 have HCW := Li hcw
 have S0 := Li ((((CB.new w 35 [.slice A n c, .int .i64 x]).alloc (.cells #[.int .i64 6, .int .i64 id, .int .i64 wi, .string nm, .string ot, .int .i64 ty, .int .i64 pa, .string sep] 24)).alloc (.cells #[.nilFunc, .nilFunc] 73)).alloc (.cells #[.slice none 0 0, .int .i64 0] 35))
 have C0 := Li (((CB.new1 w (.cells #[.slice A n c, .int .i64 x] 35) 24 [.int .i64 6, .int .i64 id, .int .i64 wi, .string nm, .string ot, .int .i64 ty, .int .i64 pa, .string sep]).alloc (.cells #[.nilFunc, .nilFunc] 73)).alloc (.cells #[.slice none 0 0, .int .i64 0] 35))
 have L0 := Li ((CB.new2 w (.cells #[.slice A n c, .int .i64 x] 35) (.cells #[.int .i64 6, .int .i64 id, .int .i64 wi, .string nm, .string ot, .int .i64 ty, .int .i64 pa, .string sep] 24) 73 [.nilFunc, .nilFunc]).alloc (.cells #[.slice none 0 0, .int .i64 0] 35))
 have Z0 := Li (cb_new3 w (.cells #[.slice A n c, .int .i64 x] 35) (.cells #[.int .i64 6, .int .i64 id, .int .i64 wi, .string nm, .string ot, .int .i64 ty, .int .i64 pa, .string sep] 24) (.cells #[.nilFunc, .nilFunc] 73) 35 [.slice none 0 0, .int .i64 0])
 have B0 := Li (al4 w (.cells #[.slice A n c, .int .i64 x] 35) (.cells #[.int .i64 6, .int .i64 id, .int .i64 wi, .string nm, .string ot, .int .i64 ty, .int .i64 pa, .string sep] 24) (.cells #[.nilFunc, .nilFunc] 73) (.cells #[.slice none 0 0, .int .i64 0] 35))
 clear hn hs ho hcw
 have HSEP := Li hsep
 clear hsep
 go_enter Tryz.func37, Tryz.ntmps37
 go_upto_region 20 with (first | (go_at_call 61; go_loud (refine (Apply_any A n c x l 6 id wi nm ot ty pa sep _ HN.out (HS.out.up B0.out) hl1 hx0 (by omega) HCW.out.2.2.2 HNL.out HCW.out.2.1 HCW.out.2.2.1 HCW.out.1).mono ?_; rintro e w1 ⟨⟨A1, m1, c1, rfl, hm1, ho1⟩, hb1⟩; rw [HAP.out] at hm1 ho1; rw [HAP.out]; have HM1 := Li hm1; have O1 := Li (ho1.low (b := w.heap.size) B0.out.size); have B1 := Li (below_step B0.out B0.out.size hb1); have S1 := Li (S0.out.up hb1); have C1 := Li (C0.out.up hb1); have L1 := Li (L0.out.up hb1); have Z1 := Li (Z0.out.up hb1); clear hb1 ho1 hm1; have zL := L1.out.lt; have zZ := Z1.out.lt; have zS := S1.out.lt; have zC := C1.out.lt; have c0 := C1.out.cell 0 rfl; have cc1 := C1.out.cell 1 rfl; have c2 := C1.out.cell 2 rfl; have c7 := C1.out.cell 7 rfl; have s1 := S1.out.cell 1 rfl; have qa1 : w.heap.size < w1.heap.size + 1 := (by omega); have qb1 : w.heap.size + 1 < w1.heap.size + 1 := (by omega); have qa2 : w.heap.size < w1.heap.size + 1 + 1 := (by omega); have qb2 : w.heap.size + 1 < w1.heap.size + 1 + 1 := (by omega); have qa3 : w.heap.size < w1.heap.size + 1 + 1 + 1 := (by omega); have qb3 : w.heap.size + 1 < w1.heap.size + 1 + 1 + 1 := (by omega); have qa4 : w.heap.size < w1.heap.size + 1 + 1 + 1 + 1 := (by omega); have qb4 : w.heap.size + 1 < w1.heap.size + 1 + 1 + 1 + 1 := (by omega); have qa5 : w.heap.size < w1.heap.size + 1 + 1 + 1 + 1 + 1 := (by omega); have qb5 : w.heap.size + 1 < w1.heap.size + 1 + 1 + 1 + 1 + 1 := (by omega); have qa6 : w.heap.size < w1.heap.size + 1 + 1 + 1 + 1 + 1 + 1 := (by omega); have qb6 : w.heap.size + 1 < w1.heap.size + 1 + 1 + 1 + 1 + 1 + 1 := (by omega); have qa7 : w.heap.size < w1.heap.size + 1 + 1 + 1 + 1 + 1 + 1 + 1 := (by omega); have qb7 : w.heap.size + 1 < w1.heap.size + 1 + 1 + 1 + 1 + 1 + 1 + 1 := (by omega); have qa8 : w.heap.size < w1.heap.size + 1 + 1 + 1 + 1 + 1 + 1 + 1 + 1 := (by omega); have qb8 : w.heap.size + 1 < w1.heap.size + 1 + 1 + 1 + 1 + 1 + 1 + 1 + 1 := (by omega); have qc3 : w1.heap.size + 1 + 1 < w1.heap.size + 1 + 1 + 1 := (by omega); have qc4 : w1.heap.size + 1 + 1 < w1.heap.size + 1 + 1 + 1 + 1 := (by omega); have qc5 : w1.heap.size + 1 + 1 < w1.heap.size + 1 + 1 + 1 + 1 + 1 := (by omega); have qc6 : w1.heap.size + 1 + 1 < w1.heap.size + 1 + 1 + 1 + 1 + 1 + 1 := (by omega); have qc7 : w1.heap.size + 1 + 1 < w1.heap.size + 1 + 1 + 1 + 1 + 1 + 1 + 1 := (by omega); have qc8 : w1.heap.size + 1 + 1 < w1.heap.size + 1 + 1 + 1 + 1 + 1 + 1 + 1 + 1 := (by omega))) | (go_at_call 63; refine (dropping_any _ _).mono ?_; rintro e w2 ⟨rfl, rfl⟩) | (go_at_call 64; refine (narrowing_any _ _).mono ?_; rintro e w2 ⟨rfl, rfl⟩) | (go_at_call 65; refine (dividing_any _ _ _ _ _).mono ?_; rintro e w2 ⟨rfl, rfl⟩) | (go_at_call 66; refine (connecting_any _ _ _ _ _ _).mono ?_; rintro e w2 ⟨rfl, rfl⟩))
 obtain ⟨N7, N9, K2, K3, K4, K5, K6, K7, K8, hal⟩ := alx9 w1 35 [.slice A1 m1 c1, .int .i64 t.next] 73 [(.func (.func 89) #[] #[.pointer (some ⟨w1.heap.size + 1 + 1 + 1, 0, none⟩), .pointer (some ⟨w1.heap.size + 1 + 1 + 1 + 1 + 1, 0, none⟩), .pointer (some ⟨w1.heap.size + 1 + 1 + 1 + 1, 0, none⟩)]), (.func (.func 91) #[] #[.pointer (some ⟨w1.heap.size + 1 + 1 + 1 + 1 + 1 + 1 + 1 + 1, 0, none⟩), .pointer (some ⟨w1.heap.size + 1 + 1 + 1 + 1 + 1 + 1, 0, none⟩), .pointer (some ⟨w1.heap.size + 1 + 1 + 1 + 1 + 1 + 1 + 1, 0, none⟩)])] 46 [.int .i64 x, .int .i64 (x + 1)] 3 [.int .i64 id] 46 [.int .i64 x, .int .i64 (x + 1)] 9 [.string sep] 46 [.int .i64 x, .int .i64 (x + 1)] 3 [.int .i64 id] 99 [.func (.func 67) #[] #[.pointer (some ⟨w.heap.size + 1, 0, none⟩)]]
 have L1 := Li (L1.out.up hal)
 have Z1 := Li (Z1.out.up hal)
 have C1 := Li (C1.out.up hal)
 have O1 := Li (O1.out.up hal)
 have BB := Li (below_step B1.out B1.out.size hal)
 clear hal B1 B0 S1 S0 L0 Z0 C0 zL zS c0 cc1 c2 c7 s1
 generalize (((((((((w1.alloc (.cells #[.slice A1 m1 c1, .int .i64 t.next] 35)).alloc (.cells #[(.func (.func 89) #[] #[.pointer (some ⟨w1.heap.size + 1 + 1 + 1, 0, none⟩), .pointer (some ⟨w1.heap.size + 1 + 1 + 1 + 1 + 1, 0, none⟩), .pointer (some ⟨w1.heap.size + 1 + 1 + 1 + 1, 0, none⟩)]), (.func (.func 91) #[] #[.pointer (some ⟨w1.heap.size + 1 + 1 + 1 + 1 + 1 + 1 + 1 + 1, 0, none⟩), .pointer (some ⟨w1.heap.size + 1 + 1 + 1 + 1 + 1 + 1, 0, none⟩), .pointer (some ⟨w1.heap.size + 1 + 1 + 1 + 1 + 1 + 1 + 1, 0, none⟩)])] 73)).alloc (.cells #[.int .i64 x, .int .i64 (x + 1)] 46)).alloc (.cells #[.int .i64 id] 3)).alloc (.cells #[.int .i64 x, .int .i64 (x + 1)] 46)).alloc (.cells #[.string sep] 9)).alloc (.cells #[.int .i64 x, .int .i64 (x + 1)] 46)).alloc (.cells #[.int .i64 id] 3)).alloc (.cells #[.func (.func 67) #[] #[.pointer (some ⟨w.heap.size + 1, 0, none⟩)]] 99)) = W0 at *
 have N9 := Li N9.out.dr
 have N7 := Li N7.out.dr
 have L1 := Li L1.out.dr
 have Z1 := Li Z1.out.dr
 have C1 := Li C1.out.dr
 have K2 := Li K2.out.dr
 have K3 := Li K3.out.dr
 have K4 := Li K4.out.dr
 have K5 := Li K5.out.dr
 have K6 := Li K6.out.dr
 have K7 := Li K7.out.dr
 have K8 := Li K8.out.dr
 have O1 := Li O1.out.dr
 have BB := Li BB.out.drew
 refine wp_region_held_drew (S := fun w' => Hid (CB w' (w1.heap.size + 1) 73 [(.func (.func 89) #[] #[.pointer (some ⟨w1.heap.size + 1 + 1 + 1, 0, none⟩), .pointer (some ⟨w1.heap.size + 1 + 1 + 1 + 1 + 1, 0, none⟩), .pointer (some ⟨w1.heap.size + 1 + 1 + 1 + 1, 0, none⟩)]), (.func (.func 91) #[] #[.pointer (some ⟨w1.heap.size + 1 + 1 + 1 + 1 + 1 + 1 + 1 + 1, 0, none⟩), .pointer (some ⟨w1.heap.size + 1 + 1 + 1 + 1 + 1 + 1, 0, none⟩), .pointer (some ⟨w1.heap.size + 1 + 1 + 1 + 1 + 1 + 1 + 1, 0, none⟩)])] ∧ CB w' (w1.heap.size) 35 [.slice A1 m1 c1, .int .i64 t.next])) (by kernel_rfl) (Li ⟨N9.out, N7.out⟩) (fun hHeld => ?_)
 revert hHeld N9 N7 L1 Z1 C1 K2 K3 K4 K5 K6 K7 K8 O1 BB
 generalize W0.drew = X0
 intro N9 N7 L1 Z1 C1 K2 K3 K4 K5 K6 K7 K8 O1 BB hHeld
 refine htf 0 (fun _ h => And.intro (h.out.1.c2) (And.intro (h.out.1.lt) (And.intro (h.out.2.c2) (h.out.2.lt)))) ?_
 refine htf 1 (fun _ h => And.intro (h.out.1.c2) (And.intro (h.out.1.lt) (And.intro (h.out.2.c2) (h.out.2.lt)))) ?_
 refine rd1 2 fun KK hK => ?_
 refine step_store_cb rfl 73 (.tmp 4) (.tmp 85) rfl (w.heap.size + 1 + 1) [(.func (.func 89) #[] #[.pointer (some ⟨w1.heap.size + 1 + 1 + 1, 0, none⟩), .pointer (some ⟨w1.heap.size + 1 + 1 + 1 + 1 + 1, 0, none⟩), .pointer (some ⟨w1.heap.size + 1 + 1 + 1 + 1, 0, none⟩)]), (.func (.func 91) #[] #[.pointer (some ⟨w1.heap.size + 1 + 1 + 1 + 1 + 1 + 1 + 1 + 1, 0, none⟩), .pointer (some ⟨w1.heap.size + 1 + 1 + 1 + 1 + 1 + 1, 0, none⟩), .pointer (some ⟨w1.heap.size + 1 + 1 + 1 + 1 + 1 + 1 + 1, 0, none⟩)])] rfl rfl 73 [.nilFunc, .nilFunc] 2 L1.out sizeLe rfl rfl (one_fn _ _ (by rfl) (by rfl)) ?_
 intro s2 hc2 hg2 hz2
 have N9 := Li (N9.out.grown hg2 (by intro h; injection h with h; omega))
 have N7 := Li (N7.out.grown hg2 (by intro h; injection h with h; omega))
 have Z1 := Li (Z1.out.grown hg2 (by intro h; injection h with h; omega))
 have C1 := Li (C1.out.grown hg2 (by intro h; injection h with h; omega))
 have K2 := Li (K2.out.grown hg2 (by intro h; injection h with h; omega))
 have K3 := Li (K3.out.grown hg2 (by intro h; injection h with h; omega))
 have K4 := Li (K4.out.grown hg2 (by intro h; injection h with h; omega))
 have K5 := Li (K5.out.grown hg2 (by intro h; injection h with h; omega))
 have K6 := Li (K6.out.grown hg2 (by intro h; injection h with h; omega))
 have K7 := Li (K7.out.grown hg2 (by intro h; injection h with h; omega))
 have K8 := Li (K8.out.grown hg2 (by intro h; injection h with h; omega))
 have O1 := Li (O1.out.kept hg2 (.inr (O1.out.ne L1.out (by decide)).symm))
 have L1 := Li hc2
 have BB := Li (below_grown BB.out hg2 BB.out.size (by omega))
 refine hK.out _ _ (Li ⟨N9.out, N7.out⟩) (fun hHeld => ?_)
 clear hK KK
 try simp only [pnz]
 refine rd1 3 fun KK hK => ?_
 refine step_store_cb rfl 35 (.tmp 5) (.tmp 86) rfl (w.heap.size + 1 + 1 + 1) [.slice A1 m1 c1, .int .i64 t.next] rfl rfl 35 [.slice none 0 0, .int .i64 0] 2 Z1.out sizeS rfl rfl (one_s _ _ _ _) ?_
 intro s3 hc3 hg3 hz3
 have N9 := Li (N9.out.grown hg3 (by intro h; injection h with h; omega))
 have N7 := Li (N7.out.grown hg3 (by intro h; injection h with h; omega))
 have L1 := Li (L1.out.grown hg3 (by intro h; injection h with h; omega))
 have C1 := Li (C1.out.grown hg3 (by intro h; injection h with h; omega))
 have K2 := Li (K2.out.grown hg3 (by intro h; injection h with h; omega))
 have K3 := Li (K3.out.grown hg3 (by intro h; injection h with h; omega))
 have K4 := Li (K4.out.grown hg3 (by intro h; injection h with h; omega))
 have K5 := Li (K5.out.grown hg3 (by intro h; injection h with h; omega))
 have K6 := Li (K6.out.grown hg3 (by intro h; injection h with h; omega))
 have K7 := Li (K7.out.grown hg3 (by intro h; injection h with h; omega))
 have K8 := Li (K8.out.grown hg3 (by intro h; injection h with h; omega))
 have O1 := Li (O1.out.kept hg3 (.inr (O1.out.ne Z1.out (by decide)).symm))
 have Z1 := Li hc3
 have BB := Li (below_grown BB.out hg3 BB.out.size (by omega))
 refine hK.out _ _ (Li ⟨N9.out, N7.out⟩) (fun hHeld => ?_)
 clear hK KK
 try simp only [pnz]
 refine htk 4 ?_
 refine wpAnyH_done (by kernel_rfl) ?_ _
 go_wp2_with fail
 refine bodyPost_ret (res_cells3 Tryz.results37 rfl rfl rfl L1.out Z1.out Tryz.underlying73 sizeLe rfl Tryz.underlying35 sizeS rfl) rfl ⟨⟨A1, m1, c1, _, _, rfl, HM1.out, O1.out, ?_⟩, BB.out⟩
 try rw [if_pos rfl]
 exact ⟨cl_cast (by simp [fwdK]) (show Cl.At _ _ (.div id x (x + 1) sep) from ⟨_, _, _, rfl, K3.out, K5.out, K4.out⟩), cl_cast (by simp [bakK]) (show Cl.At _ _ (.con true x (x + 1) id sep) from ⟨_, _, _, _, _, _, _, _, _, _, _, rfl, K8.out, K6.out, K7.out, C1.out, HSEP.out⟩)⟩

set_option maxHeartbeats 8000000 in
set_option maxRecDepth 20000 in
theorem lensOf_7 (A : Option Addr) (n c : Nat) (x : Int) (l : List Fd) (id wi : Int) (nm ot : ByteArray) (ty pa : Int) (sep : ByteArray) (w : World) (hn : n = l.length) (hs : Fds w w.heap.size A l) (ho : Ok ⟨l, x⟩) (hcw : CW ⟨7, id, wi, nm, ot, ty, pa, sep⟩) (t : Sc) (hap : applyP ⟨l, x⟩ ⟨7, id, wi, nm, ot, ty, pa, sep⟩ = (t, 0)) (hsep : sep.size ≤ 1000000) :
  Calls Tryz.prog 37 #[.agg #[.slice A n c, .int .i64 x], .agg #[.int .i64 7, .int .i64 id, .int .i64 wi, .string nm, .string ot, .int .i64 ty, .int .i64 pa, .string sep]] w fun e w' => LensR w w' ⟨l, x⟩ ⟨7, id, wi, nm, ot, ty, pa, sep⟩ e ∧ Below w.heap.size w w' := by
 unfold LensR
 rw [hap]
 have HAP := Li hap
 clear hap
 have HN := Li hn
 have HS := Li hs
 have hl1 : n ≤ 1000 := by have := ho.big.1; simp only at this; omega
 have hx0 : 0 ≤ x := by have := ho.nx; simp only at this; omega
 have hx1 : x ≤ 1073741824 := ho.big.2
 have HNL : Hid (AllN (fun s => s.size ≤ 9223372036854775807) l) := fun f hf => nam_small (ho.nam.1 f hf)
 have HCW := Li hcw
 have S0 := Li ((((CB.new w 35 [.slice A n c, .int .i64 x]).alloc (.cells #[.int .i64 7, .int .i64 id, .int .i64 wi, .string nm, .string ot, .int .i64 ty, .int .i64 pa, .string sep] 24)).alloc (.cells #[.nilFunc, .nilFunc] 73)).alloc (.cells #[.slice none 0 0, .int .i64 0] 35))
 have C0 := Li (((CB.new1 w (.cells #[.slice A n c, .int .i64 x] 35) 24 [.int .i64 7, .int .i64 id, .int .i64 wi, .string nm, .string ot, .int .i64 ty, .int .i64 pa, .string sep]).alloc (.cells #[.nilFunc, .nilFunc] 73)).alloc (.cells #[.slice none 0 0, .int .i64 0] 35))
 have L0 := Li ((CB.new2 w (.cells #[.slice A n c, .int .i64 x] 35) (.cells #[.int .i64 7, .int .i64 id, .int .i64 wi, .string nm, .string ot, .int .i64 ty, .int .i64 pa, .string sep] 24) 73 [.nilFunc, .nilFunc]).alloc (.cells #[.slice none 0 0, .int .i64 0] 35))
 have Z0 := Li (cb_new3 w (.cells #[.slice A n c, .int .i64 x] 35) (.cells #[.int .i64 7, .int .i64 id, .int .i64 wi, .string nm, .string ot, .int .i64 ty, .int .i64 pa, .string sep] 24) (.cells #[.nilFunc, .nilFunc] 73) 35 [.slice none 0 0, .int .i64 0])
 have B0 := Li (al4 w (.cells #[.slice A n c, .int .i64 x] 35) (.cells #[.int .i64 7, .int .i64 id, .int .i64 wi, .string nm, .string ot, .int .i64 ty, .int .i64 pa, .string sep] 24) (.cells #[.nilFunc, .nilFunc] 73) (.cells #[.slice none 0 0, .int .i64 0] 35))
 clear hn hs ho hcw
 have HSEP := Li hsep
 clear hsep
 go_enter Tryz.func37, Tryz.ntmps37
 go_upto_region 20 with (first | (go_at_call 61; go_loud (refine (Apply_any A n c x l 7 id wi nm ot ty pa sep _ HN.out (HS.out.up B0.out) hl1 hx0 (by omega) HCW.out.2.2.2 HNL.out HCW.out.2.1 HCW.out.2.2.1 HCW.out.1).mono ?_; rintro e w1 ⟨⟨A1, m1, c1, rfl, hm1, ho1⟩, hb1⟩; rw [HAP.out] at hm1 ho1; rw [HAP.out]; have HM1 := Li hm1; have O1 := Li (ho1.low (b := w.heap.size) B0.out.size); have B1 := Li (below_step B0.out B0.out.size hb1); have S1 := Li (S0.out.up hb1); have C1 := Li (C0.out.up hb1); have L1 := Li (L0.out.up hb1); have Z1 := Li (Z0.out.up hb1); clear hb1 ho1 hm1; have zL := L1.out.lt; have zZ := Z1.out.lt; have zS := S1.out.lt; have zC := C1.out.lt; have c0 := C1.out.cell 0 rfl; have cc1 := C1.out.cell 1 rfl; have c2 := C1.out.cell 2 rfl; have c7 := C1.out.cell 7 rfl; have s1 := S1.out.cell 1 rfl; have qa1 : w.heap.size < w1.heap.size + 1 := (by omega); have qb1 : w.heap.size + 1 < w1.heap.size + 1 := (by omega); have qa2 : w.heap.size < w1.heap.size + 1 + 1 := (by omega); have qb2 : w.heap.size + 1 < w1.heap.size + 1 + 1 := (by omega); have qa3 : w.heap.size < w1.heap.size + 1 + 1 + 1 := (by omega); have qb3 : w.heap.size + 1 < w1.heap.size + 1 + 1 + 1 := (by omega); have qa4 : w.heap.size < w1.heap.size + 1 + 1 + 1 + 1 := (by omega); have qb4 : w.heap.size + 1 < w1.heap.size + 1 + 1 + 1 + 1 := (by omega); have qa5 : w.heap.size < w1.heap.size + 1 + 1 + 1 + 1 + 1 := (by omega); have qb5 : w.heap.size + 1 < w1.heap.size + 1 + 1 + 1 + 1 + 1 := (by omega); have qa6 : w.heap.size < w1.heap.size + 1 + 1 + 1 + 1 + 1 + 1 := (by omega); have qb6 : w.heap.size + 1 < w1.heap.size + 1 + 1 + 1 + 1 + 1 + 1 := (by omega); have qa7 : w.heap.size < w1.heap.size + 1 + 1 + 1 + 1 + 1 + 1 + 1 := (by omega); have qb7 : w.heap.size + 1 < w1.heap.size + 1 + 1 + 1 + 1 + 1 + 1 + 1 := (by omega); have qa8 : w.heap.size < w1.heap.size + 1 + 1 + 1 + 1 + 1 + 1 + 1 + 1 := (by omega); have qb8 : w.heap.size + 1 < w1.heap.size + 1 + 1 + 1 + 1 + 1 + 1 + 1 + 1 := (by omega); have qc3 : w1.heap.size + 1 + 1 < w1.heap.size + 1 + 1 + 1 := (by omega); have qc4 : w1.heap.size + 1 + 1 < w1.heap.size + 1 + 1 + 1 + 1 := (by omega); have qc5 : w1.heap.size + 1 + 1 < w1.heap.size + 1 + 1 + 1 + 1 + 1 := (by omega); have qc6 : w1.heap.size + 1 + 1 < w1.heap.size + 1 + 1 + 1 + 1 + 1 + 1 := (by omega); have qc7 : w1.heap.size + 1 + 1 < w1.heap.size + 1 + 1 + 1 + 1 + 1 + 1 + 1 := (by omega); have qc8 : w1.heap.size + 1 + 1 < w1.heap.size + 1 + 1 + 1 + 1 + 1 + 1 + 1 + 1 := (by omega))) | (go_at_call 63; refine (dropping_any _ _).mono ?_; rintro e w2 ⟨rfl, rfl⟩) | (go_at_call 64; refine (narrowing_any _ _).mono ?_; rintro e w2 ⟨rfl, rfl⟩) | (go_at_call 65; refine (dividing_any _ _ _ _ _).mono ?_; rintro e w2 ⟨rfl, rfl⟩) | (go_at_call 66; refine (connecting_any _ _ _ _ _ _).mono ?_; rintro e w2 ⟨rfl, rfl⟩))
 obtain ⟨N7, N9, K2, K3, K4, K5, K6, K7, K8, hal⟩ := alx9 w1 35 [.slice A1 m1 c1, .int .i64 t.next] 73 [(.func (.func 91) #[] #[.pointer (some ⟨w1.heap.size + 1 + 1 + 1 + 1 + 1, 0, none⟩), .pointer (some ⟨w1.heap.size + 1 + 1 + 1, 0, none⟩), .pointer (some ⟨w1.heap.size + 1 + 1 + 1 + 1, 0, none⟩)]), (.func (.func 89) #[] #[.pointer (some ⟨w1.heap.size + 1 + 1 + 1 + 1 + 1 + 1, 0, none⟩), .pointer (some ⟨w1.heap.size + 1 + 1 + 1 + 1 + 1 + 1 + 1 + 1, 0, none⟩), .pointer (some ⟨w1.heap.size + 1 + 1 + 1 + 1 + 1 + 1 + 1, 0, none⟩)])] 46 [.int .i64 id, .int .i64 wi] 46 [.int .i64 id, .int .i64 wi] 3 [.int .i64 x] 99 [.func (.func 69) #[] #[.pointer (some ⟨w.heap.size + 1, 0, none⟩)]] 3 [.int .i64 x] 46 [.int .i64 id, .int .i64 wi] 9 [.string sep]
 have L1 := Li (L1.out.up hal)
 have Z1 := Li (Z1.out.up hal)
 have C1 := Li (C1.out.up hal)
 have O1 := Li (O1.out.up hal)
 have BB := Li (below_step B1.out B1.out.size hal)
 clear hal B1 B0 S1 S0 L0 Z0 C0 zL zS c0 cc1 c2 c7 s1
 generalize (((((((((w1.alloc (.cells #[.slice A1 m1 c1, .int .i64 t.next] 35)).alloc (.cells #[(.func (.func 91) #[] #[.pointer (some ⟨w1.heap.size + 1 + 1 + 1 + 1 + 1, 0, none⟩), .pointer (some ⟨w1.heap.size + 1 + 1 + 1, 0, none⟩), .pointer (some ⟨w1.heap.size + 1 + 1 + 1 + 1, 0, none⟩)]), (.func (.func 89) #[] #[.pointer (some ⟨w1.heap.size + 1 + 1 + 1 + 1 + 1 + 1, 0, none⟩), .pointer (some ⟨w1.heap.size + 1 + 1 + 1 + 1 + 1 + 1 + 1 + 1, 0, none⟩), .pointer (some ⟨w1.heap.size + 1 + 1 + 1 + 1 + 1 + 1 + 1, 0, none⟩)])] 73)).alloc (.cells #[.int .i64 id, .int .i64 wi] 46)).alloc (.cells #[.int .i64 id, .int .i64 wi] 46)).alloc (.cells #[.int .i64 x] 3)).alloc (.cells #[.func (.func 69) #[] #[.pointer (some ⟨w.heap.size + 1, 0, none⟩)]] 99)).alloc (.cells #[.int .i64 x] 3)).alloc (.cells #[.int .i64 id, .int .i64 wi] 46)).alloc (.cells #[.string sep] 9)) = W0 at *
 have N9 := Li N9.out.dr
 have N7 := Li N7.out.dr
 have L1 := Li L1.out.dr
 have Z1 := Li Z1.out.dr
 have C1 := Li C1.out.dr
 have K2 := Li K2.out.dr
 have K3 := Li K3.out.dr
 have K4 := Li K4.out.dr
 have K5 := Li K5.out.dr
 have K6 := Li K6.out.dr
 have K7 := Li K7.out.dr
 have K8 := Li K8.out.dr
 have O1 := Li O1.out.dr
 have BB := Li BB.out.drew
 refine wp_region_held_drew (S := fun w' => Hid (CB w' (w1.heap.size + 1) 73 [(.func (.func 91) #[] #[.pointer (some ⟨w1.heap.size + 1 + 1 + 1 + 1 + 1, 0, none⟩), .pointer (some ⟨w1.heap.size + 1 + 1 + 1, 0, none⟩), .pointer (some ⟨w1.heap.size + 1 + 1 + 1 + 1, 0, none⟩)]), (.func (.func 89) #[] #[.pointer (some ⟨w1.heap.size + 1 + 1 + 1 + 1 + 1 + 1, 0, none⟩), .pointer (some ⟨w1.heap.size + 1 + 1 + 1 + 1 + 1 + 1 + 1 + 1, 0, none⟩), .pointer (some ⟨w1.heap.size + 1 + 1 + 1 + 1 + 1 + 1 + 1, 0, none⟩)])] ∧ CB w' (w1.heap.size) 35 [.slice A1 m1 c1, .int .i64 t.next])) (by kernel_rfl) (Li ⟨N9.out, N7.out⟩) (fun hHeld => ?_)
 revert hHeld N9 N7 L1 Z1 C1 K2 K3 K4 K5 K6 K7 K8 O1 BB
 generalize W0.drew = X0
 intro N9 N7 L1 Z1 C1 K2 K3 K4 K5 K6 K7 K8 O1 BB hHeld
 refine htf 0 (fun _ h => And.intro (h.out.1.c2) (And.intro (h.out.1.lt) (And.intro (h.out.2.c2) (h.out.2.lt)))) ?_
 refine htf 1 (fun _ h => And.intro (h.out.1.c2) (And.intro (h.out.1.lt) (And.intro (h.out.2.c2) (h.out.2.lt)))) ?_
 refine rd1 2 fun KK hK => ?_
 refine step_store_cb rfl 73 (.tmp 4) (.tmp 85) rfl (w.heap.size + 1 + 1) [(.func (.func 91) #[] #[.pointer (some ⟨w1.heap.size + 1 + 1 + 1 + 1 + 1, 0, none⟩), .pointer (some ⟨w1.heap.size + 1 + 1 + 1, 0, none⟩), .pointer (some ⟨w1.heap.size + 1 + 1 + 1 + 1, 0, none⟩)]), (.func (.func 89) #[] #[.pointer (some ⟨w1.heap.size + 1 + 1 + 1 + 1 + 1 + 1, 0, none⟩), .pointer (some ⟨w1.heap.size + 1 + 1 + 1 + 1 + 1 + 1 + 1 + 1, 0, none⟩), .pointer (some ⟨w1.heap.size + 1 + 1 + 1 + 1 + 1 + 1 + 1, 0, none⟩)])] rfl rfl 73 [.nilFunc, .nilFunc] 2 L1.out sizeLe rfl rfl (one_fn _ _ (by rfl) (by rfl)) ?_
 intro s2 hc2 hg2 hz2
 have N9 := Li (N9.out.grown hg2 (by intro h; injection h with h; omega))
 have N7 := Li (N7.out.grown hg2 (by intro h; injection h with h; omega))
 have Z1 := Li (Z1.out.grown hg2 (by intro h; injection h with h; omega))
 have C1 := Li (C1.out.grown hg2 (by intro h; injection h with h; omega))
 have K2 := Li (K2.out.grown hg2 (by intro h; injection h with h; omega))
 have K3 := Li (K3.out.grown hg2 (by intro h; injection h with h; omega))
 have K4 := Li (K4.out.grown hg2 (by intro h; injection h with h; omega))
 have K5 := Li (K5.out.grown hg2 (by intro h; injection h with h; omega))
 have K6 := Li (K6.out.grown hg2 (by intro h; injection h with h; omega))
 have K7 := Li (K7.out.grown hg2 (by intro h; injection h with h; omega))
 have K8 := Li (K8.out.grown hg2 (by intro h; injection h with h; omega))
 have O1 := Li (O1.out.kept hg2 (.inr (O1.out.ne L1.out (by decide)).symm))
 have L1 := Li hc2
 have BB := Li (below_grown BB.out hg2 BB.out.size (by omega))
 refine hK.out _ _ (Li ⟨N9.out, N7.out⟩) (fun hHeld => ?_)
 clear hK KK
 try simp only [pnz]
 refine rd1 3 fun KK hK => ?_
 refine step_store_cb rfl 35 (.tmp 5) (.tmp 86) rfl (w.heap.size + 1 + 1 + 1) [.slice A1 m1 c1, .int .i64 t.next] rfl rfl 35 [.slice none 0 0, .int .i64 0] 2 Z1.out sizeS rfl rfl (one_s _ _ _ _) ?_
 intro s3 hc3 hg3 hz3
 have N9 := Li (N9.out.grown hg3 (by intro h; injection h with h; omega))
 have N7 := Li (N7.out.grown hg3 (by intro h; injection h with h; omega))
 have L1 := Li (L1.out.grown hg3 (by intro h; injection h with h; omega))
 have C1 := Li (C1.out.grown hg3 (by intro h; injection h with h; omega))
 have K2 := Li (K2.out.grown hg3 (by intro h; injection h with h; omega))
 have K3 := Li (K3.out.grown hg3 (by intro h; injection h with h; omega))
 have K4 := Li (K4.out.grown hg3 (by intro h; injection h with h; omega))
 have K5 := Li (K5.out.grown hg3 (by intro h; injection h with h; omega))
 have K6 := Li (K6.out.grown hg3 (by intro h; injection h with h; omega))
 have K7 := Li (K7.out.grown hg3 (by intro h; injection h with h; omega))
 have K8 := Li (K8.out.grown hg3 (by intro h; injection h with h; omega))
 have O1 := Li (O1.out.kept hg3 (.inr (O1.out.ne Z1.out (by decide)).symm))
 have Z1 := Li hc3
 have BB := Li (below_grown BB.out hg3 BB.out.size (by omega))
 refine hK.out _ _ (Li ⟨N9.out, N7.out⟩) (fun hHeld => ?_)
 clear hK KK
 try simp only [pnz]
 refine htk 4 ?_
 refine wpAnyH_done (by kernel_rfl) ?_ _
 go_wp2_with fail
 refine bodyPost_ret (res_cells3 Tryz.results37 rfl rfl rfl L1.out Z1.out Tryz.underlying73 sizeLe rfl Tryz.underlying35 sizeS rfl) rfl ⟨⟨A1, m1, c1, _, _, rfl, HM1.out, O1.out, ?_⟩, BB.out⟩
 try rw [if_pos rfl]
 exact ⟨cl_cast (by simp [fwdK]) (show Cl.At _ _ (.con false id wi x sep) from ⟨_, _, _, _, _, _, _, _, _, _, _, rfl, K5.out, K3.out, K4.out, C1.out, HSEP.out⟩), cl_cast (by simp [bakK]) (show Cl.At _ _ (.div x id wi sep) from ⟨_, _, _, rfl, K6.out, K8.out, K7.out⟩)⟩

set_option maxHeartbeats 8000000 in
set_option maxRecDepth 20000 in
theorem lensOf_s (A : Option Addr) (n c : Nat) (x : Int) (l : List Fd) (kd : Int) (id wi : Int) (nm ot : ByteArray) (ty pa : Int) (sep : ByteArray) (w : World) (hn : n = l.length) (hs : Fds w w.heap.size A l) (ho : Ok ⟨l, x⟩) (hcw : CW ⟨kd, id, wi, nm, ot, ty, pa, sep⟩) (t : Sc) (hap : applyP ⟨l, x⟩ ⟨kd, id, wi, nm, ot, ty, pa, sep⟩ = (t, 0)) (k1 : ¬ kd = 1) (k2 : ¬ kd = 2) (k4 : ¬ kd = 4) (k6 : ¬ kd = 6) (k7 : ¬ kd = 7) :
  Calls Tryz.prog 37 #[.agg #[.slice A n c, .int .i64 x], .agg #[.int .i64 kd, .int .i64 id, .int .i64 wi, .string nm, .string ot, .int .i64 ty, .int .i64 pa, .string sep]] w fun e w' => LensR w w' ⟨l, x⟩ ⟨kd, id, wi, nm, ot, ty, pa, sep⟩ e ∧ Below w.heap.size w w' := by
 unfold LensR
 rw [hap]
 have HAP := Li hap
 clear hap
 have HN := Li hn
 have HS := Li hs
 have hl1 : n ≤ 1000 := by have := ho.big.1; simp only at this; omega
 have hx0 : 0 ≤ x := by have := ho.nx; simp only at this; omega
 have hx1 : x ≤ 1073741824 := ho.big.2
 have HNL : Hid (AllN (fun s => s.size ≤ 9223372036854775807) l) := fun f hf => nam_small (ho.nam.1 f hf)
 have HCW := Li hcw
 have S0 := Li ((((CB.new w 35 [.slice A n c, .int .i64 x]).alloc (.cells #[.int .i64 kd, .int .i64 id, .int .i64 wi, .string nm, .string ot, .int .i64 ty, .int .i64 pa, .string sep] 24)).alloc (.cells #[.nilFunc, .nilFunc] 73)).alloc (.cells #[.slice none 0 0, .int .i64 0] 35))
 have C0 := Li (((CB.new1 w (.cells #[.slice A n c, .int .i64 x] 35) 24 [.int .i64 kd, .int .i64 id, .int .i64 wi, .string nm, .string ot, .int .i64 ty, .int .i64 pa, .string sep]).alloc (.cells #[.nilFunc, .nilFunc] 73)).alloc (.cells #[.slice none 0 0, .int .i64 0] 35))
 have L0 := Li ((CB.new2 w (.cells #[.slice A n c, .int .i64 x] 35) (.cells #[.int .i64 kd, .int .i64 id, .int .i64 wi, .string nm, .string ot, .int .i64 ty, .int .i64 pa, .string sep] 24) 73 [.nilFunc, .nilFunc]).alloc (.cells #[.slice none 0 0, .int .i64 0] 35))
 have Z0 := Li (cb_new3 w (.cells #[.slice A n c, .int .i64 x] 35) (.cells #[.int .i64 kd, .int .i64 id, .int .i64 wi, .string nm, .string ot, .int .i64 ty, .int .i64 pa, .string sep] 24) (.cells #[.nilFunc, .nilFunc] 73) 35 [.slice none 0 0, .int .i64 0])
 have B0 := Li (al4 w (.cells #[.slice A n c, .int .i64 x] 35) (.cells #[.int .i64 kd, .int .i64 id, .int .i64 wi, .string nm, .string ot, .int .i64 ty, .int .i64 pa, .string sep] 24) (.cells #[.nilFunc, .nilFunc] 73) (.cells #[.slice none 0 0, .int .i64 0] 35))
 clear hn hs ho hcw
 go_enter Tryz.func37, Tryz.ntmps37
 go_upto_region 20 with (first | (go_at_call 61; go_loud (refine (Apply_any A n c x l kd id wi nm ot ty pa sep _ HN.out (HS.out.up B0.out) hl1 hx0 (by omega) HCW.out.2.2.2 HNL.out HCW.out.2.1 HCW.out.2.2.1 HCW.out.1).mono ?_; rintro e w1 ⟨⟨A1, m1, c1, rfl, hm1, ho1⟩, hb1⟩; rw [HAP.out] at hm1 ho1; rw [HAP.out]; have HM1 := Li hm1; have O1 := Li (ho1.low (b := w.heap.size) B0.out.size); have B1 := Li (below_step B0.out B0.out.size hb1); have S1 := Li (S0.out.up hb1); have C1 := Li (C0.out.up hb1); have L1 := Li (L0.out.up hb1); have Z1 := Li (Z0.out.up hb1); clear hb1 ho1 hm1; have zL := L1.out.lt; have zZ := Z1.out.lt; have zS := S1.out.lt; have zC := C1.out.lt; have c0 := C1.out.cell 0 rfl; have cc1 := C1.out.cell 1 rfl; have c2 := C1.out.cell 2 rfl; have c7 := C1.out.cell 7 rfl; have s1 := S1.out.cell 1 rfl)) | (go_at_call 63; refine (dropping_any _ _).mono ?_; rintro e w2 ⟨rfl, rfl⟩) | (go_at_call 64; refine (narrowing_any _ _).mono ?_; rintro e w2 ⟨rfl, rfl⟩) | (go_at_call 65; refine (dividing_any _ _ _ _ _).mono ?_; rintro e w2 ⟨rfl, rfl⟩) | (go_at_call 66; refine (connecting_any _ _ _ _ _ _).mono ?_; rintro e w2 ⟨rfl, rfl⟩))
 obtain ⟨N7, N9, hal⟩ := alx2 w1 35 [.slice A1 m1 c1, .int .i64 t.next] 73 [(.func (.func 62) #[] #[]), (.func (.func 62) #[] #[])]
 have L1 := Li (L1.out.up hal)
 have Z1 := Li (Z1.out.up hal)
 have C1 := Li (C1.out.up hal)
 have O1 := Li (O1.out.up hal)
 have BB := Li (below_step B1.out B1.out.size hal)
 clear hal B1 B0 S1 S0 L0 Z0 C0 zL zS c0 cc1 c2 c7 s1
 generalize ((w1.alloc (.cells #[.slice A1 m1 c1, .int .i64 t.next] 35)).alloc (.cells #[(.func (.func 62) #[] #[]), (.func (.func 62) #[] #[])] 73)) = W0 at *
 have N9 := Li N9.out.dr
 have N7 := Li N7.out.dr
 have L1 := Li L1.out.dr
 have Z1 := Li Z1.out.dr
 have C1 := Li C1.out.dr
 have O1 := Li O1.out.dr
 have BB := Li BB.out.drew
 refine wp_region_held_drew (S := fun w' => Hid (CB w' (w1.heap.size + 1) 73 [(.func (.func 62) #[] #[]), (.func (.func 62) #[] #[])] ∧ CB w' (w1.heap.size) 35 [.slice A1 m1 c1, .int .i64 t.next])) (by kernel_rfl) (Li ⟨N9.out, N7.out⟩) (fun hHeld => ?_)
 revert hHeld N9 N7 L1 Z1 C1 O1 BB
 generalize W0.drew = X0
 intro N9 N7 L1 Z1 C1 O1 BB hHeld
 refine htf 0 (fun _ h => And.intro (h.out.1.c2) (And.intro (h.out.1.lt) (And.intro (h.out.2.c2) (h.out.2.lt)))) ?_
 refine htf 1 (fun _ h => And.intro (h.out.1.c2) (And.intro (h.out.1.lt) (And.intro (h.out.2.c2) (h.out.2.lt)))) ?_
 refine rd1 2 fun KK hK => ?_
 refine step_store_cb rfl 73 (.tmp 4) (.tmp 85) rfl (w.heap.size + 1 + 1) [(.func (.func 62) #[] #[]), (.func (.func 62) #[] #[])] rfl rfl 73 [.nilFunc, .nilFunc] 2 L1.out sizeLe rfl rfl (one_fn _ _ (by rfl) (by rfl)) ?_
 intro s2 hc2 hg2 hz2
 have N9 := Li (N9.out.grown hg2 (by intro h; injection h with h; omega))
 have N7 := Li (N7.out.grown hg2 (by intro h; injection h with h; omega))
 have Z1 := Li (Z1.out.grown hg2 (by intro h; injection h with h; omega))
 have C1 := Li (C1.out.grown hg2 (by intro h; injection h with h; omega))
 have O1 := Li (O1.out.kept hg2 (.inr (O1.out.ne L1.out (by decide)).symm))
 have L1 := Li hc2
 have BB := Li (below_grown BB.out hg2 BB.out.size (by omega))
 refine hK.out _ _ (Li ⟨N9.out, N7.out⟩) (fun hHeld => ?_)
 clear hK KK
 try simp only [pnz]
 refine rd1 3 fun KK hK => ?_
 refine step_store_cb rfl 35 (.tmp 5) (.tmp 86) rfl (w.heap.size + 1 + 1 + 1) [.slice A1 m1 c1, .int .i64 t.next] rfl rfl 35 [.slice none 0 0, .int .i64 0] 2 Z1.out sizeS rfl rfl (one_s _ _ _ _) ?_
 intro s3 hc3 hg3 hz3
 have N9 := Li (N9.out.grown hg3 (by intro h; injection h with h; omega))
 have N7 := Li (N7.out.grown hg3 (by intro h; injection h with h; omega))
 have L1 := Li (L1.out.grown hg3 (by intro h; injection h with h; omega))
 have C1 := Li (C1.out.grown hg3 (by intro h; injection h with h; omega))
 have O1 := Li (O1.out.kept hg3 (.inr (O1.out.ne Z1.out (by decide)).symm))
 have Z1 := Li hc3
 have BB := Li (below_grown BB.out hg3 BB.out.size (by omega))
 refine hK.out _ _ (Li ⟨N9.out, N7.out⟩) (fun hHeld => ?_)
 clear hK KK
 try simp only [pnz]
 refine htk 4 ?_
 refine wpAnyH_done (by kernel_rfl) ?_ _
 go_wp2_with fail
 refine bodyPost_ret (res_cells3 Tryz.results37 rfl rfl rfl L1.out Z1.out Tryz.underlying73 sizeLe rfl Tryz.underlying35 sizeS rfl) rfl ⟨⟨A1, m1, c1, _, _, rfl, HM1.out, O1.out, ?_⟩, BB.out⟩
 try rw [if_pos rfl]
 exact ⟨cl_cast (by simp [fwdK, k2, k6, k7]) (show Cl.At _ _ (.un) from rfl), cl_cast (by simp [bakK, k1, k4, k6, k7]) (show Cl.At _ _ (.un) from rfl)⟩

theorem lensOf_any (A : Option Addr) (n c : Nat) (x : Int) (l : List Fd) (ch : Ch) (w : World) (hn : n = l.length) (hs : Fds w w.heap.size A l) (ho : Ok ⟨l, x⟩) (hcw : CW ch) :
  Calls Tryz.prog 37 #[.agg #[.slice A n c, .int .i64 x], .agg #[.int .i64 ch.kind, .int .i64 ch.id, .int .i64 ch.wi, .string ch.nm, .string ch.ot, .int .i64 ch.ty, .int .i64 ch.pa, .string ch.sep]] w fun e w' => LensR w w' ⟨l, x⟩ ch e ∧ Below w.heap.size w w' := by
 by_cases he : (applyP ⟨l, x⟩ ch).2 = 0
 ·
  obtain ⟨t, ht⟩ : ∃ t, applyP ⟨l, x⟩ ch = (t, 0) := ⟨(applyP ⟨l, x⟩ ch).1, Prod.ext rfl he⟩
  have hst := st_of ho ht
  obtain ⟨kd, id, wi, nm, ot, ty, pa, sep⟩ := ch
  have hsp : sepB sep = true → sep.size ≤ 1000000 := fun h => by
   unfold sepB at h
   have := of_decide_eq_true h
   omega
  cases hst with
  | add hk ht' hn' => obtain rfl : kd = 1 := hk; exact lensOf_1 A n c x l id wi nm ot ty pa sep w hn hs ho hcw t ht
  | drop hk ht' hn' => obtain rfl : kd = 2 := hk; exact lensOf_2 A n c x l id wi nm ot ty pa sep w hn hs ho hcw t ht
  | same hk ht' hn' => exact lensOf_s A n c x l kd id wi nm ot ty pa sep w hn hs ho hcw t ht (by simp only at hk; omega) (by simp only at hk; omega) (by simp only at hk; omega) (by simp only at hk; omega) (by simp only at hk; omega)
  | wid hk h2 ht' hn' => obtain rfl : kd = 4 := hk; exact lensOf_4 A n c x l id wi nm ot ty pa sep w hn hs ho hcw t ht
  | spl hk h4 hsep ht' hn' => obtain rfl : kd = 6 := hk; exact lensOf_6 A n c x l id wi nm ot ty pa sep w hn hs ho hcw t ht (hsp hsep)
  | joi hk h4 h4' hne hsep ht' hn' => obtain rfl : kd = 7 := hk; exact lensOf_7 A n c x l id wi nm ot ty pa sep w hn hs ho hcw t ht (hsp hsep)
 ·
  exact lensOf_e A n c x l ch.kind ch.id ch.wi ch.nm ch.ot ch.ty ch.pa ch.sep w hn hs ho hcw he
end Go.Proofs.YtfeemipnalgjnaaGreat
