/-
 pathOf by a contract.
-/
import Derived.Test.YtfeemipnalgjnaaGreatHd
import Derived.Test.YtfeemipnalgjnaaGreatLen
namespace Go.Proofs.YtfeemipnalgjnaaGreat
open Go.RowKit

/-- the kinds of blocks that closures of lenses lie in -/
def CapT (t : TypeId) : Prop := t = 3 ∨ t = 9 ∨ t = 46 ∨ t = 99 ∨ t = 24
theorem Cl.At.grow {w w' : World} {v : Value} {k : Cl} {row : Option Nat} (h : Cl.At w v k) (hg : w.grownBy w' row) (hne : ∀ g t c, CapT t → CB w g t c → some g ≠ row) : Cl.At w' v k := by
 have up : ∀ {g t c}, CapT t → CB w g t c → CB w' g t c := fun ht hc => hc.grown hg (hne _ _ _ ht hc)
 cases k with
 | un => exact h
 | drop i => obtain ⟨g, e, h1⟩ := h; exact ⟨g, e, up (.inl rfl) h1⟩
 | nar i => obtain ⟨g, e, h1⟩ := h; exact ⟨g, e, up (.inl rfl) h1⟩
 | div wh p0 p1 sep => obtain ⟨g1, g2, g3, e, h1, h2, h3⟩ := h; exact ⟨g1, g2, g3, e, up (.inl rfl) h1, up (.inr (.inl rfl)) h2, up (.inr (.inr (.inl rfl))) h3⟩
 | con und p0 p1 wh sep =>
  obtain ⟨g1, g2, g3, gc, kd, id, wi, nm, ot, ty, pa, e, h1, h2, h3, h4, h5⟩ := h
  exact ⟨g1, g2, g3, gc, kd, id, wi, nm, ot, ty, pa, e, up (.inr (.inr (.inr (.inl rfl)))) h1, up (.inr (.inr (.inl rfl))) h2, up (.inl rfl) h3, up (.inr (.inr (.inr (.inr rfl)))) h4, h5⟩
theorem cb_type {w : World} {g : Nat} {t t' : TypeId} {l l' : List Value} (h : CB w g t l) (h' : CB w g t' l') : t = t' := by
 unfold CB at h h'
 rw [h] at h'
 injection h' with h'
 injection h'
theorem cap_ne {w : World} {U : Nat} {T : TypeId} {l : List Value} (hU : CB w U T l) (hT : ¬ CapT T) : ∀ g t c, CapT t → CB w g t c → some g ≠ some U := fun g t c ht hc e => by
 injection e with e
 subst e
 exact hT (cb_type hc hU ▸ ht)
theorem cap_own {w : World} {base : Nat} {v : Value} {LV : List (List Value)} (ho : Own 73 2 w base v LV) : ∀ g t c, CapT t → CB w g t c → some g ≠ v.ownBlock := fun g t c ht hc => ho.ne hc (fun e => by
 rw [e] at ht
 revert ht
 unfold CapT
 decide)
theorem nocap_sc : ¬ CapT 35 := by unfold CapT; decide
theorem nocap_le : ¬ CapT 73 := by unfold CapT; decide
theorem nocap_ls : ¬ CapT 101 := by unfold CapT; decide
/-- a row of lenses -/
def LsAt (w : World) : List (List Value) → List (Cl × Cl) → Prop
 | [], [] => True
 | v :: L, k :: K => (∃ f b, v = [f, b] ∧ Cl.At w f k.1 ∧ Cl.At w b k.2) ∧ LsAt w L K
 | _, _ => False
theorem LsAt.up {w w' : World} (hb : Below w.heap.size w w') : ∀ {L : List (List Value)} {K : List (Cl × Cl)}, LsAt w L K → LsAt w' L K
 | [], [], _ => trivial
 | _ :: _, _ :: _, ⟨⟨f, b, e, h1, h2⟩, h3⟩ => ⟨⟨f, b, e, h1.up hb, h2.up hb⟩, LsAt.up hb h3⟩
theorem LsAt.grow {w w' : World} {row : Option Nat} (hg : w.grownBy w' row) (hne : ∀ g t c, CapT t → CB w g t c → some g ≠ row) : ∀ {L : List (List Value)} {K : List (Cl × Cl)}, LsAt w L K → LsAt w' L K
 | [], [], _ => trivial
 | _ :: _, _ :: _, ⟨⟨f, b, e, h1, h2⟩, h3⟩ => ⟨⟨f, b, e, h1.grow hg hne, h2.grow hg hne⟩, LsAt.grow hg hne h3⟩
theorem LsAt.len {w : World} : ∀ {L : List (List Value)} {K : List (Cl × Cl)}, LsAt w L K → L.length = K.length
 | [], [], _ => rfl
 | _ :: _, _ :: _, h => by rw [List.length_cons, List.length_cons, LsAt.len h.2]
theorem LsAt.snoc {w : World} {f b : Value} {k : Cl × Cl} (hf : Cl.At w f k.1) (hb : Cl.At w b k.2) : ∀ {L : List (List Value)} {K : List (Cl × Cl)}, LsAt w L K → LsAt w (L ++ [[f, b]]) (K ++ [k])
 | [], [], _ => ⟨⟨f, b, rfl, hf, hb⟩, trivial⟩
 | _ :: _, _ :: _, h => ⟨h.1, LsAt.snoc hf hb h.2⟩
theorem LsAt.get {w : World} : ∀ (L : List (List Value)) (K : List (Cl × Cl)), LsAt w L K → ∀ (i : Nat) (k : Cl × Cl), K[i]? = some k → ∃ f b, L[i]? = some [f, b] ∧ Cl.At w f k.1 ∧ Cl.At w b k.2
 | [], [], _, _, _, h => by simp at h
 | [], _ :: _, h, _, _, _ => h.elim
 | _ :: _, [], h, _, _, _ => h.elim
 | v :: L, q :: K, h, i, k, hk => by
  obtain ⟨⟨f, b, e, h1, h2⟩, h3⟩ := h
  cases i with
  | zero =>
   obtain rfl : q = k := by simpa using hk
   exact ⟨f, b, by simp [e], h1, h2⟩
  | succ i =>
   obtain ⟨f, b, e, h1, h2⟩ := LsAt.get L K h3 i k (by simpa using hk)
   exact ⟨f, b, by simpa using e, h1, h2⟩
def klist : Sc → List Ch → List (Cl × Cl)
 | _, [] => []
 | s, c :: m => (fwdK s c, bakK s c) :: klist (applyP s c).1 m
theorem klist_snoc : ∀ {m : List Ch} {s : Sc} {c : Ch}, klist s (m ++ [c]) = klist s m ++ [(fwdK (endS s m) c, bakK (endS s m) c)]
 | [], _, _ => rfl
 | d :: m, s, c => by
  show _ :: klist (applyP s d).1 (m ++ [c]) = _ :: (klist _ m ++ _)
  rw [klist_snoc]
  rfl
theorem klist_len : ∀ {m : List Ch} {s : Sc}, (klist s m).length = m.length
 | [], _ => rfl
 | d :: m, s => by
  show (klist (applyP s d).1 m).length + 1 = m.length + 1
  rw [klist_len]
theorem aft_err : ∀ {m : List Ch} {s : Sc} {i j : Int}, (aft s i m).2.2 = (aft s j m).2.2
 | [], _, _, _ => rfl
 | c :: m, s, i, j => by
  unfold aft
  by_cases h : (applyP s c).2 = 0
  ·
   rw [if_pos h, if_pos h]; exact aft_err
  ·
   rw [if_neg h, if_neg h]
theorem aft_goS {s t : Sc} {c : Ch} {m : List Ch} {i : Int} (h : applyP s c = (t, 0)) : (aft s i (c :: m)).2.2 = (aft t i m).2.2 := by
 show (if (applyP s c).2 = 0 then aft (applyP s c).1 (i + 1) m else _).2.2 = _
 rw [h, if_pos rfl]
 exact aft_err
theorem aft_noS {s : Sc} {c : Ch} {m : List Ch} {i er : Int} (h : (applyP s c).2 = er) (he : er ≠ 0) : (aft s i (c :: m)).2.2 = er := by
 show (if (applyP s c).2 = 0 then _ else (s, i, (applyP s c).2)).2.2 = _
 rw [h, if_neg he]
/-- a schema's rows: those of the argument, or the call's own -/
def SchAt (w : World) (base : Nat) (A : Option Addr) (m c : Nat) (fs : List Fd) : Prop := m = fs.length ∧ base ≤ w.heap.size ∧ (Fds w base A fs ∨ Own 58 4 w base (.slice A m c) (fs.map Fd.cells))
section
variable {w w' : World} {base : Nat} {A : Option Addr} {m c : Nat} {fs : List Fd}
theorem SchAt.fds (h : SchAt w base A m c fs) : Fds w w.heap.size A fs := by
 rcases h.2.2 with h' | h'
 ·
  exact h'.more h.2.1
 ·
  exact h'.row.2.2.2
theorem SchAt.up (h : SchAt w base A m c fs) (hb : Below w.heap.size w w') : SchAt w' base A m c fs := ⟨h.1, Nat.le_trans h.2.1 hb.size, h.2.2.imp (fun h' => h'.below (hb.mono h.2.1)) (fun h' => h'.up hb)⟩
theorem SchAt.grow {U : Nat} {t : TypeId} {l : List Value} (h : SchAt w base A m c fs) (hU : CB w U t l) (ht : t ≠ 58) (hb : base ≤ U) (hg : w.grownBy w' (some U)) : SchAt w' base A m c fs :=
 ⟨h.1, Nat.le_trans h.2.1 hg.size, h.2.2.imp (fun h' => RowAt.grown h' hg h.2.1 (fun g e => by injection e with e; omega)) (fun h' => h'.kept hg (.inr (h'.ne hU ht).symm))⟩
theorem SchAt.growR {base' : Nat} {v : Value} {LV : List (List Value)} (h : SchAt w base A m c fs) (ho : Own 73 2 w base' v LV) (hb : base ≤ base') (hg : w.grownBy w' v.ownBlock) : SchAt w' base A m c fs :=
 ⟨h.1, Nat.le_trans h.2.1 hg.size, h.2.2.imp (fun h' => RowAt.grown h' hg h.2.1 (fun g e => by have := (ho.lt g e).1; omega)) (fun h' => h'.kept hg (h'.ne2 ho (by decide)))⟩
end
theorem infoLe : (Tryz.prog.info? 73).map (fun i => (i.zero, i.size, i.bytes)) = some (some (.agg #[.nilFunc, .nilFunc]), 2, 16) := by kernel_rfl
/-- append(v, l): v the call's own row of lenses. -/
theorem push_le {w wr : World} {ops : Array Oper} {rest : List Oper} {o : Oper} {a : Act} {Q : Exit → Act → World → Prop} (hgd : o.guard = none) (d x : Operand)
  (ho : o.op = .call { callee := .builtin .append, args := #[d, x], argTypes := #[101, 101] }) (base : Nat) (v : Value) (LV : List (List Value)) (k : Nat) (f b : Value) (N : Nat) (hs : a.eval d = v) (hx : a.eval x = .slice (some ⟨N, 0, none⟩) 1 1) (hf : f.oneCell' = true) (hb : b.oneCell' = true)
  (hN : N = wr.heap.size) (hw : w = wr.alloc (.cells #[f, b] 73)) (hk : LV.length = k) (hr : Own 73 2 wr base v LV) (hroom : k ≤ 1000000) (hbase : base ≤ wr.heap.size)
  (hK : ∀ A' c' w', Own 73 2 w' base (.slice A' (k + 1) c') (LV ++ [[f, b]]) → wr.grownBy w' v.ownBlock → Below base wr w' → wpList Tryz.prog ops Q rest (a.put o.dst (.slice A' (k + 1) c')) w') : wpList Tryz.prog ops Q (o :: rest) a w := by
 subst hk
 refine wpList_push hgd d x ho Tryz.underlying101 infoLe rfl (by decide) base v LV [f, b] N hs hx hN hw hr rfl (one_fn f b hf hb) (by omega) (by decide) hbase ?_
 intro A' c' w' h1 h2 h3
 have e : (LV ++ [[f, b]]).length = LV.length + 1 := by simp
 rw [e] at h1 ⊢
 exact hK A' c' w' h1 h2 h3
/-- what pathOf returns -/
def PathR (w w' : World) (s : Sc) (m : List Ch) (e : Ending) : Prop :=
 if (aft s 0 m).2.2 = 0 then ∃ (g : Nat) (A2 : Option Addr) (c2 : Nat) (LV : List (List Value)) (A' : Option Addr) (m' c' : Nat), e = .returned (.tuple #[.agg #[.func (.func 75) #[] #[.pointer (some ⟨g, 0, none⟩)], .func (.func 76) #[] #[.pointer (some ⟨g, 0, none⟩)]], .agg #[.slice A' m' c', .int .i64 (endS s m).next], .int .i64 0]) ∧
   CB w' g 101 [.slice A2 m.length c2] ∧ Own 73 2 w' w.heap.size (.slice A2 m.length c2) LV ∧ LsAt w' LV (klist s m) ∧ SchAt w' w.heap.size A' m' c' (endS s m).fs
 else e = .returned (.tuple #[.agg #[.nilFunc, .nilFunc], .agg #[.slice none 0 0, .int .i64 0], .int .i64 (aft s 0 m).2.2])

theorem path_fin {w w2 : World} {s0 s1 q0 q1 pv pn : Value} {v : Value} {LV : List (List Value)} {KL : List (Cl × Cl)} {A5 : Option Addr} {m5 c5 : Nat} {fs2 : List Fd} (T : CB w2 w.heap.size 35 [q0, q1]) (L : CB w2 (w.heap.size + 1) 73 [.nilFunc, .nilFunc]) (Z : CB w2 (w.heap.size + 1 + 1) 35 [.slice none 0 0, .int .i64 0]) (P : CB w2 (w.heap.size + 1 + 1 + 1) 101 [pv])
  (O : Own 73 2 w2 (w.heap.size + 1 + 1 + 1 + 1) v LV) (S : SchAt w2 w.heap.size A5 m5 c5 fs2) (K : LsAt w2 LV KL) (B : Below w.heap.size w w2) :
  CB (((w2.setCell ⟨(w.heap.size + 1 + 1 + 1), 0, none⟩ pn).setCell ⟨w.heap.size, 0, none⟩ s0).setCell ⟨w.heap.size, 1, none⟩ s1) w.heap.size 35 [s0, s1] ∧ SchAt (((w2.setCell ⟨(w.heap.size + 1 + 1 + 1), 0, none⟩ pn).setCell ⟨w.heap.size, 0, none⟩ s0).setCell ⟨w.heap.size, 1, none⟩ s1) w.heap.size A5 m5 c5 fs2 ∧ CB (((w2.setCell ⟨(w.heap.size + 1 + 1 + 1), 0, none⟩ pn).setCell ⟨w.heap.size, 0, none⟩ s0).setCell ⟨w.heap.size, 1, none⟩ s1) (w.heap.size + 1) 73 [.nilFunc, .nilFunc] ∧
  CB (((w2.setCell ⟨(w.heap.size + 1 + 1 + 1), 0, none⟩ pn).setCell ⟨w.heap.size, 0, none⟩ s0).setCell ⟨w.heap.size, 1, none⟩ s1) (w.heap.size + 1 + 1) 35 [.slice none 0 0, .int .i64 0] ∧ CB (((w2.setCell ⟨(w.heap.size + 1 + 1 + 1), 0, none⟩ pn).setCell ⟨w.heap.size, 0, none⟩ s0).setCell ⟨w.heap.size, 1, none⟩ s1) (w.heap.size + 1 + 1 + 1) 101 [pn] ∧ Own 73 2 (((w2.setCell ⟨(w.heap.size + 1 + 1 + 1), 0, none⟩ pn).setCell ⟨w.heap.size, 0, none⟩ s0).setCell ⟨w.heap.size, 1, none⟩ s1) (w.heap.size + 1 + 1 + 1 + 1) v LV ∧
  LsAt (((w2.setCell ⟨(w.heap.size + 1 + 1 + 1), 0, none⟩ pn).setCell ⟨w.heap.size, 0, none⟩ s0).setCell ⟨w.heap.size, 1, none⟩ s1) LV KL ∧ Below w.heap.size w (((w2.setCell ⟨(w.heap.size + 1 + 1 + 1), 0, none⟩ pn).setCell ⟨w.heap.size, 0, none⟩ s0).setCell ⟨w.heap.size, 1, none⟩ s1) := by
 have ne : ∀ {a b : Nat}, a ≠ b → some a ≠ some b := fun h e => by injection e with e; exact h e
 have T1 : CB (w2.setCell ⟨(w.heap.size + 1 + 1 + 1), 0, none⟩ pn) w.heap.size 35 [q0, q1] := T.grown (grown_set _ _ _ _) (ne (by omega))
 have T2 : CB ((w2.setCell ⟨(w.heap.size + 1 + 1 + 1), 0, none⟩ pn).setCell ⟨w.heap.size, 0, none⟩ s0) w.heap.size 35 [s0, q1] := T1.set_ 0 s0
 refine ⟨T2.set_ 1 s1, ?_, ?_, ?_, ?_, ?_, ?_, ?_⟩
 ·
  exact ((S.grow P (by decide) (by omega) (grown_set _ _ _ _)).grow T1 (by decide) (by omega) (grown_set _ _ _ _)).grow T2 (by decide) (by omega) (grown_set _ _ _ _)
 ·
  exact ((L.grown (grown_set _ _ _ _) (ne (by omega))).grown (grown_set _ _ _ _) (ne (by omega))).grown (grown_set _ _ _ _) (ne (by omega))
 ·
  exact ((Z.grown (grown_set _ _ _ _) (ne (by omega))).grown (grown_set _ _ _ _) (ne (by omega))).grown (grown_set _ _ _ _) (ne (by omega))
 ·
  exact ((P.set_ 0 pn).grown (grown_set _ _ _ _) (ne (by omega))).grown (grown_set _ _ _ _) (ne (by omega))
 ·
  have O1 := O.set_ (g := (w.heap.size + 1 + 1 + 1)) 0 pn (O.below_ne (U := (w.heap.size + 1 + 1 + 1)) (by omega))
  have O2 := O1.set_ (g := w.heap.size) 0 s0 (O1.below_ne (U := w.heap.size) (by omega))
  exact O2.set_ (g := w.heap.size) 1 s1 (O2.below_ne (U := w.heap.size) (by omega))
 ·
  exact ((K.grow (grown_set _ _ _ _) (cap_ne P nocap_ls)).grow (grown_set _ _ _ _) (cap_ne T1 nocap_sc)).grow (grown_set _ _ _ _) (cap_ne T2 nocap_sc)
 ·
  exact ((B.setCell (p := ⟨(w.heap.size + 1 + 1 + 1), 0, none⟩) (by show w.heap.size ≤ w.heap.size + 1 + 1 + 1; omega) _).setCell (p := ⟨w.heap.size, 0, none⟩) (Nat.le_refl _) _).setCell (p := ⟨w.heap.size, 1, none⟩) (Nat.le_refl _) _

theorem err_fin {w w1 : World} {l1 l2 l3 l4 : Value} (L : CB w1 (w.heap.size + 1) 73 [l1, l2]) (Z : CB w1 (w.heap.size + 1 + 1) 35 [l3, l4]) (B : Below w.heap.size w w1) :
  CB ((((w1.setCell ⟨(w.heap.size + 1), 0, none⟩ .nilFunc).setCell ⟨(w.heap.size + 1), 1, none⟩ .nilFunc).setCell ⟨(w.heap.size + 1 + 1), 0, none⟩ (.slice none 0 0)).setCell ⟨(w.heap.size + 1 + 1), 1, none⟩ (.int .i64 0)) (w.heap.size + 1) 73 [.nilFunc, .nilFunc] ∧ CB ((((w1.setCell ⟨(w.heap.size + 1), 0, none⟩ .nilFunc).setCell ⟨(w.heap.size + 1), 1, none⟩ .nilFunc).setCell ⟨(w.heap.size + 1 + 1), 0, none⟩ (.slice none 0 0)).setCell ⟨(w.heap.size + 1 + 1), 1, none⟩ (.int .i64 0)) (w.heap.size + 1 + 1) 35 [.slice none 0 0, .int .i64 0] ∧
  Below w.heap.size w ((((w1.setCell ⟨(w.heap.size + 1), 0, none⟩ .nilFunc).setCell ⟨(w.heap.size + 1), 1, none⟩ .nilFunc).setCell ⟨(w.heap.size + 1 + 1), 0, none⟩ (.slice none 0 0)).setCell ⟨(w.heap.size + 1 + 1), 1, none⟩ (.int .i64 0)) := by
 have ne : ∀ {a b : Nat}, a ≠ b → some a ≠ some b := fun h e => by injection e with e; exact h e
 refine ⟨?_, ?_, ?_⟩
 ·
  exact (((L.set_ 0 .nilFunc).set_ 1 .nilFunc).grown (grown_set _ _ _ _) (ne (by omega))).grown (grown_set _ _ _ _) (ne (by omega))
 ·
  exact (((Z.grown (grown_set _ _ _ _) (ne (by omega))).grown (grown_set _ _ _ _) (ne (by omega))).set_ 0 (.slice none 0 0)).set_ 1 (.int .i64 0)
 ·
  exact (((B.setCell (p := ⟨(w.heap.size + 1), 0, none⟩) (by show w.heap.size ≤ w.heap.size + 1; omega) _).setCell (p := ⟨(w.heap.size + 1), 1, none⟩) (by show w.heap.size ≤ w.heap.size + 1; omega) _).setCell (p := ⟨(w.heap.size + 1 + 1), 0, none⟩) (by show w.heap.size ≤ w.heap.size + 1 + 1; omega) _).setCell (p := ⟨(w.heap.size + 1 + 1), 1, none⟩) (by show w.heap.size ≤ w.heap.size + 1 + 1; omega) _

set_option maxHeartbeats 8000000 in
set_option maxRecDepth 20000 in
theorem pathOf_any (A : Option Addr) (n c : Nat) (x : Int) (l : List Fd) (C : Option Addr) (M d : Nat) (m : List Ch) (w : World) (hn : n = l.length) (hs : Fds w w.heap.size A l) (ho : Ok ⟨l, x⟩) (hm : M = m.length) (hc : Chs w w.heap.size C m) (hM : M ≤ 100000) (hcw : ∀ q ∈ m, CW q) :
  Calls Tryz.prog 47 #[.agg #[.slice A n c, .int .i64 x], .slice C M d] w fun e w' => PathR w w' ⟨l, x⟩ m e ∧ Below w.heap.size w w' := by
 obtain ⟨E, hE⟩ : ∃ E, (aft ⟨l, x⟩ 0 m).2.2 = E := ⟨_, rfl⟩
 unfold PathR
 rw [hE]
 have HE := Li hE
 have HO := Li ho
 have HM := Li hm
 have HC := Li hc
 have HW := Li hcw
 have o1 : Obj := .cells #[.slice A n c, .int .i64 x] 35
 have S0 := Li ((((CB.new w 35 [.slice A n c, .int .i64 x]).alloc (.cells #[.nilFunc, .nilFunc] 73)).alloc (.cells #[.slice none 0 0, .int .i64 0] 35)).alloc (.cells #[.slice none 0 0] 101))
 have L0 := Li (((CB.new1 w (.cells #[.slice A n c, .int .i64 x] 35) 73 [.nilFunc, .nilFunc]).alloc (.cells #[.slice none 0 0, .int .i64 0] 35)).alloc (.cells #[.slice none 0 0] 101))
 have Z0 := Li ((CB.new2 w (.cells #[.slice A n c, .int .i64 x] 35) (.cells #[.nilFunc, .nilFunc] 73) 35 [.slice none 0 0, .int .i64 0]).alloc (.cells #[.slice none 0 0] 101))
 have P0 := Li (cb_new3 w (.cells #[.slice A n c, .int .i64 x] 35) (.cells #[.nilFunc, .nilFunc] 73) (.cells #[.slice none 0 0, .int .i64 0] 35) 101 [.slice none 0 0])
 have B0 := Li (al4 w (.cells #[.slice A n c, .int .i64 x] 35) (.cells #[.nilFunc, .nilFunc] 73) (.cells #[.slice none 0 0, .int .i64 0] 35) (.cells #[.slice none 0 0] 101))
 have HS0 := Li (show SchAt _ w.heap.size A n c l from ⟨hn, B0.out.size, .inl (hs.below B0.out)⟩)
 clear hn hs ho hm hc hcw hE o1
 go_enter Tryz.func47, Tryz.ntmps47
 go_wp2
 go_loopw [17] (fun j wr => ∃ (k : Nat) (A' : Option Addr) (m' c' : Nat) (fs : List Fd) (x' : Int) (A2 : Option Addr) (c2 : Nat) (LV : List (List Value)), k ≤ M ∧ j = .int .i64 k ∧ Hid (goodG ⟨l, x⟩ (m.take k) ∧ endS ⟨l, x⟩ (m.take k) = ⟨fs, x'⟩ ∧ (aft ⟨fs, x'⟩ 0 (m.drop k)).2.2 = E) ∧ Hid (CB wr w.heap.size 35 [.slice A' m' c', .int .i64 x']) ∧ Hid (SchAt wr w.heap.size A' m' c' fs) ∧ Hid (CB wr (w.heap.size + 1) 73 [.nilFunc, .nilFunc]) ∧ Hid (CB wr (w.heap.size + 1 + 1) 35 [.slice none 0 0, .int .i64 0]) ∧ Hid (CB wr (w.heap.size + 1 + 1 + 1) 101 [.slice A2 k c2]) ∧ Hid (Own 73 2 wr (w.heap.size + 1 + 1 + 1 + 1) (.slice A2 k c2) LV) ∧ Hid (LsAt wr LV (klist ⟨l, x⟩ (m.take k))) ∧ Hid (Below w.heap.size w wr)) (fun j _ => M - (intOf j).toNat)
 case atStart => exact ⟨0, A, n, c, l, x, none, 0, [], by omega, rfl, ⟨trivial, rfl, HE.out⟩, S0, HS0, L0, Z0, P0, Own.nil _ _ _ _, trivial, B0⟩
 case round =>
  clear S0 L0 Z0 P0 B0 HS0
  obtain ⟨k, A', m', c', fs, x', A2, c2, LV, hk, rfl, hst, T0, S0, L0, Z0, P0, O0, K0, B0⟩ := hrel
  have zP := P0.out.lt
  have zL := L0.out.lt
  have zZ := Z0.out.lt
  have zT := T0.out.lt
  have t00 := T0.out.c2
  have HOK := Li (show Ok ⟨fs, x'⟩ by rw [← hst.out.2.1]; exact good_ok HO.out hst.out.1)
  by_cases hlt : k < M
  ·
   have i1 : (k : Int) < (M : Int) := by omega
   obtain ⟨ch, hch⟩ : ∃ ch, m[k]? = some ch := ⟨_, List.getElem?_eq_getElem (by rw [← HM.out]; exact hlt)⟩
   have HCH := Li (HW.out ch (List.mem_of_getElem? hch))
   obtain ⟨gb, off, rfl, hgb, q0, q1, q2, q3, q4, q5, q6, q7⟩ := (HC.out.below B0.out).one hch
   have hgb2 : gb < wr.heap.size := Nat.lt_of_lt_of_le hgb B0.out.size
   have hd := Li (drop_cons hch)
   have ht := Li (take_snoc hch)
   clear hch
   by_cases he : (applyP ⟨fs, x'⟩ ch).2 = 0
   ·
    obtain ⟨⟨fs2, x2⟩, hap⟩ : ∃ t, applyP ⟨fs, x'⟩ ch = (t, 0) := ⟨(applyP ⟨fs, x'⟩ ch).1, Prod.ext rfl he⟩
    have HAP := Li hap
    clear he hap
    go_wp2_with (first | (go_at_call 37; have ha := al1 wr (.cells #[.int .i64 ch.kind, .int .i64 ch.id, .int .i64 ch.wi, .string ch.nm, .string ch.ot, .int .i64 ch.ty, .int .i64 ch.pa, .string ch.sep] 24); refine (lensOf_any A' m' c' x' fs ch _ S0.out.1 (S0.out.up ha).fds HOK.out HCH.out).mono ?_; rintro e w1 ⟨⟨A5, m5, c5, fv, bv, rfl, hm5, ho5, hat5⟩, hb5⟩; rw [HAP.out] at hm5 ho5 hat5; rw [HAP.out]; have hb1 := ha.trans (hb5.mono ha.size); have T1 := Li (T0.out.up hb1); have S1 := Li (S0.out.up hb1); have L1 := Li (L0.out.up hb1); have Z1 := Li (Z0.out.up hb1); have P1 := Li (P0.out.up hb1); have O1 := Li (O0.out.up hb1); have K1 := Li (K0.out.up hb1); have B1 := Li (below_step B0.out B0.out.size hb1); have HM5 := Li hm5; have O5 := Li (ho5.low (b := w.heap.size) (Nat.le_trans B0.out.size ha.size)); have HAT := Li hat5; clear ha hb5 hb1 hm5 ho5 hat5; have zT1 := T1.out.lt; have zP1 := P1.out.lt; have p10 := P1.out.cell 0 rfl; have qd1 : w.heap.size + 1 + 1 + 1 < w1.heap.size + 1 := (by omega); have qd2 : w.heap.size + 1 + 1 + 1 < w1.heap.size + 1 + 1 := (by omega); have qd3 : w.heap.size + 1 + 1 + 1 < w1.heap.size + 1 + 1 + 1 := (by omega); rw [if_pos rfl] at HAT; have hf1 := HAT.out.1.one; have hv1 := HAT.out.2.one; have hfs := fun (a : Addr) (mo : Mode) (W : World) => run_store Tryz.prog W a fv mo hf1; have hvs := fun (a : Addr) (mo : Mode) (W : World) => run_store Tryz.prog W a bv mo hv1) | (at_builtin; go_loud (have ho := (O1.out.alloc (.cells #[fv, bv] 73)).alloc (.cells #[.slice A5 m5 c5, .int .i64 x2] 35); have hal := al2 w1 (.cells #[fv, bv] 73) (.cells #[.slice A5 m5 c5, .int .i64 x2] 35); refine push_le rfl (.tmp 33) (.tmp 35) rfl (w.heap.size + 1 + 1 + 1 + 1) (.slice A2 k c2) LV k fv bv (w1.heap.size + 1 + 1) rfl rfl hf1 hv1 (by simp) rfl (by rw [K0.out.len, klist_len, List.length_take, ← HM.out]; omega) ho (by omega) (by simp; omega) ?_; intro A6 c6 w2 ho6 hg6 hb6; have O2 := Li ho6; have T2 := Li ((T1.out.up hal).grown hg6 (ho.below_ne (by omega))); have L2 := Li ((L1.out.up hal).grown hg6 (ho.below_ne (by omega))); have Z2 := Li ((Z1.out.up hal).grown hg6 (ho.below_ne (by omega))); have P2 := Li ((P1.out.up hal).grown hg6 (ho.below_ne (by omega))); have S2 := Li (show SchAt w2 w.heap.size A5 m5 c5 fs2 from ⟨HM5.out, Nat.le_trans B1.out.size (Nat.le_trans hal.size hg6.size), .inr ((O5.out.up hal).kept hg6 ((O5.out.up hal).ne2 ho (by decide)))⟩); have N2 := Li ((CB.new1 w1 (.cells #[fv, bv] 73) 35 [.slice A5 m5 c5, .int .i64 x2]).grown hg6 (ho.ne (CB.new1 w1 (.cells #[fv, bv] 73) 35 [.slice A5 m5 c5, .int .i64 x2]) (by decide))); have K2 := Li (((K1.out.up hal).grow hg6 (cap_own ho)).snoc (k := (fwdK ⟨fs, x'⟩ ch, bakK ⟨fs, x'⟩ ch)) ((HAT.out.1.up hal).grow hg6 (cap_own ho)) ((HAT.out.2.up hal).grow hg6 (cap_own ho))); have B2 := Li ((B1.out.trans (hal.mono B1.out.size)).trans (hb6.mono (by omega))); have zP2 := P2.out.lt; have p20 := P2.out.cell 0 rfl; have p2f := P2.out.frozen 0; have zT2 := T2.out.lt; have t20 := T2.out.c2; have t2f := T2.out.frozen 0; have t2g := T2.out.frozen 1; have zN2 := N2.out.lt; have n20 := N2.out.c2; have hnn : ¬ (w1.heap.size + 1 = (w.heap.size + 1 + 1 + 1)) := (by omega); clear ho hal ho6 hg6 hb6)))
    go_roundw
    case rel =>
     obtain ⟨r1, r2, r3, r4, r5, r6, r7, r8⟩ := path_fin T2.out L2.out Z2.out P2.out O2.out S2.out K2.out B2.out (s0 := .slice A5 m5 c5) (s1 := .int .i64 x2) (pn := .slice A6 (k + 1) c6)
     refine ⟨k + 1, A5, m5, c5, fs2, x2, A6, c6, LV ++ [[fv, bv]], by omega, by go_num, ⟨?_, ?_, ?_⟩, r1, r2, r3, r4, r5, r6, ?_, r8⟩
     ·
      rw [ht.out, good_app]
      refine ⟨hst.out.1, ?_⟩
      rw [hst.out.2.1]
      exact ⟨by rw [HAP.out], trivial⟩
     ·
      rw [ht.out, end_app, hst.out.2.1]
      show (applyP _ _).1 = _
      rw [HAP.out]
     ·
      have := hst.out.2.2
      rw [hd.out, aft_goS HAP.out] at this
      exact this
     ·
      rw [ht.out, klist_snoc, hst.out.2.1]
      exact r7
    case measure => simp [intOf]; omega
   ·
    obtain ⟨er, her⟩ : ∃ er, (applyP ⟨fs, x'⟩ ch).2 = er := ⟨_, rfl⟩
    have hap : applyP ⟨fs, x'⟩ ch = (Sc.zero, er) := Prod.ext (err_apply he) her
    rw [her] at he
    have HAP := Li hap
    have i0 : ¬ er = 0 := he
    have i2 : (er != 0) = true := by simpa using he
    have HEr := Li (show E = er by have := hst.out.2.2; rw [hd.out, aft_noS her he] at this; exact this.symm)
    have iE : ¬ E = 0 := by rw [HEr.out]; exact he
    clear hap her
    go_wp2_with (first | (go_at_call 37; have ha := al1 wr (.cells #[.int .i64 ch.kind, .int .i64 ch.id, .int .i64 ch.wi, .string ch.nm, .string ch.ot, .int .i64 ch.ty, .int .i64 ch.pa, .string ch.sep] 24); refine (lensOf_any A' m' c' x' fs ch _ S0.out.1 (S0.out.up ha).fds HOK.out HCH.out).mono ?_; rintro e w1 ⟨⟨A5, m5, c5, fv, bv, rfl, hm5, ho5, hat5⟩, hb5⟩; rw [HAP.out] at hm5 ho5 hat5; rw [HAP.out]; have hb1 := ha.trans (hb5.mono ha.size); have T1 := Li (T0.out.up hb1); have S1 := Li (S0.out.up hb1); have L1 := Li (L0.out.up hb1); have Z1 := Li (Z0.out.up hb1); have P1 := Li (P0.out.up hb1); have O1 := Li (O0.out.up hb1); have K1 := Li (K0.out.up hb1); have B1 := Li (below_step B0.out B0.out.size hb1); have HM5 := Li hm5; have O5 := Li (ho5.low (b := w.heap.size) (Nat.le_trans B0.out.size ha.size)); have HAT := Li hat5; clear ha hb5 hb1 hm5 ho5 hat5; rw [if_neg i0] at HAT; obtain ⟨e1, e2⟩ := HAT.out; subst e1 e2; have zL1 := L1.out.lt; have zZ1 := Z1.out.lt; have qd1 : w.heap.size + 1 < w1.heap.size + 1 := (by omega); have qd2 : w.heap.size + 1 < w1.heap.size + 1 + 1 := (by omega); have qe1 : w.heap.size + 1 + 1 < w1.heap.size + 1 := (by omega); have qe2 : w.heap.size + 1 + 1 < w1.heap.size + 1 + 1 := (by omega); have a0 := L1.out.c2; have f0 := L1.out.frozen 0; have f1 := L1.out.frozen 1; have bb0 := Z1.out.c2; have g0 := Z1.out.frozen 0; have g1 := Z1.out.frozen 1))
    obtain ⟨h1, h2, h3⟩ := err_fin L1.out Z1.out B1.out
    refine bodyPost_ret (res_cells3 Tryz.results47 rfl rfl rfl ((h1.alloc _).alloc _) ((h2.alloc _).alloc _) Tryz.underlying73 sizeLe rfl Tryz.underlying35 sizeS rfl) rfl ⟨by rw [HEr.out]; rfl, al_up2 (al_up2 h3 _) _⟩
  ·
   have i1 : ¬ (k : Int) < (M : Int) := by omega
   have hkM : k = m.length := by have := HM.out; omega
   have iE : E = 0 := by
    have := hst.out.2.2
    rw [hkM, List.drop_length] at this
    exact this.symm
   have HEn := Li (show endS ⟨l, x⟩ m = ⟨fs, x'⟩ by have := hst.out.2.1; rwa [hkM, List.take_length] at this)
   have HKl := Li (show LsAt wr LV (klist ⟨l, x⟩ m) by have := K0.out; rwa [hkM, List.take_length] at this)
   have HkM := Li hkM
   clear hkM K0
   go_upto_region 13 with fail
   have BB := B0
   have ZX := Li (Z0.out.dr)
   have LX := Li (L0.out.dr)
   have SX := Li (S0.out.up (bd wr))
   have KX := Li (show LsAt wr.drew LV (klist ⟨l, x⟩ m) from HKl.out.up (bd wr))
   have OX := Li (O0.out.dr)
   have T0 := Li T0.out.dr
   have L0 := Li L0.out.dr
   have Z0 := Li Z0.out.dr
   have P0 := Li P0.out.dr
   have BB := Li BB.out.drew
   refine wp_region_held_drew (S := fun w' => Hid (CB w' w.heap.size 35 [.slice A' m' c', .int .i64 x'])) (by kernel_rfl) (Li T0.out) (fun hHeld => ?_)
   revert hHeld T0 L0 Z0 P0 BB OX KX SX LX ZX
   generalize wr.drew = X0
   intro ZX LX SX KX OX T0 L0 Z0 P0 BB hHeld
   refine htk 0 ?_
   refine htk 1 ?_
   refine htk 2 ?_
   refine htf 3 (fun _ h => And.intro (h.out.c2) (h.out.lt)) ?_
   refine rd1 4 fun KK hK => ?_
   refine step_store_cb rfl 73 (.tmp 4) (.tmp 43) rfl (w.heap.size + 1) [(.func (.func 75) #[] #[.pointer (some ⟨w.heap.size + 1 + 1 + 1, 0, none⟩)]), (.func (.func 76) #[] #[.pointer (some ⟨w.heap.size + 1 + 1 + 1, 0, none⟩)])] rfl rfl 73 [.nilFunc, .nilFunc] 2 L0.out sizeLe rfl rfl (one_fn _ _ (by rfl) (by rfl)) ?_
   intro s4 hc4 hg4 hz4
   have T0 := Li (T0.out.grown hg4 (by intro h; injection h with h; omega))
   have Z0 := Li (Z0.out.grown hg4 (by intro h; injection h with h; omega))
   have P0 := Li (P0.out.grown hg4 (by intro h; injection h with h; omega))
   have L0 := Li hc4
   have BB := Li (below_grown BB.out hg4 BB.out.size (by omega))
   refine hK.out _ _ (Li T0.out) (fun hHeld => ?_)
   clear hK KK
   try simp only [pnz]
   refine rd1 5 fun KK hK => ?_
   refine step_store_cb rfl 35 (.tmp 5) (.tmp 44) rfl (w.heap.size + 1 + 1) [.slice A' m' c', .int .i64 x'] rfl rfl 35 [.slice none 0 0, .int .i64 0] 2 Z0.out sizeS rfl rfl (one_s _ _ _ _) ?_
   intro s5 hc5 hg5 hz5
   have T0 := Li (T0.out.grown hg5 (by intro h; injection h with h; omega))
   have L0 := Li (L0.out.grown hg5 (by intro h; injection h with h; omega))
   have P0 := Li (P0.out.grown hg5 (by intro h; injection h with h; omega))
   have Z0 := Li hc5
   have BB := Li (below_grown BB.out hg5 BB.out.size (by omega))
   refine hK.out _ _ (Li T0.out) (fun hHeld => ?_)
   clear hK KK
   try simp only [pnz]
   refine htk 6 ?_
   refine wpAnyH_done (by kernel_rfl) ?_ _
   go_wp2_with fail
   have z4 := ZX.out.grown hg4 (by intro h; injection h with h; omega)
   refine bodyPost_ret (res_cells3 Tryz.results47 rfl rfl rfl L0.out Z0.out Tryz.underlying73 sizeLe rfl Tryz.underlying35 sizeS rfl) rfl ⟨?_, BB.out⟩
   try rw [if_pos iE]
   refine ⟨_, A2, c2, LV, A', m', c', by rw [HEn.out]; rfl, by rw [← HkM.out]; exact P0.out, ?_, ?_, ?_⟩
   ·
    rw [← HkM.out]
    exact ((OX.out.kept hg4 (.inr (OX.out.below_ne (U := (w.heap.size + 1)) (by omega)).symm)).kept hg5 (.inr ((OX.out.kept hg4 (.inr (OX.out.below_ne (U := (w.heap.size + 1)) (by omega)).symm)).below_ne (U := (w.heap.size + 1 + 1)) (by omega)).symm)).low (by omega)
   ·
    exact (KX.out.grow hg4 (cap_ne LX.out nocap_le)).grow hg5 (cap_ne z4 nocap_sc)
   ·
    rw [HEn.out]
    exact (SX.out.grow LX.out (by decide) (by omega) hg4).grow z4 (by decide) (by omega) hg5
end Go.Proofs.YtfeemipnalgjnaaGreat
