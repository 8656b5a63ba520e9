/-
  The program's Translate by a contract.
-/
import Derived.Test.YtfeemipnalgjnaaGreatHd
import Derived.Test.YtfeemipnalgjnaaGreatFwB
import Derived.Test.YtfeemipnalgjnaaGreatPaB
namespace Go.Proofs.YtfeemipnalgjnaaGreat
open Go.RowKit

theorem runF_rb : ∀ (ks : List (Cl × Cl)) (j : Nat) (r : List Ce), RBn j r → RBn (j + ks.length) (runF ks r)
  | [], _, _, h => h
  | k :: K, j, r, h => by
    have := runF_rb K (j + 1) _ (ap_rb k.1 h)
    rw [List.length_cons, show j + (K.length + 1) = j + 1 + K.length by omega]
    exact this
theorem runB_rb (ks : List (Cl × Cl)) (r : List Ce) (h : RBn 0 r) : RBn ks.length (runB ks r) := by
  have := runX_rb (fun i : Fin ks.length => (ks[i.1]).2) (bk ks.length ks.length) r h
  rw [runX_all, bk_len (Nat.le_refl _)] at this
  exact this
/-- the changes between two places -/
def segL (l : List Ch) (lo hi : Nat) : List Ch := (l.drop lo).take (hi - lo)
/-- Translate behind the tests of the places -/
def trS (l : List Ch) (r : List Ce) (lo hi : Nat) (fw : Bool) : List Ce × Int :=
  if (aftP (l.take lo)).2.2 = 0 then
    (if (aft (aftP (l.take lo)).1 0 (segL l lo hi)).2.2 = 0 then
      (if fw = true then (if fitGo (aftP (l.take lo)).1.fs 0 r = true then (runF (klist (aftP (l.take lo)).1 (segL l lo hi)) r, 0) else ([], 7))
       else (if fitGo (endS (aftP (l.take lo)).1 (segL l lo hi)).fs 0 r = true then (runB (klist (aftP (l.take lo)).1 (segL l lo hi)) r, 0) else ([], 7)))
     else ([], (aft (aftP (l.take lo)).1 0 (segL l lo hi)).2.2))
  else ([], (aftP (l.take lo)).2.2)
def trQ (l : List Ch) (r : List Ce) (a b : Int) : List Ce × Int :=
  if min a b < 0 ∨ (l.length : Int) < max a b then ([], 1) else trS l r (min a b).toNat (max a b).toNat (decide (a ≤ b))
theorem pathF_does {w : World} {g : Nat} {A2 : Option Addr} {c2 N : Nat} {LV : List (List Value)} {ks : List (Cl × Cl)} (hg : CB w g 101 [.slice A2 N c2]) (hL : RowAt 2 w w.heap.size A2 LV) (hK : LsAt w LV ks) (hG : GV w) (hN : N = ks.length) (hN3 : N ≤ 300) :
    Does w (.func (.func 75) #[] #[.pointer (some ⟨g, 0, none⟩)]) (RBn 0) (runF ks) :=
  ⟨_, [_], rfl, enters_of Tryz.func75 (by kernel_rfl) rfl, fun W A n c r hW hn hs hc hcm hr => pathF_any g A2 c2 N LV ks A n c r W (hg.up hW) (hL.up hW) (hK.up hW) (hG.up hW) hN hN3 hn hs hc hcm hr⟩
theorem pathB_does {w : World} {g : Nat} {A2 : Option Addr} {c2 N : Nat} {LV : List (List Value)} {ks : List (Cl × Cl)} (hg : CB w g 101 [.slice A2 N c2]) (hL : RowAt 2 w w.heap.size A2 LV) (hK : LsAt w LV ks) (hG : GV w) (hN : N = ks.length) (hN3 : N ≤ 300) :
    Does w (.func (.func 76) #[] #[.pointer (some ⟨g, 0, none⟩)]) (RBn 0) (runB ks) :=
  ⟨_, [_], rfl, enters_of Tryz.func76 (by kernel_rfl) rfl, fun W A n c r hW hn hs hc hcm hr => pathB_any g A2 c2 N LV ks A n c r W (hg.up hW) (hL.up hW) (hK.up hW) (hG.up hW) hN hN3 hn hs hc hcm hr⟩
theorem Chs.cut {w : World} {B : Nat} {A A2 : Option Addr} {l : List Ch} (h : Chs w B A l) {e c : Nat} (hA : (if c = e then A else Option.map (fun x => x.add (e * 8)) A) = A2) (hc : l.length ≤ c) : Chs w B A2 (l.drop e) := by
  unfold Chs
  rw [List.map_drop]
  exact RowAt.cut h hA (by simpa using hc)

set_option maxHeartbeats 4000000 in
set_option maxRecDepth 20000 in
theorem Tr_arg (C : Option Addr) (M c : Nat) (l : List Ch) (R : Option Addr) (m d : Nat) (r : List Ce) (a b : Int) (w : World) (hM : M = l.length) (hC : Chs w w.heap.size C l) (_hM3 : M ≤ 300) (_hMc : M ≤ c) (_hcm : c ≤ 9223372036854775807) (hcw : ∀ q ∈ l, CW q) (hm : m = r.length) (hr : Ces w w.heap.size R r) (_hml : m ≤ 1000000) (hsz : ∀ q ∈ r, q.v.s.size ≤ 9223372036854775807) (_hmd : m ≤ d) (_hdm : d ≤ 9223372036854775807) (hG : GV w) (x y : Int) (hx : min a b = x) (hy : max a b = y) (h : x < 0 ∨ (M : Int) < y) :
    Calls Tryz.prog 23 #[.slice C M c, .agg #[.slice R m d], .agg #[.int .i64 a, .int .i64 b]] w fun e w' => RetE w w' ([], 1) e ∧ Below w.heap.size w w' := by
  have HM := Li hM
  have HC := Li hC
  have HCW := Li hcw
  have HMr := Li hm
  have HR := Li hr
  have HZ := Li hsz
  have HG := Li hG
  have R0 := Li (((CB.new w 30 [.slice R m d]).alloc (.cells #[.int .i64 a, .int .i64 b] 46)).alloc (.cells #[.slice none 0 0] 30))
  have W0 := Li ((CB.new1 w (.cells #[.slice R m d] 30) 46 [.int .i64 a, .int .i64 b]).alloc (.cells #[.slice none 0 0] 30))
  have T0 := Li (CB.new2 w (.cells #[.slice R m d] 30) (.cells #[.int .i64 a, .int .i64 b] 46) 30 [.slice none 0 0])
  have BB := Li (al3 w (.cells #[.slice R m d] 30) (.cells #[.int .i64 a, .int .i64 b] 46) (.cells #[.slice none 0 0] 30))
  clear hM hC hcw hm hr hsz hG
  go_enter Tryz.func23, Tryz.ntmps23
  go_upto_region 1 with fail
  generalize ((w.alloc (.cells #[.slice R m d] 30)).alloc (.cells #[.int .i64 a, .int .i64 b] 46)).alloc (.cells #[.slice none 0 0] 30) = V0 at *
  have R0 := Li R0.out.dr
  have W0 := Li W0.out.dr
  have T0 := Li T0.out.dr
  have BB := Li BB.out.drew
  refine wp_region_held_drew (S := fun w' => Hid (CB w' w.heap.size 30 [.slice R m d] ∧ CB w' (w.heap.size + 1) 46 [.int .i64 a, .int .i64 b])) (by kernel_rfl) (Li ⟨R0.out, W0.out⟩) (fun hHeld => ?_)
  revert hHeld R0 W0 T0 BB
  generalize V0.drew = X0
  intro R0 W0 T0 BB hHeld
  refine htk 0 ?_
  refine htf 1 (fun _ h => And.intro (h.out.1.cell 0 rfl) (And.intro (h.out.1.lt) (And.intro (h.out.2.c2) (h.out.2.lt)))) ?_
  refine htk 2 ?_
  refine htf 3 (fun _ h => And.intro (h.out.1.cell 0 rfl) (And.intro (h.out.1.lt) (And.intro (h.out.2.c2) (h.out.2.lt)))) ?_
  refine htk 4 ?_
  refine htk 5 ?_
  refine htf 6 (fun _ h => And.intro (h.out.1.cell 0 rfl) (And.intro (h.out.1.lt) (And.intro (h.out.2.c2) (h.out.2.lt)))) ?_
  refine htk 7 ?_
  refine htf 8 (fun _ h => And.intro (h.out.1.cell 0 rfl) (And.intro (h.out.1.lt) (And.intro (h.out.2.c2) (h.out.2.lt)))) ?_
  refine htk 9 ?_
  refine htk 10 ?_
  refine htk 11 ?_
  refine wpAnyH_done (by kernel_rfl) ?_ _
  have t0 := T0.out.cell 0 rfl
  have tf := T0.out.frozen 0
  have zT := T0.out.lt
  by_cases hx0 : x < 0
  · go_wp2
    refine bodyPost_ret (res_cell Tryz.results23 rfl rfl (T0.out.set_ 0 (.slice none 0 0)) Tryz.underlying30 sizeRw rfl) rfl ⟨⟨none, 0, rfl, Own.nil _ _ _ _⟩, BB.out.setCell (p := ⟨(w.heap.size + 1 + 1), 0, none⟩) (by show w.heap.size ≤ w.heap.size + 1 + 1; omega) _⟩
  · have hy0 : y > (M : Int) := by omega
    go_wp2
    refine bodyPost_ret (res_cell Tryz.results23 rfl rfl (T0.out.set_ 0 (.slice none 0 0)) Tryz.underlying30 sizeRw rfl) rfl ⟨⟨none, 0, rfl, Own.nil _ _ _ _⟩, BB.out.setCell (p := ⟨(w.heap.size + 1 + 1), 0, none⟩) (by show w.heap.size ≤ w.heap.size + 1 + 1; omega) _⟩

set_option maxHeartbeats 4000000 in
set_option maxRecDepth 20000 in
theorem Tr_aft (C : Option Addr) (M c : Nat) (l : List Ch) (R : Option Addr) (m d : Nat) (r : List Ce) (a b : Int) (w : World) (hM : M = l.length) (hC : Chs w w.heap.size C l) (hM3 : M ≤ 300) (hMc : M ≤ c) (hcm : c ≤ 9223372036854775807) (hcw : ∀ q ∈ l, CW q) (hm : m = r.length) (hr : Ces w w.heap.size R r) (_hml : m ≤ 1000000) (hsz : ∀ q ∈ r, q.v.s.size ≤ 9223372036854775807) (_hmd : m ≤ d) (_hdm : d ≤ 9223372036854775807) (hG : GV w) (lo hi : Nat) (hx : min a b = (lo : Int)) (hy : max a b = (hi : Int)) (hlh : lo ≤ hi) (hhM : hi ≤ M) (he : (aftP (l.take lo)).2.2 ≠ 0) :
    Calls Tryz.prog 23 #[.slice C M c, .agg #[.slice R m d], .agg #[.int .i64 a, .int .i64 b]] w fun e w' => RetE w w' ([], (aftP (l.take lo)).2.2) e ∧ Below w.heap.size w w' := by
  have HLo := Li (show lo = (l.take lo).length by rw [List.length_take, ← hM]; omega)
  have i1 : ¬ ((hi : Int) > (M : Int)) := by omega
  have i2 : (lo : Int) ≤ (M : Int) := by omega
  have i3 : (lo : Int) ≤ (c : Int) := by omega
  obtain ⟨p, hp⟩ : ∃ p, aftP (l.take lo) = p := ⟨_, rfl⟩
  rw [hp] at he ⊢
  obtain ⟨⟨fs1, x1⟩, k1, e1⟩ := p
  have HP := Li hp
  have j0 : ¬ e1 = 0 := he
  have j1 : (e1 != 0) = true := by simpa using j0
  clear hp he
  have HM := Li hM
  have HC := Li hC
  have HCW := Li hcw
  have HMr := Li hm
  have HR := Li hr
  have HZ := Li hsz
  have HG := Li hG
  have R0 := Li (((CB.new w 30 [.slice R m d]).alloc (.cells #[.int .i64 a, .int .i64 b] 46)).alloc (.cells #[.slice none 0 0] 30))
  have W0 := Li ((CB.new1 w (.cells #[.slice R m d] 30) 46 [.int .i64 a, .int .i64 b]).alloc (.cells #[.slice none 0 0] 30))
  have T0 := Li (CB.new2 w (.cells #[.slice R m d] 30) (.cells #[.int .i64 a, .int .i64 b] 46) 30 [.slice none 0 0])
  have BB := Li (al3 w (.cells #[.slice R m d] 30) (.cells #[.int .i64 a, .int .i64 b] 46) (.cells #[.slice none 0 0] 30))
  clear hM hC hcw hm hr hsz hG
  go_enter Tryz.func23, Tryz.ntmps23
  go_upto_region 1 with fail
  generalize ((w.alloc (.cells #[.slice R m d] 30)).alloc (.cells #[.int .i64 a, .int .i64 b] 46)).alloc (.cells #[.slice none 0 0] 30) = V0 at *
  have R0 := Li R0.out.dr
  have W0 := Li W0.out.dr
  have T0 := Li T0.out.dr
  have BB := Li BB.out.drew
  refine wp_region_held_drew (S := fun w' => Hid (CB w' w.heap.size 30 [.slice R m d] ∧ CB w' (w.heap.size + 1) 46 [.int .i64 a, .int .i64 b])) (by kernel_rfl) (Li ⟨R0.out, W0.out⟩) (fun hHeld => ?_)
  revert hHeld R0 W0 T0 BB
  generalize V0.drew = X0
  intro R0 W0 T0 BB hHeld
  refine htk 0 ?_
  refine htf 1 (fun _ h => And.intro (h.out.1.cell 0 rfl) (And.intro (h.out.1.lt) (And.intro (h.out.2.c2) (h.out.2.lt)))) ?_
  refine htk 2 ?_
  refine htf 3 (fun _ h => And.intro (h.out.1.cell 0 rfl) (And.intro (h.out.1.lt) (And.intro (h.out.2.c2) (h.out.2.lt)))) ?_
  refine htk 4 ?_
  refine htk 5 ?_
  refine htf 6 (fun _ h => And.intro (h.out.1.cell 0 rfl) (And.intro (h.out.1.lt) (And.intro (h.out.2.c2) (h.out.2.lt)))) ?_
  refine htk 7 ?_
  refine htf 8 (fun _ h => And.intro (h.out.1.cell 0 rfl) (And.intro (h.out.1.lt) (And.intro (h.out.2.c2) (h.out.2.lt)))) ?_
  refine htk 9 ?_
  refine htk 10 ?_
  refine htk 11 ?_
  refine wpAnyH_done (by kernel_rfl) ?_ _
  go_wp2_with (go_at_call 46; go_loud (refine (After_any C lo c (l.take lo) _ HLo.out ((HC.out.up BB.out).take lo) (by omega) (fun q hq => HCW.out q (List.mem_of_mem_take hq))).mono ?_; rintro e v1 ⟨⟨A1, m1, c1, rfl, hm1, ho1⟩, hb1⟩; rw [HP.out] at hm1 ho1; rw [HP.out]; have HM1 := Li hm1; have O1 := Li (ho1.low (b := w.heap.size) BB.out.size); have B1 := Li (below_step BB.out BB.out.size hb1); have R1 := Li (R0.out.up hb1); have W1 := Li (W0.out.up hb1); have T1 := Li (T0.out.up hb1); have zT1 := T1.out.lt; have zR1 := R1.out.lt; have zW1 := W1.out.lt; have qt : w.heap.size + 1 + 1 < v1.heap.size + 1 := (by omega); have t10 := T1.out.cell 0 rfl; have t1f := T1.out.frozen 0; clear hb1 ho1 hm1))
  refine bodyPost_ret (res_cell Tryz.results23 rfl rfl ((T1.out.set_ 0 (.slice none 0 0)).alloc _) Tryz.underlying30 sizeRw rfl) rfl ⟨⟨none, 0, rfl, Own.nil _ _ _ _⟩, al_up2 (B1.out.setCell (p := ⟨(w.heap.size + 1 + 1), 0, none⟩) (by show w.heap.size ≤ w.heap.size + 1 + 1; omega) _) _⟩

/-- a schema's row that some block of the world holds -/
def SQ (w : World) (A : Option Addr) (m : Nat) (fs : List Fd) : Prop := m = fs.length ∧ Fds w w.heap.size A fs
theorem SQ.up {w w' : World} {A : Option Addr} {m : Nat} {fs : List Fd} (h : SQ w A m fs) (hb : Below w.heap.size w w') : SQ w' A m fs := ⟨h.1, h.2.up hb⟩
theorem SQ.grow {w w' : World} {A : Option Addr} {m U : Nat} {t : TypeId} {l : List Value} {fs : List Fd} (h : SQ w A m fs) (hU : CB w U t l) (hl : ∀ s, Value.string s ∉ l) (hg : w.grownBy w' (some U)) : SQ w' A m fs := by
  refine ⟨h.1, fun hn => ?_⟩
  obtain ⟨b, off, e, hlt, hc⟩ := h.2 hn
  have hb : some b ≠ some U := fun e2 => by
    injection e2 with e2
    subst e2
    cases fs with
    | nil => simp at hn
    | cons f T =>
      have h1 := hc 0 f.cells (by rfl) 1 (.string f.nm) (by rfl)
      rw [cell_of_row w b _ _ _ (0, 0) hU] at h1
      exact hl f.nm (by
        have h2 := h1
        simp only [List.getElem?_toArray] at h2
        exact List.mem_of_getElem? h2)
  refine ⟨b, off, e, Nat.lt_of_lt_of_le hlt hg.size, fun i vs hi => (hc i vs hi).keep fun j => ?_⟩
  simp only [World.cell?, hg.block b hlt hb]
theorem cb_ne {w : World} {g g' : Nat} {t t' : TypeId} {l l' : List Value} (h : CB w g t l) (h' : CB w g' t' l') (ht : t ≠ t') : some g ≠ some g' := fun e => by
  injection e with e
  subst e
  exact ht (cb_type h h')

set_option maxHeartbeats 8000000 in
set_option maxRecDepth 20000 in
theorem Tr_bad (C : Option Addr) (M c : Nat) (l : List Ch) (R : Option Addr) (m d : Nat) (r : List Ce) (a b : Int) (w : World) (hM : M = l.length) (hC : Chs w w.heap.size C l) (hM3 : M ≤ 300) (hMc : M ≤ c) (_hcm : c ≤ 9223372036854775807) (hcw : ∀ q ∈ l, CW q) (hm : m = r.length) (hr : Ces w w.heap.size R r) (_hml : m ≤ 1000000) (hsz : ∀ q ∈ r, q.v.s.size ≤ 9223372036854775807) (_hmd : m ≤ d) (_hdm : d ≤ 9223372036854775807) (hG : GV w) (lo hi : Nat) (hx : min a b = (lo : Int)) (hy : max a b = (hi : Int)) (hlh : lo ≤ hi) (hhM : hi ≤ M) (he : (aftP (l.take lo)).2.2 = 0) (E : Int) (hE : (aft (aftP (l.take lo)).1 0 (segL l lo hi)).2.2 = E) (hEn : E ≠ 0) :
    Calls Tryz.prog 23 #[.slice C M c, .agg #[.slice R m d], .agg #[.int .i64 a, .int .i64 b]] w fun e w' => RetE w w' ([], E) e ∧ Below w.heap.size w w' := by
  have HLo := Li (show lo = (l.take lo).length by rw [List.length_take, ← hM]; omega)
  have i1 : ¬ ((hi : Int) > (M : Int)) := by omega
  have i2 : (lo : Int) ≤ (M : Int) := by omega
  have i3 : (lo : Int) ≤ (c : Int) := by omega
  obtain ⟨p, hp⟩ : ∃ p, aftP (l.take lo) = p := ⟨_, rfl⟩
  rw [hp] at he hE
  try rw [hp]
  obtain ⟨⟨fs1, x1⟩, k1, e1⟩ := p
  obtain rfl : e1 = 0 := he
  have HOk := Li (show Ok ⟨fs1, x1⟩ by have := aft_oks (m := l.take lo) (s := Sc.new) (i := 0) ok_new; rw [show aft Sc.new 0 (l.take lo) = _ from hp] at this; exact this)
  obtain ⟨sg, hsg⟩ : ∃ sg, segL l lo hi = sg := ⟨_, rfl⟩
  rw [hsg] at hE
  try rw [hsg]
  obtain ⟨A3, hA3⟩ : ∃ A3, (if c = lo then C else Option.map (fun x => x.add (lo * 8)) C) = A3 := ⟨_, rfl⟩
  have HC3 := Li (show Chs w w.heap.size A3 sg by rw [← hsg]; exact (Chs.cut hC hA3 (by omega)).take (hi - lo))
  have HL3 := Li (show hi - lo = sg.length by rw [← hsg]; unfold segL; rw [List.length_take, List.length_drop]; omega)
  have HW3 := Li (show ∀ q ∈ sg, CW q by rw [← hsg]; exact fun q hq => hcw q (List.mem_of_mem_drop (List.mem_of_mem_take hq)))
  have i4 : (hi : Int) ≤ (c : Int) := by omega
  have i5 : (lo : Int) ≤ (hi : Int) := by omega
  have HP := Li hp
  clear hp hsg
  have j0 : ¬ E = 0 := hEn
  have j1 : (E != 0) = true := by simpa using j0
  have HE0 := Li (show ¬ (aft ⟨fs1, x1⟩ 0 sg).2.2 = 0 by rw [hE]; exact hEn)
  have HEE := Li hE
  clear hE
  have HM := Li hM
  have HC := Li hC
  have HCW := Li hcw
  have HMr := Li hm
  have HR := Li hr
  have HZ := Li hsz
  have HG := Li hG
  have R0 := Li (((CB.new w 30 [.slice R m d]).alloc (.cells #[.int .i64 a, .int .i64 b] 46)).alloc (.cells #[.slice none 0 0] 30))
  have W0 := Li ((CB.new1 w (.cells #[.slice R m d] 30) 46 [.int .i64 a, .int .i64 b]).alloc (.cells #[.slice none 0 0] 30))
  have T0 := Li (CB.new2 w (.cells #[.slice R m d] 30) (.cells #[.int .i64 a, .int .i64 b] 46) 30 [.slice none 0 0])
  have BB := Li (al3 w (.cells #[.slice R m d] 30) (.cells #[.int .i64 a, .int .i64 b] 46) (.cells #[.slice none 0 0] 30))
  clear hM hC hcw hm hr hsz hG
  go_enter Tryz.func23, Tryz.ntmps23
  go_upto_region 1 with fail
  generalize ((w.alloc (.cells #[.slice R m d] 30)).alloc (.cells #[.int .i64 a, .int .i64 b] 46)).alloc (.cells #[.slice none 0 0] 30) = V0 at *
  have R0 := Li R0.out.dr
  have W0 := Li W0.out.dr
  have T0 := Li T0.out.dr
  have BB := Li BB.out.drew
  refine wp_region_held_drew (S := fun w' => Hid (CB w' w.heap.size 30 [.slice R m d] ∧ CB w' (w.heap.size + 1) 46 [.int .i64 a, .int .i64 b])) (by kernel_rfl) (Li ⟨R0.out, W0.out⟩) (fun hHeld => ?_)
  revert hHeld R0 W0 T0 BB
  generalize V0.drew = X0
  intro R0 W0 T0 BB hHeld
  refine htk 0 ?_
  refine htf 1 (fun _ h => And.intro (h.out.1.cell 0 rfl) (And.intro (h.out.1.lt) (And.intro (h.out.2.c2) (h.out.2.lt)))) ?_
  refine htk 2 ?_
  refine htf 3 (fun _ h => And.intro (h.out.1.cell 0 rfl) (And.intro (h.out.1.lt) (And.intro (h.out.2.c2) (h.out.2.lt)))) ?_
  refine htk 4 ?_
  refine htk 5 ?_
  refine htf 6 (fun _ h => And.intro (h.out.1.cell 0 rfl) (And.intro (h.out.1.lt) (And.intro (h.out.2.c2) (h.out.2.lt)))) ?_
  refine htk 7 ?_
  refine htf 8 (fun _ h => And.intro (h.out.1.cell 0 rfl) (And.intro (h.out.1.lt) (And.intro (h.out.2.c2) (h.out.2.lt)))) ?_
  refine htk 9 ?_
  refine htk 10 ?_
  refine htk 11 ?_
  refine wpAnyH_done (by kernel_rfl) ?_ _
  go_upto_region 7 with (go_at_call 46; go_loud (refine (After_any C lo c (l.take lo) _ HLo.out ((HC.out.up BB.out).take lo) (by omega) (fun q hq => HCW.out q (List.mem_of_mem_take hq))).mono ?_; rintro e v1 ⟨⟨A1, m1, c1, rfl, hm1, ho1⟩, hb1⟩; rw [HP.out] at hm1 ho1; rw [HP.out]; have HM1 := Li hm1; have O1 := Li (ho1.low (b := w.heap.size) BB.out.size); have B1 := Li (below_step BB.out BB.out.size hb1); have R1 := Li (R0.out.up hb1); have W1 := Li (W0.out.up hb1); have T1 := Li (T0.out.up hb1); have zT1 := T1.out.lt; have zR1 := R1.out.lt; have zW1 := W1.out.lt; have qt : w.heap.size + 1 + 1 < v1.heap.size + 1 := (by omega); have t10 := T1.out.cell 0 rfl; have t1f := T1.out.frozen 0; clear hb1 ho1 hm1))
  have hal := al1 v1 (.cells #[.slice A1 m1 c1, .int .i64 x1] 35)
  have S10 := Li (CB.new v1 35 [.slice A1 m1 c1, .int .i64 x1])
  have R1 := Li (R1.out.up hal)
  have W1 := Li (W1.out.up hal)
  have T1 := Li (T1.out.up hal)
  have Q10 := Li (show SchAt (v1.alloc (.cells #[.slice A1 m1 c1, .int .i64 x1] 35)) w.heap.size A1 m1 c1 fs1 from SchAt.up (w := v1) ⟨HM1.out, B1.out.size, .inr O1.out⟩ hal)
  have BB := Li (al_up2 B1.out (.cells #[.slice A1 m1 c1, .int .i64 x1] 35))
  clear hal B1 O1 HM1 t10 t1f R0 W0 T0
  generalize v1.alloc (.cells #[.slice A1 m1 c1, .int .i64 x1] 35) = V1 at *
  go_cut [12, 13, 14] from 46 to 55 (fun e u v wx => ∃ (g13 g14 : Nat), e = .int .i64 E ∧ u = .pointer (some ⟨g13, 0, none⟩) ∧ v = .pointer (some ⟨g14, 0, none⟩) ∧ Hid (CB wx v1.heap.size 35 [.slice A1 m1 c1, .int .i64 x1]) ∧ Hid (CB wx w.heap.size 30 [.slice R m d]) ∧ Hid (CB wx (w.heap.size + 1) 46 [.int .i64 a, .int .i64 b]) ∧ Hid (CB wx (w.heap.size + 1 + 1) 30 [.slice none 0 0]) ∧ Hid (SchAt wx w.heap.size A1 m1 c1 fs1) ∧ Hid (Below w.heap.size w wx))
  case first =>
    have Q1 := Li (Q10.out.up (bd V1))
    have S10 := Li S10.out.dr
    have R1 := Li R1.out.dr
    have W1 := Li W1.out.dr
    have T1 := Li T1.out.dr
    have BB := Li BB.out.drew
    refine wp_region_held_drew (S := fun w' => Hid (CB w' v1.heap.size 35 [.slice A1 m1 c1, .int .i64 x1] ∧ CB w' w.heap.size 30 [.slice R m d] ∧ CB w' (w.heap.size + 1) 46 [.int .i64 a, .int .i64 b])) (by kernel_rfl) (Li ⟨S10.out, R1.out, W1.out⟩) (fun hHeld => ?_)
    revert hHeld S10 R1 W1 T1 BB Q1
    generalize V1.drew = X0
    intro Q1 S10 R1 W1 T1 BB hHeld
    refine htf 0 (fun _ h => And.intro (h.out.1.c2) (And.intro (h.out.1.lt) (And.intro (h.out.2.1.cell 0 rfl) (And.intro (h.out.2.1.lt) (And.intro (h.out.2.2.c2) (h.out.2.2.lt)))))) ?_
    refine htk 1 ?_
    refine htk 2 ?_
    refine htk 3 ?_
    refine htk 4 ?_
    refine rd3 5 10 11 (fun KK hK => ?_) (fun KK hK => ?_) (fun KK hK => ?_)
    · go_simp
      go_at_call 47
      refine (pathOf_any A1 m1 c1 x1 fs1 A3 (hi - lo) (c - lo) sg _ Q1.out.1 Q1.out.fds HOk.out HL3.out (HC3.out.up BB.out) (by omega) HW3.out).mono ?_
      rintro e v5 ⟨hp5, hb8⟩
      unfold PathR at hp5
      rw [if_neg HE0.out] at hp5
      subst hp5
      have S10 := Li (S10.out.up hb8)
      have R1 := Li (R1.out.up hb8)
      have W1 := Li (W1.out.up hb8)
      have T1 := Li (T1.out.up hb8)
      have Q1 := Li (Q1.out.up hb8)
      have BB := Li (below_step BB.out BB.out.size hb8)
      clear hb8
      go_wp2_with fail
      refine hK.out _ _ (Li ⟨S10.out, R1.out, W1.out⟩) (fun hHeld => ?_)
      clear hK KK
      try simp only [pnz]
      refine htk 6 ?_
      refine htk 7 ?_
      refine htk 8 ?_
      refine htk 9 ?_
      refine rd2 10 11 (fun KK hK => ?_) (fun KK hK => ?_)
      · go_simp
        have x10 := S10.out.lt
        have n10 := T1.out.lt
        have G10 := Li (CB.new v5 73 [.nilFunc, .nilFunc])
        have S10 := Li (S10.out.alloc (.cells #[.nilFunc, .nilFunc] 73))
        have R1 := Li (R1.out.alloc (.cells #[.nilFunc, .nilFunc] 73))
        have W1 := Li (W1.out.alloc (.cells #[.nilFunc, .nilFunc] 73))
        have T1 := Li (T1.out.alloc (.cells #[.nilFunc, .nilFunc] 73))
        have BB := Li (BB.out.alloc BB.out.size (.cells #[.nilFunc, .nilFunc] 73))
        have m10 := G10.out.lt
        have Q1 := Li (Q1.out.up (al1 v5 (.cells #[.nilFunc, .nilFunc] 73)))
        refine hK.out _ _ (Li ⟨S10.out, R1.out, W1.out⟩) (fun hHeld => ?_)
        clear hK KK
        try simp only [pnz]
        generalize v5.alloc (.cells #[.nilFunc, .nilFunc] 73) = v10 at Q1 S10 R1 W1 T1 G10 m10 hHeld BB ⊢
        refine rd1 11 fun KK hK => ?_
        go_simp
        have x11 := S10.out.lt
        have n11 := T1.out.lt
        have d1011 := G10.out.lt
        have G11 := Li (CB.new v10 35 [.slice none 0 0, .int .i64 0])
        have S10 := Li (S10.out.alloc (.cells #[.slice none 0 0, .int .i64 0] 35))
        have R1 := Li (R1.out.alloc (.cells #[.slice none 0 0, .int .i64 0] 35))
        have W1 := Li (W1.out.alloc (.cells #[.slice none 0 0, .int .i64 0] 35))
        have T1 := Li (T1.out.alloc (.cells #[.slice none 0 0, .int .i64 0] 35))
        have G10 := Li (G10.out.alloc (.cells #[.slice none 0 0, .int .i64 0] 35))
        have BB := Li (BB.out.alloc BB.out.size (.cells #[.slice none 0 0, .int .i64 0] 35))
        have m11 := G11.out.lt
        have Q1 := Li (Q1.out.up (al1 v10 (.cells #[.slice none 0 0, .int .i64 0] 35)))
        refine hK.out _ _ (Li ⟨S10.out, R1.out, W1.out⟩) (fun hHeld => ?_)
        clear hK KK
        try simp only [pnz]
        generalize v10.alloc (.cells #[.slice none 0 0, .int .i64 0] 35) = v11 at Q1 S10 R1 W1 T1 G11 m11 hHeld BB G10 ⊢
        refine rd1 12 fun KK hK => ?_
        refine step_store_cb rfl 73 (.tmp 13) (.tmp 53) rfl v5.heap.size [.nilFunc, .nilFunc] rfl rfl 73 [.nilFunc, .nilFunc] 2 G10.out sizeLe rfl rfl (one_fn _ _ (by rfl) (by rfl)) ?_
        intro s12 hc12 hg12 hz12
        have S10 := Li (S10.out.grown hg12 (by intro h; injection h with h; omega))
        have R1 := Li (R1.out.grown hg12 (by intro h; injection h with h; omega))
        have W1 := Li (W1.out.grown hg12 (by intro h; injection h with h; omega))
        have T1 := Li (T1.out.grown hg12 (by intro h; injection h with h; omega))
        have G11 := Li (G11.out.grown hg12 (by intro h; injection h with h; omega))
        have Q1 := Li (Q1.out.grow G10.out (by decide) (by omega) hg12)
        have G10 := Li hc12
        have BB := Li (below_grown BB.out hg12 BB.out.size (by omega))
        refine hK.out _ _ (Li ⟨S10.out, R1.out, W1.out⟩) (fun hHeld => ?_)
        clear hK KK
        try simp only [pnz]
        refine rd1 13 fun KK hK => ?_
        refine step_store_cb rfl 35 (.tmp 14) (.tmp 54) rfl v10.heap.size [.slice none 0 0, .int .i64 0] rfl rfl 35 [.slice none 0 0, .int .i64 0] 2 G11.out sizeS rfl rfl (one_s _ _ _ _) ?_
        intro s13 hc13 hg13 hz13
        have S10 := Li (S10.out.grown hg13 (by intro h; injection h with h; omega))
        have R1 := Li (R1.out.grown hg13 (by intro h; injection h with h; omega))
        have W1 := Li (W1.out.grown hg13 (by intro h; injection h with h; omega))
        have T1 := Li (T1.out.grown hg13 (by intro h; injection h with h; omega))
        have G10 := Li (G10.out.grown hg13 (by intro h; injection h with h; omega))
        have Q1 := Li (Q1.out.grow G11.out (by decide) (by omega) hg13)
        have G11 := Li hc13
        have BB := Li (below_grown BB.out hg13 BB.out.size (by omega))
        refine hK.out _ _ (Li ⟨S10.out, R1.out, W1.out⟩) (fun hHeld => ?_)
        clear hK KK
        try simp only [pnz]
        refine htk 14 ?_
        refine wpAnyH_done (by kernel_rfl) ?_ _
        go_wp2_with fail
        go_meet
        exact ⟨_, _, by rw [HEE.out], rfl, rfl, S10, R1, W1, T1, Q1, BB⟩
      · go_simp
        have x11 := S10.out.lt
        have n11 := T1.out.lt
        have G11 := Li (CB.new v5 35 [.slice none 0 0, .int .i64 0])
        have S10 := Li (S10.out.alloc (.cells #[.slice none 0 0, .int .i64 0] 35))
        have R1 := Li (R1.out.alloc (.cells #[.slice none 0 0, .int .i64 0] 35))
        have W1 := Li (W1.out.alloc (.cells #[.slice none 0 0, .int .i64 0] 35))
        have T1 := Li (T1.out.alloc (.cells #[.slice none 0 0, .int .i64 0] 35))
        have BB := Li (BB.out.alloc BB.out.size (.cells #[.slice none 0 0, .int .i64 0] 35))
        have m11 := G11.out.lt
        have Q1 := Li (Q1.out.up (al1 v5 (.cells #[.slice none 0 0, .int .i64 0] 35)))
        refine hK.out _ _ (Li ⟨S10.out, R1.out, W1.out⟩) (fun hHeld => ?_)
        clear hK KK
        try simp only [pnz]
        generalize v5.alloc (.cells #[.slice none 0 0, .int .i64 0] 35) = v11 at Q1 S10 R1 W1 T1 G11 m11 hHeld BB ⊢
        refine rd1 10 fun KK hK => ?_
        go_simp
        have x10 := S10.out.lt
        have n10 := T1.out.lt
        have d1110 := G11.out.lt
        have G10 := Li (CB.new v11 73 [.nilFunc, .nilFunc])
        have S10 := Li (S10.out.alloc (.cells #[.nilFunc, .nilFunc] 73))
        have R1 := Li (R1.out.alloc (.cells #[.nilFunc, .nilFunc] 73))
        have W1 := Li (W1.out.alloc (.cells #[.nilFunc, .nilFunc] 73))
        have T1 := Li (T1.out.alloc (.cells #[.nilFunc, .nilFunc] 73))
        have G11 := Li (G11.out.alloc (.cells #[.nilFunc, .nilFunc] 73))
        have BB := Li (BB.out.alloc BB.out.size (.cells #[.nilFunc, .nilFunc] 73))
        have m10 := G10.out.lt
        have Q1 := Li (Q1.out.up (al1 v11 (.cells #[.nilFunc, .nilFunc] 73)))
        refine hK.out _ _ (Li ⟨S10.out, R1.out, W1.out⟩) (fun hHeld => ?_)
        clear hK KK
        try simp only [pnz]
        generalize v11.alloc (.cells #[.nilFunc, .nilFunc] 73) = v10 at Q1 S10 R1 W1 T1 G10 m10 hHeld BB G11 ⊢
        refine rd1 12 fun KK hK => ?_
        refine step_store_cb rfl 73 (.tmp 13) (.tmp 53) rfl v11.heap.size [.nilFunc, .nilFunc] rfl rfl 73 [.nilFunc, .nilFunc] 2 G10.out sizeLe rfl rfl (one_fn _ _ (by rfl) (by rfl)) ?_
        intro s12 hc12 hg12 hz12
        have S10 := Li (S10.out.grown hg12 (by intro h; injection h with h; omega))
        have R1 := Li (R1.out.grown hg12 (by intro h; injection h with h; omega))
        have W1 := Li (W1.out.grown hg12 (by intro h; injection h with h; omega))
        have T1 := Li (T1.out.grown hg12 (by intro h; injection h with h; omega))
        have G11 := Li (G11.out.grown hg12 (by intro h; injection h with h; omega))
        have Q1 := Li (Q1.out.grow G10.out (by decide) (by omega) hg12)
        have G10 := Li hc12
        have BB := Li (below_grown BB.out hg12 BB.out.size (by omega))
        refine hK.out _ _ (Li ⟨S10.out, R1.out, W1.out⟩) (fun hHeld => ?_)
        clear hK KK
        try simp only [pnz]
        refine rd1 13 fun KK hK => ?_
        refine step_store_cb rfl 35 (.tmp 14) (.tmp 54) rfl v5.heap.size [.slice none 0 0, .int .i64 0] rfl rfl 35 [.slice none 0 0, .int .i64 0] 2 G11.out sizeS rfl rfl (one_s _ _ _ _) ?_
        intro s13 hc13 hg13 hz13
        have S10 := Li (S10.out.grown hg13 (by intro h; injection h with h; omega))
        have R1 := Li (R1.out.grown hg13 (by intro h; injection h with h; omega))
        have W1 := Li (W1.out.grown hg13 (by intro h; injection h with h; omega))
        have T1 := Li (T1.out.grown hg13 (by intro h; injection h with h; omega))
        have G10 := Li (G10.out.grown hg13 (by intro h; injection h with h; omega))
        have Q1 := Li (Q1.out.grow G11.out (by decide) (by omega) hg13)
        have G11 := Li hc13
        have BB := Li (below_grown BB.out hg13 BB.out.size (by omega))
        refine hK.out _ _ (Li ⟨S10.out, R1.out, W1.out⟩) (fun hHeld => ?_)
        clear hK KK
        try simp only [pnz]
        refine htk 14 ?_
        refine wpAnyH_done (by kernel_rfl) ?_ _
        go_wp2_with fail
        go_meet
        exact ⟨_, _, by rw [HEE.out], rfl, rfl, S10, R1, W1, T1, Q1, BB⟩
    · go_simp
      have x10 := S10.out.lt
      have n10 := T1.out.lt
      have G10 := Li (CB.new X0 73 [.nilFunc, .nilFunc])
      have S10 := Li (S10.out.alloc (.cells #[.nilFunc, .nilFunc] 73))
      have R1 := Li (R1.out.alloc (.cells #[.nilFunc, .nilFunc] 73))
      have W1 := Li (W1.out.alloc (.cells #[.nilFunc, .nilFunc] 73))
      have T1 := Li (T1.out.alloc (.cells #[.nilFunc, .nilFunc] 73))
      have BB := Li (BB.out.alloc BB.out.size (.cells #[.nilFunc, .nilFunc] 73))
      have m10 := G10.out.lt
      have Q1 := Li (Q1.out.up (al1 X0 (.cells #[.nilFunc, .nilFunc] 73)))
      refine hK.out _ _ (Li ⟨S10.out, R1.out, W1.out⟩) (fun hHeld => ?_)
      clear hK KK
      try simp only [pnz]
      generalize X0.alloc (.cells #[.nilFunc, .nilFunc] 73) = v10 at Q1 S10 R1 W1 T1 G10 m10 hHeld BB ⊢
      refine rd2 5 11 (fun KK hK => ?_) (fun KK hK => ?_)
      · go_simp
        go_at_call 47
        refine (pathOf_any A1 m1 c1 x1 fs1 A3 (hi - lo) (c - lo) sg _ Q1.out.1 Q1.out.fds HOk.out HL3.out (HC3.out.up BB.out) (by omega) HW3.out).mono ?_
        rintro e v5 ⟨hp5, hb8⟩
        unfold PathR at hp5
        rw [if_neg HE0.out] at hp5
        subst hp5
        have S10 := Li (S10.out.up hb8)
        have R1 := Li (R1.out.up hb8)
        have W1 := Li (W1.out.up hb8)
        have T1 := Li (T1.out.up hb8)
        have G10 := Li (G10.out.up hb8)
        have Q1 := Li (Q1.out.up hb8)
        have BB := Li (below_step BB.out BB.out.size hb8)
        clear hb8
        go_wp2_with fail
        refine hK.out _ _ (Li ⟨S10.out, R1.out, W1.out⟩) (fun hHeld => ?_)
        clear hK KK
        try simp only [pnz]
        refine htk 6 ?_
        refine htk 7 ?_
        refine htk 8 ?_
        refine htk 9 ?_
        refine rd1 11 fun KK hK => ?_
        go_simp
        have x11 := S10.out.lt
        have n11 := T1.out.lt
        have d1011 := G10.out.lt
        have G11 := Li (CB.new v5 35 [.slice none 0 0, .int .i64 0])
        have S10 := Li (S10.out.alloc (.cells #[.slice none 0 0, .int .i64 0] 35))
        have R1 := Li (R1.out.alloc (.cells #[.slice none 0 0, .int .i64 0] 35))
        have W1 := Li (W1.out.alloc (.cells #[.slice none 0 0, .int .i64 0] 35))
        have T1 := Li (T1.out.alloc (.cells #[.slice none 0 0, .int .i64 0] 35))
        have G10 := Li (G10.out.alloc (.cells #[.slice none 0 0, .int .i64 0] 35))
        have BB := Li (BB.out.alloc BB.out.size (.cells #[.slice none 0 0, .int .i64 0] 35))
        have m11 := G11.out.lt
        have Q1 := Li (Q1.out.up (al1 v5 (.cells #[.slice none 0 0, .int .i64 0] 35)))
        refine hK.out _ _ (Li ⟨S10.out, R1.out, W1.out⟩) (fun hHeld => ?_)
        clear hK KK
        try simp only [pnz]
        generalize v5.alloc (.cells #[.slice none 0 0, .int .i64 0] 35) = v11 at Q1 S10 R1 W1 T1 G11 m11 hHeld BB G10 ⊢
        refine rd1 12 fun KK hK => ?_
        refine step_store_cb rfl 73 (.tmp 13) (.tmp 53) rfl X0.heap.size [.nilFunc, .nilFunc] rfl rfl 73 [.nilFunc, .nilFunc] 2 G10.out sizeLe rfl rfl (one_fn _ _ (by rfl) (by rfl)) ?_
        intro s12 hc12 hg12 hz12
        have S10 := Li (S10.out.grown hg12 (by intro h; injection h with h; omega))
        have R1 := Li (R1.out.grown hg12 (by intro h; injection h with h; omega))
        have W1 := Li (W1.out.grown hg12 (by intro h; injection h with h; omega))
        have T1 := Li (T1.out.grown hg12 (by intro h; injection h with h; omega))
        have G11 := Li (G11.out.grown hg12 (by intro h; injection h with h; omega))
        have Q1 := Li (Q1.out.grow G10.out (by decide) (by omega) hg12)
        have G10 := Li hc12
        have BB := Li (below_grown BB.out hg12 BB.out.size (by omega))
        refine hK.out _ _ (Li ⟨S10.out, R1.out, W1.out⟩) (fun hHeld => ?_)
        clear hK KK
        try simp only [pnz]
        refine rd1 13 fun KK hK => ?_
        refine step_store_cb rfl 35 (.tmp 14) (.tmp 54) rfl v5.heap.size [.slice none 0 0, .int .i64 0] rfl rfl 35 [.slice none 0 0, .int .i64 0] 2 G11.out sizeS rfl rfl (one_s _ _ _ _) ?_
        intro s13 hc13 hg13 hz13
        have S10 := Li (S10.out.grown hg13 (by intro h; injection h with h; omega))
        have R1 := Li (R1.out.grown hg13 (by intro h; injection h with h; omega))
        have W1 := Li (W1.out.grown hg13 (by intro h; injection h with h; omega))
        have T1 := Li (T1.out.grown hg13 (by intro h; injection h with h; omega))
        have G10 := Li (G10.out.grown hg13 (by intro h; injection h with h; omega))
        have Q1 := Li (Q1.out.grow G11.out (by decide) (by omega) hg13)
        have G11 := Li hc13
        have BB := Li (below_grown BB.out hg13 BB.out.size (by omega))
        refine hK.out _ _ (Li ⟨S10.out, R1.out, W1.out⟩) (fun hHeld => ?_)
        clear hK KK
        try simp only [pnz]
        refine htk 14 ?_
        refine wpAnyH_done (by kernel_rfl) ?_ _
        go_wp2_with fail
        go_meet
        exact ⟨_, _, by rw [HEE.out], rfl, rfl, S10, R1, W1, T1, Q1, BB⟩
      · go_simp
        have x11 := S10.out.lt
        have n11 := T1.out.lt
        have d1011 := G10.out.lt
        have G11 := Li (CB.new v10 35 [.slice none 0 0, .int .i64 0])
        have S10 := Li (S10.out.alloc (.cells #[.slice none 0 0, .int .i64 0] 35))
        have R1 := Li (R1.out.alloc (.cells #[.slice none 0 0, .int .i64 0] 35))
        have W1 := Li (W1.out.alloc (.cells #[.slice none 0 0, .int .i64 0] 35))
        have T1 := Li (T1.out.alloc (.cells #[.slice none 0 0, .int .i64 0] 35))
        have G10 := Li (G10.out.alloc (.cells #[.slice none 0 0, .int .i64 0] 35))
        have BB := Li (BB.out.alloc BB.out.size (.cells #[.slice none 0 0, .int .i64 0] 35))
        have m11 := G11.out.lt
        have Q1 := Li (Q1.out.up (al1 v10 (.cells #[.slice none 0 0, .int .i64 0] 35)))
        refine hK.out _ _ (Li ⟨S10.out, R1.out, W1.out⟩) (fun hHeld => ?_)
        clear hK KK
        try simp only [pnz]
        generalize v10.alloc (.cells #[.slice none 0 0, .int .i64 0] 35) = v11 at Q1 S10 R1 W1 T1 G11 m11 hHeld BB G10 ⊢
        refine rd1 5 fun KK hK => ?_
        go_simp
        go_at_call 47
        refine (pathOf_any A1 m1 c1 x1 fs1 A3 (hi - lo) (c - lo) sg _ Q1.out.1 Q1.out.fds HOk.out HL3.out (HC3.out.up BB.out) (by omega) HW3.out).mono ?_
        rintro e v5 ⟨hp5, hb8⟩
        unfold PathR at hp5
        rw [if_neg HE0.out] at hp5
        subst hp5
        have S10 := Li (S10.out.up hb8)
        have R1 := Li (R1.out.up hb8)
        have W1 := Li (W1.out.up hb8)
        have T1 := Li (T1.out.up hb8)
        have G10 := Li (G10.out.up hb8)
        have G11 := Li (G11.out.up hb8)
        have Q1 := Li (Q1.out.up hb8)
        have BB := Li (below_step BB.out BB.out.size hb8)
        clear hb8
        go_wp2_with fail
        refine hK.out _ _ (Li ⟨S10.out, R1.out, W1.out⟩) (fun hHeld => ?_)
        clear hK KK
        try simp only [pnz]
        refine htk 6 ?_
        refine htk 7 ?_
        refine htk 8 ?_
        refine htk 9 ?_
        refine rd1 12 fun KK hK => ?_
        refine step_store_cb rfl 73 (.tmp 13) (.tmp 53) rfl X0.heap.size [.nilFunc, .nilFunc] rfl rfl 73 [.nilFunc, .nilFunc] 2 G10.out sizeLe rfl rfl (one_fn _ _ (by rfl) (by rfl)) ?_
        intro s12 hc12 hg12 hz12
        have S10 := Li (S10.out.grown hg12 (by intro h; injection h with h; omega))
        have R1 := Li (R1.out.grown hg12 (by intro h; injection h with h; omega))
        have W1 := Li (W1.out.grown hg12 (by intro h; injection h with h; omega))
        have T1 := Li (T1.out.grown hg12 (by intro h; injection h with h; omega))
        have G11 := Li (G11.out.grown hg12 (by intro h; injection h with h; omega))
        have Q1 := Li (Q1.out.grow G10.out (by decide) (by omega) hg12)
        have G10 := Li hc12
        have BB := Li (below_grown BB.out hg12 BB.out.size (by omega))
        refine hK.out _ _ (Li ⟨S10.out, R1.out, W1.out⟩) (fun hHeld => ?_)
        clear hK KK
        try simp only [pnz]
        refine rd1 13 fun KK hK => ?_
        refine step_store_cb rfl 35 (.tmp 14) (.tmp 54) rfl v10.heap.size [.slice none 0 0, .int .i64 0] rfl rfl 35 [.slice none 0 0, .int .i64 0] 2 G11.out sizeS rfl rfl (one_s _ _ _ _) ?_
        intro s13 hc13 hg13 hz13
        have S10 := Li (S10.out.grown hg13 (by intro h; injection h with h; omega))
        have R1 := Li (R1.out.grown hg13 (by intro h; injection h with h; omega))
        have W1 := Li (W1.out.grown hg13 (by intro h; injection h with h; omega))
        have T1 := Li (T1.out.grown hg13 (by intro h; injection h with h; omega))
        have G10 := Li (G10.out.grown hg13 (by intro h; injection h with h; omega))
        have Q1 := Li (Q1.out.grow G11.out (by decide) (by omega) hg13)
        have G11 := Li hc13
        have BB := Li (below_grown BB.out hg13 BB.out.size (by omega))
        refine hK.out _ _ (Li ⟨S10.out, R1.out, W1.out⟩) (fun hHeld => ?_)
        clear hK KK
        try simp only [pnz]
        refine htk 14 ?_
        refine wpAnyH_done (by kernel_rfl) ?_ _
        go_wp2_with fail
        go_meet
        exact ⟨_, _, by rw [HEE.out], rfl, rfl, S10, R1, W1, T1, Q1, BB⟩
    · go_simp
      have x11 := S10.out.lt
      have n11 := T1.out.lt
      have G11 := Li (CB.new X0 35 [.slice none 0 0, .int .i64 0])
      have S10 := Li (S10.out.alloc (.cells #[.slice none 0 0, .int .i64 0] 35))
      have R1 := Li (R1.out.alloc (.cells #[.slice none 0 0, .int .i64 0] 35))
      have W1 := Li (W1.out.alloc (.cells #[.slice none 0 0, .int .i64 0] 35))
      have T1 := Li (T1.out.alloc (.cells #[.slice none 0 0, .int .i64 0] 35))
      have BB := Li (BB.out.alloc BB.out.size (.cells #[.slice none 0 0, .int .i64 0] 35))
      have m11 := G11.out.lt
      have Q1 := Li (Q1.out.up (al1 X0 (.cells #[.slice none 0 0, .int .i64 0] 35)))
      refine hK.out _ _ (Li ⟨S10.out, R1.out, W1.out⟩) (fun hHeld => ?_)
      clear hK KK
      try simp only [pnz]
      generalize X0.alloc (.cells #[.slice none 0 0, .int .i64 0] 35) = v11 at Q1 S10 R1 W1 T1 G11 m11 hHeld BB ⊢
      refine rd2 5 10 (fun KK hK => ?_) (fun KK hK => ?_)
      · go_simp
        go_at_call 47
        refine (pathOf_any A1 m1 c1 x1 fs1 A3 (hi - lo) (c - lo) sg _ Q1.out.1 Q1.out.fds HOk.out HL3.out (HC3.out.up BB.out) (by omega) HW3.out).mono ?_
        rintro e v5 ⟨hp5, hb8⟩
        unfold PathR at hp5
        rw [if_neg HE0.out] at hp5
        subst hp5
        have S10 := Li (S10.out.up hb8)
        have R1 := Li (R1.out.up hb8)
        have W1 := Li (W1.out.up hb8)
        have T1 := Li (T1.out.up hb8)
        have G11 := Li (G11.out.up hb8)
        have Q1 := Li (Q1.out.up hb8)
        have BB := Li (below_step BB.out BB.out.size hb8)
        clear hb8
        go_wp2_with fail
        refine hK.out _ _ (Li ⟨S10.out, R1.out, W1.out⟩) (fun hHeld => ?_)
        clear hK KK
        try simp only [pnz]
        refine htk 6 ?_
        refine htk 7 ?_
        refine htk 8 ?_
        refine htk 9 ?_
        refine rd1 10 fun KK hK => ?_
        go_simp
        have x10 := S10.out.lt
        have n10 := T1.out.lt
        have d1110 := G11.out.lt
        have G10 := Li (CB.new v5 73 [.nilFunc, .nilFunc])
        have S10 := Li (S10.out.alloc (.cells #[.nilFunc, .nilFunc] 73))
        have R1 := Li (R1.out.alloc (.cells #[.nilFunc, .nilFunc] 73))
        have W1 := Li (W1.out.alloc (.cells #[.nilFunc, .nilFunc] 73))
        have T1 := Li (T1.out.alloc (.cells #[.nilFunc, .nilFunc] 73))
        have G11 := Li (G11.out.alloc (.cells #[.nilFunc, .nilFunc] 73))
        have BB := Li (BB.out.alloc BB.out.size (.cells #[.nilFunc, .nilFunc] 73))
        have m10 := G10.out.lt
        have Q1 := Li (Q1.out.up (al1 v5 (.cells #[.nilFunc, .nilFunc] 73)))
        refine hK.out _ _ (Li ⟨S10.out, R1.out, W1.out⟩) (fun hHeld => ?_)
        clear hK KK
        try simp only [pnz]
        generalize v5.alloc (.cells #[.nilFunc, .nilFunc] 73) = v10 at Q1 S10 R1 W1 T1 G10 m10 hHeld BB G11 ⊢
        refine rd1 12 fun KK hK => ?_
        refine step_store_cb rfl 73 (.tmp 13) (.tmp 53) rfl v5.heap.size [.nilFunc, .nilFunc] rfl rfl 73 [.nilFunc, .nilFunc] 2 G10.out sizeLe rfl rfl (one_fn _ _ (by rfl) (by rfl)) ?_
        intro s12 hc12 hg12 hz12
        have S10 := Li (S10.out.grown hg12 (by intro h; injection h with h; omega))
        have R1 := Li (R1.out.grown hg12 (by intro h; injection h with h; omega))
        have W1 := Li (W1.out.grown hg12 (by intro h; injection h with h; omega))
        have T1 := Li (T1.out.grown hg12 (by intro h; injection h with h; omega))
        have G11 := Li (G11.out.grown hg12 (by intro h; injection h with h; omega))
        have Q1 := Li (Q1.out.grow G10.out (by decide) (by omega) hg12)
        have G10 := Li hc12
        have BB := Li (below_grown BB.out hg12 BB.out.size (by omega))
        refine hK.out _ _ (Li ⟨S10.out, R1.out, W1.out⟩) (fun hHeld => ?_)
        clear hK KK
        try simp only [pnz]
        refine rd1 13 fun KK hK => ?_
        refine step_store_cb rfl 35 (.tmp 14) (.tmp 54) rfl X0.heap.size [.slice none 0 0, .int .i64 0] rfl rfl 35 [.slice none 0 0, .int .i64 0] 2 G11.out sizeS rfl rfl (one_s _ _ _ _) ?_
        intro s13 hc13 hg13 hz13
        have S10 := Li (S10.out.grown hg13 (by intro h; injection h with h; omega))
        have R1 := Li (R1.out.grown hg13 (by intro h; injection h with h; omega))
        have W1 := Li (W1.out.grown hg13 (by intro h; injection h with h; omega))
        have T1 := Li (T1.out.grown hg13 (by intro h; injection h with h; omega))
        have G10 := Li (G10.out.grown hg13 (by intro h; injection h with h; omega))
        have Q1 := Li (Q1.out.grow G11.out (by decide) (by omega) hg13)
        have G11 := Li hc13
        have BB := Li (below_grown BB.out hg13 BB.out.size (by omega))
        refine hK.out _ _ (Li ⟨S10.out, R1.out, W1.out⟩) (fun hHeld => ?_)
        clear hK KK
        try simp only [pnz]
        refine htk 14 ?_
        refine wpAnyH_done (by kernel_rfl) ?_ _
        go_wp2_with fail
        go_meet
        exact ⟨_, _, by rw [HEE.out], rfl, rfl, S10, R1, W1, T1, Q1, BB⟩
      · go_simp
        have x10 := S10.out.lt
        have n10 := T1.out.lt
        have d1110 := G11.out.lt
        have G10 := Li (CB.new v11 73 [.nilFunc, .nilFunc])
        have S10 := Li (S10.out.alloc (.cells #[.nilFunc, .nilFunc] 73))
        have R1 := Li (R1.out.alloc (.cells #[.nilFunc, .nilFunc] 73))
        have W1 := Li (W1.out.alloc (.cells #[.nilFunc, .nilFunc] 73))
        have T1 := Li (T1.out.alloc (.cells #[.nilFunc, .nilFunc] 73))
        have G11 := Li (G11.out.alloc (.cells #[.nilFunc, .nilFunc] 73))
        have BB := Li (BB.out.alloc BB.out.size (.cells #[.nilFunc, .nilFunc] 73))
        have m10 := G10.out.lt
        have Q1 := Li (Q1.out.up (al1 v11 (.cells #[.nilFunc, .nilFunc] 73)))
        refine hK.out _ _ (Li ⟨S10.out, R1.out, W1.out⟩) (fun hHeld => ?_)
        clear hK KK
        try simp only [pnz]
        generalize v11.alloc (.cells #[.nilFunc, .nilFunc] 73) = v10 at Q1 S10 R1 W1 T1 G10 m10 hHeld BB G11 ⊢
        refine rd1 5 fun KK hK => ?_
        go_simp
        go_at_call 47
        refine (pathOf_any A1 m1 c1 x1 fs1 A3 (hi - lo) (c - lo) sg _ Q1.out.1 Q1.out.fds HOk.out HL3.out (HC3.out.up BB.out) (by omega) HW3.out).mono ?_
        rintro e v5 ⟨hp5, hb8⟩
        unfold PathR at hp5
        rw [if_neg HE0.out] at hp5
        subst hp5
        have S10 := Li (S10.out.up hb8)
        have R1 := Li (R1.out.up hb8)
        have W1 := Li (W1.out.up hb8)
        have T1 := Li (T1.out.up hb8)
        have G11 := Li (G11.out.up hb8)
        have G10 := Li (G10.out.up hb8)
        have Q1 := Li (Q1.out.up hb8)
        have BB := Li (below_step BB.out BB.out.size hb8)
        clear hb8
        go_wp2_with fail
        refine hK.out _ _ (Li ⟨S10.out, R1.out, W1.out⟩) (fun hHeld => ?_)
        clear hK KK
        try simp only [pnz]
        refine htk 6 ?_
        refine htk 7 ?_
        refine htk 8 ?_
        refine htk 9 ?_
        refine rd1 12 fun KK hK => ?_
        refine step_store_cb rfl 73 (.tmp 13) (.tmp 53) rfl v11.heap.size [.nilFunc, .nilFunc] rfl rfl 73 [.nilFunc, .nilFunc] 2 G10.out sizeLe rfl rfl (one_fn _ _ (by rfl) (by rfl)) ?_
        intro s12 hc12 hg12 hz12
        have S10 := Li (S10.out.grown hg12 (by intro h; injection h with h; omega))
        have R1 := Li (R1.out.grown hg12 (by intro h; injection h with h; omega))
        have W1 := Li (W1.out.grown hg12 (by intro h; injection h with h; omega))
        have T1 := Li (T1.out.grown hg12 (by intro h; injection h with h; omega))
        have G11 := Li (G11.out.grown hg12 (by intro h; injection h with h; omega))
        have Q1 := Li (Q1.out.grow G10.out (by decide) (by omega) hg12)
        have G10 := Li hc12
        have BB := Li (below_grown BB.out hg12 BB.out.size (by omega))
        refine hK.out _ _ (Li ⟨S10.out, R1.out, W1.out⟩) (fun hHeld => ?_)
        clear hK KK
        try simp only [pnz]
        refine rd1 13 fun KK hK => ?_
        refine step_store_cb rfl 35 (.tmp 14) (.tmp 54) rfl X0.heap.size [.slice none 0 0, .int .i64 0] rfl rfl 35 [.slice none 0 0, .int .i64 0] 2 G11.out sizeS rfl rfl (one_s _ _ _ _) ?_
        intro s13 hc13 hg13 hz13
        have S10 := Li (S10.out.grown hg13 (by intro h; injection h with h; omega))
        have R1 := Li (R1.out.grown hg13 (by intro h; injection h with h; omega))
        have W1 := Li (W1.out.grown hg13 (by intro h; injection h with h; omega))
        have T1 := Li (T1.out.grown hg13 (by intro h; injection h with h; omega))
        have G10 := Li (G10.out.grown hg13 (by intro h; injection h with h; omega))
        have Q1 := Li (Q1.out.grow G11.out (by decide) (by omega) hg13)
        have G11 := Li hc13
        have BB := Li (below_grown BB.out hg13 BB.out.size (by omega))
        refine hK.out _ _ (Li ⟨S10.out, R1.out, W1.out⟩) (fun hHeld => ?_)
        clear hK KK
        try simp only [pnz]
        refine htk 14 ?_
        refine wpAnyH_done (by kernel_rfl) ?_ _
        go_wp2_with fail
        go_meet
        exact ⟨_, _, by rw [HEE.out], rfl, rfl, S10, R1, W1, T1, Q1, BB⟩
  case rest =>
    clear S10 R1 W1 T1 Q10 BB
    obtain ⟨g13, g14, rfl, rfl, rfl, S10, R1, W1, T1, Q1, BB⟩ := hcut
    generalize wc = V2 at *
    have t10 := T1.out.cell 0 rfl
    have t1f := T1.out.frozen 0
    have zT := T1.out.lt
    go_wp2
    refine bodyPost_ret (res_cell Tryz.results23 rfl rfl (T1.out.set_ 0 (.slice none 0 0)) Tryz.underlying30 sizeRw rfl) rfl ⟨⟨none, 0, rfl, Own.nil _ _ _ _⟩, BB.out.setCell (p := ⟨(w.heap.size + 1 + 1), 0, none⟩) (by show w.heap.size ≤ w.heap.size + 1 + 1; omega) _⟩

set_option maxHeartbeats 8000000 in
set_option maxRecDepth 20000 in
theorem Tr_good (C : Option Addr) (M c : Nat) (l : List Ch) (R : Option Addr) (m d : Nat) (r : List Ce) (a b : Int) (w : World) (hM : M = l.length) (hC : Chs w w.heap.size C l) (hM3 : M ≤ 300) (hMc : M ≤ c) (_hcm : c ≤ 9223372036854775807) (hcw : ∀ q ∈ l, CW q) (hm : m = r.length) (hr : Ces w w.heap.size R r) (hml : m ≤ 1000000) (hsz : ∀ q ∈ r, q.v.s.size ≤ 9223372036854775807) (hmd : m ≤ d) (hdm : d ≤ 9223372036854775807) (hG : GV w) (lo hi : Nat) (hx : min a b = (lo : Int)) (hy : max a b = (hi : Int)) (hlh : lo ≤ hi) (hhM : hi ≤ M) (he : (aftP (l.take lo)).2.2 = 0) (hE : (aft (aftP (l.take lo)).1 0 (segL l lo hi)).2.2 = 0) (pr : List Ce × Int) (hpr : (if decide (a ≤ b) = true then (if fitGo (aftP (l.take lo)).1.fs 0 r = true then (runF (klist (aftP (l.take lo)).1 (segL l lo hi)) r, (0 : Int)) else ([], 7)) else (if fitGo (endS (aftP (l.take lo)).1 (segL l lo hi)).fs 0 r = true then (runB (klist (aftP (l.take lo)).1 (segL l lo hi)) r, 0) else ([], 7))) = pr) :
    Calls Tryz.prog 23 #[.slice C M c, .agg #[.slice R m d], .agg #[.int .i64 a, .int .i64 b]] w fun e w' => RetE w w' pr e ∧ Below w.heap.size w w' := by
  have HLo := Li (show lo = (l.take lo).length by rw [List.length_take, ← hM]; omega)
  have i1 : ¬ ((hi : Int) > (M : Int)) := by omega
  have i2 : (lo : Int) ≤ (M : Int) := by omega
  have i3 : (lo : Int) ≤ (c : Int) := by omega
  obtain ⟨p, hp⟩ : ∃ p, aftP (l.take lo) = p := ⟨_, rfl⟩
  rw [hp] at he hE
  rw [hp] at hpr
  obtain ⟨⟨fs1, x1⟩, k1, e1⟩ := p
  obtain rfl : e1 = 0 := he
  have HOk := Li (show Ok ⟨fs1, x1⟩ by have := aft_oks (m := l.take lo) (s := Sc.new) (i := 0) ok_new; rw [show aft Sc.new 0 (l.take lo) = _ from hp] at this; exact this)
  obtain ⟨sg, hsg⟩ : ∃ sg, segL l lo hi = sg := ⟨_, rfl⟩
  rw [hsg] at hE
  rw [hsg] at hpr
  obtain ⟨A3, hA3⟩ : ∃ A3, (if c = lo then C else Option.map (fun x => x.add (lo * 8)) C) = A3 := ⟨_, rfl⟩
  have HC3 := Li (show Chs w w.heap.size A3 sg by rw [← hsg]; exact (Chs.cut hC hA3 (by omega)).take (hi - lo))
  have HL3 := Li (show hi - lo = sg.length by rw [← hsg]; unfold segL; rw [List.length_take, List.length_drop]; omega)
  have HW3 := Li (show ∀ q ∈ sg, CW q by rw [← hsg]; exact fun q hq => hcw q (List.mem_of_mem_drop (List.mem_of_mem_take hq)))
  have i4 : (hi : Int) ≤ (c : Int) := by omega
  have i5 : (lo : Int) ≤ (hi : Int) := by omega
  have HP := Li hp
  clear hp hsg
  have HP0 := Li hpr
  clear hpr
  have HE0 := Li (show (aft ⟨fs1, x1⟩ 0 sg).2.2 = 0 from hE)
  have hgood : goodG ⟨fs1, x1⟩ sg := aft_good.1 hE
  have HO2 := Li (good_ok HOk.out hgood)
  clear hE hgood
  have HKL := Li (show sg.length = (klist ⟨fs1, x1⟩ sg).length from klist_len.symm)
  have HS3 : Hid (sg.length ≤ 300) := by show _ ≤ _; rw [← HL3.out]; omega
  have HM := Li hM
  have HC := Li hC
  have HCW := Li hcw
  have HMr := Li hm
  have HR := Li hr
  have HZ := Li hsz
  have HG := Li hG
  have R0 := Li (((CB.new w 30 [.slice R m d]).alloc (.cells #[.int .i64 a, .int .i64 b] 46)).alloc (.cells #[.slice none 0 0] 30))
  have W0 := Li ((CB.new1 w (.cells #[.slice R m d] 30) 46 [.int .i64 a, .int .i64 b]).alloc (.cells #[.slice none 0 0] 30))
  have T0 := Li (CB.new2 w (.cells #[.slice R m d] 30) (.cells #[.int .i64 a, .int .i64 b] 46) 30 [.slice none 0 0])
  have BB := Li (al3 w (.cells #[.slice R m d] 30) (.cells #[.int .i64 a, .int .i64 b] 46) (.cells #[.slice none 0 0] 30))
  clear hM hC hcw hm hr hsz hG
  go_enter Tryz.func23, Tryz.ntmps23
  go_upto_region 1 with fail
  generalize ((w.alloc (.cells #[.slice R m d] 30)).alloc (.cells #[.int .i64 a, .int .i64 b] 46)).alloc (.cells #[.slice none 0 0] 30) = V0 at *
  have R0 := Li R0.out.dr
  have W0 := Li W0.out.dr
  have T0 := Li T0.out.dr
  have BB := Li BB.out.drew
  refine wp_region_held_drew (S := fun w' => Hid (CB w' w.heap.size 30 [.slice R m d] ∧ CB w' (w.heap.size + 1) 46 [.int .i64 a, .int .i64 b])) (by kernel_rfl) (Li ⟨R0.out, W0.out⟩) (fun hHeld => ?_)
  revert hHeld R0 W0 T0 BB
  generalize V0.drew = X0
  intro R0 W0 T0 BB hHeld
  refine htk 0 ?_
  refine htf 1 (fun _ h => And.intro (h.out.1.cell 0 rfl) (And.intro (h.out.1.lt) (And.intro (h.out.2.c2) (h.out.2.lt)))) ?_
  refine htk 2 ?_
  refine htf 3 (fun _ h => And.intro (h.out.1.cell 0 rfl) (And.intro (h.out.1.lt) (And.intro (h.out.2.c2) (h.out.2.lt)))) ?_
  refine htk 4 ?_
  refine htk 5 ?_
  refine htf 6 (fun _ h => And.intro (h.out.1.cell 0 rfl) (And.intro (h.out.1.lt) (And.intro (h.out.2.c2) (h.out.2.lt)))) ?_
  refine htk 7 ?_
  refine htf 8 (fun _ h => And.intro (h.out.1.cell 0 rfl) (And.intro (h.out.1.lt) (And.intro (h.out.2.c2) (h.out.2.lt)))) ?_
  refine htk 9 ?_
  refine htk 10 ?_
  refine htk 11 ?_
  refine wpAnyH_done (by kernel_rfl) ?_ _
  go_upto_region 7 with (go_at_call 46; go_loud (refine (After_any C lo c (l.take lo) _ HLo.out ((HC.out.up BB.out).take lo) (by omega) (fun q hq => HCW.out q (List.mem_of_mem_take hq))).mono ?_; rintro e v1 ⟨⟨A1, m1, c1, rfl, hm1, ho1⟩, hb1⟩; rw [HP.out] at hm1 ho1; rw [HP.out]; have HM1 := Li hm1; have O1 := Li (ho1.low (b := w.heap.size) BB.out.size); have B1 := Li (below_step BB.out BB.out.size hb1); have R1 := Li (R0.out.up hb1); have W1 := Li (W0.out.up hb1); have T1 := Li (T0.out.up hb1); have zT1 := T1.out.lt; have zR1 := R1.out.lt; have zW1 := W1.out.lt; have qt : w.heap.size + 1 + 1 < v1.heap.size + 1 := (by omega); have t10 := T1.out.cell 0 rfl; have t1f := T1.out.frozen 0; clear hb1 ho1 hm1))
  have hal := al1 v1 (.cells #[.slice A1 m1 c1, .int .i64 x1] 35)
  have S10 := Li (CB.new v1 35 [.slice A1 m1 c1, .int .i64 x1])
  have R1 := Li (R1.out.up hal)
  have W1 := Li (W1.out.up hal)
  have T1 := Li (T1.out.up hal)
  have Q10 := Li (show SchAt (v1.alloc (.cells #[.slice A1 m1 c1, .int .i64 x1] 35)) w.heap.size A1 m1 c1 fs1 from SchAt.up (w := v1) ⟨HM1.out, B1.out.size, .inr O1.out⟩ hal)
  have BB := Li (al_up2 B1.out (.cells #[.slice A1 m1 c1, .int .i64 x1] 35))
  clear hal B1 O1 HM1 t10 t1f R0 W0 T0
  generalize v1.alloc (.cells #[.slice A1 m1 c1, .int .i64 x1] 35) = V1 at *
  go_cut [12, 13, 14] from 46 to 55 (fun e u v wx => ∃ (g13 g14 gp : Nat) (A5 : Option Addr) (c5 : Nat) (LV : List (List Value)) (A7 : Option Addr) (m7 c7 : Nat), e = .int .i64 0 ∧ u = .pointer (some ⟨g13, 0, none⟩) ∧ v = .pointer (some ⟨g14, 0, none⟩) ∧ w.heap.size + 1 + 1 < g13 ∧ w.heap.size + 1 + 1 < g14 ∧ Hid (CB wx g13 73 [(.func (.func 75) #[] #[.pointer (some ⟨gp, 0, none⟩)]), (.func (.func 76) #[] #[.pointer (some ⟨gp, 0, none⟩)])]) ∧ Hid (CB wx g14 35 [.slice A7 m7 c7, .int .i64 (endS ⟨fs1, x1⟩ sg).next]) ∧ Hid (CB wx gp 101 [.slice A5 sg.length c5]) ∧ Hid (Own 73 2 wx (w.heap.size) (.slice A5 sg.length c5) LV) ∧ Hid (LsAt wx LV (klist ⟨fs1, x1⟩ sg)) ∧ Hid (SQ wx A7 m7 (endS ⟨fs1, x1⟩ sg).fs) ∧ Hid (CB wx v1.heap.size 35 [.slice A1 m1 c1, .int .i64 x1]) ∧ Hid (CB wx w.heap.size 30 [.slice R m d]) ∧ Hid (CB wx (w.heap.size + 1) 46 [.int .i64 a, .int .i64 b]) ∧ Hid (CB wx (w.heap.size + 1 + 1) 30 [.slice none 0 0]) ∧ Hid (SchAt wx w.heap.size A1 m1 c1 fs1) ∧ Hid (Below w.heap.size w wx))
  case first =>
    have Q1 := Li (Q10.out.up (bd V1))
    have S10 := Li S10.out.dr
    have R1 := Li R1.out.dr
    have W1 := Li W1.out.dr
    have T1 := Li T1.out.dr
    have BB := Li BB.out.drew
    refine wp_region_held_drew (S := fun w' => Hid (CB w' v1.heap.size 35 [.slice A1 m1 c1, .int .i64 x1] ∧ CB w' w.heap.size 30 [.slice R m d] ∧ CB w' (w.heap.size + 1) 46 [.int .i64 a, .int .i64 b])) (by kernel_rfl) (Li ⟨S10.out, R1.out, W1.out⟩) (fun hHeld => ?_)
    revert hHeld S10 R1 W1 T1 BB Q1
    generalize V1.drew = X0
    intro Q1 S10 R1 W1 T1 BB hHeld
    refine htf 0 (fun _ h => And.intro (h.out.1.c2) (And.intro (h.out.1.lt) (And.intro (h.out.2.1.cell 0 rfl) (And.intro (h.out.2.1.lt) (And.intro (h.out.2.2.c2) (h.out.2.2.lt)))))) ?_
    refine htk 1 ?_
    refine htk 2 ?_
    refine htk 3 ?_
    refine htk 4 ?_
    refine rd3 5 10 11 (fun KK hK => ?_) (fun KK hK => ?_) (fun KK hK => ?_)
    · go_simp
      go_at_call 47
      refine (pathOf_any A1 m1 c1 x1 fs1 A3 (hi - lo) (c - lo) sg _ Q1.out.1 Q1.out.fds HOk.out HL3.out (HC3.out.up BB.out) (by omega) HW3.out).mono ?_
      rintro e v5 ⟨hp5, hb8⟩
      unfold PathR at hp5
      rw [if_pos HE0.out] at hp5
      obtain ⟨gp, A5, c5, LV, A7, m7, c7, rfl, hg5, ho5, hk5, hs5⟩ := hp5
      have G5 := Li hg5
      have O5 := Li ho5
      have K5 := Li hk5
      have S5 := Li (show SQ v5 A7 m7 _ from ⟨hs5.1, hs5.fds⟩)
      have r5 := BB.out.size
      clear hg5 ho5 hk5 hs5
      have S10 := Li (S10.out.up hb8)
      have R1 := Li (R1.out.up hb8)
      have W1 := Li (W1.out.up hb8)
      have T1 := Li (T1.out.up hb8)
      have Q1 := Li (Q1.out.up hb8)
      have BB := Li (below_step BB.out BB.out.size hb8)
      clear hb8
      go_wp2_with fail
      refine hK.out _ _ (Li ⟨S10.out, R1.out, W1.out⟩) (fun hHeld => ?_)
      clear hK KK
      try simp only [pnz]
      refine htk 6 ?_
      refine htk 7 ?_
      refine htk 8 ?_
      refine htk 9 ?_
      refine rd2 10 11 (fun KK hK => ?_) (fun KK hK => ?_)
      · go_simp
        have r10 := O5.out.lt
        have x10 := S10.out.lt
        have n10 := T1.out.lt
        have G10 := Li (CB.new v5 73 [.nilFunc, .nilFunc])
        have S10 := Li (S10.out.alloc (.cells #[.nilFunc, .nilFunc] 73))
        have R1 := Li (R1.out.alloc (.cells #[.nilFunc, .nilFunc] 73))
        have W1 := Li (W1.out.alloc (.cells #[.nilFunc, .nilFunc] 73))
        have T1 := Li (T1.out.alloc (.cells #[.nilFunc, .nilFunc] 73))
        have BB := Li (BB.out.alloc BB.out.size (.cells #[.nilFunc, .nilFunc] 73))
        have m10 := G10.out.lt
        have Q1 := Li (Q1.out.up (al1 v5 (.cells #[.nilFunc, .nilFunc] 73)))
        have G5 := Li (G5.out.alloc (.cells #[.nilFunc, .nilFunc] 73))
        have O5 := Li (O5.out.alloc (.cells #[.nilFunc, .nilFunc] 73))
        have K5 := Li (K5.out.up (al1 v5 (.cells #[.nilFunc, .nilFunc] 73)))
        have S5 := Li (S5.out.up (al1 v5 (.cells #[.nilFunc, .nilFunc] 73)))
        refine hK.out _ _ (Li ⟨S10.out, R1.out, W1.out⟩) (fun hHeld => ?_)
        clear hK KK
        try simp only [pnz]
        generalize v5.alloc (.cells #[.nilFunc, .nilFunc] 73) = v10 at Q1 G5 O5 K5 S5 S10 R1 W1 T1 G10 m10 hHeld BB ⊢
        refine rd1 11 fun KK hK => ?_
        go_simp
        have r11 := O5.out.lt
        have x11 := S10.out.lt
        have n11 := T1.out.lt
        have d1011 := G10.out.lt
        have G11 := Li (CB.new v10 35 [.slice none 0 0, .int .i64 0])
        have S10 := Li (S10.out.alloc (.cells #[.slice none 0 0, .int .i64 0] 35))
        have R1 := Li (R1.out.alloc (.cells #[.slice none 0 0, .int .i64 0] 35))
        have W1 := Li (W1.out.alloc (.cells #[.slice none 0 0, .int .i64 0] 35))
        have T1 := Li (T1.out.alloc (.cells #[.slice none 0 0, .int .i64 0] 35))
        have G10 := Li (G10.out.alloc (.cells #[.slice none 0 0, .int .i64 0] 35))
        have BB := Li (BB.out.alloc BB.out.size (.cells #[.slice none 0 0, .int .i64 0] 35))
        have m11 := G11.out.lt
        have Q1 := Li (Q1.out.up (al1 v10 (.cells #[.slice none 0 0, .int .i64 0] 35)))
        have G5 := Li (G5.out.alloc (.cells #[.slice none 0 0, .int .i64 0] 35))
        have O5 := Li (O5.out.alloc (.cells #[.slice none 0 0, .int .i64 0] 35))
        have K5 := Li (K5.out.up (al1 v10 (.cells #[.slice none 0 0, .int .i64 0] 35)))
        have S5 := Li (S5.out.up (al1 v10 (.cells #[.slice none 0 0, .int .i64 0] 35)))
        refine hK.out _ _ (Li ⟨S10.out, R1.out, W1.out⟩) (fun hHeld => ?_)
        clear hK KK
        try simp only [pnz]
        generalize v10.alloc (.cells #[.slice none 0 0, .int .i64 0] 35) = v11 at Q1 G5 O5 K5 S5 S10 R1 W1 T1 G11 m11 hHeld BB G10 ⊢
        refine rd1 12 fun KK hK => ?_
        refine step_store_cb rfl 73 (.tmp 13) (.tmp 53) rfl v5.heap.size [(.func (.func 75) #[] #[.pointer (some ⟨gp, 0, none⟩)]), (.func (.func 76) #[] #[.pointer (some ⟨gp, 0, none⟩)])] rfl rfl 73 [.nilFunc, .nilFunc] 2 G10.out sizeLe rfl rfl (one_fn _ _ (by rfl) (by rfl)) ?_
        intro s12 hc12 hg12 hz12
        have S10 := Li (S10.out.grown hg12 (by intro h; injection h with h; omega))
        have R1 := Li (R1.out.grown hg12 (by intro h; injection h with h; omega))
        have W1 := Li (W1.out.grown hg12 (by intro h; injection h with h; omega))
        have T1 := Li (T1.out.grown hg12 (by intro h; injection h with h; omega))
        have G11 := Li (G11.out.grown hg12 (by intro h; injection h with h; omega))
        have Q1 := Li (Q1.out.grow G10.out (by decide) (by omega) hg12)
        have G5 := Li (G5.out.grown hg12 (cb_ne G5.out G10.out (by decide)))
        have O5 := Li (O5.out.kept hg12 (.inr (fun e => by have := (r10 _ e).2; omega)))
        have K5 := Li (K5.out.grow hg12 (cap_ne G10.out nocap_le))
        have S5 := Li (S5.out.grow G10.out (by simp) hg12)
        have G10 := Li hc12
        have BB := Li (below_grown BB.out hg12 BB.out.size (by omega))
        refine hK.out _ _ (Li ⟨S10.out, R1.out, W1.out⟩) (fun hHeld => ?_)
        clear hK KK
        try simp only [pnz]
        refine rd1 13 fun KK hK => ?_
        refine step_store_cb rfl 35 (.tmp 14) (.tmp 54) rfl v10.heap.size [.slice A7 m7 c7, .int .i64 (endS ⟨fs1, x1⟩ sg).next] rfl rfl 35 [.slice none 0 0, .int .i64 0] 2 G11.out sizeS rfl rfl (one_s _ _ _ _) ?_
        intro s13 hc13 hg13 hz13
        have S10 := Li (S10.out.grown hg13 (by intro h; injection h with h; omega))
        have R1 := Li (R1.out.grown hg13 (by intro h; injection h with h; omega))
        have W1 := Li (W1.out.grown hg13 (by intro h; injection h with h; omega))
        have T1 := Li (T1.out.grown hg13 (by intro h; injection h with h; omega))
        have G10 := Li (G10.out.grown hg13 (by intro h; injection h with h; omega))
        have Q1 := Li (Q1.out.grow G11.out (by decide) (by omega) hg13)
        have G5 := Li (G5.out.grown hg13 (cb_ne G5.out G11.out (by decide)))
        have O5 := Li (O5.out.kept hg13 (.inr (O5.out.ne G11.out (by decide)).symm))
        have K5 := Li (K5.out.grow hg13 (cap_ne G11.out nocap_sc))
        have S5 := Li (S5.out.grow G11.out (by simp) hg13)
        have G11 := Li hc13
        have BB := Li (below_grown BB.out hg13 BB.out.size (by omega))
        refine hK.out _ _ (Li ⟨S10.out, R1.out, W1.out⟩) (fun hHeld => ?_)
        clear hK KK
        try simp only [pnz]
        refine htk 14 ?_
        refine wpAnyH_done (by kernel_rfl) ?_ _
        go_wp2_with fail
        go_meet
        exact ⟨_, _, gp, A5, c5, LV, A7, m7, c7, rfl, rfl, rfl, by omega, by omega, G10, G11, G5, Li (O5.out.low (by have := BB.out.size; omega)), K5, S5, S10, R1, W1, T1, Q1, BB⟩
      · go_simp
        have r11 := O5.out.lt
        have x11 := S10.out.lt
        have n11 := T1.out.lt
        have G11 := Li (CB.new v5 35 [.slice none 0 0, .int .i64 0])
        have S10 := Li (S10.out.alloc (.cells #[.slice none 0 0, .int .i64 0] 35))
        have R1 := Li (R1.out.alloc (.cells #[.slice none 0 0, .int .i64 0] 35))
        have W1 := Li (W1.out.alloc (.cells #[.slice none 0 0, .int .i64 0] 35))
        have T1 := Li (T1.out.alloc (.cells #[.slice none 0 0, .int .i64 0] 35))
        have BB := Li (BB.out.alloc BB.out.size (.cells #[.slice none 0 0, .int .i64 0] 35))
        have m11 := G11.out.lt
        have Q1 := Li (Q1.out.up (al1 v5 (.cells #[.slice none 0 0, .int .i64 0] 35)))
        have G5 := Li (G5.out.alloc (.cells #[.slice none 0 0, .int .i64 0] 35))
        have O5 := Li (O5.out.alloc (.cells #[.slice none 0 0, .int .i64 0] 35))
        have K5 := Li (K5.out.up (al1 v5 (.cells #[.slice none 0 0, .int .i64 0] 35)))
        have S5 := Li (S5.out.up (al1 v5 (.cells #[.slice none 0 0, .int .i64 0] 35)))
        refine hK.out _ _ (Li ⟨S10.out, R1.out, W1.out⟩) (fun hHeld => ?_)
        clear hK KK
        try simp only [pnz]
        generalize v5.alloc (.cells #[.slice none 0 0, .int .i64 0] 35) = v11 at Q1 G5 O5 K5 S5 S10 R1 W1 T1 G11 m11 hHeld BB ⊢
        refine rd1 10 fun KK hK => ?_
        go_simp
        have r10 := O5.out.lt
        have x10 := S10.out.lt
        have n10 := T1.out.lt
        have d1110 := G11.out.lt
        have G10 := Li (CB.new v11 73 [.nilFunc, .nilFunc])
        have S10 := Li (S10.out.alloc (.cells #[.nilFunc, .nilFunc] 73))
        have R1 := Li (R1.out.alloc (.cells #[.nilFunc, .nilFunc] 73))
        have W1 := Li (W1.out.alloc (.cells #[.nilFunc, .nilFunc] 73))
        have T1 := Li (T1.out.alloc (.cells #[.nilFunc, .nilFunc] 73))
        have G11 := Li (G11.out.alloc (.cells #[.nilFunc, .nilFunc] 73))
        have BB := Li (BB.out.alloc BB.out.size (.cells #[.nilFunc, .nilFunc] 73))
        have m10 := G10.out.lt
        have Q1 := Li (Q1.out.up (al1 v11 (.cells #[.nilFunc, .nilFunc] 73)))
        have G5 := Li (G5.out.alloc (.cells #[.nilFunc, .nilFunc] 73))
        have O5 := Li (O5.out.alloc (.cells #[.nilFunc, .nilFunc] 73))
        have K5 := Li (K5.out.up (al1 v11 (.cells #[.nilFunc, .nilFunc] 73)))
        have S5 := Li (S5.out.up (al1 v11 (.cells #[.nilFunc, .nilFunc] 73)))
        refine hK.out _ _ (Li ⟨S10.out, R1.out, W1.out⟩) (fun hHeld => ?_)
        clear hK KK
        try simp only [pnz]
        generalize v11.alloc (.cells #[.nilFunc, .nilFunc] 73) = v10 at Q1 G5 O5 K5 S5 S10 R1 W1 T1 G10 m10 hHeld BB G11 ⊢
        refine rd1 12 fun KK hK => ?_
        refine step_store_cb rfl 73 (.tmp 13) (.tmp 53) rfl v11.heap.size [(.func (.func 75) #[] #[.pointer (some ⟨gp, 0, none⟩)]), (.func (.func 76) #[] #[.pointer (some ⟨gp, 0, none⟩)])] rfl rfl 73 [.nilFunc, .nilFunc] 2 G10.out sizeLe rfl rfl (one_fn _ _ (by rfl) (by rfl)) ?_
        intro s12 hc12 hg12 hz12
        have S10 := Li (S10.out.grown hg12 (by intro h; injection h with h; omega))
        have R1 := Li (R1.out.grown hg12 (by intro h; injection h with h; omega))
        have W1 := Li (W1.out.grown hg12 (by intro h; injection h with h; omega))
        have T1 := Li (T1.out.grown hg12 (by intro h; injection h with h; omega))
        have G11 := Li (G11.out.grown hg12 (by intro h; injection h with h; omega))
        have Q1 := Li (Q1.out.grow G10.out (by decide) (by omega) hg12)
        have G5 := Li (G5.out.grown hg12 (cb_ne G5.out G10.out (by decide)))
        have O5 := Li (O5.out.kept hg12 (.inr (fun e => by have := (r10 _ e).2; omega)))
        have K5 := Li (K5.out.grow hg12 (cap_ne G10.out nocap_le))
        have S5 := Li (S5.out.grow G10.out (by simp) hg12)
        have G10 := Li hc12
        have BB := Li (below_grown BB.out hg12 BB.out.size (by omega))
        refine hK.out _ _ (Li ⟨S10.out, R1.out, W1.out⟩) (fun hHeld => ?_)
        clear hK KK
        try simp only [pnz]
        refine rd1 13 fun KK hK => ?_
        refine step_store_cb rfl 35 (.tmp 14) (.tmp 54) rfl v5.heap.size [.slice A7 m7 c7, .int .i64 (endS ⟨fs1, x1⟩ sg).next] rfl rfl 35 [.slice none 0 0, .int .i64 0] 2 G11.out sizeS rfl rfl (one_s _ _ _ _) ?_
        intro s13 hc13 hg13 hz13
        have S10 := Li (S10.out.grown hg13 (by intro h; injection h with h; omega))
        have R1 := Li (R1.out.grown hg13 (by intro h; injection h with h; omega))
        have W1 := Li (W1.out.grown hg13 (by intro h; injection h with h; omega))
        have T1 := Li (T1.out.grown hg13 (by intro h; injection h with h; omega))
        have G10 := Li (G10.out.grown hg13 (by intro h; injection h with h; omega))
        have Q1 := Li (Q1.out.grow G11.out (by decide) (by omega) hg13)
        have G5 := Li (G5.out.grown hg13 (cb_ne G5.out G11.out (by decide)))
        have O5 := Li (O5.out.kept hg13 (.inr (O5.out.ne G11.out (by decide)).symm))
        have K5 := Li (K5.out.grow hg13 (cap_ne G11.out nocap_sc))
        have S5 := Li (S5.out.grow G11.out (by simp) hg13)
        have G11 := Li hc13
        have BB := Li (below_grown BB.out hg13 BB.out.size (by omega))
        refine hK.out _ _ (Li ⟨S10.out, R1.out, W1.out⟩) (fun hHeld => ?_)
        clear hK KK
        try simp only [pnz]
        refine htk 14 ?_
        refine wpAnyH_done (by kernel_rfl) ?_ _
        go_wp2_with fail
        go_meet
        exact ⟨_, _, gp, A5, c5, LV, A7, m7, c7, rfl, rfl, rfl, by omega, by omega, G10, G11, G5, Li (O5.out.low (by have := BB.out.size; omega)), K5, S5, S10, R1, W1, T1, Q1, BB⟩
    · go_simp
      have x10 := S10.out.lt
      have n10 := T1.out.lt
      have G10 := Li (CB.new X0 73 [.nilFunc, .nilFunc])
      have S10 := Li (S10.out.alloc (.cells #[.nilFunc, .nilFunc] 73))
      have R1 := Li (R1.out.alloc (.cells #[.nilFunc, .nilFunc] 73))
      have W1 := Li (W1.out.alloc (.cells #[.nilFunc, .nilFunc] 73))
      have T1 := Li (T1.out.alloc (.cells #[.nilFunc, .nilFunc] 73))
      have BB := Li (BB.out.alloc BB.out.size (.cells #[.nilFunc, .nilFunc] 73))
      have m10 := G10.out.lt
      have Q1 := Li (Q1.out.up (al1 X0 (.cells #[.nilFunc, .nilFunc] 73)))
      refine hK.out _ _ (Li ⟨S10.out, R1.out, W1.out⟩) (fun hHeld => ?_)
      clear hK KK
      try simp only [pnz]
      generalize X0.alloc (.cells #[.nilFunc, .nilFunc] 73) = v10 at Q1 S10 R1 W1 T1 G10 m10 hHeld BB ⊢
      refine rd2 5 11 (fun KK hK => ?_) (fun KK hK => ?_)
      · go_simp
        go_at_call 47
        refine (pathOf_any A1 m1 c1 x1 fs1 A3 (hi - lo) (c - lo) sg _ Q1.out.1 Q1.out.fds HOk.out HL3.out (HC3.out.up BB.out) (by omega) HW3.out).mono ?_
        rintro e v5 ⟨hp5, hb8⟩
        unfold PathR at hp5
        rw [if_pos HE0.out] at hp5
        obtain ⟨gp, A5, c5, LV, A7, m7, c7, rfl, hg5, ho5, hk5, hs5⟩ := hp5
        have G5 := Li hg5
        have O5 := Li ho5
        have K5 := Li hk5
        have S5 := Li (show SQ v5 A7 m7 _ from ⟨hs5.1, hs5.fds⟩)
        have r5 := BB.out.size
        clear hg5 ho5 hk5 hs5
        have S10 := Li (S10.out.up hb8)
        have R1 := Li (R1.out.up hb8)
        have W1 := Li (W1.out.up hb8)
        have T1 := Li (T1.out.up hb8)
        have G10 := Li (G10.out.up hb8)
        have Q1 := Li (Q1.out.up hb8)
        have BB := Li (below_step BB.out BB.out.size hb8)
        clear hb8
        go_wp2_with fail
        refine hK.out _ _ (Li ⟨S10.out, R1.out, W1.out⟩) (fun hHeld => ?_)
        clear hK KK
        try simp only [pnz]
        refine htk 6 ?_
        refine htk 7 ?_
        refine htk 8 ?_
        refine htk 9 ?_
        refine rd1 11 fun KK hK => ?_
        go_simp
        have r11 := O5.out.lt
        have x11 := S10.out.lt
        have n11 := T1.out.lt
        have d1011 := G10.out.lt
        have G11 := Li (CB.new v5 35 [.slice none 0 0, .int .i64 0])
        have S10 := Li (S10.out.alloc (.cells #[.slice none 0 0, .int .i64 0] 35))
        have R1 := Li (R1.out.alloc (.cells #[.slice none 0 0, .int .i64 0] 35))
        have W1 := Li (W1.out.alloc (.cells #[.slice none 0 0, .int .i64 0] 35))
        have T1 := Li (T1.out.alloc (.cells #[.slice none 0 0, .int .i64 0] 35))
        have G10 := Li (G10.out.alloc (.cells #[.slice none 0 0, .int .i64 0] 35))
        have BB := Li (BB.out.alloc BB.out.size (.cells #[.slice none 0 0, .int .i64 0] 35))
        have m11 := G11.out.lt
        have Q1 := Li (Q1.out.up (al1 v5 (.cells #[.slice none 0 0, .int .i64 0] 35)))
        have G5 := Li (G5.out.alloc (.cells #[.slice none 0 0, .int .i64 0] 35))
        have O5 := Li (O5.out.alloc (.cells #[.slice none 0 0, .int .i64 0] 35))
        have K5 := Li (K5.out.up (al1 v5 (.cells #[.slice none 0 0, .int .i64 0] 35)))
        have S5 := Li (S5.out.up (al1 v5 (.cells #[.slice none 0 0, .int .i64 0] 35)))
        refine hK.out _ _ (Li ⟨S10.out, R1.out, W1.out⟩) (fun hHeld => ?_)
        clear hK KK
        try simp only [pnz]
        generalize v5.alloc (.cells #[.slice none 0 0, .int .i64 0] 35) = v11 at Q1 G5 O5 K5 S5 S10 R1 W1 T1 G11 m11 hHeld BB G10 ⊢
        refine rd1 12 fun KK hK => ?_
        refine step_store_cb rfl 73 (.tmp 13) (.tmp 53) rfl X0.heap.size [(.func (.func 75) #[] #[.pointer (some ⟨gp, 0, none⟩)]), (.func (.func 76) #[] #[.pointer (some ⟨gp, 0, none⟩)])] rfl rfl 73 [.nilFunc, .nilFunc] 2 G10.out sizeLe rfl rfl (one_fn _ _ (by rfl) (by rfl)) ?_
        intro s12 hc12 hg12 hz12
        have S10 := Li (S10.out.grown hg12 (by intro h; injection h with h; omega))
        have R1 := Li (R1.out.grown hg12 (by intro h; injection h with h; omega))
        have W1 := Li (W1.out.grown hg12 (by intro h; injection h with h; omega))
        have T1 := Li (T1.out.grown hg12 (by intro h; injection h with h; omega))
        have G11 := Li (G11.out.grown hg12 (by intro h; injection h with h; omega))
        have Q1 := Li (Q1.out.grow G10.out (by decide) (by omega) hg12)
        have G5 := Li (G5.out.grown hg12 (cb_ne G5.out G10.out (by decide)))
        have O5 := Li (O5.out.kept hg12 (.inr (O5.out.below_ne (U := X0.heap.size) (by omega)).symm))
        have K5 := Li (K5.out.grow hg12 (cap_ne G10.out nocap_le))
        have S5 := Li (S5.out.grow G10.out (by simp) hg12)
        have G10 := Li hc12
        have BB := Li (below_grown BB.out hg12 BB.out.size (by omega))
        refine hK.out _ _ (Li ⟨S10.out, R1.out, W1.out⟩) (fun hHeld => ?_)
        clear hK KK
        try simp only [pnz]
        refine rd1 13 fun KK hK => ?_
        refine step_store_cb rfl 35 (.tmp 14) (.tmp 54) rfl v5.heap.size [.slice A7 m7 c7, .int .i64 (endS ⟨fs1, x1⟩ sg).next] rfl rfl 35 [.slice none 0 0, .int .i64 0] 2 G11.out sizeS rfl rfl (one_s _ _ _ _) ?_
        intro s13 hc13 hg13 hz13
        have S10 := Li (S10.out.grown hg13 (by intro h; injection h with h; omega))
        have R1 := Li (R1.out.grown hg13 (by intro h; injection h with h; omega))
        have W1 := Li (W1.out.grown hg13 (by intro h; injection h with h; omega))
        have T1 := Li (T1.out.grown hg13 (by intro h; injection h with h; omega))
        have G10 := Li (G10.out.grown hg13 (by intro h; injection h with h; omega))
        have Q1 := Li (Q1.out.grow G11.out (by decide) (by omega) hg13)
        have G5 := Li (G5.out.grown hg13 (cb_ne G5.out G11.out (by decide)))
        have O5 := Li (O5.out.kept hg13 (.inr (O5.out.ne G11.out (by decide)).symm))
        have K5 := Li (K5.out.grow hg13 (cap_ne G11.out nocap_sc))
        have S5 := Li (S5.out.grow G11.out (by simp) hg13)
        have G11 := Li hc13
        have BB := Li (below_grown BB.out hg13 BB.out.size (by omega))
        refine hK.out _ _ (Li ⟨S10.out, R1.out, W1.out⟩) (fun hHeld => ?_)
        clear hK KK
        try simp only [pnz]
        refine htk 14 ?_
        refine wpAnyH_done (by kernel_rfl) ?_ _
        go_wp2_with fail
        go_meet
        exact ⟨_, _, gp, A5, c5, LV, A7, m7, c7, rfl, rfl, rfl, by omega, by omega, G10, G11, G5, Li (O5.out.low (by have := BB.out.size; omega)), K5, S5, S10, R1, W1, T1, Q1, BB⟩
      · go_simp
        have x11 := S10.out.lt
        have n11 := T1.out.lt
        have d1011 := G10.out.lt
        have G11 := Li (CB.new v10 35 [.slice none 0 0, .int .i64 0])
        have S10 := Li (S10.out.alloc (.cells #[.slice none 0 0, .int .i64 0] 35))
        have R1 := Li (R1.out.alloc (.cells #[.slice none 0 0, .int .i64 0] 35))
        have W1 := Li (W1.out.alloc (.cells #[.slice none 0 0, .int .i64 0] 35))
        have T1 := Li (T1.out.alloc (.cells #[.slice none 0 0, .int .i64 0] 35))
        have G10 := Li (G10.out.alloc (.cells #[.slice none 0 0, .int .i64 0] 35))
        have BB := Li (BB.out.alloc BB.out.size (.cells #[.slice none 0 0, .int .i64 0] 35))
        have m11 := G11.out.lt
        have Q1 := Li (Q1.out.up (al1 v10 (.cells #[.slice none 0 0, .int .i64 0] 35)))
        refine hK.out _ _ (Li ⟨S10.out, R1.out, W1.out⟩) (fun hHeld => ?_)
        clear hK KK
        try simp only [pnz]
        generalize v10.alloc (.cells #[.slice none 0 0, .int .i64 0] 35) = v11 at Q1 S10 R1 W1 T1 G11 m11 hHeld BB G10 ⊢
        refine rd1 5 fun KK hK => ?_
        go_simp
        go_at_call 47
        refine (pathOf_any A1 m1 c1 x1 fs1 A3 (hi - lo) (c - lo) sg _ Q1.out.1 Q1.out.fds HOk.out HL3.out (HC3.out.up BB.out) (by omega) HW3.out).mono ?_
        rintro e v5 ⟨hp5, hb8⟩
        unfold PathR at hp5
        rw [if_pos HE0.out] at hp5
        obtain ⟨gp, A5, c5, LV, A7, m7, c7, rfl, hg5, ho5, hk5, hs5⟩ := hp5
        have G5 := Li hg5
        have O5 := Li ho5
        have K5 := Li hk5
        have S5 := Li (show SQ v5 A7 m7 _ from ⟨hs5.1, hs5.fds⟩)
        have r5 := BB.out.size
        clear hg5 ho5 hk5 hs5
        have S10 := Li (S10.out.up hb8)
        have R1 := Li (R1.out.up hb8)
        have W1 := Li (W1.out.up hb8)
        have T1 := Li (T1.out.up hb8)
        have G10 := Li (G10.out.up hb8)
        have G11 := Li (G11.out.up hb8)
        have Q1 := Li (Q1.out.up hb8)
        have BB := Li (below_step BB.out BB.out.size hb8)
        clear hb8
        go_wp2_with fail
        refine hK.out _ _ (Li ⟨S10.out, R1.out, W1.out⟩) (fun hHeld => ?_)
        clear hK KK
        try simp only [pnz]
        refine htk 6 ?_
        refine htk 7 ?_
        refine htk 8 ?_
        refine htk 9 ?_
        refine rd1 12 fun KK hK => ?_
        refine step_store_cb rfl 73 (.tmp 13) (.tmp 53) rfl X0.heap.size [(.func (.func 75) #[] #[.pointer (some ⟨gp, 0, none⟩)]), (.func (.func 76) #[] #[.pointer (some ⟨gp, 0, none⟩)])] rfl rfl 73 [.nilFunc, .nilFunc] 2 G10.out sizeLe rfl rfl (one_fn _ _ (by rfl) (by rfl)) ?_
        intro s12 hc12 hg12 hz12
        have S10 := Li (S10.out.grown hg12 (by intro h; injection h with h; omega))
        have R1 := Li (R1.out.grown hg12 (by intro h; injection h with h; omega))
        have W1 := Li (W1.out.grown hg12 (by intro h; injection h with h; omega))
        have T1 := Li (T1.out.grown hg12 (by intro h; injection h with h; omega))
        have G11 := Li (G11.out.grown hg12 (by intro h; injection h with h; omega))
        have Q1 := Li (Q1.out.grow G10.out (by decide) (by omega) hg12)
        have G5 := Li (G5.out.grown hg12 (cb_ne G5.out G10.out (by decide)))
        have O5 := Li (O5.out.kept hg12 (.inr (O5.out.below_ne (U := X0.heap.size) (by omega)).symm))
        have K5 := Li (K5.out.grow hg12 (cap_ne G10.out nocap_le))
        have S5 := Li (S5.out.grow G10.out (by simp) hg12)
        have G10 := Li hc12
        have BB := Li (below_grown BB.out hg12 BB.out.size (by omega))
        refine hK.out _ _ (Li ⟨S10.out, R1.out, W1.out⟩) (fun hHeld => ?_)
        clear hK KK
        try simp only [pnz]
        refine rd1 13 fun KK hK => ?_
        refine step_store_cb rfl 35 (.tmp 14) (.tmp 54) rfl v10.heap.size [.slice A7 m7 c7, .int .i64 (endS ⟨fs1, x1⟩ sg).next] rfl rfl 35 [.slice none 0 0, .int .i64 0] 2 G11.out sizeS rfl rfl (one_s _ _ _ _) ?_
        intro s13 hc13 hg13 hz13
        have S10 := Li (S10.out.grown hg13 (by intro h; injection h with h; omega))
        have R1 := Li (R1.out.grown hg13 (by intro h; injection h with h; omega))
        have W1 := Li (W1.out.grown hg13 (by intro h; injection h with h; omega))
        have T1 := Li (T1.out.grown hg13 (by intro h; injection h with h; omega))
        have G10 := Li (G10.out.grown hg13 (by intro h; injection h with h; omega))
        have Q1 := Li (Q1.out.grow G11.out (by decide) (by omega) hg13)
        have G5 := Li (G5.out.grown hg13 (cb_ne G5.out G11.out (by decide)))
        have O5 := Li (O5.out.kept hg13 (.inr (O5.out.ne G11.out (by decide)).symm))
        have K5 := Li (K5.out.grow hg13 (cap_ne G11.out nocap_sc))
        have S5 := Li (S5.out.grow G11.out (by simp) hg13)
        have G11 := Li hc13
        have BB := Li (below_grown BB.out hg13 BB.out.size (by omega))
        refine hK.out _ _ (Li ⟨S10.out, R1.out, W1.out⟩) (fun hHeld => ?_)
        clear hK KK
        try simp only [pnz]
        refine htk 14 ?_
        refine wpAnyH_done (by kernel_rfl) ?_ _
        go_wp2_with fail
        go_meet
        exact ⟨_, _, gp, A5, c5, LV, A7, m7, c7, rfl, rfl, rfl, by omega, by omega, G10, G11, G5, Li (O5.out.low (by have := BB.out.size; omega)), K5, S5, S10, R1, W1, T1, Q1, BB⟩
    · go_simp
      have x11 := S10.out.lt
      have n11 := T1.out.lt
      have G11 := Li (CB.new X0 35 [.slice none 0 0, .int .i64 0])
      have S10 := Li (S10.out.alloc (.cells #[.slice none 0 0, .int .i64 0] 35))
      have R1 := Li (R1.out.alloc (.cells #[.slice none 0 0, .int .i64 0] 35))
      have W1 := Li (W1.out.alloc (.cells #[.slice none 0 0, .int .i64 0] 35))
      have T1 := Li (T1.out.alloc (.cells #[.slice none 0 0, .int .i64 0] 35))
      have BB := Li (BB.out.alloc BB.out.size (.cells #[.slice none 0 0, .int .i64 0] 35))
      have m11 := G11.out.lt
      have Q1 := Li (Q1.out.up (al1 X0 (.cells #[.slice none 0 0, .int .i64 0] 35)))
      refine hK.out _ _ (Li ⟨S10.out, R1.out, W1.out⟩) (fun hHeld => ?_)
      clear hK KK
      try simp only [pnz]
      generalize X0.alloc (.cells #[.slice none 0 0, .int .i64 0] 35) = v11 at Q1 S10 R1 W1 T1 G11 m11 hHeld BB ⊢
      refine rd2 5 10 (fun KK hK => ?_) (fun KK hK => ?_)
      · go_simp
        go_at_call 47
        refine (pathOf_any A1 m1 c1 x1 fs1 A3 (hi - lo) (c - lo) sg _ Q1.out.1 Q1.out.fds HOk.out HL3.out (HC3.out.up BB.out) (by omega) HW3.out).mono ?_
        rintro e v5 ⟨hp5, hb8⟩
        unfold PathR at hp5
        rw [if_pos HE0.out] at hp5
        obtain ⟨gp, A5, c5, LV, A7, m7, c7, rfl, hg5, ho5, hk5, hs5⟩ := hp5
        have G5 := Li hg5
        have O5 := Li ho5
        have K5 := Li hk5
        have S5 := Li (show SQ v5 A7 m7 _ from ⟨hs5.1, hs5.fds⟩)
        have r5 := BB.out.size
        clear hg5 ho5 hk5 hs5
        have S10 := Li (S10.out.up hb8)
        have R1 := Li (R1.out.up hb8)
        have W1 := Li (W1.out.up hb8)
        have T1 := Li (T1.out.up hb8)
        have G11 := Li (G11.out.up hb8)
        have Q1 := Li (Q1.out.up hb8)
        have BB := Li (below_step BB.out BB.out.size hb8)
        clear hb8
        go_wp2_with fail
        refine hK.out _ _ (Li ⟨S10.out, R1.out, W1.out⟩) (fun hHeld => ?_)
        clear hK KK
        try simp only [pnz]
        refine htk 6 ?_
        refine htk 7 ?_
        refine htk 8 ?_
        refine htk 9 ?_
        refine rd1 10 fun KK hK => ?_
        go_simp
        have r10 := O5.out.lt
        have x10 := S10.out.lt
        have n10 := T1.out.lt
        have d1110 := G11.out.lt
        have G10 := Li (CB.new v5 73 [.nilFunc, .nilFunc])
        have S10 := Li (S10.out.alloc (.cells #[.nilFunc, .nilFunc] 73))
        have R1 := Li (R1.out.alloc (.cells #[.nilFunc, .nilFunc] 73))
        have W1 := Li (W1.out.alloc (.cells #[.nilFunc, .nilFunc] 73))
        have T1 := Li (T1.out.alloc (.cells #[.nilFunc, .nilFunc] 73))
        have G11 := Li (G11.out.alloc (.cells #[.nilFunc, .nilFunc] 73))
        have BB := Li (BB.out.alloc BB.out.size (.cells #[.nilFunc, .nilFunc] 73))
        have m10 := G10.out.lt
        have Q1 := Li (Q1.out.up (al1 v5 (.cells #[.nilFunc, .nilFunc] 73)))
        have G5 := Li (G5.out.alloc (.cells #[.nilFunc, .nilFunc] 73))
        have O5 := Li (O5.out.alloc (.cells #[.nilFunc, .nilFunc] 73))
        have K5 := Li (K5.out.up (al1 v5 (.cells #[.nilFunc, .nilFunc] 73)))
        have S5 := Li (S5.out.up (al1 v5 (.cells #[.nilFunc, .nilFunc] 73)))
        refine hK.out _ _ (Li ⟨S10.out, R1.out, W1.out⟩) (fun hHeld => ?_)
        clear hK KK
        try simp only [pnz]
        generalize v5.alloc (.cells #[.nilFunc, .nilFunc] 73) = v10 at Q1 G5 O5 K5 S5 S10 R1 W1 T1 G10 m10 hHeld BB G11 ⊢
        refine rd1 12 fun KK hK => ?_
        refine step_store_cb rfl 73 (.tmp 13) (.tmp 53) rfl v5.heap.size [(.func (.func 75) #[] #[.pointer (some ⟨gp, 0, none⟩)]), (.func (.func 76) #[] #[.pointer (some ⟨gp, 0, none⟩)])] rfl rfl 73 [.nilFunc, .nilFunc] 2 G10.out sizeLe rfl rfl (one_fn _ _ (by rfl) (by rfl)) ?_
        intro s12 hc12 hg12 hz12
        have S10 := Li (S10.out.grown hg12 (by intro h; injection h with h; omega))
        have R1 := Li (R1.out.grown hg12 (by intro h; injection h with h; omega))
        have W1 := Li (W1.out.grown hg12 (by intro h; injection h with h; omega))
        have T1 := Li (T1.out.grown hg12 (by intro h; injection h with h; omega))
        have G11 := Li (G11.out.grown hg12 (by intro h; injection h with h; omega))
        have Q1 := Li (Q1.out.grow G10.out (by decide) (by omega) hg12)
        have G5 := Li (G5.out.grown hg12 (cb_ne G5.out G10.out (by decide)))
        have O5 := Li (O5.out.kept hg12 (.inr (fun e => by have := (r10 _ e).2; omega)))
        have K5 := Li (K5.out.grow hg12 (cap_ne G10.out nocap_le))
        have S5 := Li (S5.out.grow G10.out (by simp) hg12)
        have G10 := Li hc12
        have BB := Li (below_grown BB.out hg12 BB.out.size (by omega))
        refine hK.out _ _ (Li ⟨S10.out, R1.out, W1.out⟩) (fun hHeld => ?_)
        clear hK KK
        try simp only [pnz]
        refine rd1 13 fun KK hK => ?_
        refine step_store_cb rfl 35 (.tmp 14) (.tmp 54) rfl X0.heap.size [.slice A7 m7 c7, .int .i64 (endS ⟨fs1, x1⟩ sg).next] rfl rfl 35 [.slice none 0 0, .int .i64 0] 2 G11.out sizeS rfl rfl (one_s _ _ _ _) ?_
        intro s13 hc13 hg13 hz13
        have S10 := Li (S10.out.grown hg13 (by intro h; injection h with h; omega))
        have R1 := Li (R1.out.grown hg13 (by intro h; injection h with h; omega))
        have W1 := Li (W1.out.grown hg13 (by intro h; injection h with h; omega))
        have T1 := Li (T1.out.grown hg13 (by intro h; injection h with h; omega))
        have G10 := Li (G10.out.grown hg13 (by intro h; injection h with h; omega))
        have Q1 := Li (Q1.out.grow G11.out (by decide) (by omega) hg13)
        have G5 := Li (G5.out.grown hg13 (cb_ne G5.out G11.out (by decide)))
        have O5 := Li (O5.out.kept hg13 (.inr (O5.out.ne G11.out (by decide)).symm))
        have K5 := Li (K5.out.grow hg13 (cap_ne G11.out nocap_sc))
        have S5 := Li (S5.out.grow G11.out (by simp) hg13)
        have G11 := Li hc13
        have BB := Li (below_grown BB.out hg13 BB.out.size (by omega))
        refine hK.out _ _ (Li ⟨S10.out, R1.out, W1.out⟩) (fun hHeld => ?_)
        clear hK KK
        try simp only [pnz]
        refine htk 14 ?_
        refine wpAnyH_done (by kernel_rfl) ?_ _
        go_wp2_with fail
        go_meet
        exact ⟨_, _, gp, A5, c5, LV, A7, m7, c7, rfl, rfl, rfl, by omega, by omega, G10, G11, G5, Li (O5.out.low (by have := BB.out.size; omega)), K5, S5, S10, R1, W1, T1, Q1, BB⟩
      · go_simp
        have x10 := S10.out.lt
        have n10 := T1.out.lt
        have d1110 := G11.out.lt
        have G10 := Li (CB.new v11 73 [.nilFunc, .nilFunc])
        have S10 := Li (S10.out.alloc (.cells #[.nilFunc, .nilFunc] 73))
        have R1 := Li (R1.out.alloc (.cells #[.nilFunc, .nilFunc] 73))
        have W1 := Li (W1.out.alloc (.cells #[.nilFunc, .nilFunc] 73))
        have T1 := Li (T1.out.alloc (.cells #[.nilFunc, .nilFunc] 73))
        have G11 := Li (G11.out.alloc (.cells #[.nilFunc, .nilFunc] 73))
        have BB := Li (BB.out.alloc BB.out.size (.cells #[.nilFunc, .nilFunc] 73))
        have m10 := G10.out.lt
        have Q1 := Li (Q1.out.up (al1 v11 (.cells #[.nilFunc, .nilFunc] 73)))
        refine hK.out _ _ (Li ⟨S10.out, R1.out, W1.out⟩) (fun hHeld => ?_)
        clear hK KK
        try simp only [pnz]
        generalize v11.alloc (.cells #[.nilFunc, .nilFunc] 73) = v10 at Q1 S10 R1 W1 T1 G10 m10 hHeld BB G11 ⊢
        refine rd1 5 fun KK hK => ?_
        go_simp
        go_at_call 47
        refine (pathOf_any A1 m1 c1 x1 fs1 A3 (hi - lo) (c - lo) sg _ Q1.out.1 Q1.out.fds HOk.out HL3.out (HC3.out.up BB.out) (by omega) HW3.out).mono ?_
        rintro e v5 ⟨hp5, hb8⟩
        unfold PathR at hp5
        rw [if_pos HE0.out] at hp5
        obtain ⟨gp, A5, c5, LV, A7, m7, c7, rfl, hg5, ho5, hk5, hs5⟩ := hp5
        have G5 := Li hg5
        have O5 := Li ho5
        have K5 := Li hk5
        have S5 := Li (show SQ v5 A7 m7 _ from ⟨hs5.1, hs5.fds⟩)
        have r5 := BB.out.size
        clear hg5 ho5 hk5 hs5
        have S10 := Li (S10.out.up hb8)
        have R1 := Li (R1.out.up hb8)
        have W1 := Li (W1.out.up hb8)
        have T1 := Li (T1.out.up hb8)
        have G11 := Li (G11.out.up hb8)
        have G10 := Li (G10.out.up hb8)
        have Q1 := Li (Q1.out.up hb8)
        have BB := Li (below_step BB.out BB.out.size hb8)
        clear hb8
        go_wp2_with fail
        refine hK.out _ _ (Li ⟨S10.out, R1.out, W1.out⟩) (fun hHeld => ?_)
        clear hK KK
        try simp only [pnz]
        refine htk 6 ?_
        refine htk 7 ?_
        refine htk 8 ?_
        refine htk 9 ?_
        refine rd1 12 fun KK hK => ?_
        refine step_store_cb rfl 73 (.tmp 13) (.tmp 53) rfl v11.heap.size [(.func (.func 75) #[] #[.pointer (some ⟨gp, 0, none⟩)]), (.func (.func 76) #[] #[.pointer (some ⟨gp, 0, none⟩)])] rfl rfl 73 [.nilFunc, .nilFunc] 2 G10.out sizeLe rfl rfl (one_fn _ _ (by rfl) (by rfl)) ?_
        intro s12 hc12 hg12 hz12
        have S10 := Li (S10.out.grown hg12 (by intro h; injection h with h; omega))
        have R1 := Li (R1.out.grown hg12 (by intro h; injection h with h; omega))
        have W1 := Li (W1.out.grown hg12 (by intro h; injection h with h; omega))
        have T1 := Li (T1.out.grown hg12 (by intro h; injection h with h; omega))
        have G11 := Li (G11.out.grown hg12 (by intro h; injection h with h; omega))
        have Q1 := Li (Q1.out.grow G10.out (by decide) (by omega) hg12)
        have G5 := Li (G5.out.grown hg12 (cb_ne G5.out G10.out (by decide)))
        have O5 := Li (O5.out.kept hg12 (.inr (O5.out.below_ne (U := v11.heap.size) (by omega)).symm))
        have K5 := Li (K5.out.grow hg12 (cap_ne G10.out nocap_le))
        have S5 := Li (S5.out.grow G10.out (by simp) hg12)
        have G10 := Li hc12
        have BB := Li (below_grown BB.out hg12 BB.out.size (by omega))
        refine hK.out _ _ (Li ⟨S10.out, R1.out, W1.out⟩) (fun hHeld => ?_)
        clear hK KK
        try simp only [pnz]
        refine rd1 13 fun KK hK => ?_
        refine step_store_cb rfl 35 (.tmp 14) (.tmp 54) rfl X0.heap.size [.slice A7 m7 c7, .int .i64 (endS ⟨fs1, x1⟩ sg).next] rfl rfl 35 [.slice none 0 0, .int .i64 0] 2 G11.out sizeS rfl rfl (one_s _ _ _ _) ?_
        intro s13 hc13 hg13 hz13
        have S10 := Li (S10.out.grown hg13 (by intro h; injection h with h; omega))
        have R1 := Li (R1.out.grown hg13 (by intro h; injection h with h; omega))
        have W1 := Li (W1.out.grown hg13 (by intro h; injection h with h; omega))
        have T1 := Li (T1.out.grown hg13 (by intro h; injection h with h; omega))
        have G10 := Li (G10.out.grown hg13 (by intro h; injection h with h; omega))
        have Q1 := Li (Q1.out.grow G11.out (by decide) (by omega) hg13)
        have G5 := Li (G5.out.grown hg13 (cb_ne G5.out G11.out (by decide)))
        have O5 := Li (O5.out.kept hg13 (.inr (O5.out.ne G11.out (by decide)).symm))
        have K5 := Li (K5.out.grow hg13 (cap_ne G11.out nocap_sc))
        have S5 := Li (S5.out.grow G11.out (by simp) hg13)
        have G11 := Li hc13
        have BB := Li (below_grown BB.out hg13 BB.out.size (by omega))
        refine hK.out _ _ (Li ⟨S10.out, R1.out, W1.out⟩) (fun hHeld => ?_)
        clear hK KK
        try simp only [pnz]
        refine htk 14 ?_
        refine wpAnyH_done (by kernel_rfl) ?_ _
        go_wp2_with fail
        go_meet
        exact ⟨_, _, gp, A5, c5, LV, A7, m7, c7, rfl, rfl, rfl, by omega, by omega, G10, G11, G5, Li (O5.out.low (by have := BB.out.size; omega)), K5, S5, S10, R1, W1, T1, Q1, BB⟩
  case rest =>
    clear S10 R1 W1 T1 Q10 BB
    obtain ⟨g13, g14, gp, A5, c5, LV, A7, m7, c7, rfl, rfl, rfl, n13, n14, G13, G14, G5, O5, K5, S5, S10, R1, W1, T1, Q1, BB⟩ := hcut
    generalize wc = V2 at *
    have zT := T1.out.lt
    have zR := R1.out.lt
    have zW := W1.out.lt
    have z13 := G13.out.lt
    have z14 := G14.out.lt
    have zS := S10.out.lt
    have a13 := G13.out.c2
    have a14 := G14.out.cell 0 rfl
    have b14 := G14.out.cell 1 rfl
    have a10 := S10.out.c2
    have r10 := R1.out.cell 0 rfl
    have w10 := W1.out.c2
    by_cases hab : a ≤ b
    · have hpr := HP0.out
      rw [if_pos (by simpa using hab)] at hpr
      have HRB : Hid (fitGo fs1 0 r = true → RBn 0 r) := fun h => by
        have h2 := fit_rb HOk.out ((fit_of_go HOk.out).1 h)
        exact ⟨h2.1.inc, h2.2.1, h2.1.sz⟩
      have HLn : Hid (fitGo fs1 0 r = true → (runF (klist ⟨fs1, x1⟩ sg) r).length ≤ 1000000) := fun h => by
        have h3 := (runF_rb (klist ⟨fs1, x1⟩ sg) 0 r (HRB.out h)).len
        have := HKL.out
        have := HS3.out
        omega
      have HPR := Li hpr
      clear hpr
      go_wp2_with (go_at_call 38; go_loud (refine (translate_any A1 m1 c1 x1 fs1 R m d r (.func (.func 75) #[] #[.pointer (some ⟨gp, 0, none⟩)]) (RBn 0) (runF (klist ⟨fs1, x1⟩ sg)) _ Q1.out.1 Q1.out.fds (Nat.le_trans (Nat.le_of_eq Q1.out.1) (Nat.le_trans HOk.out.big.1 (by decide))) HMr.out (HR.out.up BB.out) hml HZ.out hmd hdm (pathF_does G5.out O5.out.row.2.2.2 K5.out (HG.out.up BB.out) HKL.out HS3.out) (fun h => HRB.out h) (fun h => HLn.out h)).mono ?_; rw [HPR.out]; rintro e w2 ⟨⟨A6, c6, rfl, ho6⟩, hb6⟩; have T2 := Li (T1.out.up hb6); have O6 := Li (ho6.low (b := w.heap.size) BB.out.size); have B2 := Li (below_step BB.out BB.out.size hb6); have zT2 := T2.out.lt; have t20 := T2.out.cell 0 rfl; have t2f := T2.out.frozen 0; clear hb6 ho6))
      have hne := O6.out.ne T2.out (by decide)
      refine bodyPost_ret (res_cell Tryz.results23 rfl rfl (T2.out.set_ 0 (.slice A6 pr.1.length c6)) Tryz.underlying30 sizeRw rfl) rfl ⟨⟨A6, c6, rfl, O6.out.set_ 0 _ hne⟩, B2.out.setCell (p := ⟨(w.heap.size + 1 + 1), 0, none⟩) (by show w.heap.size ≤ w.heap.size + 1 + 1; omega) _⟩

    · have hpr := HP0.out
      rw [if_neg (by simpa using hab)] at hpr
      obtain ⟨⟨fs2, x2⟩, hen⟩ : ∃ q, endS ⟨fs1, x1⟩ sg = q := ⟨_, rfl⟩
      rw [hen] at S5 HO2 b14 hpr
      have HRB : Hid (fitGo fs2 0 r = true → RBn 0 r) := fun h => by
        have h2 := fit_rb HO2.out ((fit_of_go HO2.out).1 h)
        exact ⟨h2.1.inc, h2.2.1, h2.1.sz⟩
      have HLn : Hid (fitGo fs2 0 r = true → (runB (klist ⟨fs1, x1⟩ sg) r).length ≤ 1000000) := fun h => by
        have h3 := (runB_rb (klist ⟨fs1, x1⟩ sg) r (HRB.out h)).len
        have := HKL.out
        have := HS3.out
        omega
      have HPR := Li hpr
      clear hpr
      go_wp2_with (go_at_call 38; go_loud (refine (translate_any A7 m7 c7 x2 fs2 R m d r (.func (.func 76) #[] #[.pointer (some ⟨gp, 0, none⟩)]) (RBn 0) (runB (klist ⟨fs1, x1⟩ sg)) _ S5.out.1 S5.out.2 (Nat.le_trans (Nat.le_of_eq S5.out.1) (Nat.le_trans HO2.out.big.1 (by decide))) HMr.out (HR.out.up BB.out) hml HZ.out hmd hdm (pathB_does G5.out O5.out.row.2.2.2 K5.out (HG.out.up BB.out) HKL.out HS3.out) (fun h => HRB.out h) (fun h => HLn.out h)).mono ?_; rw [HPR.out]; rintro e w2 ⟨⟨A6, c6, rfl, ho6⟩, hb6⟩; have T2 := Li (T1.out.up hb6); have O6 := Li (ho6.low (b := w.heap.size) BB.out.size); have B2 := Li (below_step BB.out BB.out.size hb6); have zT2 := T2.out.lt; have t20 := T2.out.cell 0 rfl; have t2f := T2.out.frozen 0; clear hb6 ho6))
      have hne := O6.out.ne T2.out (by decide)
      refine bodyPost_ret (res_cell Tryz.results23 rfl rfl (T2.out.set_ 0 (.slice A6 pr.1.length c6)) Tryz.underlying30 sizeRw rfl) rfl ⟨⟨A6, c6, rfl, O6.out.set_ 0 _ hne⟩, B2.out.setCell (p := ⟨(w.heap.size + 1 + 1), 0, none⟩) (by show w.heap.size ≤ w.heap.size + 1 + 1; omega) _⟩

theorem Translate_any (C : Option Addr) (M c : Nat) (l : List Ch) (R : Option Addr) (m d : Nat) (r : List Ce) (a b : Int) (w : World) (hM : M = l.length) (hC : Chs w w.heap.size C l) (hM3 : M ≤ 300) (hMc : M ≤ c) (hcm : c ≤ 9223372036854775807) (hcw : ∀ q ∈ l, CW q) (hm : m = r.length) (hr : Ces w w.heap.size R r) (hml : m ≤ 1000000) (hsz : ∀ q ∈ r, q.v.s.size ≤ 9223372036854775807) (hmd : m ≤ d) (hdm : d ≤ 9223372036854775807) (hG : GV w) :
    Calls Tryz.prog 23 #[.slice C M c, .agg #[.slice R m d], .agg #[.int .i64 a, .int .i64 b]] w fun e w' => RetE w w' (trQ l r a b) e ∧ Below w.heap.size w w' := by
  have h1 : min a b ≤ max a b := by omega
  unfold trQ
  by_cases h : min a b < 0 ∨ (l.length : Int) < max a b
  · rw [if_pos h]
    exact Tr_arg C M c l R m d r a b w hM hC hM3 hMc hcm hcw hm hr hml hsz hmd hdm hG _ _ rfl rfl (by rw [hM]; exact h)
  rw [if_neg h]
  obtain ⟨lo, hlo⟩ : ∃ lo : Nat, min a b = (lo : Int) := ⟨(min a b).toNat, by omega⟩
  obtain ⟨hi, hhi⟩ : ∃ hi : Nat, max a b = (hi : Int) := ⟨(max a b).toNat, by omega⟩
  rw [hlo, hhi]
  simp only [Int.toNat_natCast]
  have h2 : lo ≤ hi := by omega
  have h3 : hi ≤ M := by omega
  unfold trS
  by_cases he : (aftP (l.take lo)).2.2 = 0
  · rw [if_pos he]
    by_cases hE : (aft (aftP (l.take lo)).1 0 (segL l lo hi)).2.2 = 0
    · rw [if_pos hE]
      exact Tr_good C M c l R m d r a b w hM hC hM3 hMc hcm hcw hm hr hml hsz hmd hdm hG lo hi hlo hhi h2 h3 he hE _ rfl
    · rw [if_neg hE]
      exact Tr_bad C M c l R m d r a b w hM hC hM3 hMc hcm hcw hm hr hml hsz hmd hdm hG lo hi hlo hhi h2 h3 he _ rfl hE
  · rw [if_neg he]
    exact Tr_aft C M c l R m d r a b w hM hC hM3 hMc hcm hcw hm hr hml hsz hmd hdm hG lo hi hlo hhi h2 h3 he
end Go.Proofs.YtfeemipnalgjnaaGreat
