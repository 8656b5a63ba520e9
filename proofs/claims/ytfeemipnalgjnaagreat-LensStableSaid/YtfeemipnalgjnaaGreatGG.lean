/-
 Layer 6's contracts and plain theorems, texts of layer 6's own claims put together: RRow RFts Opn OpnV.
-/
import Derived.Test.YtfeemipnalgjnaaGreatHd
import Derived.Test.YtfeemipnalgjnaaGreatGD
import Derived.Test.YtfeemipnalgjnaaGreatGV
import Derived.Test.YtfeemipnalgjnaaGreatGE
import Derived.Test.YtfeemipnalgjnaaGreatHd
import Derived.Deep.CutRange
import Derived.Deep.DeepCutAuto
import Derived.Test.YtfeemipnalgjnaaGreatGR
import Derived.BigQuiet
import Derived.IntWalk
import Derived.Test.YtfeemipnalgjnaaGreatRows
import Derived.ProofKit
import Derived.OpenShut
import Derived.SizedLaws
import Derived.Deep.Slices
import Derived.Lib.SmallJoins
import Derived.Deep.Strs
namespace Go.Proofs.YtfeemipnalgjnaaGreat
open Go.RowKit

/-- what a row that fits is like -/
def FitL (l : List Fd) (r : List Ce) : Prop := (∀ c ∈ r, ∃ f ∈ l, f.id = c.id ∧ c.v.b = false ∧ okV c.v f.ty = true) ∧ r.Pairwise (fun c d => c.id < d.id)
theorem fit_iff {l : List Fd} (hs : Srt l) : ∀ {r : List Ce} {a : Int}, fitGo l a r = true ↔ FitL l r ∧ ∀ c ∈ r, a < c.id
 | [], a => by simp [fitGo, FitL]
 | c :: r, a => by
  unfold fitGo
  by_cases h : hasF l c.id = true ∧ a < (fieldD l c.id).id ∧ c.v.b = false ∧ okV c.v (fieldD l c.id).ty = true
  ·
   rw [if_pos h, fit_iff hs]
   obtain ⟨h1, h2⟩ := fieldD_of h.1
   rw [h2]
   constructor
   ·
    rintro ⟨⟨a1, a2⟩, a3⟩
    refine ⟨⟨fun d hd => ?_, List.pairwise_cons.2 ⟨a3, a2⟩⟩, fun d hd => ?_⟩
    ·
     rcases List.mem_cons.1 hd with rfl | hd
     ·
      exact ⟨_, h1, h2, h.2.2.1, h.2.2.2⟩
     ·
      exact a1 d hd
    ·
     rcases List.mem_cons.1 hd with rfl | hd
     ·
      rw [← h2]; exact h.2.1
     ·
      have := a3 d hd
      have h3 : a < c.id := by rw [← h2]; exact h.2.1
      omega
   ·
    rintro ⟨⟨a1, a2⟩, a3⟩
    rw [List.pairwise_cons] at a2
    exact ⟨⟨fun d hd => a1 d (by simp [hd]), a2.2⟩, a2.1⟩
  ·
   rw [if_neg h]
   constructor
   ·
    intro h; cases h
   ·
    rintro ⟨⟨a1, a2⟩, a3⟩
    exfalso
    obtain ⟨f, f1, f2, f3, f4⟩ := a1 c (by simp)
    apply h
    have hh : hasF l c.id = true := has_iff.2 ⟨f, f1, f2⟩
    have he : fieldD l c.id = f := by rw [← f2]; exact fieldD_eq hs f1
    refine ⟨hh, ?_, f3, by rw [he]; exact f4⟩
    rw [he, f2]
    exact a3 c (by simp)
theorem fitl_go {s : Sc} (ho : Ok s) {r : List Ce} (h : FitL s.fs r) : fitGo s.fs 0 r = true :=
 (fit_iff ho.srt).2 ⟨h, fun c hc => by
  obtain ⟨f, f1, f2, _⟩ := h.1 c hc
  have := ho.pos f f1
  omega⟩
theorem fitl_nil (l : List Fd) : FitL l [] := ⟨fun _ h => by simp at h, List.Pairwise.nil⟩
theorem fitl_snoc {l : List Fd} {r : List Ce} (h : FitL l r) {f : Fd} (hf : f ∈ l) {v : Va} (hb : v.b = false) (hk : okV v f.ty = true) (hlt : ∀ c ∈ r, c.id < f.id) : FitL l (r ++ [⟨f.id, v⟩]) := by
 refine ⟨fun c hc => ?_, ?_⟩
 ·
  rcases List.mem_append.1 hc with hc | hc
  ·
   exact h.1 c hc
  ·
   rw [List.mem_singleton] at hc
   subst hc
   exact ⟨f, hf, rfl, hb, hk⟩
 ·
  rw [List.pairwise_append]
  refine ⟨h.2, List.pairwise_singleton _ _, fun c hc d hd => ?_⟩
  rw [List.mem_singleton] at hd
  subst hd
  exact hlt c hc
theorem okV_wide {v : Va} (hb : v.b = false) (h : okV v 2 = true) : okV v 3 = true := by
 unfold okV at h ⊢
 rw [hb] at h ⊢
 simp at h ⊢
 exact h.2
def Va.cells3 (v : Va) : List Value := [.bool v.b, .int .i64 v.n, .string v.s]
def Vas (w : World) (B : Nat) (A : Option Addr) (l : List Va) : Prop := RowAt 3 w B A (l.map Va.cells3)
theorem Vas.one {w : World} {B : Nat} {A : Option Addr} {l : List Va} {v : Va} (h : Vas w B A l) {i : Nat} (hi : l[i]? = some v) : ∃ b off, A = some ⟨b, off, none⟩ ∧ b < B ∧ w.cell? ⟨b, off + i * 3, none⟩ = some (.bool v.b) ∧ w.cell? ⟨b, off + i * 3 + 1, none⟩ = some (.int .i64 v.n) ∧ w.cell? ⟨b, off + i * 3 + 2, none⟩ = some (.string v.s) := by
 obtain ⟨b, off, e, hlt, hc⟩ := RowAt.one h (vs := v.cells3) (i := i) (by rw [List.getElem?_map, hi]; rfl)
 exact ⟨b, off, e, hlt, hc 0 _ rfl, hc 1 _ rfl, hc 2 _ rfl⟩
theorem sizeV : (Tryz.prog.info? 62).map (·.size) = some 3 := by kernel_rfl
theorem sizeRo : (Tryz.prog.info? 30).map (·.size) = some 1 := by kernel_rfl
theorem infoCe : (Tryz.prog.info? 66).map (fun i => (i.zero, i.size, i.bytes)) = some (some (.agg #[.int .i64 0, .bool false, .int .i64 0, .string ⟨#[]⟩]), 4, 40) := by kernel_rfl
theorem one_v (b : Bool) (n : Int) (s : ByteArray) : ∀ z ∈ [Value.bool b, .int .i64 n, .string s], z.oneCell' = true := by
 intro z hz
 simp only [List.mem_cons, List.not_mem_nil, or_false] at hz
 rcases hz with rfl | rfl | rfl <;> rfl
theorem one_ce (d : Ce) : ∀ u ∈ d.cells, u.oneCell' = true := by
 intro z hz
 simp only [Ce.cells, List.mem_cons, List.not_mem_nil, or_false] at hz
 rcases hz with rfl | rfl | rfl | rfl <;> rfl
/-- append(v, c): v the call's own row of cells. -/
theorem push_ce {w wr : World} {ops : Array Oper} {rest : List Oper} {o : Oper} {a : Act} {Q : Exit → Act → World → Prop} (hgd : o.guard = none) (d x : Operand)
  (ho : o.op = .call { callee := .builtin .append, args := #[d, x], argTypes := #[28, 28] }) (base : Nat) (v : Value) (acc : List Ce) (f : Ce) (N : Nat) (hs : a.eval d = v) (hx : a.eval x = .slice (some ⟨N, 0, none⟩) 1 1)
  (hN : N = wr.heap.size) (hw : w = wr.alloc (.cells #[.int .i64 f.id, .bool f.v.b, .int .i64 f.v.n, .string f.v.s] 66)) (hr : Own 66 4 wr base v (acc.map Ce.cells)) (hroom : acc.length ≤ 1000000) (hbase : base ≤ wr.heap.size)
  (hK : ∀ A' c' w', Own 66 4 w' base (.slice A' (acc.length + 1) c') ((acc ++ [f]).map Ce.cells) → wr.grownBy w' v.ownBlock → Below base wr w' → wpList Tryz.prog ops Q rest (a.put o.dst (.slice A' (acc.length + 1) c')) w') : wpList Tryz.prog ops Q (o :: rest) a w := by
 refine wpList_push hgd d x ho Tryz.underlying28 infoCe rfl (by decide) base v (acc.map Ce.cells) f.cells N hs hx hN hw hr rfl (one_ce f) (by simp; omega) (by decide) hbase ?_
 intro A' c' w' h1 h2 h3
 have e : (acc.map Ce.cells ++ [f.cells]).length = acc.length + 1 := by simp
 rw [e] at h1 ⊢
 exact hK A' c' w' (by simpa using h1) h2 h3
/-- the row that Row makes -/
def rowD : List Fd → List Va → List Ce
 | f :: l, u :: q => (if f.ty = 6 ∨ u.b = true ∨ (mdV u f.ty).b = true then [] else [⟨f.id, mdV u f.ty⟩]) ++ rowD l q
 | _, _ => []
section
variable {l : List Fd} {q : List Va} {r Z : List Ce} {k : Nat} {f : Fd} {u : Va}
theorem rowD_skip (hf : l[k]? = some f) (hu : q[k]? = some u) (h : f.ty = 6 ∨ u.b = true ∨ (mdV u f.ty).b = true) (he : r ++ rowD (l.drop k) (q.drop k) = Z) : r ++ rowD (l.drop (k + 1)) (q.drop (k + 1)) = Z := by
 rw [← he, drop_cons hf, drop_cons hu, rowD, if_pos h, List.nil_append]
theorem rowD_snoc (hf : l[k]? = some f) (hu : q[k]? = some u) (h : ¬ f.ty = 6) (h1 : u.b = false) {v : Va} (hv : v = mdV u f.ty) (h2 : v.b = false) (he : r ++ rowD (l.drop k) (q.drop k) = Z) : (r ++ [⟨f.id, v⟩]) ++ rowD (l.drop (k + 1)) (q.drop (k + 1)) = Z := by
 subst hv
 rw [← he, drop_cons hf, drop_cons hu, rowD, if_neg (by rw [h1, h2]; simp [h]), List.append_assoc]
theorem rowD_end (h : l.length ≤ k ∨ q.length ≤ k) (he : r ++ rowD (l.drop k) (q.drop k) = Z) : r = Z := by
 rw [← he]
 rcases h with h | h
 ·
  rw [List.drop_eq_nil_of_le h]; simp [rowD]
 ·
  rw [List.drop_eq_nil_of_le h]; cases l.drop k <;> simp [rowD]
end
set_option maxHeartbeats 4000000 in
set_option maxRecDepth 20000 in
theorem RRow_det (A : Option Addr) (n c : Nat) (x : Int) (l : List Fd) (V : Option Addr) (m cv : Nat) (raw : List Va) (w : World) (hn : n = l.length) (hs : Fds w w.heap.size A l) (ho : Ok ⟨l, x⟩) (hm : m = raw.length) (hv : Vas w w.heap.size V raw) (hml : m ≤ 9223372036854775807) (hvf : ∀ u ∈ raw, u.Fine) :
  Calls Tryz.prog 14 #[.agg #[.slice A n c, .int .i64 x], .slice V m cv] w fun e w' => (∃ (A' : Option Addr) (c' : Nat) (r : List Ce), e = .returned (.agg #[.slice A' r.length c']) ∧ Own 66 4 w' w.heap.size (.slice A' r.length c') (r.map Ce.cells) ∧ FitL l r ∧ (∀ c ∈ r, c.v.s.size ≤ 200) ∧ r.length ≤ 64 ∧ r = rowD l raw) ∧ Below w.heap.size w w' := by
 have HN := Li hn
 have HS := Li hs
 have HO := Li ho
 have HM := Li hm
 have HV := Li hv
 have HVF := Li hvf
 have hl64 : n ≤ 64 := by rw [hn]; exact ho.big.1
 clear hn hs ho hm hv hvf
 have S0 := Li (((CB.new w 35 [.slice A n c, .int .i64 x]).alloc (.cells #[.slice none 0 0] 30)).alloc (.cells #[.slice none 0 0] 30))
 have T0 := Li ((CB.new1 w (.cells #[.slice A n c, .int .i64 x] 35) 30 [.slice none 0 0]).alloc (.cells #[.slice none 0 0] 30))
 have U0 := Li (CB.new2 w (.cells #[.slice A n c, .int .i64 x] 35) (.cells #[.slice none 0 0] 30) 30 [.slice none 0 0])
 have B0 := Li (al3 w (.cells #[.slice A n c, .int .i64 x] 35) (.cells #[.slice none 0 0] 30) (.cells #[.slice none 0 0] 30))
 go_enter Tryz.func14, Tryz.ntmps14
 go_wp2
 go_loopw [6, 7, 8] (fun i _ _ wr => ∃ (k c' : Nat) (A' : Option Addr) (r : List Ce), k ≤ n ∧ r.length ≤ k ∧ i = .int .i64 k ∧ Hid (CB wr w.heap.size 35 [.slice A n c, .int .i64 x]) ∧ Hid (CB wr (w.heap.size + 1) 30 [.slice none 0 0]) ∧ Hid (CB wr (w.heap.size + 1 + 1) 30 [.slice A' r.length c']) ∧ Hid (Own 66 4 wr w.heap.size (.slice A' r.length c') (r.map Ce.cells)) ∧ Hid (FitL l r) ∧ Hid (∀ c ∈ r, c.v.s.size ≤ 200) ∧ Hid (∀ c ∈ r, ∀ (j : Nat) (f : Fd), k ≤ j → l[j]? = some f → c.id < f.id) ∧ Hid (r ++ rowD (l.drop k) (raw.drop k) = rowD l raw) ∧ Hid (Below w.heap.size w wr)) (fun i _ _ _ => n - (intOf i).toNat)
 case atStart => exact ⟨0, 0, none, [], by omega, Nat.le_refl _, rfl, S0, T0, U0, Own.nil _ _ _ _, fitl_nil l, fun _ h => by simp at h, fun _ h => by simp at h, Li rfl, B0⟩
 case round =>
  obtain ⟨k, c', A', r, hk, hrk, rfl, hb, ht, hu, hown, hfit, hsz, hid, hrd, hbel⟩ := hrel
  have s0 := hb.out.cell 0 rfl
  have s1 := hb.out.cell 1 rfl
  have u0 := hu.out.cell 0 rfl
  have zb := hb.out.lt
  have zu := hu.out.lt
  have zt := ht.out.lt
  by_cases hlt : k < n
  ·
   have i1 : (k : Int) < (n : Int) := by omega
   by_cases hlm : k < m
   ·
    have i2 : (k : Int) < (m : Int) := by omega
    obtain ⟨f, hf⟩ := getD_of (l := l) (k := k) (by rw [← HN.out]; exact hlt)
    obtain ⟨u, hu'⟩ : ∃ u, raw[k]? = some u := ⟨_, List.getElem?_eq_getElem (by rw [← HM.out]; exact hlm)⟩
    have HF := Li hf
    have HU := Li hu'
    have HFM := Li (List.mem_of_getElem? hf)
    have HUF := Li (HVF.out u (List.mem_of_getElem? hu'))
    obtain ⟨b, off, rfl, hbl, c0, c1, c2, c3⟩ := (HS.out.below hbel.out).one hf
    obtain ⟨b2, off2, rfl, hbl2, v0, v1, v2⟩ := (show Vas wr w.heap.size V raw from RowAt.below HV.out hbel.out).one hu'
    have hidn : Hid (∀ c ∈ r, ∀ (j : Nat) (f : Fd), k + 1 ≤ j → l[j]? = some f → c.id < f.id) := fun c hc j f hj => hid.out c hc j f (by omega)
    have zb2 : b2 < wr.heap.size := Nat.lt_of_lt_of_le hbl2 hbel.out.size
    clear hf hu'
    by_cases hy : f.ty = 6
    ·
     have y1 : (f.ty == 6) = true := by simpa using hy
     have HRD := Li (rowD_skip HF.out HU.out (.inl hy) hrd.out)
     clear hy
     go_wp2
     go_roundw
     case rel => exact ⟨k + 1, c', A', r, by omega, by omega, by go_num, Li (hb.out.alloc _), Li (ht.out.alloc _), Li (hu.out.alloc _), Li (hown.out.alloc _), hfit, hsz, hidn, HRD, Li (hbel.out.alloc hbel.out.size _)⟩
     case measure => simp [intOf]; omega
    have y1 : (f.ty == 6) = false := by simpa using hy
    have HY := Li hy
    have v0' := v0
    obtain ⟨ub, hub⟩ : ∃ q, u.b = q := ⟨_, rfl⟩
    rw [hub] at v0'
    cases ub with
    | true =>
     rw [hub] at v0
     have HRD := Li (rowD_skip HF.out HU.out (.inr (.inl hub)) hrd.out)
     clear hub v0' hy
     go_wp2
     go_roundw
     case rel => exact ⟨k + 1, c', A', r, by omega, by omega, by go_num, Li (hb.out.alloc _), Li (ht.out.alloc _), Li (hu.out.alloc _), Li (hown.out.alloc _), hfit, hsz, hidn, HRD, Li (hbel.out.alloc hbel.out.size _)⟩
     case measure => simp [intOf]; omega
    | false =>
     have HUB := Li hub
     rw [hub] at v0
     clear hub v0' hy
     go_upto_region 7 with fail
     have G1 := Li (CB.new wr 58 [.int .i64 f.id, .string f.nm, .int .i64 f.ty, .int .i64 f.pa])
     have hb1 := Li (hb.out.alloc (.cells #[.int .i64 f.id, .string f.nm, .int .i64 f.ty, .int .i64 f.pa] 58))
     have ht1 := Li (ht.out.alloc (.cells #[.int .i64 f.id, .string f.nm, .int .i64 f.ty, .int .i64 f.pa] 58))
     have hu1 := Li (hu.out.alloc (.cells #[.int .i64 f.id, .string f.nm, .int .i64 f.ty, .int .i64 f.pa] 58))
     have ho1 := Li (hown.out.alloc (.cells #[.int .i64 f.id, .string f.nm, .int .i64 f.ty, .int .i64 f.pa] 58))
     have hB1 := Li (hbel.out.alloc hbel.out.size (.cells #[.int .i64 f.id, .string f.nm, .int .i64 f.ty, .int .i64 f.pa] 58))
     have zz := Li (show b2 < (wr.alloc (.cells #[.int .i64 f.id, .string f.nm, .int .i64 f.ty, .int .i64 f.pa] 58)).heap.size from Nat.lt_of_lt_of_le hbl2 (Nat.le_trans hbel.out.size (al1 _ _).size))
     have e0 := Li (((al1 wr (.cells #[.int .i64 f.id, .string f.nm, .int .i64 f.ty, .int .i64 f.pa] 58)).cell (p := ⟨b2, off2 + k * 3, none⟩) (Nat.lt_of_lt_of_le hbl2 hbel.out.size)).trans v0)
     have e1 := Li (((al1 wr (.cells #[.int .i64 f.id, .string f.nm, .int .i64 f.ty, .int .i64 f.pa] 58)).cell (p := ⟨b2, off2 + k * 3 + 1, none⟩) (Nat.lt_of_lt_of_le hbl2 hbel.out.size)).trans v1)
     have e2 := Li (((al1 wr (.cells #[.int .i64 f.id, .string f.nm, .int .i64 f.ty, .int .i64 f.pa] 58)).cell (p := ⟨b2, off2 + k * 3 + 2, none⟩) (Nat.lt_of_lt_of_le hbl2 hbel.out.size)).trans v2)
     clear hb ht hu hown hbel s0 s1 u0 c0 c1 c2 c3 v0 v1 v2 hbl hbl2 zb zu zt zb2
     revert G1 hb1 ht1 hu1 ho1 hB1 zz e0 e1 e2
     generalize wr.alloc (.cells #[.int .i64 f.id, .string f.nm, .int .i64 f.ty, .int .i64 f.pa] 58) = W1
     intro G1 hb1 ht1 hu1 ho1 hB1 zz e0 e1 e2
     generalize wr.heap.size = gz at *
     go_cut [8] from 10 to 56 (fun p wx => ∃ (g : Nat) (vb : Bool) (vn : Int) (vs : ByteArray), p = .pointer (some ⟨g, 0, none⟩) ∧ W1.heap.size ≤ g ∧ Hid (CB wx g 62 [.bool vb, .int .i64 vn, .string vs]) ∧ Hid (vb = true ∨ okV ⟨vb, vn, vs⟩ f.ty = true) ∧ Hid (Va.Fine ⟨vb, vn, vs⟩) ∧ Hid (vs.size ≤ 200) ∧ Hid ((⟨vb, vn, vs⟩ : Va) = mdV u f.ty) ∧ Hid (Below W1.heap.size W1 wx))
     case first =>
      have zB := Li (bd W1)
      have zWW : W1.heap.size = W1.drew.heap.size := rfl
      have HXL : Hid (∀ X, Below W1.drew.heap.size W1.drew X → X.cell? ⟨b2, off2 + k * 3, none⟩ = some (.bool u.b) ∧ X.cell? ⟨b2, off2 + k * 3 + 1, none⟩ = some (.int .i64 u.n) ∧ X.cell? ⟨b2, off2 + k * 3 + 2, none⟩ = some (.string u.s) ∧ X.cell? ⟨gz, 2, none⟩ = some (.int .i64 f.ty)) := fun X hX =>
       have hX' : Below W1.heap.size W1 X := zB.out.trans hX
       ⟨by rw [HUB.out]; exact (hX'.cell (p := ⟨b2, off2 + k * 3, none⟩) zz.out).trans e0.out, (hX'.cell (p := ⟨b2, off2 + k * 3 + 1, none⟩) zz.out).trans e1.out, (hX'.cell (p := ⟨b2, off2 + k * 3 + 2, none⟩) zz.out).trans e2.out, (G1.out.up hX').cell 2 rfl⟩
      refine wp_region_held_drew (S := fun w' => Hid (Below W1.drew.heap.size W1.drew w')) (by kernel_rfl) (Li (Below.refl _ _)) (fun hHeld => ?_)
      revert hHeld zB zWW HXL
      generalize W1.drew = W2
      intro zB zWW HXL hHeld
      refine htk 0 ?_
      refine htk 1 ?_
      refine htk 2 ?_
      refine htl 3 ?_ ?_ ?_
      rotate_left
      ·
       intro wS hSw
       obtain ⟨y0, y1, y2, y3⟩ := HXL.out _ hSw.out
       clear hSw
       go_simp
       try with_reducible rfl
      try simp only [pnz]
      refine htk 4 ?_
      refine htl 5 ?_ ?_ ?_
      rotate_left
      ·
       intro wS hSw
       obtain ⟨y0, y1, y2, y3⟩ := HXL.out _ hSw.out
       clear hSw
       go_simp
       try with_reducible rfl
      try simp only [pnz]
      refine rd2 6 7 (fun KK hK => ?_) (fun KK hK => ?_)
      ·
       go_simp
       go_at_call 36
       refine (VMade_any u.b u.n u.s f.ty _ HUF.out HUF.out.len).mono ?_
       rintro e w8 ⟨⟨vb, vn, vs, rfl, h1, h2, h3, h4⟩, hb8⟩
       have HV1 := Li h1
       have HV2 := Li h2
       have HV3 := Li h3
       have HV4 := Li h4
       have HB8 := Li (hHeld.out.trans (hb8.mono hHeld.out.size))
       have zB8 := HB8.out.size
       clear h1 h2 h3 h4
       clear hb8
       go_wp2_with fail
       refine hK.out _ _ (HB8) (fun hHeld => ?_)
       clear hK KK
       try simp only [pnz]
       refine rd1 7 fun KK hK => ?_
       go_simp
       have GZ := Li (CB.new w8 62 [.bool false, .int .i64 0, .string ⟨#[]⟩])
       have HBA := Li (al_up (o := .cells #[.bool false, .int .i64 0, .string ⟨#[]⟩] 62) hHeld.out)
       refine hK.out _ _ (HBA) (fun hHeld => ?_)
       clear hK KK
       try simp only [pnz]
       refine rd1 8 fun KK hK => ?_
       refine step_store_cb rfl 62 (.tmp 8) (.tmp 44) rfl w8.heap.size [.bool vb, .int .i64 vn, .string vs] rfl rfl 62 [.bool false, .int .i64 0, .string ⟨#[]⟩] 3 GZ.out sizeV rfl rfl (one_v _ _ _) ?_
       intro wz hcz hgz hzz
       have HBZ := Li (below_grown hHeld.out hgz hHeld.out.size (by omega))
       refine hK.out _ _ (HBZ) (fun hHeld => ?_)
       clear hK KK
       try simp only [pnz]
       refine wpAnyH_done (by kernel_rfl) ?_ _
       go_wp2_with fail
       go_meet
       exact ⟨_, vb, vn, vs, rfl, by omega, Li hcz, HV1, HV2, HV3, HV4, Li (zB.out.trans (HBZ.out.mono zB.out.size))⟩
      ·
       go_simp
       have GZ := Li (CB.new W2 62 [.bool false, .int .i64 0, .string ⟨#[]⟩])
       have HBA := Li (al_up (o := .cells #[.bool false, .int .i64 0, .string ⟨#[]⟩] 62) hHeld.out)
       refine hK.out _ _ (HBA) (fun hHeld => ?_)
       clear hK KK
       try simp only [pnz]
       refine rd1 6 fun KK hK => ?_
       go_simp
       go_at_call 36
       refine (VMade_any u.b u.n u.s f.ty _ HUF.out HUF.out.len).mono ?_
       rintro e w8 ⟨⟨vb, vn, vs, rfl, h1, h2, h3, h4⟩, hb8⟩
       have HV1 := Li h1
       have HV2 := Li h2
       have HV3 := Li h3
       have HV4 := Li h4
       have HB8 := Li (hHeld.out.trans (hb8.mono hHeld.out.size))
       have zB8 := HB8.out.size
       clear h1 h2 h3 h4
       have GZ8 := Li (GZ.out.up hb8)
       clear hb8
       go_wp2_with fail
       refine hK.out _ _ (HB8) (fun hHeld => ?_)
       clear hK KK
       try simp only [pnz]
       refine rd1 8 fun KK hK => ?_
       refine step_store_cb rfl 62 (.tmp 8) (.tmp 44) rfl W2.heap.size [.bool vb, .int .i64 vn, .string vs] rfl rfl 62 [.bool false, .int .i64 0, .string ⟨#[]⟩] 3 GZ8.out sizeV rfl rfl (one_v _ _ _) ?_
       intro wz hcz hgz hzz
       have HBZ := Li (below_grown hHeld.out hgz hHeld.out.size (by omega))
       refine hK.out _ _ (HBZ) (fun hHeld => ?_)
       clear hK KK
       try simp only [pnz]
       refine wpAnyH_done (by kernel_rfl) ?_ _
       go_wp2_with fail
       go_meet
       exact ⟨_, vb, vn, vs, rfl, by omega, Li hcz, HV1, HV2, HV3, HV4, Li (zB.out.trans (HBZ.out.mono zB.out.size))⟩
     case rest =>
      obtain ⟨g, vb, vn, vs, rfl, hge, GV, HV1, HV2, HV3, HV4, hbz⟩ := hcut
      generalize wc = w9 at *
      have G9 := Li (G1.out.up hbz.out)
      have hb9 := Li (hb1.out.up hbz.out)
      have ht9 := Li (ht1.out.up hbz.out)
      have hu9 := Li (hu1.out.up hbz.out)
      have ho9 := Li (ho1.out.up hbz.out)
      have B9 := Li (below_step hB1.out hB1.out.size hbz.out)
      have g0 := G9.out.cell 0 rfl
      have q0 := GV.out.c3
      have u0 := hu9.out.cell 0 rfl
      have zu := hu9.out.lt
      clear hbz
      cases vb with
      | true =>
       have HRD := Li (rowD_skip HF.out HU.out (.inr (.inr (by rw [← HV4.out]))) hrd.out)
       go_wp2
       go_roundw
       case rel => exact ⟨k + 1, c', A', r, by omega, by omega, by go_num, hb9, ht9, hu9, ho9, hfit, hsz, hidn, HRD, B9⟩
       case measure => simp [intOf]; omega
      | false =>
       have hok : okV ⟨false, vn, vs⟩ f.ty = true := by
        rcases HV1.out with h | h
        ·
         cases h
        ·
         exact h
       have HFN := Li (fitl_snoc hfit.out HFM.out (v := ⟨false, vn, vs⟩) rfl hok (fun c hc => hid.out c hc k f (Nat.le_refl _) HF.out))
       have HSN : Hid (∀ c ∈ r ++ [(⟨f.id, ⟨false, vn, vs⟩⟩ : Ce)], c.v.s.size ≤ 200) := fun c hc => by
        rcases List.mem_append.1 hc with hc | hc
        ·
         exact hsz.out c hc
        ·
         rw [List.mem_singleton] at hc
         subst hc
         exact HV3.out
       have HIN : Hid (∀ c ∈ r ++ [(⟨f.id, ⟨false, vn, vs⟩⟩ : Ce)], ∀ (j : Nat) (h : Fd), k + 1 ≤ j → l[j]? = some h → c.id < h.id) := fun c hc j h hj hl => by
        rcases List.mem_append.1 hc with hc | hc
        ·
         exact hidn.out c hc j h hj hl
        ·
         rw [List.mem_singleton] at hc
         subst hc
         obtain ⟨hr1, er⟩ := List.getElem?_eq_some_iff.1 HF.out
         obtain ⟨hq1, eq⟩ := List.getElem?_eq_some_iff.1 hl
         have := List.pairwise_iff_getElem.1 HO.out.srt k j hr1 hq1 (by omega)
         simp only at this
         rw [er, eq] at this
         exact this
       clear hok
       have HRD := Li (rowD_snoc HF.out HU.out HY.out HUB.out HV4.out rfl hrd.out)
       go_wp2_with (first | (at_builtin; refine push_ce (wr := w9) rfl (.tmp 49) (.tmp 54) rfl w.heap.size (.slice A' r.length c') r ⟨f.id, ⟨false, vn, vs⟩⟩ w9.heap.size rfl rfl rfl rfl ho9.out (by omega) B9.out.size ?_; intro A10 c10 w10 ho10 hg10 hb10; have HO10 := Li ho10; have hb11 := Li (hb9.out.grown hg10 (Own.ne ho9.out hb9.out (by decide))); have ht11 := Li (ht9.out.grown hg10 (Own.ne ho9.out ht9.out (by decide))); have hu11 := Li (hu9.out.grown hg10 (Own.ne ho9.out hu9.out (by decide))); have B11 := Li (B9.out.trans hb10); have x0 := hu11.out.cell 0 rfl; have x1 := hu11.out.frozen 0; clear ho10 hg10 hb10))
       go_roundw
       case rel => exact ⟨k + 1, c10, A10, r ++ [⟨f.id, ⟨false, vn, vs⟩⟩], by omega, by rw [List.length_append]; simp; omega, by go_num, Li (hb11.out.set_other 0 _ (by omega)), Li (ht11.out.set_other 0 _ (by omega)), by rw [List.length_append]; exact Li (hu11.out.set_ 0 _), by rw [List.length_append]; exact Li (HO10.out.set_ 0 _ (Own.ne HO10.out hu11.out (by decide))), HFN, HSN, HIN, HRD, Li (B11.out.setCell (p := ⟨w.heap.size + 1 + 1, 0, none⟩) (by show w.heap.size ≤ w.heap.size + 1 + 1; omega) _)⟩
       case measure => simp [intOf]; omega
   ·
    have i2 : ¬ (k : Int) < (m : Int) := by omega
    go_wp2_with (first | ((with_reducible show wpList _ _ _ (Oper.mk none (.store _ _ _) _ _ _ _ :: _) _ _); refine wpList_store_cb rfl 30 (.tmp 4) (.tmp 57) rfl (w.heap.size + 1) [.slice A' r.length c'] rfl rfl 30 [.slice none 0 0] 1 ht.out sizeRo rfl rfl (fun u hu => by simp at hu; subst hu; rfl) ?_; intro wz hcz hgz hzz))
    refine bodyPost_ret (res_cell1 Tryz.results14 rfl hcz Tryz.underlying30 sizeRo rfl) rfl ⟨⟨A', c', r, rfl, hown.out.kept hgz (.inr (Own.ne hown.out ht.out (by decide)).symm), hfit.out, hsz.out, by omega, rowD_end (.inr (by rw [← HM.out]; omega)) hrd.out⟩, below_grown hbel.out hgz hbel.out.size (by omega)⟩
  ·
   have i1 : ¬ (k : Int) < (n : Int) := by omega
   go_wp2_with (first | ((with_reducible show wpList _ _ _ (Oper.mk none (.store _ _ _) _ _ _ _ :: _) _ _); refine wpList_store_cb rfl 30 (.tmp 4) (.tmp 57) rfl (w.heap.size + 1) [.slice A' r.length c'] rfl rfl 30 [.slice none 0 0] 1 ht.out sizeRo rfl rfl (fun u hu => by simp at hu; subst hu; rfl) ?_; intro wz hcz hgz hzz))
   refine bodyPost_ret (res_cell1 Tryz.results14 rfl hcz Tryz.underlying30 sizeRo rfl) rfl ⟨⟨A', c', r, rfl, hown.out.kept hgz (.inr (Own.ne hown.out ht.out (by decide)).symm), hfit.out, hsz.out, by omega, rowD_end (.inl (by rw [← HN.out]; omega)) hrd.out⟩, below_grown hbel.out hgz hbel.out.size (by omega)⟩
theorem RRow_any (A : Option Addr) (n c : Nat) (x : Int) (l : List Fd) (V : Option Addr) (m cv : Nat) (raw : List Va) (w : World) (hn : n = l.length) (hs : Fds w w.heap.size A l) (ho : Ok ⟨l, x⟩) (hm : m = raw.length) (hv : Vas w w.heap.size V raw) (hml : m ≤ 9223372036854775807) (hvf : ∀ u ∈ raw, u.Fine) :
  Calls Tryz.prog 14 #[.agg #[.slice A n c, .int .i64 x], .slice V m cv] w fun e w' => (∃ (A' : Option Addr) (c' : Nat) (r : List Ce), e = .returned (.agg #[.slice A' r.length c']) ∧ Own 66 4 w' w.heap.size (.slice A' r.length c') (r.map Ce.cells) ∧ FitL l r ∧ (∀ c ∈ r, c.v.s.size ≤ 200) ∧ r.length ≤ 64) ∧ Below w.heap.size w w' :=
 (RRow_det A n c x l V m cv raw w hn hs ho hm hv hml hvf).mono fun _ _ ⟨⟨A', c', r, h1, h2, h3, h4, h5, _⟩, hb⟩ => ⟨⟨A', c', r, h1, h2, h3, h4, h5⟩, hb⟩
end Go.Proofs.YtfeemipnalgjnaaGreat
namespace Go.Proofs.YtfeemipnalgjnaaGreat
open Go.RowKit

/-- what a cell must be above -/
def lastOf (r : List Ce) : Nat → Int
 | 0 => 0
 | k + 1 => (r[k]?.map (·.id)).getD 0
theorem ok6 (v : Va) : okV v 6 = false := by
 unfold okV
 split
 ·
  simp
 ·
  simp
theorem ok0 (v : Va) : okV v 0 = false := by
 unfold okV
 split
 ·
  simp
 ·
  simp
theorem fts_no {l : List Fd} {r : List Ce} {k : Nat} {q : Ce} {z : Bool} {a : Int} (hd : r.drop k = q :: r.drop (k + 1)) (h : fitGo l a (r.drop k) = z) (hc : ¬ (hasF l q.id = true ∧ a < (fieldD l q.id).id ∧ q.v.b = false ∧ okV q.v (fieldD l q.id).ty = true)) : z = false := by
 rw [← h, hd, fitGo, if_neg hc]
theorem fts_go {l : List Fd} {r : List Ce} {k : Nat} {q : Ce} {z : Bool} {a : Int} (hq : r[k]? = some q) (hd : r.drop k = q :: r.drop (k + 1)) (h : fitGo l a (r.drop k) = z) (hc : hasF l q.id = true ∧ a < (fieldD l q.id).id ∧ q.v.b = false ∧ okV q.v (fieldD l q.id).ty = true) : fitGo l (lastOf r (k + 1)) (r.drop (k + 1)) = z := by
 have e : lastOf r (k + 1) = q.id := by simp only [lastOf, hq, Option.map_some, Option.getD_some]
 rw [e, ← h, hd, fitGo, if_pos hc, (fieldD_of hc.1).2]
theorem dropCe {l : List Ce} {k : Nat} {x : Ce} (h : l[k]? = some x) : l.drop k = x :: l.drop (k + 1) := drop_cons h
set_option maxHeartbeats 4000000 in
set_option maxRecDepth 20000 in
theorem RFits_ok (A : Option Addr) (n c : Nat) (x : Int) (l : List Fd) (C : Option Addr) (m d : Nat) (r : List Ce) (w : World) (hn : n = l.length) (hs : Fds w w.heap.size A l) (ho : Ok ⟨l, x⟩) (hm : m = r.length) (hr : Ces w w.heap.size C r) (hml : m ≤ 1000000) (hsz : ∀ c ∈ r, c.v.s.size ≤ 9223372036854775807) :
  Calls Tryz.prog 26 #[.agg #[.slice A n c, .int .i64 x], .agg #[.slice C m d]] w fun e w' => e = .returned (.bool (fitGo l 0 r)) ∧ Below w.heap.size w w' := by
 obtain ⟨z, hz⟩ : ∃ z, fitGo l 0 r = z := ⟨_, rfl⟩
 rw [hz]
 have HZ := Li (show fitGo l (lastOf r 0) (r.drop 0) = z from hz)
 have HN := Li hn
 have HS := Li hs
 have HO := Li ho
 have HM := Li hm
 have HC := Li hr
 have HSZ := Li hsz
 have hl : n ≤ 9223372036854775807 := by rw [hn]; have := ho.big.1; simp only at this; omega
 clear hn hs ho hm hr hsz hz
 have S0 := Li ((CB.new w 35 [.slice A n c, .int .i64 x]).alloc (.cells #[.slice C m d] 30))
 have T0 := Li (CB.new1 w (.cells #[.slice A n c, .int .i64 x] 35) 30 [.slice C m d])
 have B0 := Li (al2 w (.cells #[.slice A n c, .int .i64 x] 35) (.cells #[.slice C m d] 30))
 go_enter Tryz.func26, Tryz.ntmps26
 go_wp2
 go_loopw [5, 6, 7, 8, 9] (fun i _ _ _ _ wr => ∃ k : Nat, k ≤ m ∧ i = .int .i64 k ∧ Hid (CB wr w.heap.size 35 [.slice A n c, .int .i64 x]) ∧ Hid (CB wr (w.heap.size + 1) 30 [.slice C m d]) ∧ Hid (Below w.heap.size w wr) ∧ Hid (fitGo l (lastOf r k) (r.drop k) = z)) (fun i _ _ _ _ _ => m - (intOf i).toNat)
 case atStart => exact ⟨0, by omega, rfl, S0, T0, B0, HZ⟩
 case round =>
  obtain ⟨k, hk, rfl, hb, ht, hbel, hgo⟩ := hrel
  have s0 := hb.out.cell 0 rfl
  have s1 := hb.out.cell 1 rfl
  have t0 := ht.out.cell 0 rfl
  have zb := hb.out.lt
  have zt := ht.out.lt
  by_cases hlt : k < m
  ·
   have i1 : (k : Int) < (m : Int) := by omega
   obtain ⟨q, hq⟩ : ∃ q, r[k]? = some q := ⟨_, List.getElem?_eq_getElem (by rw [← HM.out]; exact hlt)⟩
   have HQ := Li hq
   have hqs := HSZ.out q (List.mem_of_getElem? hq)
   have hd := Li (dropCe hq)
   obtain ⟨b, off, rfl, hbl, c0, c1, c2, c3⟩ := (show Ces wr w.heap.size C r from RowAt.below HC.out hbel.out).one hq
   obtain ⟨f, hf⟩ : ∃ f, fieldD l q.id = f := ⟨_, rfl⟩
   obtain ⟨b0, hb0⟩ : ∃ b, hasF l q.id = b := ⟨_, rfl⟩
   obtain ⟨ov, hov⟩ : ∃ b, okV q.v f.ty = b := ⟨_, rfl⟩
   have HFD := Li hf
   have HHB := Li hb0
   obtain ⟨vb, hvb⟩ : ∃ b, q.v.b = b := ⟨_, rfl⟩
   have HOV := Li (show okV ⟨vb, q.v.n, q.v.s⟩ f.ty = ov by rw [← hvb]; exact hov)
   have hcond : ¬ (b0 = true ∧ lastOf r k < f.id ∧ q.v.b = false ∧ ov = true) → Hid (z = false) := fun h => fts_no hd.out hgo.out (by rw [hb0, hf, hov]; exact h)
   have hcont : (b0 = true ∧ lastOf r k < f.id ∧ q.v.b = false ∧ ov = true) → Hid (fitGo l (lastOf r (k + 1)) (r.drop (k + 1)) = z) := fun h => fts_go HQ.out hd.out hgo.out (by rw [hb0, hf, hov]; exact h)
   have hfid : b0 = true → f.id = q.id ∧ f ∈ l := fun h => by
    have := fieldD_of (l := l) (i := q.id) (by rw [hb0]; exact h)
    rw [hf] at this
    exact ⟨this.2, this.1⟩
   have hty : b0 = false → f.ty = 0 := fun h => by
    rw [← hf]
    unfold fieldD
    unfold hasF at hb0
    rw [h] at hb0
    cases hfi : field l q.id with
    | none => rfl
    | some g => rw [hfi] at hb0; cases hb0
   have hzr := hbel.out.size
   have HVB := Li hvb
   rw [hvb] at c1
   clear hq hov hvb
   cases b0 with
   | false =>
    have HZF := hcond (by rintro ⟨h, _⟩; cases h)
    clear hcond hcont hfid hty hf hb0
    go_wp2_with (first | (go_at_call 28; refine (RField_any A n c x l q.id _ HN.out (HS.out.up (hbel.out.alloc hbel.out.size (.cells #[.int .i64 q.id, .bool vb, .int .i64 q.v.n, .string q.v.s] 66))) hl).mono ?_; rintro e w7 ⟨rfl, hb7⟩; rw [HFD.out, HHB.out]; have hw7 : Below wr.heap.size wr w7 := (al1 wr (.cells #[.int .i64 q.id, .bool vb, .int .i64 q.v.n, .string q.v.s] 66)).trans (hb7.mono (al1 wr (.cells #[.int .i64 q.id, .bool vb, .int .i64 q.v.n, .string q.v.s] 66)).size); have S7 := Li (hb.out.up hw7); have T7 := Li (ht.out.up hw7); have Q7 := Li ((CB.new wr 66 [.int .i64 q.id, .bool vb, .int .i64 q.v.n, .string q.v.s]).up hb7); have B7 := Li (below_step hbel.out hbel.out.size hw7); have zQ7 := Q7.out.lt; have a1 := Q7.out.cell 1 rfl; have a2 := Q7.out.cell 2 rfl; have a3 := Q7.out.cell 3 rfl; clear hb7 hw7) | (go_at_call 48; refine (RValid_any vb q.v.n q.v.s f.ty _ hqs).mono ?_; rintro e w8 ⟨rfl, hb8⟩; rw [HOV.out]; have hw8 : Below w7.heap.size w7 w8 := (al1 w7 (.cells #[.int .i64 f.id, .string f.nm, .int .i64 f.ty, .int .i64 f.pa] 58)).trans (hb8.mono (al1 w7 (.cells #[.int .i64 f.id, .string f.nm, .int .i64 f.ty, .int .i64 f.pa] 58)).size); have S8 := Li (S7.out.up hw8); have T8 := Li (T7.out.up hw8); have Q8 := Li (Q7.out.up hw8); have F8 := Li ((CB.new w7 58 [.int .i64 f.id, .string f.nm, .int .i64 f.ty, .int .i64 f.pa]).up hb8); have B8 := Li (below_step B7.out B7.out.size hw8); have R8 := Li (RowAt.below HC.out B8.out); have s80 := T8.out.cell 0 rfl; have q80 := Q8.out.c2; have f82 := F8.out.cell 2 rfl; clear hb8 hw8))
    go_quiet (fail)
    go_wp2
    go_ret
    exact ⟨by rw [HZF.out]; rfl, below_drewN B8.out _⟩
   | true =>
    obtain ⟨hfq, hfm⟩ := hfid rfl
    by_cases h6 : f.ty = 6
    ·
     have e6 : (f.ty == 6) = true := by simpa using h6
     have HZF := hcond (by rintro ⟨_, _, _, h⟩; rw [← HOV.out, h6, ok6] at h; cases h)
     clear hcond hcont hfid hty hf hb0 h6
     go_wp2_with (first | (go_at_call 28; refine (RField_any A n c x l q.id _ HN.out (HS.out.up (hbel.out.alloc hbel.out.size (.cells #[.int .i64 q.id, .bool vb, .int .i64 q.v.n, .string q.v.s] 66))) hl).mono ?_; rintro e w7 ⟨rfl, hb7⟩; rw [HFD.out, HHB.out]; have hw7 : Below wr.heap.size wr w7 := (al1 wr (.cells #[.int .i64 q.id, .bool vb, .int .i64 q.v.n, .string q.v.s] 66)).trans (hb7.mono (al1 wr (.cells #[.int .i64 q.id, .bool vb, .int .i64 q.v.n, .string q.v.s] 66)).size); have S7 := Li (hb.out.up hw7); have T7 := Li (ht.out.up hw7); have Q7 := Li ((CB.new wr 66 [.int .i64 q.id, .bool vb, .int .i64 q.v.n, .string q.v.s]).up hb7); have B7 := Li (below_step hbel.out hbel.out.size hw7); have zQ7 := Q7.out.lt; have a1 := Q7.out.cell 1 rfl; have a2 := Q7.out.cell 2 rfl; have a3 := Q7.out.cell 3 rfl; clear hb7 hw7) | (go_at_call 48; refine (RValid_any vb q.v.n q.v.s f.ty _ hqs).mono ?_; rintro e w8 ⟨rfl, hb8⟩; rw [HOV.out]; have hw8 : Below w7.heap.size w7 w8 := (al1 w7 (.cells #[.int .i64 q.id, .string f.nm, .int .i64 f.ty, .int .i64 f.pa] 58)).trans (hb8.mono (al1 w7 (.cells #[.int .i64 q.id, .string f.nm, .int .i64 f.ty, .int .i64 f.pa] 58)).size); have S8 := Li (S7.out.up hw8); have T8 := Li (T7.out.up hw8); have Q8 := Li (Q7.out.up hw8); have F8 := Li ((CB.new w7 58 [.int .i64 q.id, .string f.nm, .int .i64 f.ty, .int .i64 f.pa]).up hb8); have B8 := Li (below_step B7.out B7.out.size hw8); have R8 := Li (RowAt.below HC.out B8.out); have s80 := T8.out.cell 0 rfl; have q80 := Q8.out.c2; have f82 := F8.out.cell 2 rfl; clear hb8 hw8))
     go_quiet (fail)
     go_wp2
     go_ret
     exact ⟨by rw [HZF.out]; rfl, below_drewN B8.out _⟩
    have e6 : (f.ty == 6) = false := by simpa using h6
    cases vb with
    | true =>
     have HZF := hcond (by rintro ⟨_, _, h, _⟩; rw [HVB.out] at h; cases h)
     clear hcond hcont hfid hty hf hb0 h6
     go_wp2_with (first | (go_at_call 28; refine (RField_any A n c x l q.id _ HN.out (HS.out.up (hbel.out.alloc hbel.out.size (.cells #[.int .i64 q.id, .bool true, .int .i64 q.v.n, .string q.v.s] 66))) hl).mono ?_; rintro e w7 ⟨rfl, hb7⟩; rw [HFD.out, HHB.out]; have hw7 : Below wr.heap.size wr w7 := (al1 wr (.cells #[.int .i64 q.id, .bool true, .int .i64 q.v.n, .string q.v.s] 66)).trans (hb7.mono (al1 wr (.cells #[.int .i64 q.id, .bool true, .int .i64 q.v.n, .string q.v.s] 66)).size); have S7 := Li (hb.out.up hw7); have T7 := Li (ht.out.up hw7); have Q7 := Li ((CB.new wr 66 [.int .i64 q.id, .bool true, .int .i64 q.v.n, .string q.v.s]).up hb7); have B7 := Li (below_step hbel.out hbel.out.size hw7); have zQ7 := Q7.out.lt; have a1 := Q7.out.cell 1 rfl; have a2 := Q7.out.cell 2 rfl; have a3 := Q7.out.cell 3 rfl; clear hb7 hw7) | (go_at_call 48; refine (RValid_any true q.v.n q.v.s f.ty _ hqs).mono ?_; rintro e w8 ⟨rfl, hb8⟩; rw [HOV.out]; have hw8 : Below w7.heap.size w7 w8 := (al1 w7 (.cells #[.int .i64 q.id, .string f.nm, .int .i64 f.ty, .int .i64 f.pa] 58)).trans (hb8.mono (al1 w7 (.cells #[.int .i64 q.id, .string f.nm, .int .i64 f.ty, .int .i64 f.pa] 58)).size); have S8 := Li (S7.out.up hw8); have T8 := Li (T7.out.up hw8); have Q8 := Li (Q7.out.up hw8); have F8 := Li ((CB.new w7 58 [.int .i64 q.id, .string f.nm, .int .i64 f.ty, .int .i64 f.pa]).up hb8); have B8 := Li (below_step B7.out B7.out.size hw8); have R8 := Li (RowAt.below HC.out B8.out); have s80 := T8.out.cell 0 rfl; have q80 := Q8.out.c2; have f82 := F8.out.cell 2 rfl; clear hb8 hw8))
     go_quiet (fail)
     go_wp2
     go_ret
     exact ⟨by rw [HZF.out]; rfl, below_drewN B8.out _⟩
    | false =>
     cases ov with
     | false =>
      have HZF := hcond (by rintro ⟨_, _, _, h⟩; cases h)
      clear hcond hcont hfid hty hf hb0 h6
      go_wp2_with (first | (go_at_call 28; refine (RField_any A n c x l q.id _ HN.out (HS.out.up (hbel.out.alloc hbel.out.size (.cells #[.int .i64 q.id, .bool false, .int .i64 q.v.n, .string q.v.s] 66))) hl).mono ?_; rintro e w7 ⟨rfl, hb7⟩; rw [HFD.out, HHB.out]; have hw7 : Below wr.heap.size wr w7 := (al1 wr (.cells #[.int .i64 q.id, .bool false, .int .i64 q.v.n, .string q.v.s] 66)).trans (hb7.mono (al1 wr (.cells #[.int .i64 q.id, .bool false, .int .i64 q.v.n, .string q.v.s] 66)).size); have S7 := Li (hb.out.up hw7); have T7 := Li (ht.out.up hw7); have Q7 := Li ((CB.new wr 66 [.int .i64 q.id, .bool false, .int .i64 q.v.n, .string q.v.s]).up hb7); have B7 := Li (below_step hbel.out hbel.out.size hw7); have zQ7 := Q7.out.lt; have a1 := Q7.out.cell 1 rfl; have a2 := Q7.out.cell 2 rfl; have a3 := Q7.out.cell 3 rfl; clear hb7 hw7) | (go_at_call 48; refine (RValid_any false q.v.n q.v.s f.ty _ hqs).mono ?_; rintro e w8 ⟨rfl, hb8⟩; rw [HOV.out]; have hw8 : Below w7.heap.size w7 w8 := (al1 w7 (.cells #[.int .i64 q.id, .string f.nm, .int .i64 f.ty, .int .i64 f.pa] 58)).trans (hb8.mono (al1 w7 (.cells #[.int .i64 q.id, .string f.nm, .int .i64 f.ty, .int .i64 f.pa] 58)).size); have S8 := Li (S7.out.up hw8); have T8 := Li (T7.out.up hw8); have Q8 := Li (Q7.out.up hw8); have F8 := Li ((CB.new w7 58 [.int .i64 q.id, .string f.nm, .int .i64 f.ty, .int .i64 f.pa]).up hb8); have B8 := Li (below_step B7.out B7.out.size hw8); have R8 := Li (RowAt.below HC.out B8.out); have s80 := T8.out.cell 0 rfl; have q80 := Q8.out.c2; have f82 := F8.out.cell 2 rfl; clear hb8 hw8))
      go_quiet (fail)
      go_wp2
      go_ret
      exact ⟨by rw [HZF.out]; rfl, below_drewN B8.out _⟩
     | true =>
      rcases k with _ | j
      ·
       simp only [Nat.zero_mul, Nat.add_zero] at c0 c1 c2 c3
       have HG := hcont ⟨rfl, by have := HO.out.pos f hfm; exact this, HVB.out, rfl⟩
       clear hcond hcont hfid hty hf hb0 h6
       go_wp2_with (first | (go_at_call 28; refine (RField_any A n c x l q.id _ HN.out (HS.out.up (hbel.out.alloc hbel.out.size (.cells #[.int .i64 q.id, .bool false, .int .i64 q.v.n, .string q.v.s] 66))) hl).mono ?_; rintro e w7 ⟨rfl, hb7⟩; rw [HFD.out, HHB.out]; have hw7 : Below wr.heap.size wr w7 := (al1 wr (.cells #[.int .i64 q.id, .bool false, .int .i64 q.v.n, .string q.v.s] 66)).trans (hb7.mono (al1 wr (.cells #[.int .i64 q.id, .bool false, .int .i64 q.v.n, .string q.v.s] 66)).size); have S7 := Li (hb.out.up hw7); have T7 := Li (ht.out.up hw7); have Q7 := Li ((CB.new wr 66 [.int .i64 q.id, .bool false, .int .i64 q.v.n, .string q.v.s]).up hb7); have B7 := Li (below_step hbel.out hbel.out.size hw7); have zQ7 := Q7.out.lt; have a1 := Q7.out.cell 1 rfl; have a2 := Q7.out.cell 2 rfl; have a3 := Q7.out.cell 3 rfl; clear hb7 hw7) | (go_at_call 48; refine (RValid_any false q.v.n q.v.s f.ty _ hqs).mono ?_; rintro e w8 ⟨rfl, hb8⟩; rw [HOV.out]; have hw8 : Below w7.heap.size w7 w8 := (al1 w7 (.cells #[.int .i64 q.id, .string f.nm, .int .i64 f.ty, .int .i64 f.pa] 58)).trans (hb8.mono (al1 w7 (.cells #[.int .i64 q.id, .string f.nm, .int .i64 f.ty, .int .i64 f.pa] 58)).size); have S8 := Li (S7.out.up hw8); have T8 := Li (T7.out.up hw8); have Q8 := Li (Q7.out.up hw8); have F8 := Li ((CB.new w7 58 [.int .i64 q.id, .string f.nm, .int .i64 f.ty, .int .i64 f.pa]).up hb8); have B8 := Li (below_step B7.out B7.out.size hw8); have R8 := Li (RowAt.below HC.out B8.out); have s80 := T8.out.cell 0 rfl; have q80 := Q8.out.c2; have f82 := F8.out.cell 2 rfl; clear hb8 hw8))
       go_quiet (fail)
       go_wp2
       go_roundw
       case rel => exact ⟨0 + 1, by omega, by go_num, Li (show CB _ _ _ _ from S8.out), Li (show CB _ _ _ _ from T8.out), Li (below_drewN B8.out _), HG⟩
       case measure => simp [intOf]; omega
      ·
       obtain ⟨p, hp⟩ : ∃ p, r[j]? = some p := ⟨_, List.getElem?_eq_getElem (by rw [← HM.out]; omega)⟩
       have hlast : lastOf r (j + 1) = p.id := by simp only [lastOf, hp, Option.map_some, Option.getD_some]
       have HP := Li hp
       have i3 : (j : Int) < (m : Int) := by omega
       have hpv : Hid (∀ X, Ces X w.heap.size (some ⟨b, off, none⟩) r → X.cell? ⟨b, off + j * 4, none⟩ = some (.int .i64 p.id)) := fun X hX => by
        obtain ⟨b', off', he, _, e0, _⟩ := hX.one HP.out
        simp only [Option.some.injEq, Addr.mk.injEq, and_true] at he
        obtain ⟨rfl, rfl⟩ := he
        exact e0
       by_cases hge : q.id ≤ p.id
       ·
        have HZF := hcond (by rintro ⟨_, h, _⟩; rw [hlast] at h; omega)
        have e7 : decide (q.id ≤ p.id) = true := decide_eq_true hge
        clear hcond hcont hfid hty hf hb0 h6 hge hlast hp
        go_wp2_with (first | (go_at_call 28; refine (RField_any A n c x l q.id _ HN.out (HS.out.up (hbel.out.alloc hbel.out.size (.cells #[.int .i64 q.id, .bool false, .int .i64 q.v.n, .string q.v.s] 66))) hl).mono ?_; rintro e w7 ⟨rfl, hb7⟩; rw [HFD.out, HHB.out]; have hw7 : Below wr.heap.size wr w7 := (al1 wr (.cells #[.int .i64 q.id, .bool false, .int .i64 q.v.n, .string q.v.s] 66)).trans (hb7.mono (al1 wr (.cells #[.int .i64 q.id, .bool false, .int .i64 q.v.n, .string q.v.s] 66)).size); have S7 := Li (hb.out.up hw7); have T7 := Li (ht.out.up hw7); have Q7 := Li ((CB.new wr 66 [.int .i64 q.id, .bool false, .int .i64 q.v.n, .string q.v.s]).up hb7); have B7 := Li (below_step hbel.out hbel.out.size hw7); have zQ7 := Q7.out.lt; have a1 := Q7.out.cell 1 rfl; have a2 := Q7.out.cell 2 rfl; have a3 := Q7.out.cell 3 rfl; clear hb7 hw7) | (go_at_call 48; refine (RValid_any false q.v.n q.v.s f.ty _ hqs).mono ?_; rintro e w8 ⟨rfl, hb8⟩; rw [HOV.out]; have hw8 : Below w7.heap.size w7 w8 := (al1 w7 (.cells #[.int .i64 q.id, .string f.nm, .int .i64 f.ty, .int .i64 f.pa] 58)).trans (hb8.mono (al1 w7 (.cells #[.int .i64 q.id, .string f.nm, .int .i64 f.ty, .int .i64 f.pa] 58)).size); have S8 := Li (S7.out.up hw8); have T8 := Li (T7.out.up hw8); have Q8 := Li (Q7.out.up hw8); have F8 := Li ((CB.new w7 58 [.int .i64 q.id, .string f.nm, .int .i64 f.ty, .int .i64 f.pa]).up hb8); have B8 := Li (below_step B7.out B7.out.size hw8); have R8 := Li (RowAt.below HC.out B8.out); have s80 := T8.out.cell 0 rfl; have q80 := Q8.out.c2; have f82 := F8.out.cell 2 rfl; clear hb8 hw8))
        have pv := hpv.out _ R8.out
        go_quiet (fail)
        go_wp2
        go_ret
        exact ⟨by rw [HZF.out]; rfl, below_drewN B8.out _⟩
       ·
        have HG := hcont ⟨rfl, by rw [hlast]; omega, HVB.out, rfl⟩
        have e7 : decide (q.id ≤ p.id) = false := decide_eq_false hge
        clear hcond hcont hfid hty hf hb0 h6 hge hlast hp
        go_wp2_with (first | (go_at_call 28; refine (RField_any A n c x l q.id _ HN.out (HS.out.up (hbel.out.alloc hbel.out.size (.cells #[.int .i64 q.id, .bool false, .int .i64 q.v.n, .string q.v.s] 66))) hl).mono ?_; rintro e w7 ⟨rfl, hb7⟩; rw [HFD.out, HHB.out]; have hw7 : Below wr.heap.size wr w7 := (al1 wr (.cells #[.int .i64 q.id, .bool false, .int .i64 q.v.n, .string q.v.s] 66)).trans (hb7.mono (al1 wr (.cells #[.int .i64 q.id, .bool false, .int .i64 q.v.n, .string q.v.s] 66)).size); have S7 := Li (hb.out.up hw7); have T7 := Li (ht.out.up hw7); have Q7 := Li ((CB.new wr 66 [.int .i64 q.id, .bool false, .int .i64 q.v.n, .string q.v.s]).up hb7); have B7 := Li (below_step hbel.out hbel.out.size hw7); have zQ7 := Q7.out.lt; have a1 := Q7.out.cell 1 rfl; have a2 := Q7.out.cell 2 rfl; have a3 := Q7.out.cell 3 rfl; clear hb7 hw7) | (go_at_call 48; refine (RValid_any false q.v.n q.v.s f.ty _ hqs).mono ?_; rintro e w8 ⟨rfl, hb8⟩; rw [HOV.out]; have hw8 : Below w7.heap.size w7 w8 := (al1 w7 (.cells #[.int .i64 q.id, .string f.nm, .int .i64 f.ty, .int .i64 f.pa] 58)).trans (hb8.mono (al1 w7 (.cells #[.int .i64 q.id, .string f.nm, .int .i64 f.ty, .int .i64 f.pa] 58)).size); have S8 := Li (S7.out.up hw8); have T8 := Li (T7.out.up hw8); have Q8 := Li (Q7.out.up hw8); have F8 := Li ((CB.new w7 58 [.int .i64 q.id, .string f.nm, .int .i64 f.ty, .int .i64 f.pa]).up hb8); have B8 := Li (below_step B7.out B7.out.size hw8); have R8 := Li (RowAt.below HC.out B8.out); have s80 := T8.out.cell 0 rfl; have q80 := Q8.out.c2; have f82 := F8.out.cell 2 rfl; clear hb8 hw8))
        have pv := hpv.out _ R8.out
        go_quiet (fail)
        go_wp2
        go_roundw
        case rel => exact ⟨j + 1 + 1, by omega, by go_num, Li (show CB _ _ _ _ from S8.out), Li (show CB _ _ _ _ from T8.out), Li (below_drewN B8.out _), HG⟩
        case measure => simp [intOf]; omega
  ·
   have i1 : ¬ (k : Int) < (m : Int) := by omega
   have hz : z = true := by
    rw [← hgo.out, List.drop_of_length_le (by rw [← HM.out]; omega)]
    rfl
   subst hz
   go_wp2
   go_ret
   exact ⟨rfl, hbel.out⟩
end Go.Proofs.YtfeemipnalgjnaaGreat
namespace Go.Proofs.YtfeemipnalgjnaaGreat
open Go.RowKit Go.ChangeShapes Go.WideShapes Go.ChangeAt Go.Deep
set_option maxRecDepth 100000

theorem own : ownKnob Tryz.prog.godebug = none := by kernel_rfl
theorem laidOut : laidOutB Tryz.prog = true := by kernel_rfl
theorem block_add (a : Addr) (n : Nat) : (a.add n).block = a.block := by unfold Addr.add; split <;> rfl
theorem add_zero' (a : Addr) : a.add 0 = a := by unfold Addr.add; simp
theorem cCh : Tryz.prog.cellsOf 24 = 8 := by kernel_rfl
theorem cInt : Tryz.prog.cellsOf 3 = 1 := by kernel_rfl
theorem cStr : Tryz.prog.cellsOf 9 = 1 := by kernel_rfl
theorem pick_lt {α : Type} {n : Nat} {P : Nat → α → Prop} (h : ∀ i, i < n → ∃ v, P i v) (d : α) : ∃ f : Nat → α, ∀ i, i < n → P i (f i) := by
 classical
 refine ⟨fun i => if hi : i < n then (h i hi).choose else d, fun i hi => ?_⟩
 simp only [dif_pos hi]
 exact (h i hi).choose_spec
theorem open_ch {H : Type} {enc : TypeId × Value → H} {W : World} {base : Nat} {sp : Nat → Bool} {held : Bool} {fuel : Nat} {cs : List Value} {x : DataW H × List MemPlace}
  (h : DataW.trod enc Tryz.prog W base sp held fuel 24 cs = some x) : ∃ c : Ch, cs = c.cells ∧ RW c := by
 obtain ⟨xs, n, _, _, hl, hxl, hf⟩ := DataW.trod_struct Tryz.underlying24 h
 rw [cCh] at hl
 have hx : xs.length = 8 := hxl
 match cs, hl, xs, hx, hf with
 | [c0, c1, c2, c3, c4, c5, c6, c7], _, [y0, y1, y2, y3, y4, y5, y6, y7], _, hf =>
  have g0 := hf 0 _ rfl
  have g1 := hf 1 _ rfl
  have g2 := hf 2 _ rfl
  have g3 := hf 3 _ rfl
  have g4 := hf 4 _ rfl
  have g5 := hf 5 _ rfl
  have g6 := hf 6 _ rfl
  have g7 := hf 7 _ rfl
  obtain ⟨a0, e0, _, w0⟩ := DataW.trod_int Tryz.underlying3 g0
  obtain ⟨a1, e1, _, w1⟩ := DataW.trod_int Tryz.underlying3 g1
  obtain ⟨a2, e2, _, w2⟩ := DataW.trod_int Tryz.underlying3 g2
  obtain ⟨s3, e3, _, w3⟩ := DataW.trod_string Tryz.underlying9 g3
  obtain ⟨s4, e4, _, w4⟩ := DataW.trod_string Tryz.underlying9 g4
  obtain ⟨a5, e5, _, w5⟩ := DataW.trod_int Tryz.underlying3 g5
  obtain ⟨a6, e6, _, w6⟩ := DataW.trod_int Tryz.underlying3 g6
  obtain ⟨s7, e7, _, w7⟩ := DataW.trod_string Tryz.underlying9 g7
  simp [cInt, cStr] at e0 e1 e2 e3 e4 e5 e6 e7
  subst e0 e1 e2 e3 e4 e5 e6 e7
  exact ⟨⟨a0, a1, a2, s3, s4, a5, a6, s7⟩, rfl, w0, w1, w2, w5, w6, w3, w4, w7⟩
theorem open_chs {H : Type} {enc : TypeId × Value → H} {W : World} {held : Bool} {fuel : Nat} {a : Option Addr} {len cap : Nat} {x : DataW H × List MemPlace}
  (h : DataW.trod enc Tryz.prog W 0 (fun _ => true) held fuel 22 [.slice a len cap] = some x) :
  ∃ L : List Ch, len = L.length ∧ len ≤ cap ∧ cap ≤ 9223372036854775807 ∧ Chs W W.heap.size a L ∧ ∀ d ∈ L, RW d := by
 rcases open_slice Tryz.underlying22 h with ⟨hcs, _⟩ | ⟨ad, len', cap', m, n, D, Pl, hcs, _, hl, hm, hmm, _, hi⟩
 ·
  simp at hcs
  obtain ⟨rfl, rfl, rfl⟩ := hcs
  exact ⟨[], rfl, Nat.le_refl _, by omega, RowAt.nil, fun d hd => by simp at hd⟩
 ·
  simp at hcs
  obtain ⟨rfl, rfl, rfl⟩ := hcs
  simp only [if_true] at hmm
  subst hmm
  rw [cCh] at hi
  have hex : ∀ i, i < len → ∃ c : Ch, ad.spot = none ∧ ad.block < W.heap.size ∧ At W ad.block (ad.off + i * 8) c.cells ∧ RW c := fun i hil => by
   obtain ⟨cs', hc, ht⟩ := hi i (by omega)
   obtain ⟨c, rfl, hrw⟩ := open_ch ht
   obtain ⟨_, _, hcell⟩ := World.cells?_some hc
   have h0 := hcell 0 (by omega)
   have hlt := World.block_lt_of_cell? W _ h0
   rw [block_add, block_add] at hlt
   obtain ⟨cs0, hc0, ht0⟩ := hi 0 (by omega)
   obtain ⟨c0, rfl, _⟩ := open_ch ht0
   obtain ⟨_, _, hcell0⟩ := World.cells?_some hc0
   have h00 := hcell0 0 (by omega)
   rw [Nat.zero_mul, add_zero'] at h00
   obtain ⟨b, o, spot⟩ := ad
   have hspot : spot = none := by simpa [Addr.add] using World.cell?_spot h00
   subst hspot
   refine ⟨c, rfl, hlt, fun j v hv => ?_, hrw⟩
   have hj : j < 8 := by
    have := (List.getElem?_eq_some_iff.1 hv).1
    exact this
   have := hcell j hj
   rw [Addr.add_lit, Addr.add_lit, hv] at this
   exact this
  obtain ⟨f, hf⟩ := pick_lt hex ⟨0, 0, 0, ⟨#[]⟩, ⟨#[]⟩, 0, 0, ⟨#[]⟩⟩
  refine ⟨(List.range len).map f, by simp, hl, hm, fun hpos => ?_, fun d hd => ?_⟩
  ·
   obtain ⟨b, o, spot⟩ := ad
   have h0 := hf 0 (by simpa using hpos)
   simp only at h0
   obtain ⟨rfl, hlt, _, _⟩ := h0
   refine ⟨b, o, rfl, hlt, fun i vs hvs => ?_⟩
   rw [List.getElem?_map, List.getElem?_map] at hvs
   have hil : i < len := by
    by_cases h : i < len
    ·
     exact h
    ·
     rw [List.getElem?_eq_none (by simpa using h)] at hvs
     cases hvs
   rw [List.getElem?_range hil] at hvs
   obtain rfl : (f i).cells = vs := by simpa using hvs
   exact (hf i hil).2.2.1
  ·
   obtain ⟨i, hi', rfl⟩ := List.mem_map.1 hd
   exact (hf i (by simpa using hi')).2.2.2
theorem open_chv {H : Type} {enc : TypeId × Value → H} {W : World} {base : Nat} {held : Bool} {v : Value} {d : DataW H} {p : List MemPlace}
  (hv : Value.okWide Tryz.prog W .any base 24 v) (h : DataW.Trod enc Tryz.prog W 0 (fun _ => true) held 24 v d p) : ∃ c : Ch, v = c.val ∧ RW c := by
 obtain ⟨cs, rfl, _⟩ := okWide_struct Tryz.underlying24 hv
 obtain ⟨fu, hf⟩ := h
 obtain ⟨c, e, hr⟩ := open_ch hf
 refine ⟨c, ?_, hr⟩
 show Value.agg cs = Value.agg _
 congr 1
 have e : cs.toList = c.cells := by simpa [Value.cells] using e
 exact Array.ext' e
end Go.Proofs.YtfeemipnalgjnaaGreat
namespace Go.Proofs.YtfeemipnalgjnaaGreat
open Go.RowKit Go.ChangeShapes Go.WideShapes Go.ChangeAt Go.Deep
set_option maxRecDepth 100000

theorem cVal : Tryz.prog.cellsOf 62 = 3 := by kernel_rfl
theorem cBool : Tryz.prog.cellsOf 4 = 1 := by kernel_rfl
theorem cI64 : Tryz.prog.cellsOf 2 = 1 := by kernel_rfl
theorem open_va3 {H : Type} {enc : TypeId × Value → H} {W : World} {base : Nat} {sp : Nat → Bool} {held : Bool} {fuel : Nat} {cs : List Value} {x : DataW H × List MemPlace}
  (h : DataW.trod enc Tryz.prog W base sp held fuel 62 cs = some x) : ∃ v : Va, cs = v.cells3 ∧ v.Fine := by
 obtain ⟨y0, y1, y2, n, _, hl, h0, h1, h2⟩ := Deep.trod_struct3 Tryz.underlying62 h
 obtain ⟨b, e0, _⟩ := DataW.trod_bool Tryz.underlying4 h0
 obtain ⟨z, e1, _, w1⟩ := DataW.trod_int Tryz.underlying2 h1
 obtain ⟨s, e2, _, hs⟩ := DataW.trod_string Tryz.underlying9 h2
 rw [cVal] at hl
 match cs, hl with
 | [c0, c1, c2], _ =>
  simp [cBool, cI64, cStr] at e0 e1 e2
  subst e0 e1 e2
  have b1 : -9223372036854775808 ≤ z ∧ z ≤ 9223372036854775807 := by simpa [Lit.wf, IntKind.min, IntKind.max, IntKind.signed, IntKind.bits] using w1
  exact ⟨⟨b, z, s⟩, rfl, b1.1, b1.2, hs⟩
theorem open_vas {H : Type} {enc : TypeId × Value → H} {W : World} {held : Bool} {fuel : Nat} {a : Option Addr} {len cap : Nat} {x : DataW H × List MemPlace}
  (h : DataW.trod enc Tryz.prog W 0 (fun _ => true) held fuel 25 [.slice a len cap] = some x) :
  ∃ L : List Va, len = L.length ∧ len ≤ cap ∧ cap ≤ 9223372036854775807 ∧ Vas W W.heap.size a L ∧ ∀ d ∈ L, d.Fine := by
 rcases open_slice Tryz.underlying25 h with ⟨hcs, _⟩ | ⟨ad, len', cap', m, n, D, Pl, hcs, _, hl, hm, hmm, _, hi⟩
 ·
  simp at hcs
  obtain ⟨rfl, rfl, rfl⟩ := hcs
  exact ⟨[], rfl, Nat.le_refl _, by omega, RowAt.nil, fun d hd => by simp at hd⟩
 ·
  simp at hcs
  obtain ⟨rfl, rfl, rfl⟩ := hcs
  simp only [if_true] at hmm
  subst hmm
  rw [cVal] at hi
  have hex : ∀ i, i < len → ∃ c : Va, ad.spot = none ∧ ad.block < W.heap.size ∧ At W ad.block (ad.off + i * 3) c.cells3 ∧ c.Fine := fun i hil => by
   obtain ⟨cs', hc, ht⟩ := hi i (by omega)
   obtain ⟨c, rfl, hrw⟩ := open_va3 ht
   obtain ⟨_, _, hcell⟩ := World.cells?_some hc
   have h0 := hcell 0 (by omega)
   have hlt := World.block_lt_of_cell? W _ h0
   rw [block_add, block_add] at hlt
   obtain ⟨cs0, hc0, ht0⟩ := hi 0 (by omega)
   obtain ⟨c0, rfl, _⟩ := open_va3 ht0
   obtain ⟨_, _, hcell0⟩ := World.cells?_some hc0
   have h00 := hcell0 0 (by omega)
   rw [Nat.zero_mul, add_zero'] at h00
   obtain ⟨b, o, spot⟩ := ad
   have hspot : spot = none := by simpa [Addr.add] using World.cell?_spot h00
   subst hspot
   refine ⟨c, rfl, hlt, fun j v hv => ?_, hrw⟩
   have hj : j < 3 := by
    have := (List.getElem?_eq_some_iff.1 hv).1
    exact this
   have := hcell j hj
   rw [Addr.add_lit, Addr.add_lit, hv] at this
   exact this
  obtain ⟨f, hf⟩ := pick_lt hex ⟨true, 0, ⟨#[]⟩⟩
  refine ⟨(List.range len).map f, by simp, hl, hm, fun hpos => ?_, fun d hd => ?_⟩
  ·
   obtain ⟨b, o, spot⟩ := ad
   have h0 := hf 0 (by simpa using hpos)
   simp only at h0
   obtain ⟨rfl, hlt, _, _⟩ := h0
   refine ⟨b, o, rfl, hlt, fun i vs hvs => ?_⟩
   rw [List.getElem?_map, List.getElem?_map] at hvs
   have hil : i < len := by
    by_cases h : i < len
    ·
     exact h
    ·
     rw [List.getElem?_eq_none (by simpa using h)] at hvs
     cases hvs
   rw [List.getElem?_range hil] at hvs
   obtain rfl : (f i).cells3 = vs := by simpa using hvs
   exact (hf i hil).2.2.1
  ·
   obtain ⟨i, hi', rfl⟩ := List.mem_map.1 hd
   exact (hf i (by simpa using hi')).2.2.2
end Go.Proofs.YtfeemipnalgjnaaGreat
