/-
  The reference's Row, by a contract: a row that fits.
-/
import Derived.Test.YtpgbpfdedpppeaaPln3
import Derived.Test.YtpgbpfdedpppeaaFitsP
import Derived.Test.YtpgbpfdedpppeaaFitR
import Derived.Test.YtpgbpfdedpppeaaRMde
import Derived.Test.YtpgbpfdedpppeaaHand
import Derived.Deep.CutRange
import Derived.Deep.DeepCutAuto
namespace Go.Proofs.Ytpgbpfdedpppeaa
open Go.RowKit

/-- what a row that fits is like -/
def FitL (l : List Fd) (r : List Ce) : Prop := (∀ c ∈ r, ∃ f ∈ l, f.id = c.id ∧ c.v.b = false ∧ okV c.v f.ty = true) ∧ r.Pairwise (fun c d => c.id < d.id)
theorem fit_iff {l : List Fd} (hs : Srt l) : ∀ {r : List Ce} {a : Int}, fitGo l a r = true ↔ FitL l r ∧ ∀ c ∈ r, a < c.id
  | [], a => by simp [fitGo, FitL]
  | c :: r, a => by
    unfold fitGo
    by_cases h : hasF l c.id = true ∧ a < (fieldD l c.id).id ∧ c.v.b = false ∧ okV c.v (fieldD l c.id).ty = true
    · rw [if_pos h, fit_iff hs]
      obtain ⟨h1, h2⟩ := fieldD_of h.1
      rw [h2]
      constructor
      · rintro ⟨⟨a1, a2⟩, a3⟩
        refine ⟨⟨fun d hd => ?_, List.pairwise_cons.2 ⟨a3, a2⟩⟩, fun d hd => ?_⟩
        · rcases List.mem_cons.1 hd with rfl | hd
          · exact ⟨_, h1, h2, h.2.2.1, h.2.2.2⟩
          · exact a1 d hd
        · rcases List.mem_cons.1 hd with rfl | hd
          · rw [← h2]; exact h.2.1
          · have := a3 d hd
            have h3 : a < c.id := by rw [← h2]; exact h.2.1
            omega
      · rintro ⟨⟨a1, a2⟩, a3⟩
        rw [List.pairwise_cons] at a2
        exact ⟨⟨fun d hd => a1 d (by simp [hd]), a2.2⟩, a2.1⟩
    · rw [if_neg h]
      constructor
      · intro h; cases h
      · rintro ⟨⟨a1, a2⟩, a3⟩
        exfalso
        obtain ⟨f, f1, f2, f3, f4⟩ := a1 c (by simp)
        apply h
        have hh : hasF l c.id = true := has_iff.2 ⟨f, f1, f2⟩
        have he : fieldD l c.id = f := by rw [← f2]; exact fieldD_eq hs f1
        refine ⟨hh, ?_, f3, by rw [he]; exact f4⟩
        rw [he, f2]
        exact a3 c (by simp)
theorem fitl_go {s : Sc} (ho : Ok s) {r : List Ce} (h : FitL s.fs r) : fitGo s.fs 0 r = true :=
  (fit_iff ho.srt).2 ⟨h, fun c hc => by
    obtain ⟨f, f1, f2, _⟩ := h.1 c hc
    have := ho.pos f f1
    omega⟩
theorem fitl_nil (l : List Fd) : FitL l [] := ⟨fun _ h => by simp at h, List.Pairwise.nil⟩
theorem fitl_snoc {l : List Fd} {r : List Ce} (h : FitL l r) {f : Fd} (hf : f ∈ l) {v : Va} (hb : v.b = false) (hk : okV v f.ty = true) (hlt : ∀ c ∈ r, c.id < f.id) : FitL l (r ++ [⟨f.id, v⟩]) := by
  refine ⟨fun c hc => ?_, ?_⟩
  · rcases List.mem_append.1 hc with hc | hc
    · exact h.1 c hc
    · rw [List.mem_singleton] at hc
      subst hc
      exact ⟨f, hf, rfl, hb, hk⟩
  · rw [List.pairwise_append]
    refine ⟨h.2, List.pairwise_singleton _ _, fun c hc d hd => ?_⟩
    rw [List.mem_singleton] at hd
    subst hd
    exact hlt c hc
theorem okV_wide {v : Va} (hb : v.b = false) (h : okV v 2 = true) : okV v 3 = true := by
  unfold okV at h ⊢
  rw [hb] at h ⊢
  simp at h ⊢
  exact h.2
/-- fields stay, their types wider at most -/
def Wide (l l' : List Fd) : Prop := ∀ f ∈ l, ∃ g ∈ l', g.id = f.id ∧ (g.ty = f.ty ∨ (f.ty = 2 ∧ g.ty = 3))
theorem fitl_wide {l l' : List Fd} (h : Wide l l') {r : List Ce} (hf : FitL l r) : FitL l' r :=
  ⟨fun c hc => by
    obtain ⟨f, f1, f2, f3, f4⟩ := hf.1 c hc
    obtain ⟨g, g1, g2, g3⟩ := h f f1
    refine ⟨g, g1, by omega, f3, ?_⟩
    rcases g3 with g3 | ⟨g3, g4⟩
    · rw [g3]; exact f4
    · rw [g3] at f4
      rw [g4]
      exact okV_wide f3 f4, hf.2⟩
theorem wide_put {l : List Fd} (hs : Srt l) {f g : Fd} (hf : f ∈ l) (he : g.id = f.id) (ht : g.ty = f.ty ∨ (f.ty = 2 ∧ g.ty = 3)) : Wide l (putF l g) := fun k hk => by
  by_cases e : k.id = g.id
  · refine ⟨g, mem_put.2 (.inr ⟨rfl, k, hk, e⟩), e.symm, ?_⟩
    rw [srt_uniq hs hk hf (by omega)]
    exact ht
  · exact ⟨k, mem_put.2 (.inl ⟨hk, e⟩), rfl, .inl rfl⟩
theorem apply_edit {s t : Sc} {c : Ch} (h : applyP s c = (t, 0)) : t = (editE s c).1 ∧ (editE s c).2 = 0 := by
  unfold applyP at h
  split at h
  · unfold lastE at h
    split at h
    · next h0 =>
      split at h
      · split at h
        · split at h
          · exact ⟨(congrArg Prod.fst h).symm, h0⟩
          · cases congrArg Prod.snd h
        · cases congrArg Prod.snd h
      · cases congrArg Prod.snd h
    · next h0 => exact absurd (congrArg Prod.snd h) h0
  · cases congrArg Prod.snd h
theorem wide_apply {s t : Sc} {c : Ch} (ho : Ok s) (h : applyP s c = (t, 0)) (h1 : 1 ≤ c.kind ∧ c.kind ≤ 7) (h2 : c.kind ≠ 2) (h6 : c.kind ≠ 6) (h7 : c.kind ≠ 7) : Wide s.fs t.fs := by
  obtain ⟨rfl, h0⟩ := apply_edit h
  have hk : c.kind = 1 ∨ c.kind = 3 ∨ c.kind = 4 ∨ c.kind = 5 := by omega
  unfold editE at h0 ⊢
  rcases hk with hk | hk | hk | hk
  · rw [if_pos hk] at h0 ⊢
    unfold addE at h0 ⊢
    split
    · exact fun f hf => ⟨f, by show f ∈ _ ++ _; exact List.mem_append.2 (.inl hf), rfl, .inl rfl⟩
    · next hn => rw [if_neg hn] at h0; cases h0
  · rw [if_neg (by omega), if_neg (by omega), if_pos hk] at h0 ⊢
    unfold renE at h0 ⊢
    split
    · next hh => exact wide_put ho.srt (fieldD_of hh).1 rfl (.inl rfl)
    · next hn => rw [if_neg hn] at h0; cases h0
  · rw [if_neg (by omega), if_neg (by omega), if_neg (by omega), if_pos hk] at h0 ⊢
    unfold widE at h0 ⊢
    split
    · next hh =>
      rw [if_pos hh] at h0
      split
      · next ht => exact wide_put ho.srt (fieldD_of hh).1 rfl (.inr ⟨ht, rfl⟩)
      · next hn => rw [if_neg hn] at h0; cases h0
    · next hn => rw [if_neg hn] at h0; cases h0
  · rw [if_neg (by omega), if_neg (by omega), if_neg (by omega), if_neg (by omega), if_pos hk] at h0 ⊢
    unfold movE at h0 ⊢
    split
    · next hh => exact wide_put ho.srt (fieldD_of hh).1 rfl (.inl rfl)
    · next hn => rw [if_neg hn] at h0; cases h0

def Va.cells3 (v : Va) : List Value := [.bool v.b, .int .i64 v.n, .string v.s]
def Vas (w : World) (B : Nat) (A : Option Addr) (l : List Va) : Prop := RowAt 3 w B A (l.map Va.cells3)
theorem Vas.one {w : World} {B : Nat} {A : Option Addr} {l : List Va} {v : Va} (h : Vas w B A l) {i : Nat} (hi : l[i]? = some v) : ∃ b off, A = some ⟨b, off, none⟩ ∧ b < B ∧ w.cell? ⟨b, off + i * 3, none⟩ = some (.bool v.b) ∧ w.cell? ⟨b, off + i * 3 + 1, none⟩ = some (.int .i64 v.n) ∧ w.cell? ⟨b, off + i * 3 + 2, none⟩ = some (.string v.s) := by
  obtain ⟨b, off, e, hlt, hc⟩ := RowAt.one h (vs := v.cells3) (i := i) (by rw [List.getElem?_map, hi]; rfl)
  exact ⟨b, off, e, hlt, hc 0 _ rfl, hc 1 _ rfl, hc 2 _ rfl⟩
theorem sizeV : (Try.prog.info? 54).map (·.size) = some 3 := by kernel_rfl
theorem sizeRo : (Try.prog.info? 59).map (·.size) = some 1 := by kernel_rfl
theorem infoCe : (Try.prog.info? 56).map (fun i => (i.zero, i.size, i.bytes)) = some (some (.agg #[.int .i64 0, .bool false, .int .i64 0, .string ⟨#[]⟩]), 4, 40) := by kernel_rfl
theorem one_v (b : Bool) (n : Int) (s : ByteArray) : ∀ z ∈ [Value.bool b, .int .i64 n, .string s], z.oneCell' = true := by
  intro z hz
  simp only [List.mem_cons, List.not_mem_nil, or_false] at hz
  rcases hz with rfl | rfl | rfl <;> rfl
theorem one_ce (d : Ce) : ∀ u ∈ d.cells, u.oneCell' = true := by
  intro z hz
  simp only [Ce.cells, List.mem_cons, List.not_mem_nil, or_false] at hz
  rcases hz with rfl | rfl | rfl | rfl <;> rfl
/-- append(v, c): v the call's own row of cells. -/
theorem push_ce {w wr : World} {ops : Array Oper} {rest : List Oper} {o : Oper} {a : Act} {Q : Exit → Act → World → Prop} (hgd : o.guard = none) (d x : Operand)
    (ho : o.op = .call { callee := .builtin .append, args := #[d, x], argTypes := #[57, 57] }) (base : Nat) (v : Value) (acc : List Ce) (f : Ce) (N : Nat) (hs : a.eval d = v) (hx : a.eval x = .slice (some ⟨N, 0, none⟩) 1 1)
    (hN : N = wr.heap.size) (hw : w = wr.alloc (.cells #[.int .i64 f.id, .bool f.v.b, .int .i64 f.v.n, .string f.v.s] 56)) (hr : Own 56 4 wr base v (acc.map Ce.cells)) (hroom : acc.length ≤ 1000000) (hbase : base ≤ wr.heap.size)
    (hK : ∀ A' c' w', Own 56 4 w' base (.slice A' (acc.length + 1) c') ((acc ++ [f]).map Ce.cells) → wr.grownBy w' v.ownBlock → Below base wr w' → wpList Try.prog ops Q rest (a.put o.dst (.slice A' (acc.length + 1) c')) w') : wpList Try.prog ops Q (o :: rest) a w := by
  refine wpList_push hgd d x ho Try.underlying57 infoCe rfl (by decide) base v (acc.map Ce.cells) f.cells N hs hx hN hw hr rfl (one_ce f) (by simp; omega) (by decide) hbase ?_
  intro A' c' w' h1 h2 h3
  have e : (acc.map Ce.cells ++ [f.cells]).length = acc.length + 1 := by simp
  rw [e] at h1 ⊢
  exact hK A' c' w' (by simpa using h1) h2 h3
set_option maxHeartbeats 4000000 in
set_option maxRecDepth 20000 in
theorem RRow_any (A : Option Addr) (n c : Nat) (x : Int) (l : List Fd) (V : Option Addr) (m cv : Nat) (raw : List Va) (w : World) (hn : n = l.length) (hs : Fds w w.heap.size A l) (ho : Ok ⟨l, x⟩) (hm : m = raw.length) (hv : Vas w w.heap.size V raw) (hml : m ≤ 9223372036854775807) (hvf : ∀ u ∈ raw, u.Fine) :
    Calls Try.prog 26 #[.agg #[.slice A n c, .int .i64 x], .slice V m cv] w fun e w' => (∃ (A' : Option Addr) (c' : Nat) (r : List Ce), e = .returned (.agg #[.slice A' r.length c']) ∧ Own 56 4 w' w.heap.size (.slice A' r.length c') (r.map Ce.cells) ∧ FitL l r ∧ (∀ c ∈ r, c.v.s.size ≤ 200) ∧ r.length ≤ 64) ∧ Below w.heap.size w w' := by
  have HN := Lib.hid hn
  have HS := Lib.hid hs
  have HO := Lib.hid ho
  have HM := Lib.hid hm
  have HV := Lib.hid hv
  have HVF := Lib.hid hvf
  have hl64 : n ≤ 64 := by rw [hn]; exact ho.big.1
  clear hn hs ho hm hv hvf
  have S0 := Lib.hid (((CB.new w 30 [.slice A n c, .int .i64 x]).alloc (.cells #[.slice none 0 0] 59)).alloc (.cells #[.slice none 0 0] 59))
  have T0 := Lib.hid ((CB.new1 w (.cells #[.slice A n c, .int .i64 x] 30) 59 [.slice none 0 0]).alloc (.cells #[.slice none 0 0] 59))
  have U0 := Lib.hid (CB.new2 w (.cells #[.slice A n c, .int .i64 x] 30) (.cells #[.slice none 0 0] 59) 59 [.slice none 0 0])
  have B0 := Lib.hid (al3 w (.cells #[.slice A n c, .int .i64 x] 30) (.cells #[.slice none 0 0] 59) (.cells #[.slice none 0 0] 59))
  go_enter Try.func26, Try.ntmps26
  go_wp2
  go_loopw [6, 7, 8] (fun i _ _ wr => ∃ (k c' : Nat) (A' : Option Addr) (r : List Ce), k ≤ n ∧ r.length ≤ k ∧ i = .int .i64 k ∧ Hid (CB wr w.heap.size 30 [.slice A n c, .int .i64 x]) ∧ Hid (CB wr (w.heap.size + 1) 59 [.slice none 0 0]) ∧ Hid (CB wr (w.heap.size + 1 + 1) 59 [.slice A' r.length c']) ∧ Hid (Own 56 4 wr w.heap.size (.slice A' r.length c') (r.map Ce.cells)) ∧ Hid (FitL l r) ∧ Hid (∀ c ∈ r, c.v.s.size ≤ 200) ∧ Hid (∀ c ∈ r, ∀ (j : Nat) (f : Fd), k ≤ j → l[j]? = some f → c.id < f.id) ∧ Hid (Below w.heap.size w wr)) (fun i _ _ _ => n - (intOf i).toNat)
  case atStart => exact ⟨0, 0, none, [], by omega, Nat.le_refl _, rfl, S0, T0, U0, Own.nil _ _ _ _, fitl_nil l, fun _ h => by simp at h, fun _ h => by simp at h, B0⟩
  case round =>
    obtain ⟨k, c', A', r, hk, hrk, rfl, hb, ht, hu, hown, hfit, hsz, hid, hbel⟩ := hrel
    have s0 := hb.out.cell 0 rfl
    have s1 := hb.out.cell 1 rfl
    have u0 := hu.out.cell 0 rfl
    have zb := hb.out.lt
    have zu := hu.out.lt
    have zt := ht.out.lt
    by_cases hlt : k < n
    · have i1 : (k : Int) < (n : Int) := by omega
      by_cases hlm : k < m
      · have i2 : (k : Int) < (m : Int) := by omega
        obtain ⟨f, hf⟩ := getD_of (l := l) (k := k) (by rw [← HN.out]; exact hlt)
        obtain ⟨u, hu'⟩ : ∃ u, raw[k]? = some u := ⟨_, List.getElem?_eq_getElem (by rw [← HM.out]; exact hlm)⟩
        have HF := Lib.hid hf
        have HFM := Lib.hid (List.mem_of_getElem? hf)
        have HUF := Lib.hid (HVF.out u (List.mem_of_getElem? hu'))
        obtain ⟨b, off, rfl, hbl, c0, c1, c2, c3⟩ := (HS.out.below hbel.out).one hf
        obtain ⟨b2, off2, rfl, hbl2, v0, v1, v2⟩ := (show Vas wr w.heap.size V raw from RowAt.below HV.out hbel.out).one hu'
        have hidn : Hid (∀ c ∈ r, ∀ (j : Nat) (f : Fd), k + 1 ≤ j → l[j]? = some f → c.id < f.id) := fun c hc j f hj => hid.out c hc j f (by omega)
        have zb2 : b2 < wr.heap.size := Nat.lt_of_lt_of_le hbl2 hbel.out.size
        clear hf hu'
        by_cases hy : f.ty = 6
        · have y1 : (f.ty == 6) = true := by simpa using hy
          clear hy
          go_wp2
          go_roundw
          case rel => exact ⟨k + 1, c', A', r, by omega, by omega, by go_num, Lib.hid (hb.out.alloc _), Lib.hid (ht.out.alloc _), Lib.hid (hu.out.alloc _), Lib.hid (hown.out.alloc _), hfit, hsz, hidn, Lib.hid (hbel.out.alloc hbel.out.size _)⟩
          case measure => simp [intOf]; omega
        have y1 : (f.ty == 6) = false := by simpa using hy
        have v0' := v0
        obtain ⟨ub, hub⟩ : ∃ q, u.b = q := ⟨_, rfl⟩
        rw [hub] at v0'
        cases ub with
        | true =>
          rw [hub] at v0
          clear hub v0' hy
          go_wp2
          go_roundw
          case rel => exact ⟨k + 1, c', A', r, by omega, by omega, by go_num, Lib.hid (hb.out.alloc _), Lib.hid (ht.out.alloc _), Lib.hid (hu.out.alloc _), Lib.hid (hown.out.alloc _), hfit, hsz, hidn, Lib.hid (hbel.out.alloc hbel.out.size _)⟩
          case measure => simp [intOf]; omega
        | false =>
          have HUB := Lib.hid hub
          rw [hub] at v0
          clear hub v0' hy
          go_upto_region 7 with fail
          have G1 := Lib.hid (CB.new wr 41 [.int .i64 f.id, .string f.nm, .int .i64 f.ty, .int .i64 f.pa])
          have hb1 := Lib.hid (hb.out.alloc (.cells #[.int .i64 f.id, .string f.nm, .int .i64 f.ty, .int .i64 f.pa] 41))
          have ht1 := Lib.hid (ht.out.alloc (.cells #[.int .i64 f.id, .string f.nm, .int .i64 f.ty, .int .i64 f.pa] 41))
          have hu1 := Lib.hid (hu.out.alloc (.cells #[.int .i64 f.id, .string f.nm, .int .i64 f.ty, .int .i64 f.pa] 41))
          have ho1 := Lib.hid (hown.out.alloc (.cells #[.int .i64 f.id, .string f.nm, .int .i64 f.ty, .int .i64 f.pa] 41))
          have hB1 := Lib.hid (hbel.out.alloc hbel.out.size (.cells #[.int .i64 f.id, .string f.nm, .int .i64 f.ty, .int .i64 f.pa] 41))
          have zz := Lib.hid (show b2 < (wr.alloc (.cells #[.int .i64 f.id, .string f.nm, .int .i64 f.ty, .int .i64 f.pa] 41)).heap.size from Nat.lt_of_lt_of_le hbl2 (Nat.le_trans hbel.out.size (al1 _ _).size))
          have e0 := Lib.hid (((al1 wr (.cells #[.int .i64 f.id, .string f.nm, .int .i64 f.ty, .int .i64 f.pa] 41)).cell (p := ⟨b2, off2 + k * 3, none⟩) (Nat.lt_of_lt_of_le hbl2 hbel.out.size)).trans v0)
          have e1 := Lib.hid (((al1 wr (.cells #[.int .i64 f.id, .string f.nm, .int .i64 f.ty, .int .i64 f.pa] 41)).cell (p := ⟨b2, off2 + k * 3 + 1, none⟩) (Nat.lt_of_lt_of_le hbl2 hbel.out.size)).trans v1)
          have e2 := Lib.hid (((al1 wr (.cells #[.int .i64 f.id, .string f.nm, .int .i64 f.ty, .int .i64 f.pa] 41)).cell (p := ⟨b2, off2 + k * 3 + 2, none⟩) (Nat.lt_of_lt_of_le hbl2 hbel.out.size)).trans v2)
          clear hb ht hu hown hbel s0 s1 u0 c0 c1 c2 c3 v0 v1 v2 hbl hbl2 zb zu zt zb2
          revert G1 hb1 ht1 hu1 ho1 hB1 zz e0 e1 e2
          generalize wr.alloc (.cells #[.int .i64 f.id, .string f.nm, .int .i64 f.ty, .int .i64 f.pa] 41) = W1
          intro G1 hb1 ht1 hu1 ho1 hB1 zz e0 e1 e2
          generalize wr.heap.size = gz at *
          go_cut [8] from 10 to 56 (fun p wx => ∃ (g : Nat) (vb : Bool) (vn : Int) (vs : ByteArray), p = .pointer (some ⟨g, 0, none⟩) ∧ W1.heap.size ≤ g ∧ Hid (CB wx g 54 [.bool vb, .int .i64 vn, .string vs]) ∧ Hid (vb = true ∨ okV ⟨vb, vn, vs⟩ f.ty = true) ∧ Hid (Va.Fine ⟨vb, vn, vs⟩) ∧ Hid (vs.size ≤ 200) ∧ Hid (Below W1.heap.size W1 wx))
          case first =>
            have zB := Lib.hid (bd W1)
            have zWW : W1.heap.size = W1.drew.heap.size := rfl
            have HXL : Hid (∀ X, Below W1.drew.heap.size W1.drew X → X.cell? ⟨b2, off2 + k * 3, none⟩ = some (.bool u.b) ∧ X.cell? ⟨b2, off2 + k * 3 + 1, none⟩ = some (.int .i64 u.n) ∧ X.cell? ⟨b2, off2 + k * 3 + 2, none⟩ = some (.string u.s) ∧ X.cell? ⟨gz, 2, none⟩ = some (.int .i64 f.ty)) := fun X hX =>
              have hX' : Below W1.heap.size W1 X := zB.out.trans hX
              ⟨by rw [HUB.out]; exact (hX'.cell (p := ⟨b2, off2 + k * 3, none⟩) zz.out).trans e0.out, (hX'.cell (p := ⟨b2, off2 + k * 3 + 1, none⟩) zz.out).trans e1.out, (hX'.cell (p := ⟨b2, off2 + k * 3 + 2, none⟩) zz.out).trans e2.out, (G1.out.up hX').cell 2 rfl⟩
            refine wp_region_held_drew (S := fun w' => Hid (Below W1.drew.heap.size W1.drew w')) (by kernel_rfl) (Lib.hid (Below.refl _ _)) (fun hHeld => ?_)
            revert hHeld zB zWW HXL
            generalize W1.drew = W2
            intro zB zWW HXL hHeld
            refine hand_take (i := 0) (v := ?_) rfl (by kernel_rfl) (by kernel_rfl) (by kernel_rfl) (fun _ _ _ h => h) (Or.inl ⟨by rfl, ?_⟩) (by assumption) ?_
            rotate_left
            · intro wS hSw
              clear hSw
              go_simp
              try with_reducible rfl
            try simp only [Act.put, List.setIfInBounds_toArray, List.set_cons_zero, List.set_cons_succ]
            refine hand_take (i := 1) (v := ?_) rfl (by kernel_rfl) (by kernel_rfl) (by kernel_rfl) (fun _ _ _ h => h) (Or.inl ⟨by rfl, ?_⟩) (by assumption) ?_
            rotate_left
            · intro wS hSw
              clear hSw
              go_simp
              try with_reducible rfl
            try simp only [Act.put, List.setIfInBounds_toArray, List.set_cons_zero, List.set_cons_succ]
            refine hand_take (i := 2) (v := ?_) rfl (by kernel_rfl) (by kernel_rfl) (by kernel_rfl) (fun _ _ _ h => h) (Or.inl ⟨by rfl, ?_⟩) (by assumption) ?_
            rotate_left
            · intro wS hSw
              clear hSw
              go_simp
              try with_reducible rfl
            try simp only [Act.put, List.setIfInBounds_toArray, List.set_cons_zero, List.set_cons_succ]
            refine hand_take (i := 3) (v := ?_) rfl (by kernel_rfl) (by kernel_rfl) (by kernel_rfl) (fun _ _ _ h => h) (Or.inl ⟨by rfl, ?_⟩) (by assumption) ?_
            rotate_left
            · intro wS hSw
              obtain ⟨y0, y1, y2, y3⟩ := HXL.out _ hSw.out
              clear hSw
              go_simp
              try with_reducible rfl
            try simp only [Act.put, List.setIfInBounds_toArray, List.set_cons_zero, List.set_cons_succ]
            refine hand_take (i := 4) (v := ?_) rfl (by kernel_rfl) (by kernel_rfl) (by kernel_rfl) (fun _ _ _ h => h) (Or.inl ⟨by rfl, ?_⟩) (by assumption) ?_
            rotate_left
            · intro wS hSw
              clear hSw
              go_simp
              try with_reducible rfl
            try simp only [Act.put, List.setIfInBounds_toArray, List.set_cons_zero, List.set_cons_succ]
            refine hand_take (i := 5) (v := ?_) rfl (by kernel_rfl) (by kernel_rfl) (by kernel_rfl) (fun _ _ _ h => h) (Or.inl ⟨by rfl, ?_⟩) (by assumption) ?_
            rotate_left
            · intro wS hSw
              obtain ⟨y0, y1, y2, y3⟩ := HXL.out _ hSw.out
              clear hSw
              go_simp
              try with_reducible rfl
            try simp only [Act.put, List.setIfInBounds_toArray, List.set_cons_zero, List.set_cons_succ]
            refine wpAnyH_ready (rs := [6, 7]) (by kernel_rfl) (by simp) ?_
            refine (hand_cons rfl (fun KK hK => ?_) (hand_cons rfl (fun KK hK => ?_) AllReadyH.nil))
            · go_simp
              go_at_call 49
              refine (VMade_any u.b u.n u.s f.ty _ HUF.out HUF.out.len).mono ?_
              rintro e w8 ⟨⟨vb, vn, vs, rfl, h1, h2, h3⟩, hb8⟩
              have HV1 := Lib.hid h1
              have HV2 := Lib.hid h2
              have HV3 := Lib.hid h3
              have HB8 := Lib.hid (hHeld.out.trans (hb8.mono hHeld.out.size))
              have zB8 := HB8.out.size
              clear h1 h2 h3
              clear hb8
              go_wp2_with fail
              refine hK.out _ _ (HB8) (fun hHeld => ?_)
              clear hK KK
              try simp only [Act.put, List.setIfInBounds_toArray, List.set_cons_zero, List.set_cons_succ]
              refine wpAnyH_ready (rs := [7]) (by kernel_rfl) (by simp) ?_
              refine hand_cons rfl (fun KK hK => ?_) AllReadyH.nil
              go_simp
              have GZ := Lib.hid (CB.new w8 54 [.bool false, .int .i64 0, .string ⟨#[]⟩])
              have HBA := Lib.hid (al_up (o := .cells #[.bool false, .int .i64 0, .string ⟨#[]⟩] 54) hHeld.out)
              refine hK.out _ _ (HBA) (fun hHeld => ?_)
              clear hK KK
              try simp only [Act.put, List.setIfInBounds_toArray, List.set_cons_zero, List.set_cons_succ]
              refine wpAnyH_ready (rs := [8]) (by kernel_rfl) (by simp) ?_
              refine hand_cons rfl (fun KK hK => ?_) AllReadyH.nil
              refine step_store_cb rfl 54 (.tmp 8) (.tmp 44) rfl w8.heap.size [.bool vb, .int .i64 vn, .string vs] rfl rfl 54 [.bool false, .int .i64 0, .string ⟨#[]⟩] 3 GZ.out sizeV rfl rfl (one_v _ _ _) ?_
              intro wz hcz hgz hzz
              have HBZ := Lib.hid (below_grown hHeld.out hgz hHeld.out.size (by omega))
              refine hK.out _ _ (HBZ) (fun hHeld => ?_)
              clear hK KK
              try simp only [Act.put]
              refine wpAnyH_done (by kernel_rfl) ?_ _
              go_wp2_with fail
              go_meet
              exact ⟨_, vb, vn, vs, rfl, by omega, Lib.hid hcz, HV1, HV2, HV3, Lib.hid (zB.out.trans (HBZ.out.mono zB.out.size))⟩
            · go_simp
              have GZ := Lib.hid (CB.new W2 54 [.bool false, .int .i64 0, .string ⟨#[]⟩])
              have HBA := Lib.hid (al_up (o := .cells #[.bool false, .int .i64 0, .string ⟨#[]⟩] 54) hHeld.out)
              refine hK.out _ _ (HBA) (fun hHeld => ?_)
              clear hK KK
              try simp only [Act.put, List.setIfInBounds_toArray, List.set_cons_zero, List.set_cons_succ]
              refine wpAnyH_ready (rs := [6]) (by kernel_rfl) (by simp) ?_
              refine hand_cons rfl (fun KK hK => ?_) AllReadyH.nil
              go_simp
              go_at_call 49
              refine (VMade_any u.b u.n u.s f.ty _ HUF.out HUF.out.len).mono ?_
              rintro e w8 ⟨⟨vb, vn, vs, rfl, h1, h2, h3⟩, hb8⟩
              have HV1 := Lib.hid h1
              have HV2 := Lib.hid h2
              have HV3 := Lib.hid h3
              have HB8 := Lib.hid (hHeld.out.trans (hb8.mono hHeld.out.size))
              have zB8 := HB8.out.size
              clear h1 h2 h3
              have GZ8 := Lib.hid (GZ.out.up hb8)
              clear hb8
              go_wp2_with fail
              refine hK.out _ _ (HB8) (fun hHeld => ?_)
              clear hK KK
              try simp only [Act.put, List.setIfInBounds_toArray, List.set_cons_zero, List.set_cons_succ]
              refine wpAnyH_ready (rs := [8]) (by kernel_rfl) (by simp) ?_
              refine hand_cons rfl (fun KK hK => ?_) AllReadyH.nil
              refine step_store_cb rfl 54 (.tmp 8) (.tmp 44) rfl W2.heap.size [.bool vb, .int .i64 vn, .string vs] rfl rfl 54 [.bool false, .int .i64 0, .string ⟨#[]⟩] 3 GZ8.out sizeV rfl rfl (one_v _ _ _) ?_
              intro wz hcz hgz hzz
              have HBZ := Lib.hid (below_grown hHeld.out hgz hHeld.out.size (by omega))
              refine hK.out _ _ (HBZ) (fun hHeld => ?_)
              clear hK KK
              try simp only [Act.put]
              refine wpAnyH_done (by kernel_rfl) ?_ _
              go_wp2_with fail
              go_meet
              exact ⟨_, vb, vn, vs, rfl, by omega, Lib.hid hcz, HV1, HV2, HV3, Lib.hid (zB.out.trans (HBZ.out.mono zB.out.size))⟩
          case rest =>
            obtain ⟨g, vb, vn, vs, rfl, hge, GV, HV1, HV2, HV3, hbz⟩ := hcut
            generalize wc = w9 at *
            have G9 := Lib.hid (G1.out.up hbz.out)
            have hb9 := Lib.hid (hb1.out.up hbz.out)
            have ht9 := Lib.hid (ht1.out.up hbz.out)
            have hu9 := Lib.hid (hu1.out.up hbz.out)
            have ho9 := Lib.hid (ho1.out.up hbz.out)
            have B9 := Lib.hid (below_step hB1.out hB1.out.size hbz.out)
            have g0 := G9.out.cell 0 rfl
            have q0 := GV.out.cell 0 rfl
            have q1 := GV.out.cell 1 rfl
            have q2 := GV.out.cell 2 rfl
            have u0 := hu9.out.cell 0 rfl
            have zu := hu9.out.lt
            clear hbz
            cases vb with
            | true =>
              go_wp2
              go_roundw
              case rel => exact ⟨k + 1, c', A', r, by omega, by omega, by go_num, hb9, ht9, hu9, ho9, hfit, hsz, hidn, B9⟩
              case measure => simp [intOf]; omega
            | false =>
              have hok : okV ⟨false, vn, vs⟩ f.ty = true := by
                rcases HV1.out with h | h
                · cases h
                · exact h
              have HFN := Lib.hid (fitl_snoc hfit.out HFM.out (v := ⟨false, vn, vs⟩) rfl hok (fun c hc => hid.out c hc k f (Nat.le_refl _) HF.out))
              have HSN : Hid (∀ c ∈ r ++ [(⟨f.id, ⟨false, vn, vs⟩⟩ : Ce)], c.v.s.size ≤ 200) := fun c hc => by
                rcases List.mem_append.1 hc with hc | hc
                · exact hsz.out c hc
                · rw [List.mem_singleton] at hc
                  subst hc
                  exact HV3.out
              have HIN : Hid (∀ c ∈ r ++ [(⟨f.id, ⟨false, vn, vs⟩⟩ : Ce)], ∀ (j : Nat) (h : Fd), k + 1 ≤ j → l[j]? = some h → c.id < h.id) := fun c hc j h hj hl => by
                rcases List.mem_append.1 hc with hc | hc
                · exact hidn.out c hc j h hj hl
                · rw [List.mem_singleton] at hc
                  subst hc
                  obtain ⟨hr1, er⟩ := List.getElem?_eq_some_iff.1 HF.out
                  obtain ⟨hq1, eq⟩ := List.getElem?_eq_some_iff.1 hl
                  have := List.pairwise_iff_getElem.1 HO.out.srt k j hr1 hq1 (by omega)
                  simp only at this
                  rw [er, eq] at this
                  exact this
              clear hok
              go_wp2_with (first | (at_builtin; refine push_ce (wr := w9) rfl (.tmp 49) (.tmp 54) rfl w.heap.size (.slice A' r.length c') r ⟨f.id, ⟨false, vn, vs⟩⟩ w9.heap.size rfl rfl rfl rfl ho9.out (by omega) B9.out.size ?_; intro A10 c10 w10 ho10 hg10 hb10; have HO10 := Lib.hid ho10; have hb11 := Lib.hid (hb9.out.grown hg10 (Own.ne ho9.out hb9.out (by decide))); have ht11 := Lib.hid (ht9.out.grown hg10 (Own.ne ho9.out ht9.out (by decide))); have hu11 := Lib.hid (hu9.out.grown hg10 (Own.ne ho9.out hu9.out (by decide))); have B11 := Lib.hid (B9.out.trans hb10); have x0 := hu11.out.cell 0 rfl; have x1 := hu11.out.frozen 0; clear ho10 hg10 hb10))
              go_roundw
              case rel => exact ⟨k + 1, c10, A10, r ++ [⟨f.id, ⟨false, vn, vs⟩⟩], by omega, by rw [List.length_append]; simp; omega, by go_num, Lib.hid (hb11.out.set_other 0 _ (by omega)), Lib.hid (ht11.out.set_other 0 _ (by omega)), by rw [List.length_append]; exact Lib.hid (hu11.out.set_ 0 _), by rw [List.length_append]; exact Lib.hid (HO10.out.set_ 0 _ (Own.ne HO10.out hu11.out (by decide))), HFN, HSN, HIN, Lib.hid (B11.out.setCell (p := ⟨w.heap.size + 1 + 1, 0, none⟩) (by show w.heap.size ≤ w.heap.size + 1 + 1; omega) _)⟩
              case measure => simp [intOf]; omega
      · have i2 : ¬ (k : Int) < (m : Int) := by omega
        go_wp2_with (first | ((with_reducible show wpList _ _ _ (Oper.mk none (.store _ _ _) _ _ _ _ :: _) _ _); refine wpList_store_cb rfl 59 (.tmp 4) (.tmp 57) rfl (w.heap.size + 1) [.slice A' r.length c'] rfl rfl 59 [.slice none 0 0] 1 ht.out sizeRo rfl rfl (fun u hu => by simp at hu; subst hu; rfl) ?_; intro wz hcz hgz hzz))
        refine bodyPost_ret (res_cell1 Try.results26 rfl hcz Try.underlying59 sizeRo rfl) rfl ⟨⟨A', c', r, rfl, hown.out.kept hgz (.inr (Own.ne hown.out ht.out (by decide)).symm), hfit.out, hsz.out, by omega⟩, below_grown hbel.out hgz hbel.out.size (by omega)⟩
    · have i1 : ¬ (k : Int) < (n : Int) := by omega
      go_wp2_with (first | ((with_reducible show wpList _ _ _ (Oper.mk none (.store _ _ _) _ _ _ _ :: _) _ _); refine wpList_store_cb rfl 59 (.tmp 4) (.tmp 57) rfl (w.heap.size + 1) [.slice A' r.length c'] rfl rfl 59 [.slice none 0 0] 1 ht.out sizeRo rfl rfl (fun u hu => by simp at hu; subst hu; rfl) ?_; intro wz hcz hgz hzz))
      refine bodyPost_ret (res_cell1 Try.results26 rfl hcz Try.underlying59 sizeRo rfl) rfl ⟨⟨A', c', r, rfl, hown.out.kept hgz (.inr (Own.ne hown.out ht.out (by decide)).symm), hfit.out, hsz.out, by omega⟩, below_grown hbel.out hgz hbel.out.size (by omega)⟩
end Go.Proofs.Ytpgbpfdedpppeaa
