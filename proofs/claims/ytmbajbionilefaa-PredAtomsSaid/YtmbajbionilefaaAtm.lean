/-
  PredAtoms, walked: In, Between and Prefix.
-/
import Derived.Test.YtmbajbionilefaaSanW
import Derived.Test.YtmbajbionilefaaWtM
import Derived.Test.YtmbajbionilefaaHdm
namespace Go.Proofs.Ytmbajbionilefaa
open Go.RowKit
theorem infoPr : (Try.prog.info? 25).map (fun i => (i.zero, i.size, i.bytes)) = some (some (.agg #[.int .i64 0, .int .i64 0, .int .i64 0, .int .i64 0, .slice none 0 0, .string ⟨#[]⟩, .slice none 0 0]), 7, 96) := by kernel_rfl
theorem one_cells (p : Pr) : ∀ z ∈ p.cells, z.oneCell' = true := one_q7
theorem step_push_pr {w : World} {ops : Array Oper} {o : Oper} {a : Act} {K : Act → World → Prop} {Q : Exit → Act → World → Prop} {F : Prop} (hgd : o.guard = none) (d x : Operand)
    (ho : o.op = .call { callee := .builtin .append, args := #[d, x], argTypes := #[23, 23] }) (base : Nat) (v : Value) (acc : List Pr) (f : Pr) (g n : Nat) (hs : a.eval d = v) (hx : a.eval x = .slice (some ⟨g, 0, none⟩) 1 1) (hn : n = acc.length)
    (hr : Own 25 7 w base v (acc.map Pr.cells)) (hg : CB w g 25 f.cells) (hroom : n ≤ 1000000) (hbase : base ≤ w.heap.size)
    (hK : ∀ A' c' w', Own 25 7 w' base (.slice A' (n + 1) c') ((acc ++ [f]).map Pr.cells) → w.grownBy w' v.ownBlock → Below base w w' → K (a.put o.dst (.slice A' (n + 1) c')) w') : if Region.wanted o (yielded ops a.tmps) = true then Oper.wp Try.prog o a w K Q else F := by
  subst hn
  refine step_push hgd d x ho Try.underlying23 infoPr rfl (by decide) base v (acc.map Pr.cells) f.cells g hs hx hr hg rfl (one_cells f) (by rw [List.length_map]; omega) (by decide) hbase ?_
  intro A' c' w' h1 h2 h3
  rw [List.length_map] at h1 ⊢
  exact hK A' c' w' (by simpa using h1) h2 h3
def adr (S : Option Addr) (k : Nat) : Option Addr := match S with | some ⟨b, off, s⟩ => some ⟨b, off + k * 3, s⟩ | none => none
/-- the predicate of one element: In of that element alone -/
def kidP (id : Int) (S : Option Addr) (sc : Nat) (set : List Va) (k : Nat) : Pr := .mk 2 id 0 0 (adr S k) (sc - k) [set.getD k Va.nul] ⟨#[]⟩ none 0 []
def inAll (id : Int) (S : Option Addr) (sc : Nat) (set : List Va) : Pr := .mk 2 id 0 0 S sc set ⟨#[]⟩ none 0 []
theorem kid_at {w : World} {B : Nat} {id : Int} {S : Option Addr} {sc : Nat} {set : List Va} {k : Nat} (hid : I64 id) (hS : Vas w B S set) (hv : ∀ v ∈ set, v.Fine) (hk : k < set.length) (hsc : set.length ≤ sc) (hsm : sc ≤ 9223372036854775807) : PrAt w B (kidP id S sc set k) := by
  obtain ⟨v, hv9⟩ : ∃ v, set[k]? = some v := ⟨_, List.getElem?_eq_getElem hk⟩
  obtain ⟨b, off, rfl, hb, c0, c1, c2⟩ := hS.one hv9
  have e : set.getD k Va.nul = v := by simp [List.getD, hv9]
  refine ⟨fun _ => ⟨b, off + k * 3, rfl, hb, fun i vs hi j u hj => ?_⟩, by show (1 : Nat) ≤ sc - k; omega, by show sc - k ≤ _; omega, by show (0 : Nat) ≤ _; omega, RowAt.nil, Nat.le_refl _, by show (0 : Nat) ≤ _; omega, fun x hx => ?_, ⟨hid.1, hid.2, by show _ ≤ (0 : Int); omega, by show (0 : Int) ≤ _; omega, by show _ ≤ (0 : Int); omega, by show (0 : Int) ≤ _; omega⟩, fun x hx => by cases hx⟩
  · have hi2 : i = 0 ∧ vs = v.cells3 := by
      cases i with
      | zero =>
        have : (set.getD k Va.nul).cells3 = vs := by simpa [kidP, Pr.set] using hi
        rw [e] at this
        exact ⟨rfl, this.symm⟩
      | succ i => simp [kidP, Pr.set] at hi
    obtain ⟨rfl, rfl⟩ := hi2
    match j, hj with
    | 0, hj => injection hj with hj; subst hj; simpa using c0
    | 1, hj => injection hj with hj; subst hj; simpa using c1
    | 2, hj => injection hj with hj; subst hj; simpa using c2
    | j + 3, hj => simp [Va.cells3] at hj
  · have hx' : x = set.getD k Va.nul := by simpa [kidP, Pr.set] using hx
    rw [hx', e]
    exact hv v (List.mem_of_getElem? hv9)
theorem inAll_at {w : World} {B : Nat} {id : Int} {S : Option Addr} {sc : Nat} {set : List Va} (hid : I64 id) (hS : Vas w B S set) (hv : ∀ v ∈ set, v.Fine) (hsc : set.length ≤ sc) (hsm : sc ≤ 9223372036854775807) : PrAt w B (inAll id S sc set) :=
  ⟨hS, hsc, hsm, by show (0 : Nat) ≤ _; omega, RowAt.nil, Nat.le_refl _, by show (0 : Nat) ≤ _; omega, hv, ⟨hid.1, hid.2, by show _ ≤ (0 : Int); omega, by show (0 : Int) ≤ _; omega, by show _ ≤ (0 : Int); omega, by show (0 : Int) ≤ _; omega⟩, fun x hx => by cases hx⟩
theorem jun_any (v : Va) : ∀ l : List Va, junG 1 0 (l.map fun y => tr3 (eqVa v y)) = tr3 (l.any fun y => eqVa v y)
  | [] => rfl
  | y :: l => by
    rw [List.map_cons, List.any_cons]
    cases h : eqVa v y with
    | true => rfl
    | false =>
      rw [junG, if_neg (by decide), if_neg (by decide), jun_any v l]
      rfl
theorem jun_two : ∀ l : List Va, junG 1 2 (l.map fun _ => (2 : Int)) = 2
  | [] => rfl
  | y :: l => by
    rw [List.map_cons, junG, if_neg (by decide), if_pos rfl]
    exact jun_two l
theorem ev_in2 (r : List Ce) (id : Int) (S : Option Addr) (sc : Nat) (set : List Va) : ev r (inAll id S sc set) = if (getL r id).b = true then 2 else tr3 (set.any fun y => eqVa (getL r id) y) := by
  rw [ev_eq]
  rfl
theorem ev_kid (r : List Ce) (id : Int) (S : Option Addr) (sc : Nat) (set : List Va) (k : Nat) : ev r (kidP id S sc set k) = if (getL r id).b = true then 2 else tr3 (eqVa (getL r id) (set.getD k Va.nul)) := by
  rw [ev_eq]
  show (if (getL r id).b = true then (2 : Int) else tr3 (eqVa (getL r id) (set.getD k Va.nul) || false)) = _
  rw [Bool.or_false]
theorem range_get (set : List Va) (f : Va → Int) : ((List.range set.length).map fun k => f (set.getD k Va.nul)) = set.map f := by
  apply List.ext_getElem
  · simp
  · intro i h1 h2
    have hi : i < set.length := by simpa using h2
    simp [List.getD, List.getElem?_eq_getElem hi]
theorem ev_each (r : List Ce) (id : Int) (S : Option Addr) (sc : Nat) (set : List Va) (A : Option Addr) (c : Nat) (hne : 0 < set.length) : ev r (inAll id S sc set) = ev r (mkP 6 A c ((List.range set.length).map (kidP id S sc set))) := by
  rw [ev_jn _ _ _ _ _ (.inr rfl), ev_in2, List.map_map]
  have e : ((List.range set.length).map (ev r ∘ kidP id S sc set)) = set.map fun y => if (getL r id).b = true then (2 : Int) else tr3 (eqVa (getL r id) y) := by
    rw [← range_get set fun y => if (getL r id).b = true then (2 : Int) else tr3 (eqVa (getL r id) y)]
    exact List.map_congr_left fun k _ => ev_kid r id S sc set k
  rw [e]
  show _ = junG 1 0 _
  by_cases hb : (getL r id).b = true
  · simp only [if_pos hb]
    cases set with
    | nil => simp at hne
    | cons y l =>
      rw [List.map_cons, junG, if_neg (by decide), if_pos rfl, jun_two l]
  · simp only [if_neg hb]
    exact (jun_any _ _).symm
namespace atm
/-- the law's boxes -/
structure LB (w : World) (A : Option Addr) (n c : Nat) (op id lo hi : Int) (S : Option Addr) (ns sc : Nat) (tx : ByteArray) (K : Option Addr) (m kc : Nat) (X : World) : Prop where
  bp : CB X w.heap.size 25 [.int .i64 op, .int .i64 id, .int .i64 lo, .int .i64 hi, .slice S ns sc, .string tx, .slice K m kc]
  br : CB X (w.heap.size + 1) 29 [.slice A n c]
  d : Below w.heap.size w X
section
variable {w X X' : World} {A : Option Addr} {n c : Nat} {op id lo hi : Int} {S : Option Addr} {ns sc : Nat} {tx : ByteArray} {K : Option Addr} {m kc : Nat}
theorem LB.up (h : LB w A n c op id lo hi S ns sc tx K m kc X) (hb : Below X.heap.size X X') : LB w A n c op id lo hi S ns sc tx K m kc X' := ⟨h.bp.up hb, h.br.up hb, below_step h.d h.d.size hb⟩
theorem LB.dr (h : LB w A n c op id lo hi S ns sc tx K m kc X) : LB w A n c op id lo hi S ns sc tx K m kc X.drew := ⟨h.bp.dr, h.br.dr, below_drewN h.d 1⟩
theorem LB.grown {row : Option Nat} (h : LB w A n c op id lo hi S ns sc tx K m kc X) (hg : X.grownBy X' row) (h2 : ∀ g, row = some g → w.heap.size + 1 < g) : LB w A n c op id lo hi S ns sc tx K m kc X' :=
  ⟨h.bp.grown hg (fun e => by have := h2 _ e.symm; omega), h.br.grown hg (fun e => by have := h2 _ e.symm; omega), h.d.grown hg h.d.size (fun g e => by have := h2 g e; omega)⟩
end
theorem LB.new (A : Option Addr) (n c : Nat) (op id lo hi : Int) (S : Option Addr) (ns sc : Nat) (tx : ByteArray) (K : Option Addr) (m kc : Nat) (w : World) : LB w A n c op id lo hi S ns sc tx K m kc ((w.alloc (.cells #[.int .i64 op, .int .i64 id, .int .i64 lo, .int .i64 hi, .slice S ns sc, .string tx, .slice K m kc] 25)).alloc (.cells #[.slice A n c] 29)) := ⟨(CB.new w _ _).alloc _, CB.new1 w _ _ _, al2 w _ _⟩
/-- and its three predicates -/
structure LC (w : World) (A : Option Addr) (n c : Nat) (op id lo hi : Int) (S : Option Addr) (ns sc : Nat) (tx : ByteArray) (K : Option Addr) (m kc : Nat) (P Q G : Nat) (X : World) : Prop where
  l : LB w A n c op id lo hi S ns sc tx K m kc X
  a : CB X P 25 [.int .i64 1, .int .i64 id, .int .i64 lo, .int .i64 9223372036854775807, .slice none 0 0, .string ⟨#[]⟩, .slice none 0 0]
  b : CB X Q 25 [.int .i64 1, .int .i64 id, .int .i64 (-9223372036854775808), .int .i64 hi, .slice none 0 0, .string ⟨#[]⟩, .slice none 0 0]
  g : CB X G 25 [.int .i64 3, .int .i64 id, .int .i64 0, .int .i64 0, .slice none 0 0, .string tx, .slice none 0 0]
section
variable {w X X' : World} {A : Option Addr} {n c : Nat} {op id lo hi : Int} {S : Option Addr} {ns sc : Nat} {tx : ByteArray} {K : Option Addr} {m kc P Q G : Nat}
theorem LC.up (h : LC w A n c op id lo hi S ns sc tx K m kc P Q G X) (hb : Below X.heap.size X X') : LC w A n c op id lo hi S ns sc tx K m kc P Q G X' := ⟨h.l.up hb, h.a.up hb, h.b.up hb, h.g.up hb⟩
theorem LC.dr (h : LC w A n c op id lo hi S ns sc tx K m kc P Q G X) : LC w A n c op id lo hi S ns sc tx K m kc P Q G X.drew := ⟨h.l.dr, h.a.dr, h.b.dr, h.g.dr⟩
theorem LC.al (h : LC w A n c op id lo hi S ns sc tx K m kc P Q G X) (o : Obj) : LC w A n c op id lo hi S ns sc tx K m kc P Q G (X.alloc o) := h.up (al1 X o)
end
def preQ (id : Int) (t : ByteArray) : Pr := .mk 3 id 0 0 none 0 [] t none 0 []
theorem preQ_at {w : World} {B : Nat} {id : Int} {t : ByteArray} (h : I64 id) (ht : t.size ≤ 9223372036854775807) : PrAt w B (preQ id t) := leaf_at h (by unfold I64; omega) (by unfold I64; omega) ht
theorem ev_pre (r : List Ce) (id : Int) (t : ByteArray) : ev r (preQ id t) = if (getL r id).b = true then 2 else tr3 (Lib.hasPrefix (getL r id).s.data.toList t.data.toList) := by
  rw [ev_eq]
  rfl
theorem ev_btw (r : List Ce) (id lo hi : Int) : ev r (btw id lo hi) = if (getL r id).b = true then 2 else tr3 (decide (lo ≤ (getL r id).n) && decide ((getL r id).n ≤ hi)) := by
  rw [ev_eq]
  rfl
theorem getL_in {r : List Ce} (h : ∀ x ∈ r, x.v.Fine) (i : Int) : -9223372036854775808 ≤ (getL r i).n ∧ (getL r i).n ≤ 9223372036854775807 := by
  induction r with
  | nil => exact ⟨by show _ ≤ (0 : Int); omega, by show (0 : Int) ≤ _; omega⟩
  | cons x r ih =>
    rw [getL]
    split
    · exact ⟨(h x (by simp)).lo, (h x (by simp)).hi⟩
    · exact ih fun y hy => h y (by simp [hy])
theorem ev_bounds {r : List Ce} (h : ∀ x ∈ r, x.v.Fine) (id lo hi : Int) (K : Option Addr) : ev r (btw id lo hi) = ev r (mkP 5 K 2 [btw id lo 9223372036854775807, btw id (-9223372036854775808) hi]) := by
  rw [ev_jn _ _ _ _ _ (.inl rfl), List.map_cons, List.map_cons, List.map_nil, ev_btw, ev_btw, ev_btw]
  obtain ⟨h1, h2⟩ := getL_in h id
  by_cases hb : (getL r id).b = true
  · simp only [if_pos hb]
    rfl
  · simp only [if_neg hb, decide_eq_true h1, decide_eq_true h2, Bool.and_true, Bool.true_and]
    cases decide (lo ≤ (getL r id).n) <;> cases decide ((getL r id).n ≤ hi) <;> rfl
theorem ext_take (t : ByteArray) (q : Nat) : (t.extract 0 q).data.toList = t.data.toList.take q := by
  rw [ByteArray.data_extract, Array.toList_extract]
  simp
theorem has_take {a t : List UInt8} {q : Nat} (h : Lib.hasPrefix a t = true) : Lib.hasPrefix a (t.take q) = true := by
  rw [← Lib.hasPrefix_of_take] at h ⊢
  simp only [Bool.and_eq_true, decide_eq_true_iff, beq_iff_eq] at h ⊢
  obtain ⟨h1, h2⟩ := h
  refine ⟨by rw [List.length_take]; omega, ?_⟩
  rw [List.length_take, ← List.take_take, h2]
set_option maxHeartbeats 8000000 in
set_option maxRecDepth 40000 in
theorem out0 (A : Option Addr) (n c : Nat) (op id lo hi : Int) (S : Option Addr) (ns sc : Nat) (tx : ByteArray) (K : Option Addr) (m kc : Nat) (u : Int) (w : World) (h0 : decide ((60 : Int) < (ns : Int)) = true) : Calls Try.prog 6 #[.agg #[.int .i64 op, .int .i64 id, .int .i64 lo, .int .i64 hi, .slice S ns sc, .string tx, .slice K m kc], .agg #[.slice A n c], .int .u8 u] w fun e w' => e = .returned (.bool true) ∧ Below w.heap.size w w' := by
  have tk0 : Hid True := Li trivial
  go_enter Try.func6, Try.ntmps6
  go_wp2_with (first | (have tok := tk0; go_at_call 7; refine (sanity_any _).mono ?_; rintro e w1 ⟨rfl, hb⟩; have L1 := Li ((LB.new A n c op id lo hi S ns sc tx K m kc w).up hb); have g7 := L1.out.bp.c7; have zg := L1.out.bp.lt; have r1 := L1.out.br.c1; have zr := L1.out.br.lt; have tk1 : Hid True := Li trivial; clear tok tk0 hb))
  go_ret
  exact ⟨rfl, L1.out.d⟩
set_option maxHeartbeats 8000000 in
set_option maxRecDepth 40000 in
theorem out1 (A : Option Addr) (n c : Nat) (op id lo hi : Int) (S : Option Addr) (ns sc : Nat) (tx : ByteArray) (K : Option Addr) (m kc : Nat) (u : Int) (w : World) (h0 : decide ((60 : Int) < (ns : Int)) = false) (h1 : decide ((60 : Int) < (n : Int)) = true) : Calls Try.prog 6 #[.agg #[.int .i64 op, .int .i64 id, .int .i64 lo, .int .i64 hi, .slice S ns sc, .string tx, .slice K m kc], .agg #[.slice A n c], .int .u8 u] w fun e w' => e = .returned (.bool true) ∧ Below w.heap.size w w' := by
  have tk0 : Hid True := Li trivial
  go_enter Try.func6, Try.ntmps6
  go_wp2_with (first | (have tok := tk0; go_at_call 7; refine (sanity_any _).mono ?_; rintro e w1 ⟨rfl, hb⟩; have L1 := Li ((LB.new A n c op id lo hi S ns sc tx K m kc w).up hb); have g7 := L1.out.bp.c7; have zg := L1.out.bp.lt; have r1 := L1.out.br.c1; have zr := L1.out.br.lt; have tk1 : Hid True := Li trivial; clear tok tk0 hb))
  go_ret
  exact ⟨rfl, L1.out.d⟩
set_option maxHeartbeats 8000000 in
set_option maxRecDepth 40000 in
theorem out2 (A : Option Addr) (n c : Nat) (op id lo hi : Int) (S : Option Addr) (ns sc : Nat) (tx : ByteArray) (K : Option Addr) (m kc : Nat) (u : Int) (w : World) (h0 : decide ((60 : Int) < (ns : Int)) = false) (h1 : decide ((60 : Int) < (n : Int)) = false) (h2 : decide ((400 : Int) < (tx.size : Int)) = true) : Calls Try.prog 6 #[.agg #[.int .i64 op, .int .i64 id, .int .i64 lo, .int .i64 hi, .slice S ns sc, .string tx, .slice K m kc], .agg #[.slice A n c], .int .u8 u] w fun e w' => e = .returned (.bool true) ∧ Below w.heap.size w w' := by
  have tk0 : Hid True := Li trivial
  go_enter Try.func6, Try.ntmps6
  go_wp2_with (first | (have tok := tk0; go_at_call 7; refine (sanity_any _).mono ?_; rintro e w1 ⟨rfl, hb⟩; have L1 := Li ((LB.new A n c op id lo hi S ns sc tx K m kc w).up hb); have g7 := L1.out.bp.c7; have zg := L1.out.bp.lt; have r1 := L1.out.br.c1; have zr := L1.out.br.lt; have tk1 : Hid True := Li trivial; clear tok tk0 hb))
  go_ret
  exact ⟨rfl, L1.out.d⟩
set_option maxHeartbeats 40000000 in
set_option maxRecDepth 40000 in
theorem main (A : Option Addr) (n c : Nat) (op id lo hi : Int) (S : Option Addr) (ns sc : Nat) (tx : ByteArray) (K : Option Addr) (m kc : Nat) (u : Int) (w : World) (set : List Va) (r : List Ce) (hn : n = r.length) (hns : ns = set.length) (hsc : ns ≤ sc) (hsm : sc ≤ 9223372036854775807) (hS : Vas w w.heap.size S set) (hv : ∀ v ∈ set, v.Fine) (hs : Ces w w.heap.size A r) (hr : ∀ x ∈ r, x.v.Fine) (hid : I64 id) (hlo : I64 lo) (hhi : I64 hi) (htx : tx.size ≤ 400) (hn6 : n ≤ 60) (hs6 : ns ≤ 60) (hu : 0 ≤ u ∧ u ≤ 255) (h0 : decide ((60 : Int) < (ns : Int)) = false) (h1 : decide ((60 : Int) < (n : Int)) = false) (h2 : decide ((400 : Int) < (tx.size : Int)) = false) : Calls Try.prog 6 #[.agg #[.int .i64 op, .int .i64 id, .int .i64 lo, .int .i64 hi, .slice S ns sc, .string tx, .slice K m kc], .agg #[.slice A n c], .int .u8 u] w fun e w' => e = .returned (.bool true) ∧ Below w.heap.size w w' := by
  have HN := Li hn
  have HNS := Li hns
  have HSET := Li hS
  have HV := Li hv
  have HS := Li hs
  have HR := Li hr
  have HEQ := Li (show ∀ (a b : Pr) (X : World), PrAt X X.heap.size a → PrAt X X.heap.size b → Ces X X.heap.size A r → ev r a = ev r b → Calls Try.prog 10 #[.agg #[.int .i64 a.op, .int .i64 a.id, .int .i64 a.lo, .int .i64 a.hi, .slice a.S a.set.length a.sc, .string a.tx, .slice a.K a.kids.length a.kc], .agg #[.int .i64 b.op, .int .i64 b.id, .int .i64 b.lo, .int .i64 b.hi, .slice b.S b.set.length b.sc, .string b.tx, .slice b.K b.kids.length b.kc], .agg #[.slice A n c]] X fun e w' => e = .returned (.bool true) ∧ Below X.heap.size X w' from fun a b X g1 g2 g3 g4 => (equal_any A n c r hn (by omega) a b X g1 g2 g3).mono fun e w' h => ⟨by rw [h.1, g4]; simp, h.2⟩)
  have HEV := Li (show ∀ (a : Pr) (X : World) (t : Int), PrAt X X.heap.size a → Ces X X.heap.size A r → ev r a = t → Calls Try.prog 13 #[.agg #[.int .i64 a.op, .int .i64 a.id, .int .i64 a.lo, .int .i64 a.hi, .slice a.S a.set.length a.sc, .string a.tx, .slice a.K a.kids.length a.kc], .agg #[.slice A n c]] X fun e w' => e = .returned (.int .i64 t) ∧ Below X.heap.size X w' from fun a X t g1 g2 g3 => g3 ▸ Eval_any A n c r hn (by omega) a X g1 g2)
  have HEQ2 := Li (show ∀ (a b : Pr) (i j : Nat) (X : World), a.set.length = i → b.kids.length = j → PrAt X X.heap.size a → PrAt X X.heap.size b → Ces X X.heap.size A r → ev r a = ev r b → Calls Try.prog 10 #[.agg #[.int .i64 a.op, .int .i64 a.id, .int .i64 a.lo, .int .i64 a.hi, .slice a.S i a.sc, .string a.tx, .slice a.K a.kids.length a.kc], .agg #[.int .i64 b.op, .int .i64 b.id, .int .i64 b.lo, .int .i64 b.hi, .slice b.S b.set.length b.sc, .string b.tx, .slice b.K j b.kc], .agg #[.slice A n c]] X fun e w' => e = .returned (.bool true) ∧ Below X.heap.size X w' from fun a b i j X hi hj g1 g2 g3 g4 => by subst hi hj; exact HEQ.out a b X g1 g2 g3 g4)
  clear hn hns hS hv hs hr
  have tk0 : Hid True := Li trivial
  go_enter Try.func6, Try.ntmps6
  go_wp2_with (first | (have tok := tk0; go_at_call 7; refine (sanity_any _).mono ?_; rintro e w1 ⟨rfl, hb⟩; have L1 := Li ((LB.new A n c op id lo hi S ns sc tx K m kc w).up hb); have g7 := L1.out.bp.c7; have zg := L1.out.bp.lt; have r1 := L1.out.br.c1; have zr := L1.out.br.lt; have tk1 : Hid True := Li trivial; clear tok tk0 hb))
  have zw : w.heap.size + 1 < w1.heap.size := L1.out.br.lt
  have L2 := Li ((L1.out.up (al1 w1 (.cells #[.int .i64 2, .int .i64 id, .int .i64 0, .int .i64 0, .slice S ns sc, .string ⟨#[]⟩, .slice none 0 0] 25))).up (al1 _ (.cells #[.int .i64 6, .int .i64 0, .int .i64 0, .int .i64 0, .slice none 0 0, .string ⟨#[]⟩, .slice none 0 0] 25)))
  have BI := Li ((CB.new w1 25 [.int .i64 2, .int .i64 id, .int .i64 0, .int .i64 0, .slice S ns sc, .string ⟨#[]⟩, .slice none 0 0]).alloc (.cells #[.int .i64 6, .int .i64 0, .int .i64 0, .int .i64 0, .slice none 0 0, .string ⟨#[]⟩, .slice none 0 0] 25))
  have E := Li (CB.new1 w1 (.cells #[.int .i64 2, .int .i64 id, .int .i64 0, .int .i64 0, .slice S ns sc, .string ⟨#[]⟩, .slice none 0 0] 25) 25 [.int .i64 6, .int .i64 0, .int .i64 0, .int .i64 0, .slice none 0 0, .string ⟨#[]⟩, .slice none 0 0])
  have OWN := Li (Own.nil 25 7 ((w1.alloc (.cells #[.int .i64 2, .int .i64 id, .int .i64 0, .int .i64 0, .slice S ns sc, .string ⟨#[]⟩, .slice none 0 0] 25)).alloc (.cells #[.int .i64 6, .int .i64 0, .int .i64 0, .int .i64 0, .slice none 0 0, .string ⟨#[]⟩, .slice none 0 0] 25)) (w1.heap.size + 1 + 1))
  clear h0 h1 h2 g7 zg r1 zr tk1 L1
  generalize (w1.alloc (.cells #[.int .i64 2, .int .i64 id, .int .i64 0, .int .i64 0, .slice S ns sc, .string ⟨#[]⟩, .slice none 0 0] 25)).alloc (.cells #[.int .i64 6, .int .i64 0, .int .i64 0, .int .i64 0, .slice none 0 0, .string ⟨#[]⟩, .slice none 0 0] 25) = V0 at *
  go_loopw [10] (fun i wr => ∃ (k : Nat) (A' : Option Addr) (c' : Nat), k ≤ ns ∧ i = .int .i64 k ∧ Hid (CB wr (w1.heap.size + 1) 25 [.int .i64 6, .int .i64 0, .int .i64 0, .int .i64 0, .slice none 0 0, .string ⟨#[]⟩, .slice A' k c']) ∧ Hid (Own 25 7 wr (w1.heap.size + 1 + 1) (.slice A' k c') (((List.range k).map (kidP id S sc set)).map Pr.cells)) ∧ Hid (CB wr w1.heap.size 25 [.int .i64 2, .int .i64 id, .int .i64 0, .int .i64 0, .slice S ns sc, .string ⟨#[]⟩, .slice none 0 0]) ∧ Hid (LB w A n c op id lo hi S ns sc tx K m kc wr)) (fun i _ => ns - (intOf i).toNat)
  case atStart => exact ⟨0, none, 0, by omega, rfl, E, OWN, BI, L2⟩
  case round =>
    clear E OWN BI L2
    obtain ⟨k, A', c', hk, rfl, E, OWN, BI, L2⟩ := hrel
    generalize wr = W1 at *
    have g7 := L2.out.bp.c7
    have zg := L2.out.bp.lt
    by_cases hlt : k < ns
    · have j1 : (k : Int) < (ns : Int) := by omega
      obtain ⟨f, hf⟩ := getV_of (l := set) (k := k) (by rw [← HNS.out]; exact hlt)
      have HF := Li hf
      obtain ⟨b, off, rfl, hb, d0, d1, d2⟩ := HSET.out.one hf
      clear hf
      have hw1 : IntKind.i64.wrap ((k : Int) + 1) = (k : Int) + 1 := by rw [IntKind.wrap_i64]; omega
      have jc1 : (0 : Int) ≤ (k : Int) + 1 := by omega
      have jc2 : (k : Int) + 1 ≤ (sc : Int) := by omega
      have jc3 : ¬ sc = k := by omega
      go_upto_region 9 with fail
      clear g7 zg
      replace E := Li (show CB W1.drew (w1.heap.size + 1) 25 [.int .i64 6, .int .i64 0, .int .i64 0, .int .i64 0, .slice none 0 0, .string ⟨#[]⟩, .slice A' k c'] from E.out)
      replace OWN := Li (show Own 25 7 W1.drew (w1.heap.size + 1 + 1) (.slice A' k c') (((List.range k).map (kidP id (some ⟨b, off, none⟩) sc set)).map Pr.cells) from OWN.out)
      replace BI := Li (show CB W1.drew w1.heap.size 25 [.int .i64 2, .int .i64 id, .int .i64 0, .int .i64 0, .slice (some ⟨b, off, none⟩) ns sc, .string ⟨#[]⟩, .slice none 0 0] from BI.out)
      replace L2 := Li L2.out.dr
      refine wp_region_held_drew (S := fun X => Hid (LB w A n c op id lo hi (some ⟨b, off, none⟩) ns sc tx K m kc X)) (by kernel_rfl) L2 (fun hHeld => ?_)
      revert hHeld E OWN BI L2
      generalize W1.drew = V1
      intro E OWN BI L2 hHeld
      refine htk 0 ?_
      refine htk 2 ?_
      refine htf 3 (fun X h => And.intro h.out.bp.c7 h.out.bp.lt) ?_
      refine htk 4 ?_
      refine htf 5 (fun X h => And.intro h.out.bp.c7 h.out.bp.lt) ?_
      refine htk 6 ?_
      refine htk 7 ?_
      refine htk 8 ?_
      refine htk 9 ?_
      refine htk 10 ?_
      refine rd2 1 11 (fun KK hK => ?_) (fun KK hK => ?_)
      · have o1 := E.out.c7
        have zo := E.out.lt
        go_simp
        clear o1 zo
        refine hK.out _ _ (L2) (fun hHeld => ?_)
        clear hK KK
        try simp only [pnz]
        refine rd1 11 fun KK hK => ?_
        go_simp
        have SB := Li (CB.new V1 25 [.int .i64 2, .int .i64 id, .int .i64 0, .int .i64 0, .slice (some ⟨b, off + k * 3, none⟩) 1 (sc - k), .string ⟨#[]⟩, .slice none 0 0])
        have hb9 : Below V1.heap.size V1 (V1.alloc (.cells #[.int .i64 2, .int .i64 id, .int .i64 0, .int .i64 0, .slice (some ⟨b, off + k * 3, none⟩) 1 (sc - k), .string ⟨#[]⟩, .slice none 0 0] 25)) := al1 V1 (.cells #[.int .i64 2, .int .i64 id, .int .i64 0, .int .i64 0, .slice (some ⟨b, off + k * 3, none⟩) 1 (sc - k), .string ⟨#[]⟩, .slice none 0 0] 25)
        replace E := Li (E.out.up hb9)
        replace OWN := Li (OWN.out.alloc (.cells #[.int .i64 2, .int .i64 id, .int .i64 0, .int .i64 0, .slice (some ⟨b, off + k * 3, none⟩) 1 (sc - k), .string ⟨#[]⟩, .slice none 0 0] 25))
        replace BI := Li (BI.out.up hb9)
        replace L2 := Li (L2.out.up hb9)
        clear hb9
        refine hK.out _ _ (L2) (fun hHeld => ?_)
        clear hK KK
        try simp only [pnz]
        generalize V1.alloc (.cells #[.int .i64 2, .int .i64 id, .int .i64 0, .int .i64 0, .slice (some ⟨b, off + k * 3, none⟩) 1 (sc - k), .string ⟨#[]⟩, .slice none 0 0] 25) = V7 at *
        refine rd1 12 fun KK hK => ?_
        refine step_push_pr rfl (.tmp 49) (.tmp 59) rfl (w1.heap.size + 1 + 1) (.slice A' k c') ((List.range k).map (kidP id (some ⟨b, off, none⟩) sc set)) (kidP id (some ⟨b, off, none⟩) sc set k) V1.heap.size k rfl rfl (by simp) OWN.out SB.out (by omega) E.out.lt ?_
        intro A8 c8 w8 ho hg hb
        replace E := Li (E.out.grown hg (OWN.out.below_ne (by omega)))
        replace BI := Li (BI.out.grown hg (OWN.out.below_ne (by omega)))
        replace L2 := Li (L2.out.grown hg (fun g e => by have := (OWN.out.lt g e).1; omega))
        replace OWN := Li ho
        clear ho hg hb
        refine hK.out _ _ (L2) (fun hHeld => ?_)
        clear hK KK
        try simp only [pnz]
        refine htk 13 ?_
        refine rd1 14 fun KK hK => ?_
        have y0 := E.out.cell 6 rfl
        have y1 := E.out.frozen 6
        have zo := E.out.lt
        go_simp
        replace OWN := Li (OWN.out.set_ (g := w1.heap.size + 1) 6 (.slice A8 (k + 1) c8) (OWN.out.below_ne (by omega)))
        replace BI := Li (BI.out.set_other (g' := w1.heap.size + 1) 6 (.slice A8 (k + 1) c8) (by omega))
        replace L2 := Li (L2.out.grown (grown_set _ (w1.heap.size + 1) 6 (.slice A8 (k + 1) c8)) (fun g e => by injection e with e; omega))
        replace E := Li (show CB _ _ _ [.int .i64 6, .int .i64 0, .int .i64 0, .int .i64 0, .slice none 0 0, .string ⟨#[]⟩, .slice A8 (k + 1) c8] from E.out.set_ 6 (.slice A8 (k + 1) c8))
        clear y0 y1 zo
        refine hK.out _ _ (L2) (fun hHeld => ?_)
        clear hK KK
        try simp only [pnz]
        refine wpAnyH_done (by kernel_rfl) ?_ _
        go_wp2_with fail
        go_roundw
        case rel => exact ⟨k + 1, A8, c8, by omega, by go_num, E, Li (by rw [List.range_succ, List.map_append]; exact OWN.out), BI, L2⟩
        case measure => simp [intOf]; omega
      · go_simp
        have SB := Li (CB.new V1 25 [.int .i64 2, .int .i64 id, .int .i64 0, .int .i64 0, .slice (some ⟨b, off + k * 3, none⟩) 1 (sc - k), .string ⟨#[]⟩, .slice none 0 0])
        have hb9 : Below V1.heap.size V1 (V1.alloc (.cells #[.int .i64 2, .int .i64 id, .int .i64 0, .int .i64 0, .slice (some ⟨b, off + k * 3, none⟩) 1 (sc - k), .string ⟨#[]⟩, .slice none 0 0] 25)) := al1 V1 (.cells #[.int .i64 2, .int .i64 id, .int .i64 0, .int .i64 0, .slice (some ⟨b, off + k * 3, none⟩) 1 (sc - k), .string ⟨#[]⟩, .slice none 0 0] 25)
        replace E := Li (E.out.up hb9)
        replace OWN := Li (OWN.out.alloc (.cells #[.int .i64 2, .int .i64 id, .int .i64 0, .int .i64 0, .slice (some ⟨b, off + k * 3, none⟩) 1 (sc - k), .string ⟨#[]⟩, .slice none 0 0] 25))
        replace BI := Li (BI.out.up hb9)
        replace L2 := Li (L2.out.up hb9)
        clear hb9
        refine hK.out _ _ (L2) (fun hHeld => ?_)
        clear hK KK
        try simp only [pnz]
        generalize V1.alloc (.cells #[.int .i64 2, .int .i64 id, .int .i64 0, .int .i64 0, .slice (some ⟨b, off + k * 3, none⟩) 1 (sc - k), .string ⟨#[]⟩, .slice none 0 0] 25) = V7 at *
        refine rd1 1 fun KK hK => ?_
        have o1 := E.out.c7
        have zo := E.out.lt
        go_simp
        clear o1 zo
        refine hK.out _ _ (L2) (fun hHeld => ?_)
        clear hK KK
        try simp only [pnz]
        refine rd1 12 fun KK hK => ?_
        refine step_push_pr rfl (.tmp 49) (.tmp 59) rfl (w1.heap.size + 1 + 1) (.slice A' k c') ((List.range k).map (kidP id (some ⟨b, off, none⟩) sc set)) (kidP id (some ⟨b, off, none⟩) sc set k) V1.heap.size k rfl rfl (by simp) OWN.out SB.out (by omega) E.out.lt ?_
        intro A8 c8 w8 ho hg hb
        replace E := Li (E.out.grown hg (OWN.out.below_ne (by omega)))
        replace BI := Li (BI.out.grown hg (OWN.out.below_ne (by omega)))
        replace L2 := Li (L2.out.grown hg (fun g e => by have := (OWN.out.lt g e).1; omega))
        replace OWN := Li ho
        clear ho hg hb
        refine hK.out _ _ (L2) (fun hHeld => ?_)
        clear hK KK
        try simp only [pnz]
        refine htk 13 ?_
        refine rd1 14 fun KK hK => ?_
        have y0 := E.out.cell 6 rfl
        have y1 := E.out.frozen 6
        have zo := E.out.lt
        go_simp
        replace OWN := Li (OWN.out.set_ (g := w1.heap.size + 1) 6 (.slice A8 (k + 1) c8) (OWN.out.below_ne (by omega)))
        replace BI := Li (BI.out.set_other (g' := w1.heap.size + 1) 6 (.slice A8 (k + 1) c8) (by omega))
        replace L2 := Li (L2.out.grown (grown_set _ (w1.heap.size + 1) 6 (.slice A8 (k + 1) c8)) (fun g e => by injection e with e; omega))
        replace E := Li (show CB _ _ _ [.int .i64 6, .int .i64 0, .int .i64 0, .int .i64 0, .slice none 0 0, .string ⟨#[]⟩, .slice A8 (k + 1) c8] from E.out.set_ 6 (.slice A8 (k + 1) c8))
        clear y0 y1 zo
        refine hK.out _ _ (L2) (fun hHeld => ?_)
        clear hK KK
        try simp only [pnz]
        refine wpAnyH_done (by kernel_rfl) ?_ _
        go_wp2_with fail
        go_roundw
        case rel => exact ⟨k + 1, A8, c8, by omega, by go_num, E, Li (by rw [List.range_succ, List.map_append]; exact OWN.out), BI, L2⟩
        case measure => simp [intOf]; omega
    · have j1 : ¬ (k : Int) < (ns : Int) := by omega
      obtain rfl : ns = k := by omega
      go_upto_region 10 with fail
      go_cut [72] from 62 to 72 (fun u9 wx => u9 = .bool false ∧ Hid (LB w A n c op id lo hi S ns sc tx K m kc wx))
      case first =>
        by_cases h9 : ns = 0
        · have e9 : decide ((0 : Int) < (ns : Int)) = false := decide_eq_false (by omega)
          have e10 : decide (0 < ns) = false := decide_eq_false (by omega)
          have e11 : ¬ 0 < ns := by omega
          clear h9
          go_wp2_with fail
          go_meet
          exact ⟨rfl, L2⟩
        · have e9 : decide ((0 : Int) < (ns : Int)) = true := decide_eq_true (by omega)
          have e10 : decide (0 < ns) = true := decide_eq_true (by omega)
          have e11 : 0 < ns := by omega
          have HPOS := Li (show 0 < set.length by rw [← HNS.out]; omega)
          clear h9
          have HKD := Li (show ∀ q ∈ (List.range ns).map (kidP id S sc set), PrAt W1 W1.heap.size q from fun q hq => by
            have hnk := HNS.out
            obtain ⟨i, hi, rfl⟩ := List.mem_map.1 hq
            exact kid_at hid (RowAt.up HSET.out L2.out.d) HV.out (by rw [← hnk]; exact List.mem_range.1 hi) (by omega) hsm)
          have c8 := BI.out.c7
          have z8 := BI.out.lt
          have c9 := E.out.c7
          have z9 := E.out.lt
          have c4 := L2.out.br.c1
          have z4 := L2.out.br.lt
          have te1 : Hid True := Li trivial
          go_wp2_with (first | (have tok := te1; go_at_call 10; refine (HEQ2.out (inAll id S sc set) (mkP 6 A' c' ((List.range ns).map (kidP id S sc set))) ns ns _ HNS.out.symm (by simp [mkP, Pr.kids]) (inAll_at hid (RowAt.up HSET.out L2.out.d) HV.out (by have := HNS.out; omega) hsm) (mkP_at OWN.out.row.2.2.2 (by have := OWN.out.row.2.1; rw [List.length_map] at this; exact this) OWN.out.row.2.2.1 HKD.out) (RowAt.up HS.out L2.out.d) (by rw [HNS.out]; exact ev_each r id S sc set A' c' HPOS.out)).mono ?_; rintro e w5 ⟨rfl, hb⟩; replace L2 := Li (L2.out.up hb); clear tok te1 hb))
          go_meet
          exact ⟨rfl, L2⟩
      case rest =>
      clear E OWN BI L2 g7 zg
      obtain ⟨rfl, L2⟩ := hcut
      generalize wc = V2 at *
      go_upto_region 12 with fail
      go_cut [11, 12] from 11 to 82 (fun a b wx => ∃ P Q : Nat, a = .pointer (some ⟨P, 0, none⟩) ∧ b = .pointer (some ⟨Q, 0, none⟩) ∧ Hid (CB wx P 25 [.int .i64 1, .int .i64 id, .int .i64 lo, .int .i64 9223372036854775807, .slice none 0 0, .string ⟨#[]⟩, .slice none 0 0]) ∧ Hid (CB wx Q 25 [.int .i64 1, .int .i64 id, .int .i64 (-9223372036854775808), .int .i64 hi, .slice none 0 0, .string ⟨#[]⟩, .slice none 0 0]) ∧ Hid (LB w A n c op id lo hi S ns sc tx K m kc wx))
      case first =>
        replace L2 := Li L2.out.dr
        refine wp_region_held_drew (S := fun X => Hid (LB w A n c op id lo hi S ns sc tx K m kc X)) (by kernel_rfl) L2 (fun hHeld => ?_)
        revert hHeld L2
        generalize V2.drew = X12
        intro L2 hHeld
        refine htk 0 ?_
        refine htf 1 (fun X h => And.intro h.out.bp.c7 h.out.bp.lt) ?_
        refine htk 2 ?_
        refine htf 3 (fun X h => And.intro h.out.bp.c7 h.out.bp.lt) ?_
        refine htk 5 ?_
        refine htf 6 (fun X h => And.intro h.out.bp.c7 h.out.bp.lt) ?_
        refine htk 7 ?_
        refine htf 8 (fun X h => And.intro h.out.bp.c7 h.out.bp.lt) ?_
        refine rd3 4 10 11 (fun KK hK => ?_) (fun KK hK => ?_) (fun KK hK => ?_)
        · go_simp
          go_at_call 15
          refine (between_any id lo 9223372036854775807 _).mono ?_
          rintro e v4 ⟨rfl, hb⟩
          replace L2 := Li (L2.out.up hb)
          clear hb
          go_wp2_with fail
          refine hK.out _ _ (L2) (fun hHeld => ?_)
          clear hK KK
          try simp only [pnz]
          refine rd3 9 10 11 (fun KK hK => ?_) (fun KK hK => ?_) (fun KK hK => ?_)
          · go_simp
            go_at_call 15
            refine (between_any id (-9223372036854775808) hi _).mono ?_
            rintro e v9 ⟨rfl, hb⟩
            replace L2 := Li (L2.out.up hb)
            clear hb
            go_wp2_with fail
            refine hK.out _ _ (L2) (fun hHeld => ?_)
            clear hK KK
            try simp only [pnz]
            refine rd2 10 11 (fun KK hK => ?_) (fun KK hK => ?_)
            · go_simp
              have q10 : w.heap.size + 1 < v9.heap.size := L2.out.br.lt
              have K10 := Li (CB.new v9 25 [.int .i64 0, .int .i64 0, .int .i64 0, .int .i64 0, .slice none 0 0, .string ⟨#[]⟩, .slice none 0 0])
              replace L2 := Li (L2.out.up (al1 v9 (.cells #[.int .i64 0, .int .i64 0, .int .i64 0, .int .i64 0, .slice none 0 0, .string ⟨#[]⟩, .slice none 0 0] 25)))
              refine hK.out _ _ (L2) (fun hHeld => ?_)
              clear hK KK
              try simp only [pnz]
              generalize v9.alloc (.cells #[.int .i64 0, .int .i64 0, .int .i64 0, .int .i64 0, .slice none 0 0, .string ⟨#[]⟩, .slice none 0 0] 25) = v10 at *
              refine rd1 11 fun KK hK => ?_
              go_simp
              have q11 : w.heap.size + 1 < v10.heap.size := L2.out.br.lt
              have q1011 : v9.heap.size < v10.heap.size := K10.out.lt
              have K11 := Li (CB.new v10 25 [.int .i64 0, .int .i64 0, .int .i64 0, .int .i64 0, .slice none 0 0, .string ⟨#[]⟩, .slice none 0 0])
              replace K10 := Li (K10.out.alloc (.cells #[.int .i64 0, .int .i64 0, .int .i64 0, .int .i64 0, .slice none 0 0, .string ⟨#[]⟩, .slice none 0 0] 25))
              replace L2 := Li (L2.out.up (al1 v10 (.cells #[.int .i64 0, .int .i64 0, .int .i64 0, .int .i64 0, .slice none 0 0, .string ⟨#[]⟩, .slice none 0 0] 25)))
              refine hK.out _ _ (L2) (fun hHeld => ?_)
              clear hK KK
              try simp only [pnz]
              generalize v10.alloc (.cells #[.int .i64 0, .int .i64 0, .int .i64 0, .int .i64 0, .slice none 0 0, .string ⟨#[]⟩, .slice none 0 0] 25) = v11 at *
              refine rd1 12 fun KK hK => ?_
              refine step_store_cb rfl 25 (.tmp 11) (.tmp 77) rfl (v9.heap.size) [.int .i64 1, .int .i64 id, .int .i64 lo, .int .i64 9223372036854775807, .slice none 0 0, .string ⟨#[]⟩, .slice none 0 0] rfl rfl 25 [.int .i64 0, .int .i64 0, .int .i64 0, .int .i64 0, .slice none 0 0, .string ⟨#[]⟩, .slice none 0 0] 7 K10.out sizePr rfl rfl one_q7 ?_
              intro s12 hc hg hz
              replace K10 := Li hc
              replace K11 := Li (K11.out.grown hg (by intro h; injection h with h; omega))
              replace L2 := Li (L2.out.grown hg (fun g e => by injection e with e; omega))
              clear hc hg hz
              refine hK.out _ _ (L2) (fun hHeld => ?_)
              clear hK KK
              try simp only [pnz]
              refine rd1 13 fun KK hK => ?_
              refine step_store_cb rfl 25 (.tmp 12) (.tmp 82) rfl (v10.heap.size) [.int .i64 1, .int .i64 id, .int .i64 (-9223372036854775808), .int .i64 hi, .slice none 0 0, .string ⟨#[]⟩, .slice none 0 0] rfl rfl 25 [.int .i64 0, .int .i64 0, .int .i64 0, .int .i64 0, .slice none 0 0, .string ⟨#[]⟩, .slice none 0 0] 7 K11.out sizePr rfl rfl one_q7 ?_
              intro s13 hc hg hz
              replace K11 := Li hc
              replace K10 := Li (K10.out.grown hg (by intro h; injection h with h; omega))
              replace L2 := Li (L2.out.grown hg (fun g e => by injection e with e; omega))
              clear hc hg hz
              refine hK.out _ _ (L2) (fun hHeld => ?_)
              clear hK KK
              try simp only [pnz]
              refine wpAnyH_done (by kernel_rfl) ?_ _
              go_wp2_with fail
              go_meet
              exact ⟨_, _, rfl, rfl, K10, K11, L2⟩
            · go_simp
              have q11 : w.heap.size + 1 < v9.heap.size := L2.out.br.lt
              have K11 := Li (CB.new v9 25 [.int .i64 0, .int .i64 0, .int .i64 0, .int .i64 0, .slice none 0 0, .string ⟨#[]⟩, .slice none 0 0])
              replace L2 := Li (L2.out.up (al1 v9 (.cells #[.int .i64 0, .int .i64 0, .int .i64 0, .int .i64 0, .slice none 0 0, .string ⟨#[]⟩, .slice none 0 0] 25)))
              refine hK.out _ _ (L2) (fun hHeld => ?_)
              clear hK KK
              try simp only [pnz]
              generalize v9.alloc (.cells #[.int .i64 0, .int .i64 0, .int .i64 0, .int .i64 0, .slice none 0 0, .string ⟨#[]⟩, .slice none 0 0] 25) = v11 at *
              refine rd1 10 fun KK hK => ?_
              go_simp
              have q10 : w.heap.size + 1 < v11.heap.size := L2.out.br.lt
              have q1110 : v9.heap.size < v11.heap.size := K11.out.lt
              have K10 := Li (CB.new v11 25 [.int .i64 0, .int .i64 0, .int .i64 0, .int .i64 0, .slice none 0 0, .string ⟨#[]⟩, .slice none 0 0])
              replace K11 := Li (K11.out.alloc (.cells #[.int .i64 0, .int .i64 0, .int .i64 0, .int .i64 0, .slice none 0 0, .string ⟨#[]⟩, .slice none 0 0] 25))
              replace L2 := Li (L2.out.up (al1 v11 (.cells #[.int .i64 0, .int .i64 0, .int .i64 0, .int .i64 0, .slice none 0 0, .string ⟨#[]⟩, .slice none 0 0] 25)))
              refine hK.out _ _ (L2) (fun hHeld => ?_)
              clear hK KK
              try simp only [pnz]
              generalize v11.alloc (.cells #[.int .i64 0, .int .i64 0, .int .i64 0, .int .i64 0, .slice none 0 0, .string ⟨#[]⟩, .slice none 0 0] 25) = v10 at *
              refine rd1 12 fun KK hK => ?_
              refine step_store_cb rfl 25 (.tmp 11) (.tmp 77) rfl (v11.heap.size) [.int .i64 1, .int .i64 id, .int .i64 lo, .int .i64 9223372036854775807, .slice none 0 0, .string ⟨#[]⟩, .slice none 0 0] rfl rfl 25 [.int .i64 0, .int .i64 0, .int .i64 0, .int .i64 0, .slice none 0 0, .string ⟨#[]⟩, .slice none 0 0] 7 K10.out sizePr rfl rfl one_q7 ?_
              intro s12 hc hg hz
              replace K10 := Li hc
              replace K11 := Li (K11.out.grown hg (by intro h; injection h with h; omega))
              replace L2 := Li (L2.out.grown hg (fun g e => by injection e with e; omega))
              clear hc hg hz
              refine hK.out _ _ (L2) (fun hHeld => ?_)
              clear hK KK
              try simp only [pnz]
              refine rd1 13 fun KK hK => ?_
              refine step_store_cb rfl 25 (.tmp 12) (.tmp 82) rfl (v9.heap.size) [.int .i64 1, .int .i64 id, .int .i64 (-9223372036854775808), .int .i64 hi, .slice none 0 0, .string ⟨#[]⟩, .slice none 0 0] rfl rfl 25 [.int .i64 0, .int .i64 0, .int .i64 0, .int .i64 0, .slice none 0 0, .string ⟨#[]⟩, .slice none 0 0] 7 K11.out sizePr rfl rfl one_q7 ?_
              intro s13 hc hg hz
              replace K11 := Li hc
              replace K10 := Li (K10.out.grown hg (by intro h; injection h with h; omega))
              replace L2 := Li (L2.out.grown hg (fun g e => by injection e with e; omega))
              clear hc hg hz
              refine hK.out _ _ (L2) (fun hHeld => ?_)
              clear hK KK
              try simp only [pnz]
              refine wpAnyH_done (by kernel_rfl) ?_ _
              go_wp2_with fail
              go_meet
              exact ⟨_, _, rfl, rfl, K10, K11, L2⟩
          · go_simp
            have q10 : w.heap.size + 1 < v4.heap.size := L2.out.br.lt
            have K10 := Li (CB.new v4 25 [.int .i64 0, .int .i64 0, .int .i64 0, .int .i64 0, .slice none 0 0, .string ⟨#[]⟩, .slice none 0 0])
            replace L2 := Li (L2.out.up (al1 v4 (.cells #[.int .i64 0, .int .i64 0, .int .i64 0, .int .i64 0, .slice none 0 0, .string ⟨#[]⟩, .slice none 0 0] 25)))
            refine hK.out _ _ (L2) (fun hHeld => ?_)
            clear hK KK
            try simp only [pnz]
            generalize v4.alloc (.cells #[.int .i64 0, .int .i64 0, .int .i64 0, .int .i64 0, .slice none 0 0, .string ⟨#[]⟩, .slice none 0 0] 25) = v10 at *
            refine rd2 9 11 (fun KK hK => ?_) (fun KK hK => ?_)
            · go_simp
              go_at_call 15
              refine (between_any id (-9223372036854775808) hi _).mono ?_
              rintro e v9 ⟨rfl, hb⟩
              replace K10 := Li (K10.out.up hb)
              replace L2 := Li (L2.out.up hb)
              clear hb
              go_wp2_with fail
              refine hK.out _ _ (L2) (fun hHeld => ?_)
              clear hK KK
              try simp only [pnz]
              refine rd1 11 fun KK hK => ?_
              go_simp
              have q11 : w.heap.size + 1 < v9.heap.size := L2.out.br.lt
              have q1011 : v4.heap.size < v9.heap.size := K10.out.lt
              have K11 := Li (CB.new v9 25 [.int .i64 0, .int .i64 0, .int .i64 0, .int .i64 0, .slice none 0 0, .string ⟨#[]⟩, .slice none 0 0])
              replace K10 := Li (K10.out.alloc (.cells #[.int .i64 0, .int .i64 0, .int .i64 0, .int .i64 0, .slice none 0 0, .string ⟨#[]⟩, .slice none 0 0] 25))
              replace L2 := Li (L2.out.up (al1 v9 (.cells #[.int .i64 0, .int .i64 0, .int .i64 0, .int .i64 0, .slice none 0 0, .string ⟨#[]⟩, .slice none 0 0] 25)))
              refine hK.out _ _ (L2) (fun hHeld => ?_)
              clear hK KK
              try simp only [pnz]
              generalize v9.alloc (.cells #[.int .i64 0, .int .i64 0, .int .i64 0, .int .i64 0, .slice none 0 0, .string ⟨#[]⟩, .slice none 0 0] 25) = v11 at *
              refine rd1 12 fun KK hK => ?_
              refine step_store_cb rfl 25 (.tmp 11) (.tmp 77) rfl (v4.heap.size) [.int .i64 1, .int .i64 id, .int .i64 lo, .int .i64 9223372036854775807, .slice none 0 0, .string ⟨#[]⟩, .slice none 0 0] rfl rfl 25 [.int .i64 0, .int .i64 0, .int .i64 0, .int .i64 0, .slice none 0 0, .string ⟨#[]⟩, .slice none 0 0] 7 K10.out sizePr rfl rfl one_q7 ?_
              intro s12 hc hg hz
              replace K10 := Li hc
              replace K11 := Li (K11.out.grown hg (by intro h; injection h with h; omega))
              replace L2 := Li (L2.out.grown hg (fun g e => by injection e with e; omega))
              clear hc hg hz
              refine hK.out _ _ (L2) (fun hHeld => ?_)
              clear hK KK
              try simp only [pnz]
              refine rd1 13 fun KK hK => ?_
              refine step_store_cb rfl 25 (.tmp 12) (.tmp 82) rfl (v9.heap.size) [.int .i64 1, .int .i64 id, .int .i64 (-9223372036854775808), .int .i64 hi, .slice none 0 0, .string ⟨#[]⟩, .slice none 0 0] rfl rfl 25 [.int .i64 0, .int .i64 0, .int .i64 0, .int .i64 0, .slice none 0 0, .string ⟨#[]⟩, .slice none 0 0] 7 K11.out sizePr rfl rfl one_q7 ?_
              intro s13 hc hg hz
              replace K11 := Li hc
              replace K10 := Li (K10.out.grown hg (by intro h; injection h with h; omega))
              replace L2 := Li (L2.out.grown hg (fun g e => by injection e with e; omega))
              clear hc hg hz
              refine hK.out _ _ (L2) (fun hHeld => ?_)
              clear hK KK
              try simp only [pnz]
              refine wpAnyH_done (by kernel_rfl) ?_ _
              go_wp2_with fail
              go_meet
              exact ⟨_, _, rfl, rfl, K10, K11, L2⟩
            · go_simp
              have q11 : w.heap.size + 1 < v10.heap.size := L2.out.br.lt
              have q1011 : v4.heap.size < v10.heap.size := K10.out.lt
              have K11 := Li (CB.new v10 25 [.int .i64 0, .int .i64 0, .int .i64 0, .int .i64 0, .slice none 0 0, .string ⟨#[]⟩, .slice none 0 0])
              replace K10 := Li (K10.out.alloc (.cells #[.int .i64 0, .int .i64 0, .int .i64 0, .int .i64 0, .slice none 0 0, .string ⟨#[]⟩, .slice none 0 0] 25))
              replace L2 := Li (L2.out.up (al1 v10 (.cells #[.int .i64 0, .int .i64 0, .int .i64 0, .int .i64 0, .slice none 0 0, .string ⟨#[]⟩, .slice none 0 0] 25)))
              refine hK.out _ _ (L2) (fun hHeld => ?_)
              clear hK KK
              try simp only [pnz]
              generalize v10.alloc (.cells #[.int .i64 0, .int .i64 0, .int .i64 0, .int .i64 0, .slice none 0 0, .string ⟨#[]⟩, .slice none 0 0] 25) = v11 at *
              refine rd1 9 fun KK hK => ?_
              go_simp
              go_at_call 15
              refine (between_any id (-9223372036854775808) hi _).mono ?_
              rintro e v9 ⟨rfl, hb⟩
              replace K10 := Li (K10.out.up hb)
              replace K11 := Li (K11.out.up hb)
              replace L2 := Li (L2.out.up hb)
              clear hb
              go_wp2_with fail
              refine hK.out _ _ (L2) (fun hHeld => ?_)
              clear hK KK
              try simp only [pnz]
              refine rd1 12 fun KK hK => ?_
              refine step_store_cb rfl 25 (.tmp 11) (.tmp 77) rfl (v4.heap.size) [.int .i64 1, .int .i64 id, .int .i64 lo, .int .i64 9223372036854775807, .slice none 0 0, .string ⟨#[]⟩, .slice none 0 0] rfl rfl 25 [.int .i64 0, .int .i64 0, .int .i64 0, .int .i64 0, .slice none 0 0, .string ⟨#[]⟩, .slice none 0 0] 7 K10.out sizePr rfl rfl one_q7 ?_
              intro s12 hc hg hz
              replace K10 := Li hc
              replace K11 := Li (K11.out.grown hg (by intro h; injection h with h; omega))
              replace L2 := Li (L2.out.grown hg (fun g e => by injection e with e; omega))
              clear hc hg hz
              refine hK.out _ _ (L2) (fun hHeld => ?_)
              clear hK KK
              try simp only [pnz]
              refine rd1 13 fun KK hK => ?_
              refine step_store_cb rfl 25 (.tmp 12) (.tmp 82) rfl (v10.heap.size) [.int .i64 1, .int .i64 id, .int .i64 (-9223372036854775808), .int .i64 hi, .slice none 0 0, .string ⟨#[]⟩, .slice none 0 0] rfl rfl 25 [.int .i64 0, .int .i64 0, .int .i64 0, .int .i64 0, .slice none 0 0, .string ⟨#[]⟩, .slice none 0 0] 7 K11.out sizePr rfl rfl one_q7 ?_
              intro s13 hc hg hz
              replace K11 := Li hc
              replace K10 := Li (K10.out.grown hg (by intro h; injection h with h; omega))
              replace L2 := Li (L2.out.grown hg (fun g e => by injection e with e; omega))
              clear hc hg hz
              refine hK.out _ _ (L2) (fun hHeld => ?_)
              clear hK KK
              try simp only [pnz]
              refine wpAnyH_done (by kernel_rfl) ?_ _
              go_wp2_with fail
              go_meet
              exact ⟨_, _, rfl, rfl, K10, K11, L2⟩
          · go_simp
            have q11 : w.heap.size + 1 < v4.heap.size := L2.out.br.lt
            have K11 := Li (CB.new v4 25 [.int .i64 0, .int .i64 0, .int .i64 0, .int .i64 0, .slice none 0 0, .string ⟨#[]⟩, .slice none 0 0])
            replace L2 := Li (L2.out.up (al1 v4 (.cells #[.int .i64 0, .int .i64 0, .int .i64 0, .int .i64 0, .slice none 0 0, .string ⟨#[]⟩, .slice none 0 0] 25)))
            refine hK.out _ _ (L2) (fun hHeld => ?_)
            clear hK KK
            try simp only [pnz]
            generalize v4.alloc (.cells #[.int .i64 0, .int .i64 0, .int .i64 0, .int .i64 0, .slice none 0 0, .string ⟨#[]⟩, .slice none 0 0] 25) = v11 at *
            refine rd2 9 10 (fun KK hK => ?_) (fun KK hK => ?_)
            · go_simp
              go_at_call 15
              refine (between_any id (-9223372036854775808) hi _).mono ?_
              rintro e v9 ⟨rfl, hb⟩
              replace K11 := Li (K11.out.up hb)
              replace L2 := Li (L2.out.up hb)
              clear hb
              go_wp2_with fail
              refine hK.out _ _ (L2) (fun hHeld => ?_)
              clear hK KK
              try simp only [pnz]
              refine rd1 10 fun KK hK => ?_
              go_simp
              have q10 : w.heap.size + 1 < v9.heap.size := L2.out.br.lt
              have q1110 : v4.heap.size < v9.heap.size := K11.out.lt
              have K10 := Li (CB.new v9 25 [.int .i64 0, .int .i64 0, .int .i64 0, .int .i64 0, .slice none 0 0, .string ⟨#[]⟩, .slice none 0 0])
              replace K11 := Li (K11.out.alloc (.cells #[.int .i64 0, .int .i64 0, .int .i64 0, .int .i64 0, .slice none 0 0, .string ⟨#[]⟩, .slice none 0 0] 25))
              replace L2 := Li (L2.out.up (al1 v9 (.cells #[.int .i64 0, .int .i64 0, .int .i64 0, .int .i64 0, .slice none 0 0, .string ⟨#[]⟩, .slice none 0 0] 25)))
              refine hK.out _ _ (L2) (fun hHeld => ?_)
              clear hK KK
              try simp only [pnz]
              generalize v9.alloc (.cells #[.int .i64 0, .int .i64 0, .int .i64 0, .int .i64 0, .slice none 0 0, .string ⟨#[]⟩, .slice none 0 0] 25) = v10 at *
              refine rd1 12 fun KK hK => ?_
              refine step_store_cb rfl 25 (.tmp 11) (.tmp 77) rfl (v9.heap.size) [.int .i64 1, .int .i64 id, .int .i64 lo, .int .i64 9223372036854775807, .slice none 0 0, .string ⟨#[]⟩, .slice none 0 0] rfl rfl 25 [.int .i64 0, .int .i64 0, .int .i64 0, .int .i64 0, .slice none 0 0, .string ⟨#[]⟩, .slice none 0 0] 7 K10.out sizePr rfl rfl one_q7 ?_
              intro s12 hc hg hz
              replace K10 := Li hc
              replace K11 := Li (K11.out.grown hg (by intro h; injection h with h; omega))
              replace L2 := Li (L2.out.grown hg (fun g e => by injection e with e; omega))
              clear hc hg hz
              refine hK.out _ _ (L2) (fun hHeld => ?_)
              clear hK KK
              try simp only [pnz]
              refine rd1 13 fun KK hK => ?_
              refine step_store_cb rfl 25 (.tmp 12) (.tmp 82) rfl (v4.heap.size) [.int .i64 1, .int .i64 id, .int .i64 (-9223372036854775808), .int .i64 hi, .slice none 0 0, .string ⟨#[]⟩, .slice none 0 0] rfl rfl 25 [.int .i64 0, .int .i64 0, .int .i64 0, .int .i64 0, .slice none 0 0, .string ⟨#[]⟩, .slice none 0 0] 7 K11.out sizePr rfl rfl one_q7 ?_
              intro s13 hc hg hz
              replace K11 := Li hc
              replace K10 := Li (K10.out.grown hg (by intro h; injection h with h; omega))
              replace L2 := Li (L2.out.grown hg (fun g e => by injection e with e; omega))
              clear hc hg hz
              refine hK.out _ _ (L2) (fun hHeld => ?_)
              clear hK KK
              try simp only [pnz]
              refine wpAnyH_done (by kernel_rfl) ?_ _
              go_wp2_with fail
              go_meet
              exact ⟨_, _, rfl, rfl, K10, K11, L2⟩
            · go_simp
              have q10 : w.heap.size + 1 < v11.heap.size := L2.out.br.lt
              have q1110 : v4.heap.size < v11.heap.size := K11.out.lt
              have K10 := Li (CB.new v11 25 [.int .i64 0, .int .i64 0, .int .i64 0, .int .i64 0, .slice none 0 0, .string ⟨#[]⟩, .slice none 0 0])
              replace K11 := Li (K11.out.alloc (.cells #[.int .i64 0, .int .i64 0, .int .i64 0, .int .i64 0, .slice none 0 0, .string ⟨#[]⟩, .slice none 0 0] 25))
              replace L2 := Li (L2.out.up (al1 v11 (.cells #[.int .i64 0, .int .i64 0, .int .i64 0, .int .i64 0, .slice none 0 0, .string ⟨#[]⟩, .slice none 0 0] 25)))
              refine hK.out _ _ (L2) (fun hHeld => ?_)
              clear hK KK
              try simp only [pnz]
              generalize v11.alloc (.cells #[.int .i64 0, .int .i64 0, .int .i64 0, .int .i64 0, .slice none 0 0, .string ⟨#[]⟩, .slice none 0 0] 25) = v10 at *
              refine rd1 9 fun KK hK => ?_
              go_simp
              go_at_call 15
              refine (between_any id (-9223372036854775808) hi _).mono ?_
              rintro e v9 ⟨rfl, hb⟩
              replace K11 := Li (K11.out.up hb)
              replace K10 := Li (K10.out.up hb)
              replace L2 := Li (L2.out.up hb)
              clear hb
              go_wp2_with fail
              refine hK.out _ _ (L2) (fun hHeld => ?_)
              clear hK KK
              try simp only [pnz]
              refine rd1 12 fun KK hK => ?_
              refine step_store_cb rfl 25 (.tmp 11) (.tmp 77) rfl (v11.heap.size) [.int .i64 1, .int .i64 id, .int .i64 lo, .int .i64 9223372036854775807, .slice none 0 0, .string ⟨#[]⟩, .slice none 0 0] rfl rfl 25 [.int .i64 0, .int .i64 0, .int .i64 0, .int .i64 0, .slice none 0 0, .string ⟨#[]⟩, .slice none 0 0] 7 K10.out sizePr rfl rfl one_q7 ?_
              intro s12 hc hg hz
              replace K10 := Li hc
              replace K11 := Li (K11.out.grown hg (by intro h; injection h with h; omega))
              replace L2 := Li (L2.out.grown hg (fun g e => by injection e with e; omega))
              clear hc hg hz
              refine hK.out _ _ (L2) (fun hHeld => ?_)
              clear hK KK
              try simp only [pnz]
              refine rd1 13 fun KK hK => ?_
              refine step_store_cb rfl 25 (.tmp 12) (.tmp 82) rfl (v4.heap.size) [.int .i64 1, .int .i64 id, .int .i64 (-9223372036854775808), .int .i64 hi, .slice none 0 0, .string ⟨#[]⟩, .slice none 0 0] rfl rfl 25 [.int .i64 0, .int .i64 0, .int .i64 0, .int .i64 0, .slice none 0 0, .string ⟨#[]⟩, .slice none 0 0] 7 K11.out sizePr rfl rfl one_q7 ?_
              intro s13 hc hg hz
              replace K11 := Li hc
              replace K10 := Li (K10.out.grown hg (by intro h; injection h with h; omega))
              replace L2 := Li (L2.out.grown hg (fun g e => by injection e with e; omega))
              clear hc hg hz
              refine hK.out _ _ (L2) (fun hHeld => ?_)
              clear hK KK
              try simp only [pnz]
              refine wpAnyH_done (by kernel_rfl) ?_ _
              go_wp2_with fail
              go_meet
              exact ⟨_, _, rfl, rfl, K10, K11, L2⟩
        · go_simp
          have q10 : w.heap.size + 1 < X12.heap.size := L2.out.br.lt
          have K10 := Li (CB.new X12 25 [.int .i64 0, .int .i64 0, .int .i64 0, .int .i64 0, .slice none 0 0, .string ⟨#[]⟩, .slice none 0 0])
          replace L2 := Li (L2.out.up (al1 X12 (.cells #[.int .i64 0, .int .i64 0, .int .i64 0, .int .i64 0, .slice none 0 0, .string ⟨#[]⟩, .slice none 0 0] 25)))
          refine hK.out _ _ (L2) (fun hHeld => ?_)
          clear hK KK
          try simp only [pnz]
          generalize X12.alloc (.cells #[.int .i64 0, .int .i64 0, .int .i64 0, .int .i64 0, .slice none 0 0, .string ⟨#[]⟩, .slice none 0 0] 25) = v10 at *
          refine rd2 4 11 (fun KK hK => ?_) (fun KK hK => ?_)
          · go_simp
            go_at_call 15
            refine (between_any id lo 9223372036854775807 _).mono ?_
            rintro e v4 ⟨rfl, hb⟩
            replace K10 := Li (K10.out.up hb)
            replace L2 := Li (L2.out.up hb)
            clear hb
            go_wp2_with fail
            refine hK.out _ _ (L2) (fun hHeld => ?_)
            clear hK KK
            try simp only [pnz]
            refine rd2 9 11 (fun KK hK => ?_) (fun KK hK => ?_)
            · go_simp
              go_at_call 15
              refine (between_any id (-9223372036854775808) hi _).mono ?_
              rintro e v9 ⟨rfl, hb⟩
              replace K10 := Li (K10.out.up hb)
              replace L2 := Li (L2.out.up hb)
              clear hb
              go_wp2_with fail
              refine hK.out _ _ (L2) (fun hHeld => ?_)
              clear hK KK
              try simp only [pnz]
              refine rd1 11 fun KK hK => ?_
              go_simp
              have q11 : w.heap.size + 1 < v9.heap.size := L2.out.br.lt
              have q1011 : X12.heap.size < v9.heap.size := K10.out.lt
              have K11 := Li (CB.new v9 25 [.int .i64 0, .int .i64 0, .int .i64 0, .int .i64 0, .slice none 0 0, .string ⟨#[]⟩, .slice none 0 0])
              replace K10 := Li (K10.out.alloc (.cells #[.int .i64 0, .int .i64 0, .int .i64 0, .int .i64 0, .slice none 0 0, .string ⟨#[]⟩, .slice none 0 0] 25))
              replace L2 := Li (L2.out.up (al1 v9 (.cells #[.int .i64 0, .int .i64 0, .int .i64 0, .int .i64 0, .slice none 0 0, .string ⟨#[]⟩, .slice none 0 0] 25)))
              refine hK.out _ _ (L2) (fun hHeld => ?_)
              clear hK KK
              try simp only [pnz]
              generalize v9.alloc (.cells #[.int .i64 0, .int .i64 0, .int .i64 0, .int .i64 0, .slice none 0 0, .string ⟨#[]⟩, .slice none 0 0] 25) = v11 at *
              refine rd1 12 fun KK hK => ?_
              refine step_store_cb rfl 25 (.tmp 11) (.tmp 77) rfl (X12.heap.size) [.int .i64 1, .int .i64 id, .int .i64 lo, .int .i64 9223372036854775807, .slice none 0 0, .string ⟨#[]⟩, .slice none 0 0] rfl rfl 25 [.int .i64 0, .int .i64 0, .int .i64 0, .int .i64 0, .slice none 0 0, .string ⟨#[]⟩, .slice none 0 0] 7 K10.out sizePr rfl rfl one_q7 ?_
              intro s12 hc hg hz
              replace K10 := Li hc
              replace K11 := Li (K11.out.grown hg (by intro h; injection h with h; omega))
              replace L2 := Li (L2.out.grown hg (fun g e => by injection e with e; omega))
              clear hc hg hz
              refine hK.out _ _ (L2) (fun hHeld => ?_)
              clear hK KK
              try simp only [pnz]
              refine rd1 13 fun KK hK => ?_
              refine step_store_cb rfl 25 (.tmp 12) (.tmp 82) rfl (v9.heap.size) [.int .i64 1, .int .i64 id, .int .i64 (-9223372036854775808), .int .i64 hi, .slice none 0 0, .string ⟨#[]⟩, .slice none 0 0] rfl rfl 25 [.int .i64 0, .int .i64 0, .int .i64 0, .int .i64 0, .slice none 0 0, .string ⟨#[]⟩, .slice none 0 0] 7 K11.out sizePr rfl rfl one_q7 ?_
              intro s13 hc hg hz
              replace K11 := Li hc
              replace K10 := Li (K10.out.grown hg (by intro h; injection h with h; omega))
              replace L2 := Li (L2.out.grown hg (fun g e => by injection e with e; omega))
              clear hc hg hz
              refine hK.out _ _ (L2) (fun hHeld => ?_)
              clear hK KK
              try simp only [pnz]
              refine wpAnyH_done (by kernel_rfl) ?_ _
              go_wp2_with fail
              go_meet
              exact ⟨_, _, rfl, rfl, K10, K11, L2⟩
            · go_simp
              have q11 : w.heap.size + 1 < v4.heap.size := L2.out.br.lt
              have q1011 : X12.heap.size < v4.heap.size := K10.out.lt
              have K11 := Li (CB.new v4 25 [.int .i64 0, .int .i64 0, .int .i64 0, .int .i64 0, .slice none 0 0, .string ⟨#[]⟩, .slice none 0 0])
              replace K10 := Li (K10.out.alloc (.cells #[.int .i64 0, .int .i64 0, .int .i64 0, .int .i64 0, .slice none 0 0, .string ⟨#[]⟩, .slice none 0 0] 25))
              replace L2 := Li (L2.out.up (al1 v4 (.cells #[.int .i64 0, .int .i64 0, .int .i64 0, .int .i64 0, .slice none 0 0, .string ⟨#[]⟩, .slice none 0 0] 25)))
              refine hK.out _ _ (L2) (fun hHeld => ?_)
              clear hK KK
              try simp only [pnz]
              generalize v4.alloc (.cells #[.int .i64 0, .int .i64 0, .int .i64 0, .int .i64 0, .slice none 0 0, .string ⟨#[]⟩, .slice none 0 0] 25) = v11 at *
              refine rd1 9 fun KK hK => ?_
              go_simp
              go_at_call 15
              refine (between_any id (-9223372036854775808) hi _).mono ?_
              rintro e v9 ⟨rfl, hb⟩
              replace K10 := Li (K10.out.up hb)
              replace K11 := Li (K11.out.up hb)
              replace L2 := Li (L2.out.up hb)
              clear hb
              go_wp2_with fail
              refine hK.out _ _ (L2) (fun hHeld => ?_)
              clear hK KK
              try simp only [pnz]
              refine rd1 12 fun KK hK => ?_
              refine step_store_cb rfl 25 (.tmp 11) (.tmp 77) rfl (X12.heap.size) [.int .i64 1, .int .i64 id, .int .i64 lo, .int .i64 9223372036854775807, .slice none 0 0, .string ⟨#[]⟩, .slice none 0 0] rfl rfl 25 [.int .i64 0, .int .i64 0, .int .i64 0, .int .i64 0, .slice none 0 0, .string ⟨#[]⟩, .slice none 0 0] 7 K10.out sizePr rfl rfl one_q7 ?_
              intro s12 hc hg hz
              replace K10 := Li hc
              replace K11 := Li (K11.out.grown hg (by intro h; injection h with h; omega))
              replace L2 := Li (L2.out.grown hg (fun g e => by injection e with e; omega))
              clear hc hg hz
              refine hK.out _ _ (L2) (fun hHeld => ?_)
              clear hK KK
              try simp only [pnz]
              refine rd1 13 fun KK hK => ?_
              refine step_store_cb rfl 25 (.tmp 12) (.tmp 82) rfl (v4.heap.size) [.int .i64 1, .int .i64 id, .int .i64 (-9223372036854775808), .int .i64 hi, .slice none 0 0, .string ⟨#[]⟩, .slice none 0 0] rfl rfl 25 [.int .i64 0, .int .i64 0, .int .i64 0, .int .i64 0, .slice none 0 0, .string ⟨#[]⟩, .slice none 0 0] 7 K11.out sizePr rfl rfl one_q7 ?_
              intro s13 hc hg hz
              replace K11 := Li hc
              replace K10 := Li (K10.out.grown hg (by intro h; injection h with h; omega))
              replace L2 := Li (L2.out.grown hg (fun g e => by injection e with e; omega))
              clear hc hg hz
              refine hK.out _ _ (L2) (fun hHeld => ?_)
              clear hK KK
              try simp only [pnz]
              refine wpAnyH_done (by kernel_rfl) ?_ _
              go_wp2_with fail
              go_meet
              exact ⟨_, _, rfl, rfl, K10, K11, L2⟩
          · go_simp
            have q11 : w.heap.size + 1 < v10.heap.size := L2.out.br.lt
            have q1011 : X12.heap.size < v10.heap.size := K10.out.lt
            have K11 := Li (CB.new v10 25 [.int .i64 0, .int .i64 0, .int .i64 0, .int .i64 0, .slice none 0 0, .string ⟨#[]⟩, .slice none 0 0])
            replace K10 := Li (K10.out.alloc (.cells #[.int .i64 0, .int .i64 0, .int .i64 0, .int .i64 0, .slice none 0 0, .string ⟨#[]⟩, .slice none 0 0] 25))
            replace L2 := Li (L2.out.up (al1 v10 (.cells #[.int .i64 0, .int .i64 0, .int .i64 0, .int .i64 0, .slice none 0 0, .string ⟨#[]⟩, .slice none 0 0] 25)))
            refine hK.out _ _ (L2) (fun hHeld => ?_)
            clear hK KK
            try simp only [pnz]
            generalize v10.alloc (.cells #[.int .i64 0, .int .i64 0, .int .i64 0, .int .i64 0, .slice none 0 0, .string ⟨#[]⟩, .slice none 0 0] 25) = v11 at *
            refine rd1 4 fun KK hK => ?_
            go_simp
            go_at_call 15
            refine (between_any id lo 9223372036854775807 _).mono ?_
            rintro e v4 ⟨rfl, hb⟩
            replace K10 := Li (K10.out.up hb)
            replace K11 := Li (K11.out.up hb)
            replace L2 := Li (L2.out.up hb)
            clear hb
            go_wp2_with fail
            refine hK.out _ _ (L2) (fun hHeld => ?_)
            clear hK KK
            try simp only [pnz]
            refine rd1 9 fun KK hK => ?_
            go_simp
            go_at_call 15
            refine (between_any id (-9223372036854775808) hi _).mono ?_
            rintro e v9 ⟨rfl, hb⟩
            replace K10 := Li (K10.out.up hb)
            replace K11 := Li (K11.out.up hb)
            replace L2 := Li (L2.out.up hb)
            clear hb
            go_wp2_with fail
            refine hK.out _ _ (L2) (fun hHeld => ?_)
            clear hK KK
            try simp only [pnz]
            refine rd1 12 fun KK hK => ?_
            refine step_store_cb rfl 25 (.tmp 11) (.tmp 77) rfl (X12.heap.size) [.int .i64 1, .int .i64 id, .int .i64 lo, .int .i64 9223372036854775807, .slice none 0 0, .string ⟨#[]⟩, .slice none 0 0] rfl rfl 25 [.int .i64 0, .int .i64 0, .int .i64 0, .int .i64 0, .slice none 0 0, .string ⟨#[]⟩, .slice none 0 0] 7 K10.out sizePr rfl rfl one_q7 ?_
            intro s12 hc hg hz
            replace K10 := Li hc
            replace K11 := Li (K11.out.grown hg (by intro h; injection h with h; omega))
            replace L2 := Li (L2.out.grown hg (fun g e => by injection e with e; omega))
            clear hc hg hz
            refine hK.out _ _ (L2) (fun hHeld => ?_)
            clear hK KK
            try simp only [pnz]
            refine rd1 13 fun KK hK => ?_
            refine step_store_cb rfl 25 (.tmp 12) (.tmp 82) rfl (v10.heap.size) [.int .i64 1, .int .i64 id, .int .i64 (-9223372036854775808), .int .i64 hi, .slice none 0 0, .string ⟨#[]⟩, .slice none 0 0] rfl rfl 25 [.int .i64 0, .int .i64 0, .int .i64 0, .int .i64 0, .slice none 0 0, .string ⟨#[]⟩, .slice none 0 0] 7 K11.out sizePr rfl rfl one_q7 ?_
            intro s13 hc hg hz
            replace K11 := Li hc
            replace K10 := Li (K10.out.grown hg (by intro h; injection h with h; omega))
            replace L2 := Li (L2.out.grown hg (fun g e => by injection e with e; omega))
            clear hc hg hz
            refine hK.out _ _ (L2) (fun hHeld => ?_)
            clear hK KK
            try simp only [pnz]
            refine wpAnyH_done (by kernel_rfl) ?_ _
            go_wp2_with fail
            go_meet
            exact ⟨_, _, rfl, rfl, K10, K11, L2⟩
        · go_simp
          have q11 : w.heap.size + 1 < X12.heap.size := L2.out.br.lt
          have K11 := Li (CB.new X12 25 [.int .i64 0, .int .i64 0, .int .i64 0, .int .i64 0, .slice none 0 0, .string ⟨#[]⟩, .slice none 0 0])
          replace L2 := Li (L2.out.up (al1 X12 (.cells #[.int .i64 0, .int .i64 0, .int .i64 0, .int .i64 0, .slice none 0 0, .string ⟨#[]⟩, .slice none 0 0] 25)))
          refine hK.out _ _ (L2) (fun hHeld => ?_)
          clear hK KK
          try simp only [pnz]
          generalize X12.alloc (.cells #[.int .i64 0, .int .i64 0, .int .i64 0, .int .i64 0, .slice none 0 0, .string ⟨#[]⟩, .slice none 0 0] 25) = v11 at *
          refine rd2 4 10 (fun KK hK => ?_) (fun KK hK => ?_)
          · go_simp
            go_at_call 15
            refine (between_any id lo 9223372036854775807 _).mono ?_
            rintro e v4 ⟨rfl, hb⟩
            replace K11 := Li (K11.out.up hb)
            replace L2 := Li (L2.out.up hb)
            clear hb
            go_wp2_with fail
            refine hK.out _ _ (L2) (fun hHeld => ?_)
            clear hK KK
            try simp only [pnz]
            refine rd2 9 10 (fun KK hK => ?_) (fun KK hK => ?_)
            · go_simp
              go_at_call 15
              refine (between_any id (-9223372036854775808) hi _).mono ?_
              rintro e v9 ⟨rfl, hb⟩
              replace K11 := Li (K11.out.up hb)
              replace L2 := Li (L2.out.up hb)
              clear hb
              go_wp2_with fail
              refine hK.out _ _ (L2) (fun hHeld => ?_)
              clear hK KK
              try simp only [pnz]
              refine rd1 10 fun KK hK => ?_
              go_simp
              have q10 : w.heap.size + 1 < v9.heap.size := L2.out.br.lt
              have q1110 : X12.heap.size < v9.heap.size := K11.out.lt
              have K10 := Li (CB.new v9 25 [.int .i64 0, .int .i64 0, .int .i64 0, .int .i64 0, .slice none 0 0, .string ⟨#[]⟩, .slice none 0 0])
              replace K11 := Li (K11.out.alloc (.cells #[.int .i64 0, .int .i64 0, .int .i64 0, .int .i64 0, .slice none 0 0, .string ⟨#[]⟩, .slice none 0 0] 25))
              replace L2 := Li (L2.out.up (al1 v9 (.cells #[.int .i64 0, .int .i64 0, .int .i64 0, .int .i64 0, .slice none 0 0, .string ⟨#[]⟩, .slice none 0 0] 25)))
              refine hK.out _ _ (L2) (fun hHeld => ?_)
              clear hK KK
              try simp only [pnz]
              generalize v9.alloc (.cells #[.int .i64 0, .int .i64 0, .int .i64 0, .int .i64 0, .slice none 0 0, .string ⟨#[]⟩, .slice none 0 0] 25) = v10 at *
              refine rd1 12 fun KK hK => ?_
              refine step_store_cb rfl 25 (.tmp 11) (.tmp 77) rfl (v9.heap.size) [.int .i64 1, .int .i64 id, .int .i64 lo, .int .i64 9223372036854775807, .slice none 0 0, .string ⟨#[]⟩, .slice none 0 0] rfl rfl 25 [.int .i64 0, .int .i64 0, .int .i64 0, .int .i64 0, .slice none 0 0, .string ⟨#[]⟩, .slice none 0 0] 7 K10.out sizePr rfl rfl one_q7 ?_
              intro s12 hc hg hz
              replace K10 := Li hc
              replace K11 := Li (K11.out.grown hg (by intro h; injection h with h; omega))
              replace L2 := Li (L2.out.grown hg (fun g e => by injection e with e; omega))
              clear hc hg hz
              refine hK.out _ _ (L2) (fun hHeld => ?_)
              clear hK KK
              try simp only [pnz]
              refine rd1 13 fun KK hK => ?_
              refine step_store_cb rfl 25 (.tmp 12) (.tmp 82) rfl (X12.heap.size) [.int .i64 1, .int .i64 id, .int .i64 (-9223372036854775808), .int .i64 hi, .slice none 0 0, .string ⟨#[]⟩, .slice none 0 0] rfl rfl 25 [.int .i64 0, .int .i64 0, .int .i64 0, .int .i64 0, .slice none 0 0, .string ⟨#[]⟩, .slice none 0 0] 7 K11.out sizePr rfl rfl one_q7 ?_
              intro s13 hc hg hz
              replace K11 := Li hc
              replace K10 := Li (K10.out.grown hg (by intro h; injection h with h; omega))
              replace L2 := Li (L2.out.grown hg (fun g e => by injection e with e; omega))
              clear hc hg hz
              refine hK.out _ _ (L2) (fun hHeld => ?_)
              clear hK KK
              try simp only [pnz]
              refine wpAnyH_done (by kernel_rfl) ?_ _
              go_wp2_with fail
              go_meet
              exact ⟨_, _, rfl, rfl, K10, K11, L2⟩
            · go_simp
              have q10 : w.heap.size + 1 < v4.heap.size := L2.out.br.lt
              have q1110 : X12.heap.size < v4.heap.size := K11.out.lt
              have K10 := Li (CB.new v4 25 [.int .i64 0, .int .i64 0, .int .i64 0, .int .i64 0, .slice none 0 0, .string ⟨#[]⟩, .slice none 0 0])
              replace K11 := Li (K11.out.alloc (.cells #[.int .i64 0, .int .i64 0, .int .i64 0, .int .i64 0, .slice none 0 0, .string ⟨#[]⟩, .slice none 0 0] 25))
              replace L2 := Li (L2.out.up (al1 v4 (.cells #[.int .i64 0, .int .i64 0, .int .i64 0, .int .i64 0, .slice none 0 0, .string ⟨#[]⟩, .slice none 0 0] 25)))
              refine hK.out _ _ (L2) (fun hHeld => ?_)
              clear hK KK
              try simp only [pnz]
              generalize v4.alloc (.cells #[.int .i64 0, .int .i64 0, .int .i64 0, .int .i64 0, .slice none 0 0, .string ⟨#[]⟩, .slice none 0 0] 25) = v10 at *
              refine rd1 9 fun KK hK => ?_
              go_simp
              go_at_call 15
              refine (between_any id (-9223372036854775808) hi _).mono ?_
              rintro e v9 ⟨rfl, hb⟩
              replace K11 := Li (K11.out.up hb)
              replace K10 := Li (K10.out.up hb)
              replace L2 := Li (L2.out.up hb)
              clear hb
              go_wp2_with fail
              refine hK.out _ _ (L2) (fun hHeld => ?_)
              clear hK KK
              try simp only [pnz]
              refine rd1 12 fun KK hK => ?_
              refine step_store_cb rfl 25 (.tmp 11) (.tmp 77) rfl (v4.heap.size) [.int .i64 1, .int .i64 id, .int .i64 lo, .int .i64 9223372036854775807, .slice none 0 0, .string ⟨#[]⟩, .slice none 0 0] rfl rfl 25 [.int .i64 0, .int .i64 0, .int .i64 0, .int .i64 0, .slice none 0 0, .string ⟨#[]⟩, .slice none 0 0] 7 K10.out sizePr rfl rfl one_q7 ?_
              intro s12 hc hg hz
              replace K10 := Li hc
              replace K11 := Li (K11.out.grown hg (by intro h; injection h with h; omega))
              replace L2 := Li (L2.out.grown hg (fun g e => by injection e with e; omega))
              clear hc hg hz
              refine hK.out _ _ (L2) (fun hHeld => ?_)
              clear hK KK
              try simp only [pnz]
              refine rd1 13 fun KK hK => ?_
              refine step_store_cb rfl 25 (.tmp 12) (.tmp 82) rfl (X12.heap.size) [.int .i64 1, .int .i64 id, .int .i64 (-9223372036854775808), .int .i64 hi, .slice none 0 0, .string ⟨#[]⟩, .slice none 0 0] rfl rfl 25 [.int .i64 0, .int .i64 0, .int .i64 0, .int .i64 0, .slice none 0 0, .string ⟨#[]⟩, .slice none 0 0] 7 K11.out sizePr rfl rfl one_q7 ?_
              intro s13 hc hg hz
              replace K11 := Li hc
              replace K10 := Li (K10.out.grown hg (by intro h; injection h with h; omega))
              replace L2 := Li (L2.out.grown hg (fun g e => by injection e with e; omega))
              clear hc hg hz
              refine hK.out _ _ (L2) (fun hHeld => ?_)
              clear hK KK
              try simp only [pnz]
              refine wpAnyH_done (by kernel_rfl) ?_ _
              go_wp2_with fail
              go_meet
              exact ⟨_, _, rfl, rfl, K10, K11, L2⟩
          · go_simp
            have q10 : w.heap.size + 1 < v11.heap.size := L2.out.br.lt
            have q1110 : X12.heap.size < v11.heap.size := K11.out.lt
            have K10 := Li (CB.new v11 25 [.int .i64 0, .int .i64 0, .int .i64 0, .int .i64 0, .slice none 0 0, .string ⟨#[]⟩, .slice none 0 0])
            replace K11 := Li (K11.out.alloc (.cells #[.int .i64 0, .int .i64 0, .int .i64 0, .int .i64 0, .slice none 0 0, .string ⟨#[]⟩, .slice none 0 0] 25))
            replace L2 := Li (L2.out.up (al1 v11 (.cells #[.int .i64 0, .int .i64 0, .int .i64 0, .int .i64 0, .slice none 0 0, .string ⟨#[]⟩, .slice none 0 0] 25)))
            refine hK.out _ _ (L2) (fun hHeld => ?_)
            clear hK KK
            try simp only [pnz]
            generalize v11.alloc (.cells #[.int .i64 0, .int .i64 0, .int .i64 0, .int .i64 0, .slice none 0 0, .string ⟨#[]⟩, .slice none 0 0] 25) = v10 at *
            refine rd1 4 fun KK hK => ?_
            go_simp
            go_at_call 15
            refine (between_any id lo 9223372036854775807 _).mono ?_
            rintro e v4 ⟨rfl, hb⟩
            replace K11 := Li (K11.out.up hb)
            replace K10 := Li (K10.out.up hb)
            replace L2 := Li (L2.out.up hb)
            clear hb
            go_wp2_with fail
            refine hK.out _ _ (L2) (fun hHeld => ?_)
            clear hK KK
            try simp only [pnz]
            refine rd1 9 fun KK hK => ?_
            go_simp
            go_at_call 15
            refine (between_any id (-9223372036854775808) hi _).mono ?_
            rintro e v9 ⟨rfl, hb⟩
            replace K11 := Li (K11.out.up hb)
            replace K10 := Li (K10.out.up hb)
            replace L2 := Li (L2.out.up hb)
            clear hb
            go_wp2_with fail
            refine hK.out _ _ (L2) (fun hHeld => ?_)
            clear hK KK
            try simp only [pnz]
            refine rd1 12 fun KK hK => ?_
            refine step_store_cb rfl 25 (.tmp 11) (.tmp 77) rfl (v11.heap.size) [.int .i64 1, .int .i64 id, .int .i64 lo, .int .i64 9223372036854775807, .slice none 0 0, .string ⟨#[]⟩, .slice none 0 0] rfl rfl 25 [.int .i64 0, .int .i64 0, .int .i64 0, .int .i64 0, .slice none 0 0, .string ⟨#[]⟩, .slice none 0 0] 7 K10.out sizePr rfl rfl one_q7 ?_
            intro s12 hc hg hz
            replace K10 := Li hc
            replace K11 := Li (K11.out.grown hg (by intro h; injection h with h; omega))
            replace L2 := Li (L2.out.grown hg (fun g e => by injection e with e; omega))
            clear hc hg hz
            refine hK.out _ _ (L2) (fun hHeld => ?_)
            clear hK KK
            try simp only [pnz]
            refine rd1 13 fun KK hK => ?_
            refine step_store_cb rfl 25 (.tmp 12) (.tmp 82) rfl (X12.heap.size) [.int .i64 1, .int .i64 id, .int .i64 (-9223372036854775808), .int .i64 hi, .slice none 0 0, .string ⟨#[]⟩, .slice none 0 0] rfl rfl 25 [.int .i64 0, .int .i64 0, .int .i64 0, .int .i64 0, .slice none 0 0, .string ⟨#[]⟩, .slice none 0 0] 7 K11.out sizePr rfl rfl one_q7 ?_
            intro s13 hc hg hz
            replace K11 := Li hc
            replace K10 := Li (K10.out.grown hg (by intro h; injection h with h; omega))
            replace L2 := Li (L2.out.grown hg (fun g e => by injection e with e; omega))
            clear hc hg hz
            refine hK.out _ _ (L2) (fun hHeld => ?_)
            clear hK KK
            try simp only [pnz]
            refine wpAnyH_done (by kernel_rfl) ?_ _
            go_wp2_with fail
            go_meet
            exact ⟨_, _, rfl, rfl, K10, K11, L2⟩
      case rest =>
      clear L2
      obtain ⟨P, Q, rfl, rfl, KL, KH, L2⟩ := hcut
      generalize wc = V3 at *
      have g7 := L2.out.bp.c7
      have zg := L2.out.bp.lt
      go_upto_region 14 with fail
      clear g7 zg
      have PP := Li (show LC w A n c op id lo hi S ns sc tx K m kc P Q V3.heap.size (V3.alloc (.cells #[.int .i64 3, .int .i64 id, .int .i64 0, .int .i64 0, .slice none 0 0, .string tx, .slice none 0 0] 25)) from ⟨L2.out.up (al1 V3 (.cells #[.int .i64 3, .int .i64 id, .int .i64 0, .int .i64 0, .slice none 0 0, .string tx, .slice none 0 0] 25)), KL.out.alloc _, KH.out.alloc _, CB.new V3 25 [.int .i64 3, .int .i64 id, .int .i64 0, .int .i64 0, .slice none 0 0, .string tx, .slice none 0 0]⟩)
      clear L2 KL KH
      generalize V3.alloc (.cells #[.int .i64 3, .int .i64 id, .int .i64 0, .int .i64 0, .slice none 0 0, .string tx, .slice none 0 0] 25) = V4 at *
      obtain ⟨q, hq9⟩ : ∃ q : Nat, min (tx.size : Int) u = (q : Int) := ⟨(min (tx.size : Int) u).toNat, by omega⟩
      have hql : q ≤ tx.size := by omega
      have hqi : (q : Int) ≤ (tx.size : Int) := by omega
      have hq0 : (0 : Int) ≤ (q : Int) := by omega
      have hwu : IntKind.i64.wrap u = u := by rw [IntKind.wrap_i64]; omega
      replace PP := Li PP.out.dr
      refine wp_region_held_drew (S := fun X => Hid (LC w A n c op id lo hi S ns sc tx K m kc P Q V3.heap.size X)) (by kernel_rfl) PP (fun hHeld => ?_)
      revert hHeld PP
      generalize V4.drew = V5
      intro PP hHeld
      refine htk 0 ?_
      refine htf 1 (fun X h => And.intro h.out.l.bp.c7 h.out.l.bp.lt) ?_
      refine htk 2 ?_
      refine htf 3 (fun X h => And.intro h.out.l.bp.c7 h.out.l.bp.lt) ?_
      refine htk 4 ?_
      refine htf 5 (fun X h => And.intro h.out.l.bp.c7 h.out.l.bp.lt) ?_
      refine htk 6 ?_
      refine htk 7 ?_
      refine htk 8 ?_
      refine htk 9 ?_
      refine htk 10 ?_
      refine htk 11 ?_
      refine rd1 12 fun KK hK => ?_
      go_simp
      have qP := PP.out.a.lt
      have qQ := PP.out.b.lt
      have qG := PP.out.g.lt
      have qR := PP.out.l.br.lt
      have KT := Li (CB.new V5 25 [.int .i64 0, .int .i64 0, .int .i64 0, .int .i64 0, .slice none 0 0, .string ⟨#[]⟩, .slice none 0 0])
      replace PP := Li (PP.out.al (.cells #[.int .i64 0, .int .i64 0, .int .i64 0, .int .i64 0, .slice none 0 0, .string ⟨#[]⟩, .slice none 0 0] 25))
      refine hK.out _ _ (PP) (fun hHeld => ?_)
      clear hK KK
      try simp only [pnz]
      generalize V5.alloc (.cells #[.int .i64 0, .int .i64 0, .int .i64 0, .int .i64 0, .slice none 0 0, .string ⟨#[]⟩, .slice none 0 0] 25) = V6 at *
      refine rd1 13 fun KK hK => ?_
      refine step_store_cb rfl 25 (.tmp 14) (.tmp 99) rfl V5.heap.size [.int .i64 3, .int .i64 id, .int .i64 0, .int .i64 0, .slice none 0 0, .string (tx.extract 0 q), .slice none 0 0] rfl rfl 25 [.int .i64 0, .int .i64 0, .int .i64 0, .int .i64 0, .slice none 0 0, .string ⟨#[]⟩, .slice none 0 0] 7 KT.out sizePr rfl rfl one_q7 ?_
      intro V7 hc hg hz
      replace KT := Li hc
      replace PP := Li (show LC w A n c op id lo hi S ns sc tx K m kc P Q V3.heap.size V7 from ⟨PP.out.l.grown hg (fun g e => by injection e with e; omega), PP.out.a.grown hg (by intro h; injection h with h; omega), PP.out.b.grown hg (by intro h; injection h with h; omega), PP.out.g.grown hg (by intro h; injection h with h; omega)⟩)
      clear hc hg hz
      refine hK.out _ _ (PP) (fun hHeld => ?_)
      clear hK KK
      try simp only [pnz]
      refine wpAnyH_done (by kernel_rfl) ?_ _
      go_upto_region 15 with fail
      obtain ⟨tX, hX⟩ : ∃ t, ev r (preQ id tx) = t := ⟨_, rfl⟩
      obtain ⟨tY, hY⟩ : ∃ t, ev r (preQ id (tx.extract 0 q)) = t := ⟨_, rfl⟩
      have HX := Li hX
      have HY := Li hY
      have HTQ := Li (show ((tx.extract 0 q)).size ≤ 9223372036854775807 by rw [ByteArray.size_extract]; omega)
      have HXY : (tX = 1 ∧ tY = 1) ∨ (tX ≠ 1 ∧ (tX == 2) = (tY == 2)) := by
        rw [← hX, ← hY, ev_pre, ev_pre, ext_take]
        by_cases hb : (getL r id).b = true
        · simp only [if_pos hb]
          exact .inr ⟨by decide, by first | rfl | trivial⟩
        · simp only [if_neg hb]
          cases h : Lib.hasPrefix (getL r id).s.data.toList tx.data.toList with
          | true =>
            rw [has_take h]
            exact .inl ⟨rfl, rfl⟩
          | false =>
            refine .inr ⟨by decide, ?_⟩
            cases Lib.hasPrefix (getL r id).s.data.toList (tx.data.toList.take q) <;> rfl
      replace HXY := Li HXY
      clear hX hY
      replace PP := Li (show LC w A n c op id lo hi S ns sc tx K m kc P Q V3.heap.size V7.drew ∧ CB V7.drew V5.heap.size 25 [.int .i64 3, .int .i64 id, .int .i64 0, .int .i64 0, .slice none 0 0, .string (tx.extract 0 q), .slice none 0 0] from ⟨PP.out.dr, KT.out.dr⟩)
      clear KT
      refine wp_region_held_drew (S := fun X => Hid (LC w A n c op id lo hi S ns sc tx K m kc P Q V3.heap.size X ∧ CB X V5.heap.size 25 [.int .i64 3, .int .i64 id, .int .i64 0, .int .i64 0, .slice none 0 0, .string (tx.extract 0 q), .slice none 0 0])) (by kernel_rfl) PP (fun hHeld => ?_)
      revert hHeld PP
      generalize V7.drew = X15
      intro PP hHeld
      refine htf 0 (fun X h => And.intro h.out.1.g.c7 h.out.1.g.lt) ?_
      refine htf 1 (fun X h => And.intro h.out.1.l.br.c1 h.out.1.l.br.lt) ?_
      refine htf 3 (fun X h => And.intro h.out.2.c7 h.out.2.lt) ?_
      refine htf 4 (fun X h => And.intro h.out.1.l.br.c1 h.out.1.l.br.lt) ?_
      refine rd1 2 fun KK hK => ?_
      go_simp
      go_at_call 13
      refine (HEV.out (preQ id tx) _ tX (preQ_at hid (by omega)) (RowAt.up HS.out PP.out.1.l.d) HX.out).mono ?_
      rintro e v2 ⟨rfl, hb⟩
      replace PP := Li (show LC w A n c op id lo hi S ns sc tx K m kc P Q V3.heap.size v2 ∧ CB v2 V5.heap.size 25 [.int .i64 3, .int .i64 id, .int .i64 0, .int .i64 0, .slice none 0 0, .string (tx.extract 0 q), .slice none 0 0] from ⟨PP.out.1.up hb, PP.out.2.up hb⟩)
      clear hb
      go_wp2_with fail
      refine hK.out _ _ (PP) (fun hHeld => ?_)
      clear hK KK
      try simp only [pnz]
      refine rd1 5 fun KK hK => ?_
      go_simp
      go_at_call 13
      refine (HEV.out (preQ id (tx.extract 0 q)) _ tY (preQ_at hid HTQ.out) (RowAt.up HS.out PP.out.1.l.d) HY.out).mono ?_
      rintro e v5 ⟨rfl, hb⟩
      replace PP := Li (show LC w A n c op id lo hi S ns sc tx K m kc P Q V3.heap.size v5 ∧ CB v5 V5.heap.size 25 [.int .i64 3, .int .i64 id, .int .i64 0, .int .i64 0, .slice none 0 0, .string (tx.extract 0 q), .slice none 0 0] from ⟨PP.out.1.up hb, PP.out.2.up hb⟩)
      clear hb
      go_wp2_with fail
      refine hK.out _ _ (PP) (fun hHeld => ?_)
      clear hK KK
      try simp only [pnz]
      refine htk 6 ?_
      refine htk 7 ?_
      refine wpAnyH_done (by kernel_rfl) ?_ _
      go_upto_region 16 with fail
      have PL := Li PP.out.1.dr
      clear PP
      refine wp_region_held_drew (S := fun X => Hid (LC w A n c op id lo hi S ns sc tx K m kc P Q V3.heap.size X)) (by kernel_rfl) PL (fun hHeld => ?_)
      revert hHeld PL
      generalize v5.drew = X16
      intro PL hHeld
      rcases HXY.out with ⟨rfl, rfl⟩ | ⟨hx1, hxy⟩
      · clear HX HY HXY
        refine htk 0 ?_
        refine htf 1 (fun X h => And.intro h.out.l.bp.c7 h.out.l.bp.lt) ?_
        refine htk 2 ?_
        refine htf 3 (fun X h => And.intro h.out.l.bp.c7 h.out.l.bp.lt) ?_
        refine htk 4 ?_
        refine htf 5 (fun X h => And.intro h.out.l.bp.c7 h.out.l.bp.lt) ?_
        refine htf 7 (fun X h => And.intro h.out.a.c7 h.out.a.lt) ?_
        refine htf 8 (fun X h => And.intro h.out.b.c7 h.out.b.lt) ?_
        refine htf 11 (fun X h => And.intro h.out.l.br.c1 h.out.l.br.lt) ?_
        refine rd2 6 9 (fun KK hK => ?_) (fun KK hK => ?_)
        · go_simp
          go_at_call 15
          refine (between_any id lo hi _).mono ?_
          rintro e v6 ⟨rfl, hb⟩
          replace PL := Li (PL.out.up hb)
          clear hb
          go_wp2_with fail
          refine hK.out _ _ (PL) (fun hHeld => ?_)
          clear hK KK
          try simp only [pnz]
          refine rd1 9 fun KK hK => ?_
          go_simp
          have K9 := Li (CB.new v6 25 [.int .i64 1, .int .i64 id, .int .i64 lo, .int .i64 9223372036854775807, .slice none 0 0, .string ⟨#[]⟩, .slice none 0 0, .int .i64 1, .int .i64 id, .int .i64 (-9223372036854775808), .int .i64 hi, .slice none 0 0, .string ⟨#[]⟩, .slice none 0 0])
          replace PL := Li (PL.out.al (.cells #[.int .i64 1, .int .i64 id, .int .i64 lo, .int .i64 9223372036854775807, .slice none 0 0, .string ⟨#[]⟩, .slice none 0 0, .int .i64 1, .int .i64 id, .int .i64 (-9223372036854775808), .int .i64 hi, .slice none 0 0, .string ⟨#[]⟩, .slice none 0 0] 25))
          refine hK.out _ _ (PL) (fun hHeld => ?_)
          clear hK KK
          try simp only [pnz]
          generalize v6.alloc (.cells #[.int .i64 1, .int .i64 id, .int .i64 lo, .int .i64 9223372036854775807, .slice none 0 0, .string ⟨#[]⟩, .slice none 0 0, .int .i64 1, .int .i64 id, .int .i64 (-9223372036854775808), .int .i64 hi, .slice none 0 0, .string ⟨#[]⟩, .slice none 0 0] 25) = v9 at *
          refine rd1 10 fun KK hK => ?_
          go_simp
          go_at_call 9
          refine (op_any 5 (some ⟨v6.heap.size, 0, none⟩) 2 2 _).mono ?_
          rintro e v10 ⟨rfl, hb⟩
          have N10 := Li (PrAt.up (op_at (n := 2) (o := 5) (ks := [btw id lo 9223372036854775807, btw id (-9223372036854775808) hi]) K9.out rfl rfl (by omega) (two_at (btw_at hid hlo (by unfold I64; omega)) (btw_at hid (by unfold I64; omega) hhi))) hb)
          replace PL := Li (PL.out.up hb)
          clear hb K9
          go_wp2_with fail
          refine hK.out _ _ (PL) (fun hHeld => ?_)
          clear hK KK
          try simp only [pnz]
          refine rd1 12 fun KK hK => ?_
          go_simp
          go_at_call 10
          refine (HEQ.out (btw id lo hi) (mkP 5 (some ⟨v6.heap.size, 0, none⟩) 2 [btw id lo 9223372036854775807, btw id (-9223372036854775808) hi]) _ (btw_at hid hlo hhi) N10.out (RowAt.up HS.out PL.out.l.d) (ev_bounds HR.out id lo hi _)).mono ?_
          rintro e v12 ⟨rfl, hb⟩
          replace PL := Li (PL.out.up hb)
          clear hb N10
          go_wp2_with fail
          refine hK.out _ _ (PL) (fun hHeld => ?_)
          clear hK KK
          try simp only [pnz]
          refine htk 13 ?_
          refine htk 14 ?_
          refine htk 15 ?_
          refine htk 16 ?_
          refine htk 17 ?_
          refine htk 18 ?_
          refine htk 19 ?_
          refine htk 20 ?_
          refine htk 21 ?_
          refine htk 22 ?_
          refine htk 23 ?_
          refine htk 24 ?_
          refine htk 25 ?_
          refine htk 26 ?_
          refine htk 27 ?_
          refine htk 28 ?_
          refine htk 29 ?_
          refine htk 30 ?_
          refine htk 31 ?_
          refine wpAnyH_done (by kernel_rfl) ?_ _
          go_wp2_with fail
          go_ret
          exact ⟨rfl, PL.out.l.d⟩
        · go_simp
          have K9 := Li (CB.new X16 25 [.int .i64 1, .int .i64 id, .int .i64 lo, .int .i64 9223372036854775807, .slice none 0 0, .string ⟨#[]⟩, .slice none 0 0, .int .i64 1, .int .i64 id, .int .i64 (-9223372036854775808), .int .i64 hi, .slice none 0 0, .string ⟨#[]⟩, .slice none 0 0])
          replace PL := Li (PL.out.al (.cells #[.int .i64 1, .int .i64 id, .int .i64 lo, .int .i64 9223372036854775807, .slice none 0 0, .string ⟨#[]⟩, .slice none 0 0, .int .i64 1, .int .i64 id, .int .i64 (-9223372036854775808), .int .i64 hi, .slice none 0 0, .string ⟨#[]⟩, .slice none 0 0] 25))
          refine hK.out _ _ (PL) (fun hHeld => ?_)
          clear hK KK
          try simp only [pnz]
          generalize X16.alloc (.cells #[.int .i64 1, .int .i64 id, .int .i64 lo, .int .i64 9223372036854775807, .slice none 0 0, .string ⟨#[]⟩, .slice none 0 0, .int .i64 1, .int .i64 id, .int .i64 (-9223372036854775808), .int .i64 hi, .slice none 0 0, .string ⟨#[]⟩, .slice none 0 0] 25) = v9 at *
          refine rd1 6 fun KK hK => ?_
          go_simp
          go_at_call 15
          refine (between_any id lo hi _).mono ?_
          rintro e v6 ⟨rfl, hb⟩
          replace K9 := Li (K9.out.up hb)
          replace PL := Li (PL.out.up hb)
          clear hb
          go_wp2_with fail
          refine hK.out _ _ (PL) (fun hHeld => ?_)
          clear hK KK
          try simp only [pnz]
          refine rd1 10 fun KK hK => ?_
          go_simp
          go_at_call 9
          refine (op_any 5 (some ⟨X16.heap.size, 0, none⟩) 2 2 _).mono ?_
          rintro e v10 ⟨rfl, hb⟩
          have N10 := Li (PrAt.up (op_at (n := 2) (o := 5) (ks := [btw id lo 9223372036854775807, btw id (-9223372036854775808) hi]) K9.out rfl rfl (by omega) (two_at (btw_at hid hlo (by unfold I64; omega)) (btw_at hid (by unfold I64; omega) hhi))) hb)
          replace PL := Li (PL.out.up hb)
          clear hb K9
          go_wp2_with fail
          refine hK.out _ _ (PL) (fun hHeld => ?_)
          clear hK KK
          try simp only [pnz]
          refine rd1 12 fun KK hK => ?_
          go_simp
          go_at_call 10
          refine (HEQ.out (btw id lo hi) (mkP 5 (some ⟨X16.heap.size, 0, none⟩) 2 [btw id lo 9223372036854775807, btw id (-9223372036854775808) hi]) _ (btw_at hid hlo hhi) N10.out (RowAt.up HS.out PL.out.l.d) (ev_bounds HR.out id lo hi _)).mono ?_
          rintro e v12 ⟨rfl, hb⟩
          replace PL := Li (PL.out.up hb)
          clear hb N10
          go_wp2_with fail
          refine hK.out _ _ (PL) (fun hHeld => ?_)
          clear hK KK
          try simp only [pnz]
          refine htk 13 ?_
          refine htk 14 ?_
          refine htk 15 ?_
          refine htk 16 ?_
          refine htk 17 ?_
          refine htk 18 ?_
          refine htk 19 ?_
          refine htk 20 ?_
          refine htk 21 ?_
          refine htk 22 ?_
          refine htk 23 ?_
          refine htk 24 ?_
          refine htk 25 ?_
          refine htk 26 ?_
          refine htk 27 ?_
          refine htk 28 ?_
          refine htk 29 ?_
          refine htk 30 ?_
          refine htk 31 ?_
          refine wpAnyH_done (by kernel_rfl) ?_ _
          go_wp2_with fail
          go_ret
          exact ⟨rfl, PL.out.l.d⟩
      · have hx2 : (tX != 1) = true := by simp [hx1]
        obtain ⟨z, hz⟩ : ∃ z, (tX == 2) = z := ⟨_, rfl⟩
        have hz2 : (tY == 2) = z := by rw [← hxy, hz]
        clear HX HY HXY hx1 hxy
        refine htk 0 ?_
        refine htf 1 (fun X h => And.intro h.out.l.bp.c7 h.out.l.bp.lt) ?_
        refine htk 2 ?_
        refine htf 3 (fun X h => And.intro h.out.l.bp.c7 h.out.l.bp.lt) ?_
        refine htk 4 ?_
        refine htf 5 (fun X h => And.intro h.out.l.bp.c7 h.out.l.bp.lt) ?_
        refine htf 7 (fun X h => And.intro h.out.a.c7 h.out.a.lt) ?_
        refine htf 8 (fun X h => And.intro h.out.b.c7 h.out.b.lt) ?_
        refine htf 11 (fun X h => And.intro h.out.l.br.c1 h.out.l.br.lt) ?_
        refine rd2 6 9 (fun KK hK => ?_) (fun KK hK => ?_)
        · go_simp
          go_at_call 15
          refine (between_any id lo hi _).mono ?_
          rintro e v6 ⟨rfl, hb⟩
          replace PL := Li (PL.out.up hb)
          clear hb
          go_wp2_with fail
          refine hK.out _ _ (PL) (fun hHeld => ?_)
          clear hK KK
          try simp only [pnz]
          refine rd1 9 fun KK hK => ?_
          go_simp
          have K9 := Li (CB.new v6 25 [.int .i64 1, .int .i64 id, .int .i64 lo, .int .i64 9223372036854775807, .slice none 0 0, .string ⟨#[]⟩, .slice none 0 0, .int .i64 1, .int .i64 id, .int .i64 (-9223372036854775808), .int .i64 hi, .slice none 0 0, .string ⟨#[]⟩, .slice none 0 0])
          replace PL := Li (PL.out.al (.cells #[.int .i64 1, .int .i64 id, .int .i64 lo, .int .i64 9223372036854775807, .slice none 0 0, .string ⟨#[]⟩, .slice none 0 0, .int .i64 1, .int .i64 id, .int .i64 (-9223372036854775808), .int .i64 hi, .slice none 0 0, .string ⟨#[]⟩, .slice none 0 0] 25))
          refine hK.out _ _ (PL) (fun hHeld => ?_)
          clear hK KK
          try simp only [pnz]
          generalize v6.alloc (.cells #[.int .i64 1, .int .i64 id, .int .i64 lo, .int .i64 9223372036854775807, .slice none 0 0, .string ⟨#[]⟩, .slice none 0 0, .int .i64 1, .int .i64 id, .int .i64 (-9223372036854775808), .int .i64 hi, .slice none 0 0, .string ⟨#[]⟩, .slice none 0 0] 25) = v9 at *
          refine rd1 10 fun KK hK => ?_
          go_simp
          go_at_call 9
          refine (op_any 5 (some ⟨v6.heap.size, 0, none⟩) 2 2 _).mono ?_
          rintro e v10 ⟨rfl, hb⟩
          have N10 := Li (PrAt.up (op_at (n := 2) (o := 5) (ks := [btw id lo 9223372036854775807, btw id (-9223372036854775808) hi]) K9.out rfl rfl (by omega) (two_at (btw_at hid hlo (by unfold I64; omega)) (btw_at hid (by unfold I64; omega) hhi))) hb)
          replace PL := Li (PL.out.up hb)
          clear hb K9
          go_wp2_with fail
          refine hK.out _ _ (PL) (fun hHeld => ?_)
          clear hK KK
          try simp only [pnz]
          refine rd1 12 fun KK hK => ?_
          go_simp
          go_at_call 10
          refine (HEQ.out (btw id lo hi) (mkP 5 (some ⟨v6.heap.size, 0, none⟩) 2 [btw id lo 9223372036854775807, btw id (-9223372036854775808) hi]) _ (btw_at hid hlo hhi) N10.out (RowAt.up HS.out PL.out.l.d) (ev_bounds HR.out id lo hi _)).mono ?_
          rintro e v12 ⟨rfl, hb⟩
          replace PL := Li (PL.out.up hb)
          clear hb N10
          go_wp2_with fail
          refine hK.out _ _ (PL) (fun hHeld => ?_)
          clear hK KK
          try simp only [pnz]
          refine htk 13 ?_
          refine htk 14 ?_
          refine htk 15 ?_
          refine htk 16 ?_
          refine htc 17 (undef) ?_ ?_
          · exact Or.inr ⟨by rfl, rfl⟩
          try simp only [pnz]
          refine htc 18 (undef) ?_ ?_
          · exact Or.inr ⟨by rfl, rfl⟩
          try simp only [pnz]
          refine htk 19 ?_
          refine htk 20 ?_
          refine htk 21 ?_
          refine htk 22 ?_
          refine htk 23 ?_
          refine htk 24 ?_
          refine htk 25 ?_
          refine htk 26 ?_
          refine htk 27 ?_
          refine htk 28 ?_
          refine htk 29 ?_
          refine htk 30 ?_
          refine htk 31 ?_
          refine wpAnyH_done (by kernel_rfl) ?_ _
          go_wp2_with fail
          go_ret
          exact ⟨rfl, PL.out.l.d⟩
        · go_simp
          have K9 := Li (CB.new X16 25 [.int .i64 1, .int .i64 id, .int .i64 lo, .int .i64 9223372036854775807, .slice none 0 0, .string ⟨#[]⟩, .slice none 0 0, .int .i64 1, .int .i64 id, .int .i64 (-9223372036854775808), .int .i64 hi, .slice none 0 0, .string ⟨#[]⟩, .slice none 0 0])
          replace PL := Li (PL.out.al (.cells #[.int .i64 1, .int .i64 id, .int .i64 lo, .int .i64 9223372036854775807, .slice none 0 0, .string ⟨#[]⟩, .slice none 0 0, .int .i64 1, .int .i64 id, .int .i64 (-9223372036854775808), .int .i64 hi, .slice none 0 0, .string ⟨#[]⟩, .slice none 0 0] 25))
          refine hK.out _ _ (PL) (fun hHeld => ?_)
          clear hK KK
          try simp only [pnz]
          generalize X16.alloc (.cells #[.int .i64 1, .int .i64 id, .int .i64 lo, .int .i64 9223372036854775807, .slice none 0 0, .string ⟨#[]⟩, .slice none 0 0, .int .i64 1, .int .i64 id, .int .i64 (-9223372036854775808), .int .i64 hi, .slice none 0 0, .string ⟨#[]⟩, .slice none 0 0] 25) = v9 at *
          refine rd1 6 fun KK hK => ?_
          go_simp
          go_at_call 15
          refine (between_any id lo hi _).mono ?_
          rintro e v6 ⟨rfl, hb⟩
          replace K9 := Li (K9.out.up hb)
          replace PL := Li (PL.out.up hb)
          clear hb
          go_wp2_with fail
          refine hK.out _ _ (PL) (fun hHeld => ?_)
          clear hK KK
          try simp only [pnz]
          refine rd1 10 fun KK hK => ?_
          go_simp
          go_at_call 9
          refine (op_any 5 (some ⟨X16.heap.size, 0, none⟩) 2 2 _).mono ?_
          rintro e v10 ⟨rfl, hb⟩
          have N10 := Li (PrAt.up (op_at (n := 2) (o := 5) (ks := [btw id lo 9223372036854775807, btw id (-9223372036854775808) hi]) K9.out rfl rfl (by omega) (two_at (btw_at hid hlo (by unfold I64; omega)) (btw_at hid (by unfold I64; omega) hhi))) hb)
          replace PL := Li (PL.out.up hb)
          clear hb K9
          go_wp2_with fail
          refine hK.out _ _ (PL) (fun hHeld => ?_)
          clear hK KK
          try simp only [pnz]
          refine rd1 12 fun KK hK => ?_
          go_simp
          go_at_call 10
          refine (HEQ.out (btw id lo hi) (mkP 5 (some ⟨X16.heap.size, 0, none⟩) 2 [btw id lo 9223372036854775807, btw id (-9223372036854775808) hi]) _ (btw_at hid hlo hhi) N10.out (RowAt.up HS.out PL.out.l.d) (ev_bounds HR.out id lo hi _)).mono ?_
          rintro e v12 ⟨rfl, hb⟩
          replace PL := Li (PL.out.up hb)
          clear hb N10
          go_wp2_with fail
          refine hK.out _ _ (PL) (fun hHeld => ?_)
          clear hK KK
          try simp only [pnz]
          refine htk 13 ?_
          refine htk 14 ?_
          refine htk 15 ?_
          refine htk 16 ?_
          refine htc 17 (undef) ?_ ?_
          · exact Or.inr ⟨by rfl, rfl⟩
          try simp only [pnz]
          refine htc 18 (undef) ?_ ?_
          · exact Or.inr ⟨by rfl, rfl⟩
          try simp only [pnz]
          refine htk 19 ?_
          refine htk 20 ?_
          refine htk 21 ?_
          refine htk 22 ?_
          refine htk 23 ?_
          refine htk 24 ?_
          refine htk 25 ?_
          refine htk 26 ?_
          refine htk 27 ?_
          refine htk 28 ?_
          refine htk 29 ?_
          refine htk 30 ?_
          refine htk 31 ?_
          refine wpAnyH_done (by kernel_rfl) ?_ _
          go_wp2_with fail
          go_ret
          exact ⟨rfl, PL.out.l.d⟩
theorem walk (A : Option Addr) (n c : Nat) (r : List Ce) (p : Pr) (b : Nat) (w : World) (hn : n = r.length) (hp : PrAt w w.heap.size p) (hs : Ces w w.heap.size A r) (hr : ∀ x ∈ r, x.v.Fine) (hb : b < 256) :
    Calls Try.prog 6 #[.agg #[.int .i64 p.op, .int .i64 p.id, .int .i64 p.lo, .int .i64 p.hi, .slice p.S p.set.length p.sc, .string p.tx, .slice p.K p.kids.length p.kc], .agg #[.slice A n c], .int .u8 (b : Int)] w fun e w' => e = .returned (.bool true) ∧ Below w.heap.size w w' := by
  obtain ⟨op, id, lo, hi, S, sc, set, tx, K, kc, ks⟩ := p
  show Calls Try.prog 6 #[.agg #[.int .i64 op, .int .i64 id, .int .i64 lo, .int .i64 hi, .slice S set.length sc, .string tx, .slice K ks.length kc], .agg #[.slice A n c], .int .u8 (b : Int)] w _
  by_cases h0 : set.length ≤ 60
  · by_cases h1 : n ≤ 60
    · by_cases h2 : tx.size ≤ 400
      · exact main A n c op id lo hi S set.length sc tx K ks.length kc b w set r hn rfl hp.hsc hp.hsm hp.hs hp.hv hs hr ⟨hp.hf.i0, hp.hf.i1⟩ ⟨hp.hf.l0, hp.hf.l1⟩ ⟨hp.hf.h0, hp.hf.h1⟩ h2 h1 h0 ⟨by omega, by omega⟩ (decide_eq_false (by omega)) (decide_eq_false (by omega)) (decide_eq_false (by omega))
      · exact out2 A n c op id lo hi S set.length sc tx K ks.length kc b w (decide_eq_false (by omega)) (decide_eq_false (by omega)) (decide_eq_true (by omega))
    · exact out1 A n c op id lo hi S set.length sc tx K ks.length kc b w (decide_eq_false (by omega)) (decide_eq_true (by omega))
  · exact out0 A n c op id lo hi S set.length sc tx K ks.length kc b w (decide_eq_true (by omega))
end atm
end Go.Proofs.Ytmbajbionilefaa
