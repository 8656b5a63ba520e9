/-
  PredMissing, walked: what is known of a row with nulls is so for the row with the values.
-/
import Derived.Test.YtkeneoinfegodaaSanW
import Derived.Test.YtkeneoinfegodaaLoc
import Derived.Test.YtkeneoinfegodaaPla
namespace Go.Proofs.Ytkeneoinfegodaa
open Go.RowKit
theorem rel_snoc {s r : List Ce} {k : Nat} {f g : Ce} (hl : s.length = k) (h : ∀ (j : Nat) (a b : Ce), s[j]? = some a → r[j]? = some b → a = b ∨ (a.id = b.id ∧ a.v = Va.nul)) (hf : r[k]? = some f) (hg : g = f ∨ (g.id = f.id ∧ g.v = Va.nul)) :
    ∀ (j : Nat) (a b : Ce), (s ++ [g])[j]? = some a → r[j]? = some b → a = b ∨ (a.id = b.id ∧ a.v = Va.nul) := fun j a b h1 h2 => by
  by_cases hj : j < s.length
  · rw [List.getElem?_append_left hj] at h1
    exact h j a b h1 h2
  · rw [List.getElem?_append_right (by omega)] at h1
    have hj2 : j = k := by
      have := (List.getElem?_eq_some_iff.1 h1).1
      simp at this
      omega
    subst hj2
    rw [hf] at h2
    cases h2
    rw [hl, Nat.sub_self] at h1
    cases h1
    exact hg
theorem push_c4 {w : World} {ops : Array Oper} {rest : List Oper} {o : Oper} {a : Act} {Q : Exit → Act → World → Prop} (wr : World) (hgd : o.guard = none) (d x : Operand)
    (ho : o.op = .call { callee := .builtin .append, args := #[d, x], argTypes := #[27, 27] }) (base : Nat) (v : Value) (acc : List Ce) (f : Ce) (N n : Nat) (hs : a.eval d = v) (hx : a.eval x = .slice (some ⟨N, 0, none⟩) 1 1) (hN : N = wr.heap.size) (hw : w = wr.alloc (.cells #[.int .i64 f.id, .bool f.v.b, .int .i64 f.v.n, .string f.v.s] 39)) (hn : acc.length = n)
    (hr : Own 39 4 wr base v (acc.map Ce.cells)) (hroom : n ≤ 1000000) (hbase : base ≤ wr.heap.size)
    (hK : ∀ A' c' w', Own 39 4 w' base (.slice A' (n + 1) c') ((acc ++ [f]).map Ce.cells) → wr.grownBy w' v.ownBlock → Below base wr w' → wpList Try.prog ops Q rest (a.put o.dst (.slice A' (n + 1) c')) w') : wpList Try.prog ops Q (o :: rest) a w := by
  subst hn
  refine wpList_push hgd d x ho Try.underlying27 infoCe rfl (by decide) base v (acc.map Ce.cells) f.cells N hs hx hN hw hr rfl (one_ce f) (by rw [List.length_map]; omega) (by decide) hbase ?_
  intro A' c' w' h1 h2 h3
  have e : (acc.map Ce.cells ++ [f.cells]).length = acc.length + 1 := by simp
  rw [e] at h1 ⊢
  exact hK A' c' w' (by simpa using h1) h2 h3
namespace mis
/-- the law's boxes -/
structure LB (w : World) (A : Option Addr) (n c : Nat) (p : Pr) (X : World) : Prop where
  bp : CB X w.heap.size 25 [.int .i64 p.op, .int .i64 p.id, .int .i64 p.lo, .int .i64 p.hi, .slice p.S p.set.length p.sc, .string p.tx, .slice p.K p.kids.length p.kc]
  br : CB X (w.heap.size + 1) 29 [.slice A n c]
  d : Below w.heap.size w X
theorem LB.up {w X X' : World} {A : Option Addr} {n c : Nat} {p : Pr} (h : LB w A n c p X) (hb : Below X.heap.size X X') : LB w A n c p X' := ⟨h.bp.up hb, h.br.up hb, below_step h.d h.d.size hb⟩
theorem LB.below {w X X' : World} {A : Option Addr} {n c : Nat} {p : Pr} {B : Nat} (h : LB w A n c p X) (hB : B = X.heap.size) (hb : Below B X X') : LB w A n c p X' := by subst hB; exact h.up hb
theorem LB.new (w : World) (A : Option Addr) (n c : Nat) (p : Pr) : LB w A n c p ((w.alloc (.cells #[.int .i64 p.op, .int .i64 p.id, .int .i64 p.lo, .int .i64 p.hi, .slice p.S p.set.length p.sc, .string p.tx, .slice p.K p.kids.length p.kc] 25)).alloc (.cells #[.slice A n c] 29)) := ⟨(CB.new w _ _).alloc _, CB.new1 w _ _ _, al2 w _ _⟩
set_option maxHeartbeats 8000000 in
set_option maxRecDepth 40000 in
theorem out0 (A : Option Addr) (n c : Nat) (r : List Ce) (p : Pr) (u : Nat) (w : World) (hn : n = r.length) (hp : PrAt w w.heap.size p) (tp : Tame p) (h0 : decide (wt p 300 ≤ 300) = false) : Calls Try.prog 5 #[.agg #[.int .i64 p.op, .int .i64 p.id, .int .i64 p.lo, .int .i64 p.hi, .slice p.S p.set.length p.sc, .string p.tx, .slice p.K p.kids.length p.kc], .agg #[.slice A n c], .int .u64 (u : Int)] w fun e w' => e = .returned (.bool true) ∧ Below w.heap.size w w' := by
  clear hn
  have tk0 : Hid True := Li trivial
  go_enter Try.func5, Try.ntmps5
  go_wp2_with (first | (have tok := tk0; go_at_call 7; refine (sanity_any _).mono ?_; rintro e w1 ⟨rfl, hb⟩; have L1 := Li ((LB.new w A n c p).up hb); have g7 := L1.out.bp.c7; have zg := L1.out.bp.lt; have tk1 : Hid True := Li trivial; clear tok tk0 hb) | (have tok := tk1; go_at_call 8; refine (small_at p 300 false _ (by decide) (by decide) tp h0 (PrAt.up hp L1.out.d)).mono ?_; rintro e w2 ⟨rfl, hb⟩; have L2 := Li (L1.out.up hb); clear g7 zg; have r1 := L2.out.br.c1; have zr := L2.out.br.lt; have g7 := L2.out.bp.c7; have zg := L2.out.bp.lt; have tk2 : Hid True := Li trivial; clear tok tk1 hb))
  go_ret
  exact ⟨rfl, L2.out.d⟩
set_option maxHeartbeats 8000000 in
set_option maxRecDepth 40000 in
theorem out1 (A : Option Addr) (n c : Nat) (r : List Ce) (p : Pr) (u : Nat) (w : World) (hn : n = r.length) (hp : PrAt w w.heap.size p) (tp : Tame p) (h0 : decide (wt p 300 ≤ 300) = true) (h3 : decide ((60 : Int) < (n : Int)) = true) : Calls Try.prog 5 #[.agg #[.int .i64 p.op, .int .i64 p.id, .int .i64 p.lo, .int .i64 p.hi, .slice p.S p.set.length p.sc, .string p.tx, .slice p.K p.kids.length p.kc], .agg #[.slice A n c], .int .u64 (u : Int)] w fun e w' => e = .returned (.bool true) ∧ Below w.heap.size w w' := by
  clear hn
  have tk0 : Hid True := Li trivial
  go_enter Try.func5, Try.ntmps5
  go_wp2_with (first | (have tok := tk0; go_at_call 7; refine (sanity_any _).mono ?_; rintro e w1 ⟨rfl, hb⟩; have L1 := Li ((LB.new w A n c p).up hb); have g7 := L1.out.bp.c7; have zg := L1.out.bp.lt; have tk1 : Hid True := Li trivial; clear tok tk0 hb) | (have tok := tk1; go_at_call 8; refine (small_at p 300 true _ (by decide) (by decide) tp h0 (PrAt.up hp L1.out.d)).mono ?_; rintro e w2 ⟨rfl, hb⟩; have L2 := Li (L1.out.up hb); clear g7 zg; have r1 := L2.out.br.c1; have zr := L2.out.br.lt; have g7 := L2.out.bp.c7; have zg := L2.out.bp.lt; have tk2 : Hid True := Li trivial; clear tok tk1 hb))
  go_ret
  exact ⟨rfl, L2.out.d⟩
set_option maxHeartbeats 40000000 in
set_option maxRecDepth 40000 in
theorem main (A : Option Addr) (n c : Nat) (r : List Ce) (p : Pr) (u : Nat) (w : World) (hn : n = r.length) (hp : PrAt w w.heap.size p) (tp : Tame p) (hs : Ces w w.heap.size A r) (hl : n ≤ 60) (hw : wt p 300 ≤ 300) : Calls Try.prog 5 #[.agg #[.int .i64 p.op, .int .i64 p.id, .int .i64 p.lo, .int .i64 p.hi, .slice p.S p.set.length p.sc, .string p.tx, .slice p.K p.kids.length p.kc], .agg #[.slice A n c], .int .u64 (u : Int)] w fun e w' => e = .returned (.bool true) ∧ Below w.heap.size w w' := by
  have h0 : decide (wt p 300 ≤ 300) = true := decide_eq_true hw
  have HNA := Li (nar_wt p 300 (by omega) hw)
  have HEV := Li (show ∀ (q : Pr) (X : World) (B : Option Addr) (m e : Nat) (s : List Ce) (t : Int), m = s.length → m ≤ 9223372036854775807 → PrAt X X.heap.size q → Ces X X.heap.size B s → ev s q = t → Calls Try.prog 13 #[.agg #[.int .i64 q.op, .int .i64 q.id, .int .i64 q.lo, .int .i64 q.hi, .slice q.S q.set.length q.sc, .string q.tx, .slice q.K q.kids.length q.kc], .agg #[.slice B m e]] X fun e w' => e = .returned (.int .i64 t) ∧ Below X.heap.size X w' from fun q X B m e s t h1 h2 h3 h4 h5 => by
    subst h5
    exact Eval_any B m e s h1 h2 q X h3 h4)
  have HS := Li hs
  have HP := Li hp
  have HNR := Li hn
  have h3 : decide ((60 : Int) < (n : Int)) = false := decide_eq_false (by omega)
  clear hn hs hw
  have tk0 : Hid True := Li trivial
  go_enter Try.func5, Try.ntmps5
  go_wp2_with (first | (have tok := tk0; go_at_call 7; refine (sanity_any _).mono ?_; rintro e w1 ⟨rfl, hb⟩; have L1 := Li ((LB.new w A n c p).up hb); have g7 := L1.out.bp.c7; have zg := L1.out.bp.lt; have tk1 : Hid True := Li trivial; clear tok tk0 hb) | (have tok := tk1; go_at_call 8; refine (small_at p 300 true _ (by decide) (by decide) tp h0 (PrAt.up hp L1.out.d)).mono ?_; rintro e w2 ⟨rfl, hb⟩; have L2 := Li (L1.out.up hb); clear g7 zg; have r1 := L2.out.br.c1; have zr := L2.out.br.lt; have g7 := L2.out.bp.c7; have zg := L2.out.bp.lt; have tk2 : Hid True := Li trivial; clear tok tk1 hb) | (have tok := tk2; go_at_call 14; refine (plain_any p w.heap.size _ L2.out.d.size (PrAt.bel L2.out.d p HP.out) HNA.out).mono ?_; rintro e w3 ⟨q, rfl, hq, hpl, hb⟩; have L3 := Li (L2.out.up hb); have HQ := Li (PrU.to (fun b h => h.1) q hq); have HPL := Li hpl; clear r1 zr g7 zg hq hpl; have tk3 : Hid True := Li trivial; clear tok tk2 hb))
  have BQ := Li ((CB.new w3 25 [.int .i64 q.op, .int .i64 q.id, .int .i64 q.lo, .int .i64 q.hi, .slice q.S q.set.length q.sc, .string q.tx, .slice q.K q.kids.length q.kc]).alloc (.cells #[.slice none 0 0] 29))
  have O := Li (CB.new1 w3 (.cells #[.int .i64 q.op, .int .i64 q.id, .int .i64 q.lo, .int .i64 q.hi, .slice q.S q.set.length q.sc, .string q.tx, .slice q.K q.kids.length q.kc] 25) 29 [.slice none 0 0])
  have BB := Li ((al1 w3 (.cells #[.int .i64 q.op, .int .i64 q.id, .int .i64 q.lo, .int .i64 q.hi, .slice q.S q.set.length q.sc, .string q.tx, .slice q.K q.kids.length q.kc] 25)).alloc (by simp) (.cells #[.slice none 0 0] 29))
  have OWN := Li (Own.nil 39 4 ((w3.alloc (.cells #[.int .i64 q.op, .int .i64 q.id, .int .i64 q.lo, .int .i64 q.hi, .slice q.S q.set.length q.sc, .string q.tx, .slice q.K q.kids.length q.kc] 25)).alloc (.cells #[.slice none 0 0] 29)) (w3.heap.size + 1 + 1))
  clear h0 tp hp h3 tk3 L1 L2
  generalize (w3.alloc (.cells #[.int .i64 q.op, .int .i64 q.id, .int .i64 q.lo, .int .i64 q.hi, .slice q.S q.set.length q.sc, .string q.tx, .slice q.K q.kids.length q.kc] 25)).alloc (.cells #[.slice none 0 0] 29) = V0 at *
  go_loopw [10] (fun i wr => ∃ (k : Nat) (A' : Option Addr) (c' : Nat) (s : List Ce), k ≤ n ∧ i = .int .i64 k ∧ Hid (s.length = k) ∧ Hid (∀ (j : Nat) (a b : Ce), s[j]? = some a → r[j]? = some b → a = b ∨ (a.id = b.id ∧ a.v = Va.nul)) ∧ Hid (CB wr w3.heap.size 25 [.int .i64 q.op, .int .i64 q.id, .int .i64 q.lo, .int .i64 q.hi, .slice q.S q.set.length q.sc, .string q.tx, .slice q.K q.kids.length q.kc]) ∧ Hid (CB wr (w3.heap.size + 1) 29 [.slice A' k c']) ∧ Hid (Own 39 4 wr (w3.heap.size + 1 + 1) (.slice A' k c') (s.map Ce.cells)) ∧ Hid (Below w3.heap.size w3 wr)) (fun i _ => n - (intOf i).toNat)
  case atStart => exact ⟨0, none, 0, [], by omega, rfl, Li rfl, Li (fun j a b h => by simp at h), BQ, O, OWN, BB⟩
  case round =>
    clear BQ O OWN BB
    obtain ⟨k, A', c', s, hk, rfl, HSL, HRE, BQ, O, OWN, BB⟩ := hrel
    generalize wr = W1 at *
    have r1 := (L3.out.below rfl BB.out).br.c1
    have zr := (L3.out.below rfl BB.out).br.lt
    by_cases hlt : k < n
    · have j1 : (k : Int) < (n : Int) := by omega
      obtain ⟨f, hf⟩ := getE_of (l := r) (k := k) (by rw [← HNR.out]; exact hlt)
      have HF := Li hf
      clear hf
      obtain ⟨br, offr, rfl, hbr, d0, d1, d2, d3⟩ := (show Ces W1 w.heap.size A r from RowAt.below HS.out (L3.out.below rfl BB.out).d).one HF.out
      have zbr : br < W1.heap.size := Nat.lt_of_lt_of_le hbr (L3.out.below rfl BB.out).d.size
      have c1 := O.out.c1
      have zo := O.out.lt
      have zo2 : w3.heap.size + 1 < W1.heap.size + 1 := by omega
      have hwk : IntKind.u64.wrap (k : Int) = (k : Int) := by rw [IntKind.wrap_u64]; omega
      clear hbr
      go_wp2_with (first | (at_builtin; refine push_c4 (W1.alloc (.cells #[.int .i64 f.id, .bool true, .int .i64 0, .string ⟨#[]⟩] 39)) rfl (.tmp 48) (.tmp 50) rfl (w3.heap.size + 1 + 1) (.slice A' k c') s ⟨f.id, Va.nul⟩ (W1.heap.size + 1) k rfl rfl (asz _ _).symm rfl HSL.out (OWN.out.alloc (.cells #[.int .i64 f.id, .bool true, .int .i64 0, .string ⟨#[]⟩] 39)) (by omega) (by have := O.out.lt; rw [asz]; omega) ?_; intro A8 c8 w8 ho hg hb; have HF8 := Li (show f = f ∧ True from ⟨rfl, trivial⟩); have F8 : Hid ((⟨f.id, Va.nul⟩ : Ce) = f ∨ ((⟨f.id, Va.nul⟩ : Ce).id = f.id ∧ (⟨f.id, Va.nul⟩ : Ce).v = Va.nul)) := Li (by first | exact .inl rfl | exact .inr ⟨rfl, rfl⟩); replace BQ := Li ((BQ.out.alloc (.cells #[.int .i64 f.id, .bool true, .int .i64 0, .string ⟨#[]⟩] 39)).grown hg (OWN.out.below_ne (by omega))); replace O := Li ((O.out.alloc (.cells #[.int .i64 f.id, .bool true, .int .i64 0, .string ⟨#[]⟩] 39)).grown hg (OWN.out.below_ne (by omega))); replace BB := Li ((BB.out.alloc BB.out.size (.cells #[.int .i64 f.id, .bool true, .int .i64 0, .string ⟨#[]⟩] 39)).trans (hb.mono (by omega))); replace OWN := Li ho; have y0 := O.out.cell 0 rfl; have y1 := O.out.frozen 0; have zy := O.out.lt; clear ho hg hb HF8) | (at_builtin; refine push_c4 (W1.alloc (.cells #[.int .i64 f.id, .bool f.v.b, .int .i64 f.v.n, .string f.v.s] 39)) rfl (.tmp 48) (.tmp 50) rfl (w3.heap.size + 1 + 1) (.slice A' k c') s f (W1.heap.size + 1) k rfl rfl (asz _ _).symm rfl HSL.out (OWN.out.alloc (.cells #[.int .i64 f.id, .bool f.v.b, .int .i64 f.v.n, .string f.v.s] 39)) (by omega) (by have := O.out.lt; rw [asz]; omega) ?_; intro A8 c8 w8 ho hg hb; have HF8 := Li (show f = f ∧ True from ⟨rfl, trivial⟩); have F8 : Hid ((f : Ce) = f ∨ ((f : Ce).id = f.id ∧ (f : Ce).v = Va.nul)) := Li (by first | exact .inl rfl | exact .inr ⟨rfl, rfl⟩); replace BQ := Li ((BQ.out.alloc (.cells #[.int .i64 f.id, .bool f.v.b, .int .i64 f.v.n, .string f.v.s] 39)).grown hg (OWN.out.below_ne (by omega))); replace O := Li ((O.out.alloc (.cells #[.int .i64 f.id, .bool f.v.b, .int .i64 f.v.n, .string f.v.s] 39)).grown hg (OWN.out.below_ne (by omega))); replace BB := Li ((BB.out.alloc BB.out.size (.cells #[.int .i64 f.id, .bool f.v.b, .int .i64 f.v.n, .string f.v.s] 39)).trans (hb.mono (by omega))); replace OWN := Li ho; have y0 := O.out.cell 0 rfl; have y1 := O.out.frozen 0; have zy := O.out.lt; clear ho hg hb HF8))
      all_goals
        go_roundw
        case rel => first | exact ⟨k + 1, A8, c8, s ++ [f], by omega, by go_num, Li (by rw [List.length_append, HSL.out]; rfl), Li (rel_snoc HSL.out HRE.out HF.out F8.out), Li (BQ.out.set_other (g' := w3.heap.size + 1) 0 _ (by omega)), Li (O.out.set_ 0 _), Li (OWN.out.set_ (g := w3.heap.size + 1) 0 _ (OWN.out.below_ne (by omega))), Li (BB.out.setCell (p := ⟨w3.heap.size + 1, 0, none⟩) (by show w3.heap.size ≤ w3.heap.size + 1; omega) _)⟩ | exact ⟨k + 1, A8, c8, s ++ [⟨f.id, Va.nul⟩], by omega, by go_num, Li (by rw [List.length_append, HSL.out]; rfl), Li (rel_snoc HSL.out HRE.out HF.out F8.out), Li (BQ.out.set_other (g' := w3.heap.size + 1) 0 _ (by omega)), Li (O.out.set_ 0 _), Li (OWN.out.set_ (g := w3.heap.size + 1) 0 _ (OWN.out.below_ne (by omega))), Li (BB.out.setCell (p := ⟨w3.heap.size + 1, 0, none⟩) (by show w3.heap.size ≤ w3.heap.size + 1; omega) _)⟩
        case measure => simp [intOf]; omega
    · have j1 : ¬ (k : Int) < (n : Int) := by omega
      obtain rfl : n = k := by omega
      have HLE := Li (pl_le (less_of (by rw [HSL.out, HNR.out]) HRE.out) HPL.out)
      by_cases h2 : ev s q = 2
      · have H2 := Li h2
        clear h2
        have te1 : Hid True := Li trivial
        have c7 := BQ.out.c7
        have z7 := BQ.out.lt
        have cr := O.out.c1
        have zc := O.out.lt
        go_wp2_with (first | (have tok := te1; go_at_call 13; refine (HEV.out q _ A' n c' s 2 HSL.out.symm (by omega) (PrAt.more BB.out.size q (PrAt.bel BB.out q HQ.out)) OWN.out.row.2.2.2 H2.out).mono ?_; rintro e y1 ⟨rfl, hb⟩; replace BQ := Li (BQ.out.up hb); replace O := Li (O.out.up hb); replace OWN := Li (OWN.out.up hb); replace BB := Li (below_step BB.out BB.out.size hb); clear c7 z7 cr zc; have c7 := BQ.out.c7; have z7 := BQ.out.lt; have cr := (L3.out.below rfl BB.out).br.c1; have zc := (L3.out.below rfl BB.out).br.lt; have te2 : Hid True := Li trivial; clear tok te1 hb))
        go_ret
        exact ⟨rfl, (L3.out.below rfl BB.out).d⟩
      · obtain ⟨t, ht⟩ : ∃ t, ev s q = t := ⟨_, rfl⟩
        rw [ht] at h2
        have e2 : (t == 2) = false := by simp [h2]
        have HT := Li ht
        have HT2 := Li (show ev r q = t from HLE.out.elim (fun h => absurd (ht.symm.trans h) h2) (fun h => h.symm.trans ht))
        clear h2 ht
        have te1 : Hid True := Li trivial
        have c7 := BQ.out.c7
        have z7 := BQ.out.lt
        have cr := O.out.c1
        have zc := O.out.lt
        go_wp2_with (first | (have tok := te1; go_at_call 13; refine (HEV.out q _ A' n c' s t HSL.out.symm (by omega) (PrAt.more BB.out.size q (PrAt.bel BB.out q HQ.out)) OWN.out.row.2.2.2 HT.out).mono ?_; rintro e y1 ⟨rfl, hb⟩; replace BQ := Li (BQ.out.up hb); replace O := Li (O.out.up hb); replace OWN := Li (OWN.out.up hb); replace BB := Li (below_step BB.out BB.out.size hb); clear c7 z7 cr zc; have c7 := BQ.out.c7; have z7 := BQ.out.lt; have cr := (L3.out.below rfl BB.out).br.c1; have zc := (L3.out.below rfl BB.out).br.lt; have te2 : Hid True := Li trivial; clear tok te1 hb) | (have tok := te2; go_at_call 13; refine (HEV.out q _ A n c r t HNR.out (by omega) (PrAt.more BB.out.size q (PrAt.bel BB.out q HQ.out)) (RowAt.up HS.out (L3.out.below rfl BB.out).d) HT2.out).mono ?_; rintro e y2 ⟨rfl, hb⟩; replace BQ := Li (BQ.out.up hb); replace O := Li (O.out.up hb); replace OWN := Li (OWN.out.up hb); replace BB := Li (below_step BB.out BB.out.size hb); clear c7 z7 cr zc; have c7 := BQ.out.c7; have z7 := BQ.out.lt; have cr := (L3.out.below rfl BB.out).br.c1; have zc := (L3.out.below rfl BB.out).br.lt; have te3 : Hid True := Li trivial; clear tok te2 hb))
        go_ret
        exact ⟨rfl, (L3.out.below rfl BB.out).d⟩
theorem walk (A : Option Addr) (n c : Nat) (r : List Ce) (p : Pr) (u : Nat) (w : World) (hn : n = r.length) (hp : PrAt w w.heap.size p) (tp : Tame p) (hs : Ces w w.heap.size A r) (_hu : u < 18446744073709551616) : Calls Try.prog 5 #[.agg #[.int .i64 p.op, .int .i64 p.id, .int .i64 p.lo, .int .i64 p.hi, .slice p.S p.set.length p.sc, .string p.tx, .slice p.K p.kids.length p.kc], .agg #[.slice A n c], .int .u64 (u : Int)] w fun e w' => e = .returned (.bool true) ∧ Below w.heap.size w w' := by
  by_cases h0 : wt p 300 ≤ 300
  · by_cases h3 : n ≤ 60
    · exact main A n c r p u w hn hp tp hs h3 h0
    · exact out1 A n c r p u w hn hp tp (decide_eq_true h0) (decide_eq_true (by omega))
  · exact out0 A n c r p u w hn hp tp (decide_eq_false h0)
end mis
end Go.Proofs.Ytkeneoinfegodaa
