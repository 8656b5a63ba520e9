/-
  The predicates inside a predicate, visited: the program's iterator by a contract.
-/
import Derived.Test.YtkeneoinfegodaaEvl
import Derived.RangeFuncNested
import Derived.RangeFuncBound
import Derived.RangeFuncCalls
import Derived.RangeFuncLeaves
import Derived.Shelf.Abstract
import Derived.Shelf.RegionOpen
import Derived.OwnWalkIn
import Derived.TacticsInMore
import Derived.LoopNIn
import Derived.LoopIn
namespace Go.Proofs.Ytkeneoinfegodaa
open Go.RowKit Go.Shelf
attribute [local go_sem] Oper.semAt_some

mutual
/-- a predicate and those inside it with their levels, each before its Kids -/
def preO (lv : Int) : Pr → List (Int × Pr)
  | .mk o i l h S sc s t K kc ks => (lv, .mk o i l h S sc s t K kc ks) :: preOs (lv + 1) ks
def preOs (lv : Int) : List Pr → List (Int × Pr)
  | [] => []
  | k :: ks => preO lv k ++ preOs lv ks
end
theorem preO_eq (lv : Int) (p : Pr) : preO lv p = (lv, p) :: preOs (lv + 1) p.kids := by
  cases p
  rw [preO]
  rfl
theorem preOs_app (lv : Int) : ∀ (a b : List Pr), preOs lv (a ++ b) = preOs lv a ++ preOs lv b
  | [], b => by rw [preOs]; rfl
  | k :: a, b => by rw [List.cons_append, preOs, preOs, preOs_app lv a b, List.append_assoc]
theorem preOs_take (lv : Int) {ks : List Pr} {k : Nat} {q : Pr} (h : ks[k]? = some q) : preOs lv (ks.take (k + 1)) = preOs lv (ks.take k) ++ preO lv q := by
  rw [List.take_add_one, h, preOs_app]
  congr 1
  show preOs lv [q] = _
  rw [preOs, preOs, List.append_nil]
theorem preOs_pre (lv : Int) (ks : List Pr) (k : Nat) : preOs lv (ks.take k) <+: preOs lv ks := ⟨preOs lv (ks.drop k), by rw [← preOs_app, List.take_append_drop]⟩
mutual
/-- how deep a predicate is -/
def dep : Pr → Nat
  | .mk _ _ _ _ _ _ _ _ _ _ ks => deps ks + 1
def deps : List Pr → Nat
  | [] => 0
  | k :: ks => max (dep k) (deps ks)
end
theorem dep_eq (p : Pr) : dep p = deps p.kids + 1 := by
  cases p
  rw [dep]
  rfl
theorem dep_le : ∀ {ks : List Pr} {q : Pr}, q ∈ ks → dep q ≤ deps ks
  | k :: ks, q, h => by
    rw [deps]
    rcases List.mem_cons.1 h with rfl | h
    · omega
    · have := dep_le h
      omega
def encP (x : Int × Pr) : Array Value := #[.int .i64 x.1, .agg #[.int .i64 x.2.op, .int .i64 x.2.id, .int .i64 x.2.lo, .int .i64 x.2.hi, .slice x.2.S x.2.set.length x.2.sc, .string x.2.tx, .slice x.2.K x.2.kids.length x.2.kc]]
/-- what a round keeps: what lies below n₀, and the boxes of predicates -/
structure KV (n₀ : Nat) (W W' : World) : Prop where
  low : Below n₀ W W'
  box : ∀ g l, CB W g 25 l → CB W' g 25 l
theorem KV.refl (n₀ : Nat) (W : World) : KV n₀ W W := ⟨Below.refl _ _, fun _ _ h => h⟩
theorem KV.trans {n₀ : Nat} {A B C : World} (h : KV n₀ A B) (k : KV n₀ B C) : KV n₀ A C := ⟨h.low.trans k.low, fun g l x => k.box g l (h.box g l x)⟩
theorem KV.alloc {n₀ : Nat} {W : World} (h : n₀ ≤ W.heap.size) (o : Obj) : KV n₀ W (W.alloc o) := ⟨(Below.refl _ _).alloc h o, fun _ _ x => x.alloc o⟩
theorem KV.of_below {n₀ : Nat} {W W' : World} (h : n₀ ≤ W.heap.size) (hb : Below W.heap.size W W') : KV n₀ W W' := ⟨(Below.refl _ _).trans (hb.mono h), fun _ _ x => x.up hb⟩
theorem KV.put {n₀ : Nat} (W : World) (l : Nat) (o o' : Obj) (hl : n₀ ≤ l) (ho : W.heap[l]? = some o) (hc : o.isCells = false) : KV n₀ W (W.putObj l o') := by
  have hg := grownBy_putObj' W l o'
  refine ⟨(Below.refl _ _).grown hg (Nat.le_of_lt (Nat.lt_of_le_of_lt hl (Array.getElem?_eq_some_iff.1 ho).1)) (fun k e => by cases e; exact hl), fun g q x => x.grown hg (fun e => ?_)⟩
  injection e with e
  subst e
  unfold CB at x
  rw [x] at ho
  cases ho
  cases hc
theorem prefix_mid {α : Type} {a b c q : List α} (h : q <+: b) : a ++ q <+: a ++ (b ++ c) := by
  obtain ⟨t, rfl⟩ := h
  exact ⟨t ++ c, by simp⟩
set_option maxRecDepth 100000 in
set_option maxHeartbeats 4000000 in
theorem visit_in (F : Fence) (hd : F.depth = none) (hf : F.fn 40) (hro : F.round = none) (y n₀ : Nat) (L : List (Int × Pr)) (J Jx : List (Int × Pr) → World → Prop) (hJ : ∀ pre W o, J pre W → J pre (W.alloc o))
    (hY : ∀ m pre x W, J pre W → (pre ++ [x]) <+: L → YieldAt F m Try.prog y (encP x) W fun e W' =>
      (e = .returned (.bool true) ∧ J (pre ++ [x]) W' ∧ KV n₀ W W') ∨ (e = .returned (.bool false) ∧ Jx (pre ++ [x]) W')) : ∀ p : Pr,
    ∀ (n : Nat) (lv : Nat) (pre : List (Int × Pr)) (W : World), PrAt W n₀ p → n₀ ≤ W.heap.size → lv + dep p ≤ 1000000000 → J pre W → (pre ++ preO lv p) <+: L →
      CallsIn F n Try.prog 40 #[.agg #[.int .i64 p.op, .int .i64 p.id, .int .i64 p.lo, .int .i64 p.hi, .slice p.S p.set.length p.sc, .string p.tx, .slice p.K p.kids.length p.kc], .int .i64 lv, .func (.yield y) #[] #[]] W fun e W' =>
        (e = .returned (.bool true) ∧ J (pre ++ preO lv p) W' ∧ KV n₀ W W') ∨ (e = .returned (.bool false) ∧ ∃ q, q <+: preO lv p ∧ Jx (pre ++ q) W') := Pr.induct fun p ih n lv pre W hp hn₀ hdp hJp hN => by
  have hdd : ∀ k : Nat, (F.depth.isSome = true → 1 ≤ k) := fun k h => by rw [hd] at h; cases h
  rw [preO_eq] at hN ⊢
  rw [dep_eq] at hdp
  have HY := Li hY
  have HJ := Li hJ
  have HP := Li hp
  have IH := Li ih
  have hlen : (pre ++ [((lv : Int), p)]) <+: L := List.IsPrefix.trans ⟨preOs ((lv : Int) + 1) p.kids, by simp⟩ hN
  have HN := Li hN
  have K0 := Li (KV.alloc hn₀ (.cells #[.int .i64 p.op, .int .i64 p.id, .int .i64 p.lo, .int .i64 p.hi, .slice p.S p.set.length p.sc, .string p.tx, .slice p.K p.kids.length p.kc] 25))
  have P0 := Li (CB.new W 25 [.int .i64 p.op, .int .i64 p.id, .int .i64 p.lo, .int .i64 p.hi, .slice p.S p.set.length p.sc, .string p.tx, .slice p.K p.kids.length p.kc])
  obtain ⟨fn, tmps, assign, body, hy, hR⟩ := YieldAt.mono (hY (n - 1) pre ((lv : Int), p) (W.alloc (.cells #[.int .i64 p.op, .int .i64 p.id, .int .i64 p.lo, .int .i64 p.hi, .slice p.S p.set.length p.sc, .string p.tx, .slice p.K p.kids.length p.kc] 25)) (hJ _ _ _ hJp) hlen) (fun e W3 (h : (e = .returned (.bool true) ∧ J (pre ++ [((lv : Int), p)]) W3 ∧ KV n₀ _ W3) ∨ (e = .returned (.bool false) ∧ Jx (pre ++ [((lv : Int), p)]) W3)) => show (e = .returned (.bool true) ∧ J (pre ++ [((lv : Int), p)]) W3 ∧ KV n₀ W W3 ∧ W3.cell? ⟨W.heap.size, 6, none⟩ = some (.slice p.K p.kids.length p.kc) ∧ W.heap.size < W3.heap.size) ∨ (e = .returned (.bool false) ∧ Jx (pre ++ [((lv : Int), p)]) W3) from h.elim (fun ⟨h1, h2, h3⟩ => .inl ⟨h1, h2, K0.out.trans h3, (h3.box _ _ P0.out).cell 6 rfl, (h3.box _ _ P0.out).lt⟩) .inr)
  simp only [encP] at hy
  have hkm : p.kids.length ≤ 9223372036854775807 := Nat.le_trans hp.hkc hp.hkm
  have HDP := Li hdp
  have hlv : lv ≤ 1000000000 := by omega
  clear hY hJ hp ih hN hlen hdp
  refine callsIn_of_wp Try.func40 rfl hf ?_ hro
  simp only [Try.ntmps40, List.size_toArray, List.length_cons, List.length_nil, Nat.reduceAdd, Nat.reduceSub, Array.replicate_succ, Array.replicate_zero, List.push_toArray, List.append_toArray, List.nil_append, List.cons_append]
  gi_wp2_with ((try refine ⟨hdd _, ?_⟩); refine hR.mono ?_; clear hR; rintro e W3 (⟨rfl, hJ3, hk3, p36, zp3⟩ | ⟨rfl, hJx3⟩))
  · have K3 := Li hk3
    have J3 := Li hJ3
    clear hJ3 hk3 hy p36 zp3
    gi_loopw [8, 17] (fun _ j wr => ∃ k : Nat, k ≤ p.kids.length ∧ j = .int .i64 k ∧ Hid (KV n₀ W wr) ∧ Hid (n₀ ≤ wr.heap.size) ∧ Hid (J (pre ++ ((lv : Int), p) :: preOs ((lv : Int) + 1) (p.kids.take k)) wr)) (fun _ j _ => p.kids.length - (intOf j).toNat)
    case atStart => exact ⟨0, by omega, rfl, K3, Li (Nat.le_trans hn₀ K3.out.low.size), Li (by simpa [preOs] using J3.out)⟩
    case round =>
      obtain ⟨k, hk, rfl, KR, ZR, JR⟩ := hrel
      by_cases hlt : k < p.kids.length
      · have i1 : (k : Int) < (p.kids.length : Int) := by omega
        have i0 : (0 : Int) ≤ (k : Int) := by omega
        obtain ⟨q, hq⟩ := getP_of (l := p.kids) (k := k) hlt
        obtain ⟨b, off, hK, hb, c0, c1, c2, c3, c4, c5, c6⟩ := prs_one (HP.out.hk.below KR.out.low) hq
        have zb : b < wr.heap.size := Nat.lt_of_lt_of_le hb ZR.out
        have HQ := Li hq
        have hqm := List.mem_of_getElem? hq
        have hdq := dep_le hqm
        have KA := Li (KV.alloc (n₀ := n₀) (W := wr) ZR.out (.cells #[.int .i64 q.op, .int .i64 q.id, .int .i64 q.lo, .int .i64 q.hi, .slice q.S q.set.length q.sc, .string q.tx, .slice q.K q.kids.length q.kc] 25))
        have ARM := (IH.out q hqm (n - 1) (lv + 1) (pre ++ ((lv : Int), p) :: preOs ((lv : Int) + 1) (p.kids.take k)) (wr.alloc (.cells #[.int .i64 q.op, .int .i64 q.id, .int .i64 q.lo, .int .i64 q.hi, .slice q.S q.set.length q.sc, .string q.tx, .slice q.K q.kids.length q.kc] 25)) (PrAt.bel (KR.out.trans KA.out).low q (HP.out.hp q hqm)) (Nat.le_trans ZR.out KA.out.low.size) (by have := HDP.out; omega) (HJ.out _ _ _ JR.out) (by
          rw [show ((lv + 1 : Nat) : Int) = (lv : Int) + 1 from by omega]
          obtain ⟨t, ht⟩ := preOs_pre ((lv : Int) + 1) p.kids (k + 1)
          rw [preOs_take _ hq] at ht
          exact List.IsPrefix.trans ⟨t, by rw [← ht]; simp⟩ HN.out)).mono (fun e W4 (h : _) => show (e = .returned (.bool true) ∧ J (pre ++ ((lv : Int), p) :: preOs ((lv : Int) + 1) (p.kids.take (k + 1))) W4 ∧ KV n₀ W W4) ∨ (e = .returned (.bool false) ∧ ∃ t, t <+: ((lv : Int), p) :: preOs ((lv : Int) + 1) p.kids ∧ Jx (pre ++ t) W4) from h.elim (fun ⟨h1, h2, h3⟩ => .inl ⟨h1, by
            rw [preOs_take _ hq]
            rw [show ((lv + 1 : Nat) : Int) = (lv : Int) + 1 from by omega] at h2
            simpa [List.append_assoc] using h2, KR.out.trans (KA.out.trans h3)⟩) (fun ⟨h1, t, ht, h2⟩ => .inr ⟨h1, ((lv : Int), p) :: (preOs ((lv : Int) + 1) (p.kids.take k) ++ t), by
            rw [show ((lv + 1 : Nat) : Int) = (lv : Int) + 1 from by omega] at ht
            obtain ⟨u, hu⟩ := preOs_pre ((lv : Int) + 1) p.kids (k + 1)
            rw [preOs_take _ hq] at hu
            rw [← hu]
            obtain ⟨x, hx⟩ := ht
            exact ⟨x ++ u, by rw [← hx]; simp⟩, by simpa [List.append_assoc] using h2⟩))
        rw [show ((lv + 1 : Nat) : Int) = (lv : Int) + 1 from by omega] at ARM
        have HARM := Li ARM
        clear ARM hqm hdq hq
        have hK' : p.K = some ⟨b, off, none⟩ := hK
        rw [hK']
        gi_wp2_with ((try refine ⟨hdd _, ?_⟩); gi_at_call 40; refine HARM.out.mono ?_; rintro e W4 (⟨rfl, hJ4, hk4⟩ | ⟨rfl, t, ht, hx4⟩))
        · have K4 := Li hk4
          have J4 := Li hJ4
          clear hJ4 hk4
          gi_wp2
          go_roundw
          case rel => exact ⟨k + 1, by omega, by go_num, K4, Li (Nat.le_trans hn₀ K4.out.low.size), J4⟩
          case measure => simp [intOf]; omega
        · go_ret
          exact .inr ⟨rfl, t, ht, hx4⟩
      · have i1 : ¬ (k : Int) < (p.kids.length : Int) := by omega
        gi_wp2
        go_ret
        exact .inl ⟨rfl, by have h := JR.out; rw [List.take_of_length_le (by omega)] at h; exact h, KR.out⟩
  · go_ret
    exact .inr ⟨rfl, [((lv : Int), p)], ⟨_, rfl⟩, hJx3⟩
theorem room_none {F : Fence} (hd : F.depth = none) (k : Nat) : F.room k := fun d h => by rw [hd] at h; cases h
theorem round_any {F : Fence} (hd : F.depth = none) {m m' : Nat} {P : Program} {l : Nat} {f : FuncId} {tmps : Array Value} {assign body : Code} {w : World} {R : Ending → World → Prop}
    (h : RoundIn F m P l f tmps assign body w R) : RoundIn F m' P l f tmps assign body w R := ⟨h.1, fun c cs _ => h.2 c cs (room_none hd _)⟩
theorem yield_any {F : Fence} (hd : F.depth = none) {m : Nat} (m' : Nat) {P : Program} {l : Nat} {args : Array Value} {W : World} {R : Ending → World → Prop} (h : YieldAt F m P l args W R) : YieldAt F m' P l args W R := by
  obtain ⟨fn, tmps, assign, body, hy, hR⟩ := h
  exact ⟨fn, tmps, assign, body, hy, round_any hd hR⟩
set_option maxRecDepth 100000 in
set_option maxHeartbeats 2000000 in
theorem all1_in (F : Fence) (hd : F.depth = none) (n : Nat) (hf : F.fn 39) (hv : F.fn 40) (hro : F.round = none) (y Bp n₀ : Nat) (p : Pr) (J Jx : List (Int × Pr) → World → Prop) (hJ : ∀ pre W o, J pre W → J pre (W.alloc o))
    (hY : ∀ pre x W, J pre W → (pre ++ [x]) <+: preO 1 p → YieldAt F (n - 1) Try.prog y (encP x) W fun e W' =>
      (e = .returned (.bool true) ∧ J (pre ++ [x]) W' ∧ KV n₀ W W') ∨ (e = .returned (.bool false) ∧ Jx (pre ++ [x]) W'))
    (W : World) (hB : CB W Bp 25 [.int .i64 p.op, .int .i64 p.id, .int .i64 p.lo, .int .i64 p.hi, .slice p.S p.set.length p.sc, .string p.tx, .slice p.K p.kids.length p.kc]) (hp : PrAt W n₀ p) (hn₀ : n₀ ≤ W.heap.size) (hdp : dep p ≤ 999999999) (h0 : J [] W) :
    CallsIn F n Try.prog 39 #[.func (.yield y) #[] #[], .pointer (some ⟨Bp, 0, none⟩)] W fun e W' => (∃ v, e = .returned v) ∧
      ((∃ ys, ys = preO 1 p ∧ J ys W') ∨ (∃ pre, pre <+: preO 1 p ∧ Jx pre W')) := by
  have hdd : ∀ k : Nat, (F.depth.isSome = true → 1 ≤ k) := fun k h => by rw [hd] at h; cases h
  have hp' := Li (visit_in F hd hv hro y n₀ (preO 1 p) J Jx hJ (fun m pre x W hj hl => yield_any hd m (hY pre x W hj hl)) p (n - 1) 1 [] W hp hn₀ (by omega) h0 ⟨[], by simp⟩)
  have b0 := hB.c7
  have zb := hB.lt
  clear hY hJ hp hB h0
  refine callsIn_of_wp Try.func39 rfl hf ?_ hro
  simp only [Try.ntmps39, List.size_toArray, List.length_cons, List.length_nil, Nat.reduceAdd, Nat.reduceSub, Array.replicate_succ, Array.replicate_zero, List.push_toArray, List.append_toArray, List.nil_append, List.cons_append]
  gi_wp2_with ((try refine ⟨hdd _, ?_⟩); gi_at_call 40; refine hp'.out.mono ?_; rintro e W1 (⟨rfl, hJ1, _⟩ | ⟨rfl, q, hq, hx⟩))
  · go_end0
    exact ⟨⟨_, rfl⟩, .inl ⟨_, rfl, by simpa using hJ1⟩⟩
  · go_end0
    exact ⟨⟨_, rfl⟩, .inr ⟨q, hq, by simpa using hx⟩⟩
set_option maxHeartbeats 1000000 in
theorem all_in (F : Fence) (n : Nat) (hf : F.fn 25) (hro : F.round = none) (p : Pr) (w : World) :
    CallsIn F n Try.prog 25 #[.agg #[.int .i64 p.op, .int .i64 p.id, .int .i64 p.lo, .int .i64 p.hi, .slice p.S p.set.length p.sc, .string p.tx, .slice p.K p.kids.length p.kc]] w fun e w' => e = .returned (.func (.func 39) #[] #[.pointer (some ⟨w.heap.size, 0, none⟩)]) ∧ w' = w.alloc (.cells #[.int .i64 p.op, .int .i64 p.id, .int .i64 p.lo, .int .i64 p.hi, .slice p.S p.set.length p.sc, .string p.tx, .slice p.K p.kids.length p.kc] 25) := by
  refine callsIn_of_wp Try.func25 rfl hf ?_ hro
  simp only [Try.ntmps25, List.size_toArray, List.length_cons, List.length_nil, Nat.reduceAdd, Nat.reduceSub, Array.replicate_succ, Array.replicate_zero, List.push_toArray, List.append_toArray, List.nil_append, List.cons_append]
  gi_wp2
  go_ret
  exact ⟨rfl, rfl⟩
def encN (L : List (Int × Pr)) (i : Fin L.length) : Array Value := encP (L[i.1])
theorem fin_take {N k : Nat} (h : k < N) : (List.finRange N).take (k + 1) = (List.finRange N).take k ++ [⟨k, h⟩] := by
  rw [List.take_add_one, List.getElem?_eq_getElem (by simpa using h)]
  simp
theorem all_stops (F : Fence) (hd : F.depth = none) (n : Nat) (hf : F.fn 39) (hv : F.fn 40) (hro : F.round = none) (Bp n₀ : Nat) (p : Pr) (L : List (Int × Pr)) (hL : L = preO 1 p) (w : World) (hB : CB w Bp 25 [.int .i64 p.op, .int .i64 p.id, .int .i64 p.lo, .int .i64 p.hi, .slice p.S p.set.length p.sc, .string p.tx, .slice p.K p.kids.length p.kc]) (hn₀ : n₀ ≤ w.heap.size) (hp : PrAt w n₀ p) (hdp : dep p ≤ 999999999) :
    SeqStopsK F n Try.prog 39 #[.pointer (some ⟨Bp, 0, none⟩)] (encN L) (KV n₀) (fun ys => ys = List.finRange L.length) (fun _ => True) L.length w := fun y J Jx W hW hJ hJx hY h0 => by
  subst hL
  obtain ⟨N, hN⟩ : ∃ N, N = (preO 1 p).length := ⟨_, rfl⟩
  refine (all1_in F hd n hf hv hro y Bp n₀ p (fun l X => ∃ k, k ≤ (preO 1 p).length ∧ l = (preO 1 p).take k ∧ J ((List.finRange (preO 1 p).length).take k) X) (fun l X => ∃ q, Jx q X) (fun pre X o ⟨k, h1, h2, h⟩ => ⟨k, h1, h2, hJ _ X (X.alloc o) none h (World.grownBy_alloc X o none) (fun r e => by cases e)⟩) ?_ W (hB.up hW) (PrAt.bel (hW.mono hn₀) p hp) (Nat.le_trans hn₀ hW.size) hdp ⟨0, by omega, rfl, h0⟩).mono ?_
  · rintro pre x X ⟨k, hk, rfl, hj⟩ hpx
    have hlt : k < (preO 1 p).length := by
      obtain ⟨t, ht⟩ := hpx
      have := congrArg List.length ht
      simp only [List.length_append, List.length_take, List.length_cons, List.length_nil] at this
      omega
    have hx : (preO 1 p)[k] = x := by
      obtain ⟨t, ht⟩ := hpx
      have h1 : ((preO 1 p).take k ++ [x] ++ t)[k]? = some x := by
        rw [List.append_assoc, List.getElem?_append_right (by simp [List.length_take]; omega)]
        simp [List.length_take, Nat.min_eq_left hk]
      rw [ht, List.getElem?_eq_getElem hlt] at h1
      exact Option.some.inj h1
    refine YieldAt.mono (show YieldAt F (n - 1) Try.prog y (encP x) X _ from by
      have h := hY ((List.finRange (preO 1 p).length).take k) ⟨k, hlt⟩ X hj (by simp [List.length_take]; omega)
      unfold encN at h
      rw [show (preO 1 p)[(⟨k, hlt⟩ : Fin (preO 1 p).length).1] = x from hx] at h
      exact h) ?_
    rintro e X' (⟨h1, h2, h3⟩ | ⟨h1, h2⟩)
    · refine .inl ⟨h1, ⟨k + 1, by omega, ?_, ?_⟩, h3⟩
      · rw [List.take_add_one, List.getElem?_eq_getElem hlt, hx]
        rfl
      · rw [fin_take hlt]
        exact h2
    · exact .inr ⟨h1, _, h2⟩
  · rintro e X ⟨hv, h⟩
    refine ⟨hv, ?_⟩
    rcases h with ⟨ys, rfl, k, hk, hy, hj⟩ | ⟨pre, _, q, hx⟩
    · have hkn : k = (preO 1 p).length := by
        have := congrArg List.length hy
        simp only [List.length_take] at this
        omega
      refine .inl ⟨_, ?_, hj⟩
      rw [hkn, List.take_of_length_le (by simp)]
    · exact .inr ⟨q, trivial, hx⟩
end Go.Proofs.Ytkeneoinfegodaa
