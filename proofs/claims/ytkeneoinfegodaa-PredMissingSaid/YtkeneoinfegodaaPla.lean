/-
  The law's plain, by a contract: what it returns is plain, and lies where its argument lay or in blocks of its own.
-/
import Derived.Test.YtkeneoinfegodaaPru
import Derived.Test.YtkeneoinfegodaaApw
import Derived.Test.YtkeneoinfegodaaLw
namespace Go.Proofs.Ytkeneoinfegodaa
open Go.RowKit
theorem infoPr2 : (Try.prog.info? 25).map (fun i => (i.zero, i.size, i.bytes)) = some (some (.agg #[.int .i64 0, .int .i64 0, .int .i64 0, .int .i64 0, .slice none 0 0, .string ⟨#[]⟩, .slice none 0 0]), 7, 96) := by kernel_rfl
theorem step_push_prW {w : World} {ops : Array Oper} {o : Oper} {a : Act} {K : Act → World → Prop} {Q : Exit → Act → World → Prop} {F : Prop} (hgd : o.guard = none) (d x : Operand)
    (ho : o.op = .call { callee := .builtin .append, args := #[d, x], argTypes := #[23, 23] }) (base : Nat) (v : Value) (acc : List Pr) (f : Pr) (g n : Nat) (hs : a.eval d = v) (hx : a.eval x = .slice (some ⟨g, 0, none⟩) 1 1) (hn : n = acc.length)
    (hr : Own 25 7 w base v (acc.map Pr.cells)) (hg : CB w g 25 f.cells) (hroom : n ≤ 1000000) (hbase : base ≤ w.heap.size)
    (hK : ∀ A' c' w', Own 25 7 w' base (.slice A' (n + 1) c') ((acc ++ [f]).map Pr.cells) → w.grownBy w' v.ownBlock → Below base w w' → ((Value.slice A' (n + 1) c').ownBlock = v.ownBlock ∨ (Value.slice A' (n + 1) c').ownBlock = some w.heap.size) → K (a.put o.dst (.slice A' (n + 1) c')) w') : if Region.wanted o (yielded ops a.tmps) = true then Oper.wp Try.prog o a w K Q else F := by
  subst hn
  refine step_pushW hgd d x ho Try.underlying23 infoPr2 rfl (by decide) base v (acc.map Pr.cells) f.cells g hs hx hr hg rfl one_q7 (by rw [List.length_map]; omega) (by decide) hbase ?_
  intro A' c' w' h1 h2 h3 h4
  rw [List.length_map] at h1 h4 ⊢
  exact hK A' c' w' (by simpa using h1) h2 h3 h4
theorem tru0_u {w : World} {U : Nat → Prop} : PrU w U tru0 :=
  ⟨fun h => absurd h (by simp [tru0, Pr.set]), Nat.le_refl _, by show (0 : Nat) ≤ _; omega, by show (0 : Nat) ≤ _; omega, fun h => absurd h (by simp [tru0, Pr.kids]), Nat.le_refl _, by show (0 : Nat) ≤ _; omega, (fun v hv => by cases hv), ⟨by show _ ≤ (0 : Int); omega, by show (0 : Int) ≤ _; omega, by show _ ≤ (0 : Int); omega, by show (0 : Int) ≤ _; omega, by show _ ≤ (0 : Int); omega, by show (0 : Int) ≤ _; omega⟩, fun k hk => by cases hk⟩
def PlOK (p : Pr) : Prop := ∀ (B : Nat) (w : World), B ≤ w.heap.size → PrAt w B p → Nar p → Calls Try.prog 14 #[.agg #[.int .i64 p.op, .int .i64 p.id, .int .i64 p.lo, .int .i64 p.hi, .slice p.S p.set.length p.sc, .string p.tx, .slice p.K p.kids.length p.kc]] w fun e w' => ∃ q : Pr, e = .returned (.agg #[.int .i64 q.op, .int .i64 q.id, .int .i64 q.lo, .int .i64 q.hi, .slice q.S q.set.length q.sc, .string q.tx, .slice q.K q.kids.length q.kc]) ∧ PrU w' (fun b => b < w'.heap.size ∧ (b < B ∨ w.heap.size ≤ b)) q ∧ Pl p q ∧ Below w.heap.size w w'
/-- plain's boxes that stay: its argument, its result -/
structure LP (w : World) (op id lo hi : Int) (S : Option Addr) (ns sc : Nat) (tx : ByteArray) (K : Option Addr) (m kc : Nat) (X : World) : Prop where
  p : CB X w.heap.size 25 [.int .i64 op, .int .i64 id, .int .i64 lo, .int .i64 hi, .slice S ns sc, .string tx, .slice K m kc]
  r : CB X (w.heap.size + 1) 25 [.int .i64 0, .int .i64 0, .int .i64 0, .int .i64 0, .slice none 0 0, .string ⟨#[]⟩, .slice none 0 0]
  d : Below w.heap.size w X
section
variable {w X X' : World} {op id lo hi : Int} {S : Option Addr} {ns sc : Nat} {tx : ByteArray} {K : Option Addr} {m kc : Nat}
theorem LP.up (h : LP w op id lo hi S ns sc tx K m kc X) (hb : Below X.heap.size X X') : LP w op id lo hi S ns sc tx K m kc X' := ⟨h.p.up hb, h.r.up hb, below_step h.d h.d.size hb⟩
theorem LP.grown {row : Option Nat} (h : LP w op id lo hi S ns sc tx K m kc X) (hg : X.grownBy X' row) (h2 : ∀ g, row = some g → w.heap.size + 1 < g) : LP w op id lo hi S ns sc tx K m kc X' :=
  ⟨h.p.grown hg (fun e => by have := h2 _ e.symm; omega), h.r.grown hg (fun e => by have := h2 _ e.symm; omega), h.d.grown hg h.d.size (fun g e => by have := h2 g e; omega)⟩
end
theorem pl_snoc {ks qs : List Pr} {k : Nat} {kd nq : Pr} (hq : qs.length = k) (h : ∀ (j : Nat) (a b : Pr), ks[j]? = some a → qs[j]? = some b → Pl a b) (hk : ks[k]? = some kd) (hp : Pl kd nq) : ∀ (j : Nat) (a b : Pr), ks[j]? = some a → (qs ++ [nq])[j]? = some b → Pl a b := fun j a b h1 h2 => by
  by_cases hj : j < qs.length
  · rw [List.getElem?_append_left hj] at h2
    exact h j a b h1 h2
  · rw [List.getElem?_append_right (by omega)] at h2
    have hj2 : j = k := by
      have := (List.getElem?_eq_some_iff.1 h2).1
      simp at this
      omega
    subst hj2
    rw [hk] at h1
    cases h1
    rw [hq, Nat.sub_self] at h2
    cases h2
    exact hp
theorem low_cell {X X' : World} (hb : Below X.heap.size X X') {b : Nat} (h : b < X.heap.size) : ∀ o, X'.cell? ⟨b, o, none⟩ = X.cell? ⟨b, o, none⟩ := fun o => hb.cell (p := ⟨b, o, none⟩) h
theorem grown_cell {X X' : World} {row : Option Nat} (hg : X.grownBy X' row) {b : Nat} (h : b < X.heap.size) (hn : some b ≠ row) : ∀ o, X'.cell? ⟨b, o, none⟩ = X.cell? ⟨b, o, none⟩ := fun o => by
  have := hg.block b h hn
  simp [World.cell?, this]
set_option maxHeartbeats 20000000 in
set_option maxRecDepth 20000 in
theorem plain_any : ∀ p, PlOK p := Pr.induct fun p ih B w hB hp hn => by
  obtain ⟨op, id, lo, hi, S, sc, set, tx, K, kc, ks⟩ := p
  show Calls Try.prog 14 #[.agg #[.int .i64 op, .int .i64 id, .int .i64 lo, .int .i64 hi, .slice S set.length sc, .string tx, .slice K ks.length kc]] w _
  have IH := Li (show ∀ k ∈ ks, PlOK k from ih)
  have HP := Li hp
  have HNK := Li (show ∀ k ∈ ks, Nar k from hn.kid)
  have HKR := Li (show RowAt 7 w B K (ks.map Pr.cells) from hp.hk)
  have hkl : ks.length ≤ 1000 := hn.len
  obtain ⟨ns, hns⟩ : ∃ n, set.length = n := ⟨_, rfl⟩
  obtain ⟨m, hm⟩ : ∃ n, ks.length = n := ⟨_, rfl⟩
  rw [hns, hm]
  rw [hm] at hkl
  have HNS := Li hns
  have HM := Li hm
  clear hp hn hns hm ih
  by_cases h4 : op = 4
  · subst h4
    have N0 := Li (CB.new1 w (.cells #[.int .i64 4, .int .i64 id, .int .i64 lo, .int .i64 hi, .slice S ns sc, .string tx, .slice K m kc] 25) 25 [.int .i64 0, .int .i64 0, .int .i64 0, .int .i64 0, .slice none 0 0, .string ⟨#[]⟩, .slice none 0 0])
    have B0 := Li (al2 w (.cells #[.int .i64 4, .int .i64 id, .int .i64 lo, .int .i64 hi, .slice S ns sc, .string tx, .slice K m kc] 25) (.cells #[.int .i64 0, .int .i64 0, .int .i64 0, .int .i64 0, .slice none 0 0, .string ⟨#[]⟩, .slice none 0 0] 25))
    go_enter Try.func14, Try.ntmps14
    go_wp2_with ((with_reducible show wpList _ _ _ (Oper.mk none (.store _ _ _) _ _ _ _ :: _) _ _); refine wpList_store_cb rfl 25 (.tmp 2) (.tmp 8) rfl (w.heap.size + 1) [.int .i64 0, .int .i64 0, .int .i64 0, .int .i64 0, .slice none 0 0, .string ⟨#[]⟩, .slice none 0 0] rfl rfl 25 [.int .i64 0, .int .i64 0, .int .i64 0, .int .i64 0, .slice none 0 0, .string ⟨#[]⟩, .slice none 0 0] 7 N0.out sizePr rfl rfl one_q7 ?_; intro w5 hc5 hg5 hz5; have E2 := Li hc5; have F2 := Li (below_grown B0.out hg5 B0.out.size (by omega)); clear hc5 hg5 hz5)
    refine bodyPost_ret (res_cell1 Try.results14 rfl E2.out Try.underlying25 sizePr rfl) rfl ⟨tru0, rfl, tru0_u, .nul rfl, F2.out⟩
  · have e4 : (op == 4) = false := by simp [h4]
    have H4 := Li h4
    clear h4
    go_enter Try.func14, Try.ntmps14
    go_wp2
    have L0 := Li (show LP w op id lo hi S ns sc tx K m kc (((w.alloc (.cells #[.int .i64 op, .int .i64 id, .int .i64 lo, .int .i64 hi, .slice S ns sc, .string tx, .slice K m kc] 25)).alloc (.cells #[.int .i64 0, .int .i64 0, .int .i64 0, .int .i64 0, .slice none 0 0, .string ⟨#[]⟩, .slice none 0 0] 25)).alloc (.cells #[.int .i64 op, .int .i64 id, .int .i64 lo, .int .i64 hi, .slice S ns sc, .string tx, .slice none 0 0] 25)) from ⟨((CB.new w _ _).alloc _).alloc _, (CB.new1 w _ _ _).alloc _, al3 w _ _ _⟩)
    have O0 := Li (CB.new2 w (.cells #[.int .i64 op, .int .i64 id, .int .i64 lo, .int .i64 hi, .slice S ns sc, .string tx, .slice K m kc] 25) (.cells #[.int .i64 0, .int .i64 0, .int .i64 0, .int .i64 0, .slice none 0 0, .string ⟨#[]⟩, .slice none 0 0] 25) 25 [.int .i64 op, .int .i64 id, .int .i64 lo, .int .i64 hi, .slice S ns sc, .string tx, .slice none 0 0])
    have W0 := Li (Own.nil 25 7 (((w.alloc (.cells #[.int .i64 op, .int .i64 id, .int .i64 lo, .int .i64 hi, .slice S ns sc, .string tx, .slice K m kc] 25)).alloc (.cells #[.int .i64 0, .int .i64 0, .int .i64 0, .int .i64 0, .slice none 0 0, .string ⟨#[]⟩, .slice none 0 0] 25)).alloc (.cells #[.int .i64 op, .int .i64 id, .int .i64 lo, .int .i64 hi, .slice S ns sc, .string tx, .slice none 0 0] 25)) (w.heap.size + 1 + 1 + 1))
    generalize World.alloc (World.alloc (World.alloc w _) _) _ = V0 at *
    go_loopw [4] (fun i wr => ∃ (k : Nat) (A' : Option Addr) (c' : Nat) (qs : List Pr), k ≤ m ∧ i = .int .i64 k ∧ Hid (qs.length = k) ∧ Hid (LP w op id lo hi S ns sc tx K m kc wr) ∧ Hid (CB wr (w.heap.size + 1 + 1) 25 [.int .i64 op, .int .i64 id, .int .i64 lo, .int .i64 hi, .slice S ns sc, .string tx, .slice A' k c']) ∧ Hid (Own 25 7 wr (w.heap.size + 1 + 1 + 1) (.slice A' k c') (qs.map Pr.cells)) ∧ Hid (∀ q ∈ qs, PrU wr (fun b => b < wr.heap.size ∧ (b < B ∨ w.heap.size + 1 + 1 + 1 ≤ b) ∧ some b ≠ (Value.slice A' k c').ownBlock) q) ∧ Hid (∀ (j : Nat) (a b : Pr), ks[j]? = some a → qs[j]? = some b → Pl a b)) (fun i _ => m - (intOf i).toNat)
    case atStart => exact ⟨0, none, 0, [], by omega, rfl, Li rfl, L0, O0, W0, Li (fun q hq => by cases hq), Li (fun j a b _ h => by simp at h)⟩
    case round =>
      clear L0 O0 W0
      obtain ⟨k, A', c', qs, hk, rfl, HQ, L, O, OWN, QU, QP⟩ := hrel
      generalize wr = W1 at *
      have g7 := L.out.p.c7
      have zg := L.out.p.lt
      by_cases hlt : k < m
      · have j1 : (k : Int) < (m : Int) := by omega
        obtain ⟨kd, hkd⟩ : ∃ kd, ks[k]? = some kd := ⟨_, List.getElem?_eq_getElem (by rw [HM.out]; exact hlt)⟩
        have HKD := Li hkd
        have HMK := Li (List.mem_of_getElem? hkd)
        obtain ⟨b, off, rfl, hb, d0, d1, d2, d3, d4, d5, d6⟩ := prs_one HKR.out hkd
        have HBZ := Li (Nat.lt_of_lt_of_le hb hB)
        have HDD := Li (And.intro d0 (And.intro d1 (And.intro d2 (And.intro d3 (And.intro d4 (And.intro d5 d6))))))
        clear hkd d0 d1 d2 d3 d4 d5 d6 hb
        go_upto_region 8 with fail
        clear g7 zg
        have hbd := bd W1
        replace O := Li (O.out.up hbd)
        replace OWN := Li (OWN.out.up hbd)
        replace L := Li (L.out.up hbd)
        replace QU := Li (show ∀ q ∈ qs, PrU W1.drew (fun b => b < W1.drew.heap.size ∧ (b < B ∨ w.heap.size + 1 + 1 + 1 ≤ b) ∧ some b ≠ (Value.slice A' k c').ownBlock) q from fun q hq => PrU.keep (w := W1) (w' := W1.drew) (fun b hU => ⟨hU, fun o => rfl⟩) q (QU.out q hq))
        clear hbd
        refine wp_region_held_drew (S := fun X => Hid (LP w op id lo hi S ns sc tx (some ⟨b, off, none⟩) m kc X)) (by kernel_rfl) L (fun hHeld => ?_)
        revert hHeld O OWN L QU
        generalize W1.drew = V1
        intro O OWN L QU hHeld
        refine htk 0 ?_
        refine htk 2 ?_
        refine htf 3 (fun X h => And.intro h.out.p.c7 h.out.p.lt) ?_
        refine htk 4 ?_
        refine htk 5 ?_
        refine htf 6 (fun X h => (And.intro ((h.out.d.cell (p := ⟨b, off + k * 7, none⟩) HBZ.out).trans HDD.out.1) (And.intro ((h.out.d.cell (p := ⟨b, off + k * 7 + 1, none⟩) HBZ.out).trans HDD.out.2.1) (And.intro ((h.out.d.cell (p := ⟨b, off + k * 7 + 2, none⟩) HBZ.out).trans HDD.out.2.2.1) (And.intro ((h.out.d.cell (p := ⟨b, off + k * 7 + 3, none⟩) HBZ.out).trans HDD.out.2.2.2.1) (And.intro ((h.out.d.cell (p := ⟨b, off + k * 7 + 4, none⟩) HBZ.out).trans HDD.out.2.2.2.2.1) (And.intro ((h.out.d.cell (p := ⟨b, off + k * 7 + 5, none⟩) HBZ.out).trans HDD.out.2.2.2.2.2.1) (And.intro ((h.out.d.cell (p := ⟨b, off + k * 7 + 6, none⟩) HBZ.out).trans HDD.out.2.2.2.2.2.2) (Nat.lt_of_lt_of_le HBZ.out h.out.d.size))))))))) ?_
        refine rd2 1 7 (fun KK hK => ?_) (fun KK hK => ?_)
        · have o1 := O.out.c7
          have zo := O.out.lt
          go_simp
          clear o1 zo
          refine hK.out _ _ (L) (fun hHeld => ?_)
          clear hK KK
          try simp only [pnz]
          refine rd1 7 fun KK hK => ?_
          go_simp
          go_at_call 14
          refine (IH.out kd HMK.out B V1 (Nat.le_trans hB L.out.d.size) (PrAt.bel (L.out.d.mono hB) kd (HP.out.hp kd HMK.out)) (HNK.out kd HMK.out)).mono ?_
          rintro e v7 ⟨nq, rfl, hq, hpl, hb⟩
          have HPL := Li hpl
          have NQ := Li (show PrU v7 (fun b => b < v7.heap.size ∧ (b < B ∨ w.heap.size + 1 + 1 + 1 ≤ b) ∧ some b ≠ (Value.slice A' k c').ownBlock) nq from PrU.keep (fun b hU => ⟨⟨hU.1, hU.2.imp (fun h => h) (fun h => Nat.le_trans O.out.lt h), fun e => by have h1 := OWN.out.lt b e.symm; have h2 := hU.2; omega⟩, fun _ => rfl⟩) nq hq)
          replace QU := Li (show ∀ q ∈ qs, PrU v7 (fun b => b < v7.heap.size ∧ (b < B ∨ w.heap.size + 1 + 1 + 1 ≤ b) ∧ some b ≠ (Value.slice A' k c').ownBlock) q from fun q hq => PrU.keep (fun b hU => ⟨⟨Nat.lt_of_lt_of_le hU.1 hb.size, hU.2⟩, low_cell hb hU.1⟩) q (QU.out q hq))
          replace O := Li (O.out.up hb)
          replace OWN := Li (OWN.out.up hb)
          replace L := Li (L.out.up hb)
          clear hb hq hpl
          go_wp2_with fail
          refine hK.out _ _ (L) (fun hHeld => ?_)
          clear hK KK
          try simp only [pnz]
          refine rd1 8 fun KK hK => ?_
          go_simp
          have SB := Li (CB.new v7 25 [.int .i64 nq.op, .int .i64 nq.id, .int .i64 nq.lo, .int .i64 nq.hi, .slice nq.S nq.set.length nq.sc, .string nq.tx, .slice nq.K nq.kids.length nq.kc])
          have hb := al1 v7 (.cells #[.int .i64 nq.op, .int .i64 nq.id, .int .i64 nq.lo, .int .i64 nq.hi, .slice nq.S nq.set.length nq.sc, .string nq.tx, .slice nq.K nq.kids.length nq.kc] 25)
          replace QU := Li (show ∀ q ∈ qs, PrU (v7.alloc (.cells #[.int .i64 nq.op, .int .i64 nq.id, .int .i64 nq.lo, .int .i64 nq.hi, .slice nq.S nq.set.length nq.sc, .string nq.tx, .slice nq.K nq.kids.length nq.kc] 25)) (fun b => b < (v7.alloc (.cells #[.int .i64 nq.op, .int .i64 nq.id, .int .i64 nq.lo, .int .i64 nq.hi, .slice nq.S nq.set.length nq.sc, .string nq.tx, .slice nq.K nq.kids.length nq.kc] 25)).heap.size ∧ (b < B ∨ w.heap.size + 1 + 1 + 1 ≤ b) ∧ some b ≠ (Value.slice A' k c').ownBlock) q from fun q hq => PrU.keep (fun b hU => ⟨⟨Nat.lt_of_lt_of_le hU.1 hb.size, hU.2⟩, low_cell hb hU.1⟩) q (QU.out q hq))
          replace NQ := Li (show PrU (v7.alloc (.cells #[.int .i64 nq.op, .int .i64 nq.id, .int .i64 nq.lo, .int .i64 nq.hi, .slice nq.S nq.set.length nq.sc, .string nq.tx, .slice nq.K nq.kids.length nq.kc] 25)) (fun b => b < (v7.alloc (.cells #[.int .i64 nq.op, .int .i64 nq.id, .int .i64 nq.lo, .int .i64 nq.hi, .slice nq.S nq.set.length nq.sc, .string nq.tx, .slice nq.K nq.kids.length nq.kc] 25)).heap.size ∧ (b < B ∨ w.heap.size + 1 + 1 + 1 ≤ b) ∧ some b ≠ (Value.slice A' k c').ownBlock) nq from PrU.keep (fun b hU => ⟨⟨Nat.lt_of_lt_of_le hU.1 hb.size, hU.2⟩, low_cell hb hU.1⟩) nq NQ.out)
          replace O := Li (O.out.up hb)
          replace OWN := Li (OWN.out.up hb)
          replace L := Li (L.out.up hb)
          clear hb
          refine hK.out _ _ (L) (fun hHeld => ?_)
          clear hK KK
          try simp only [pnz]
          generalize v7.alloc (.cells #[.int .i64 nq.op, .int .i64 nq.id, .int .i64 nq.lo, .int .i64 nq.hi, .slice nq.S nq.set.length nq.sc, .string nq.tx, .slice nq.K nq.kids.length nq.kc] 25) = V8 at *
          refine rd1 9 fun KK hK => ?_
          refine step_push_prW rfl (.tmp 19) (.tmp 26) rfl (w.heap.size + 1 + 1 + 1) (.slice A' k c') qs nq v7.heap.size k rfl rfl HQ.out.symm OWN.out SB.out (by omega) O.out.lt ?_
          intro A8 c8 w8 ho hg hb hw
          replace QU := Li (show ∀ q ∈ qs, PrU w8 (fun b => b < w8.heap.size ∧ (b < B ∨ w.heap.size + 1 + 1 + 1 ≤ b) ∧ some b ≠ (Value.slice A8 (k + 1) c8).ownBlock) q from fun q hq => PrU.keep (fun b hU => ⟨⟨Nat.lt_of_lt_of_le hU.1 hg.size, hU.2.1, fun e => (hw.elim (fun h => hU.2.2 (e.trans h)) (fun h => by rw [h] at e; injection e with e; have := hU.1; omega))⟩, grown_cell hg hU.1 hU.2.2⟩) q (QU.out q hq))
          replace NQ := Li (show PrU w8 (fun b => b < w8.heap.size ∧ (b < B ∨ w.heap.size + 1 + 1 + 1 ≤ b) ∧ some b ≠ (Value.slice A8 (k + 1) c8).ownBlock) nq from PrU.keep (fun b hU => ⟨⟨Nat.lt_of_lt_of_le hU.1 hg.size, hU.2.1, fun e => (hw.elim (fun h => hU.2.2 (e.trans h)) (fun h => by rw [h] at e; injection e with e; have := hU.1; omega))⟩, grown_cell hg hU.1 hU.2.2⟩) nq NQ.out)
          replace O := Li (O.out.grown hg (OWN.out.below_ne (by omega)))
          replace L := Li (L.out.grown hg (fun g e => by have := (OWN.out.lt g e).1; omega))
          replace OWN := Li ho
          clear ho hg hb hw
          refine hK.out _ _ (L) (fun hHeld => ?_)
          clear hK KK
          try simp only [pnz]
          refine htk 10 ?_
          refine rd1 11 fun KK hK => ?_
          have y0 := O.out.cell 6 rfl
          have y1 := O.out.frozen 6
          have zo := O.out.lt
          go_simp
          have hg := grown_set w8 (w.heap.size + 1 + 1) 6 (.slice A8 (k + 1) c8)
          have HNE := Li (OWN.out.below_ne (U := w.heap.size + 1 + 1) (by omega))
          replace OWN := Li (OWN.out.set_ (g := w.heap.size + 1 + 1) 6 (.slice A8 (k + 1) c8) HNE.out)
          replace L := Li (L.out.grown hg (fun g e => by injection e with e; omega))
          replace O := Li (show CB _ _ _ [.int .i64 op, .int .i64 id, .int .i64 lo, .int .i64 hi, .slice S ns sc, .string tx, .slice A8 (k + 1) c8] from O.out.set_ 6 (.slice A8 (k + 1) c8))
          replace QU := Li (show ∀ q ∈ qs, PrU (w8.setCell ⟨w.heap.size + 1 + 1, 6, none⟩ (.slice A8 (k + 1) c8)) (fun b => b < (w8.setCell ⟨w.heap.size + 1 + 1, 6, none⟩ (.slice A8 (k + 1) c8)).heap.size ∧ (b < B ∨ w.heap.size + 1 + 1 + 1 ≤ b) ∧ some b ≠ (Value.slice A8 (k + 1) c8).ownBlock) q from fun q hq => PrU.keep (U := (fun b => b < w8.heap.size ∧ (b < B ∨ w.heap.size + 1 + 1 + 1 ≤ b) ∧ some b ≠ (Value.slice A8 (k + 1) c8).ownBlock)) (fun b hU => ⟨⟨Nat.lt_of_lt_of_le hU.1 hg.size, hU.2⟩, grown_cell hg hU.1 (fun e => by injection e with e; have := hU.2.1; omega)⟩) q (QU.out q hq))
          replace NQ := Li (show PrU (w8.setCell ⟨w.heap.size + 1 + 1, 6, none⟩ (.slice A8 (k + 1) c8)) (fun b => b < (w8.setCell ⟨w.heap.size + 1 + 1, 6, none⟩ (.slice A8 (k + 1) c8)).heap.size ∧ (b < B ∨ w.heap.size + 1 + 1 + 1 ≤ b) ∧ some b ≠ (Value.slice A8 (k + 1) c8).ownBlock) nq from PrU.keep (U := (fun b => b < w8.heap.size ∧ (b < B ∨ w.heap.size + 1 + 1 + 1 ≤ b) ∧ some b ≠ (Value.slice A8 (k + 1) c8).ownBlock)) (fun b hU => ⟨⟨Nat.lt_of_lt_of_le hU.1 hg.size, hU.2⟩, grown_cell hg hU.1 (fun e => by injection e with e; have := hU.2.1; omega)⟩) nq NQ.out)
          clear y0 y1 zo
          refine hK.out _ _ (L) (fun hHeld => ?_)
          clear hK KK
          try simp only [pnz]
          refine wpAnyH_done (by kernel_rfl) ?_ _
          go_wp2_with fail
          go_roundw
          case rel => exact ⟨k + 1, A8, c8, qs ++ [nq], by omega, by go_num, Li (by rw [List.length_append, HQ.out]; rfl), L, O, OWN, Li (fun q hq => (List.mem_append.1 hq).elim (QU.out q) fun h => by rw [List.mem_singleton] at h; subst h; exact NQ.out), Li (pl_snoc HQ.out QP.out HKD.out HPL.out)⟩
          case measure => simp [intOf]; omega
        · go_simp
          go_at_call 14
          refine (IH.out kd HMK.out B V1 (Nat.le_trans hB L.out.d.size) (PrAt.bel (L.out.d.mono hB) kd (HP.out.hp kd HMK.out)) (HNK.out kd HMK.out)).mono ?_
          rintro e v7 ⟨nq, rfl, hq, hpl, hb⟩
          have HPL := Li hpl
          have NQ := Li (show PrU v7 (fun b => b < v7.heap.size ∧ (b < B ∨ w.heap.size + 1 + 1 + 1 ≤ b) ∧ some b ≠ (Value.slice A' k c').ownBlock) nq from PrU.keep (fun b hU => ⟨⟨hU.1, hU.2.imp (fun h => h) (fun h => Nat.le_trans O.out.lt h), fun e => by have h1 := OWN.out.lt b e.symm; have h2 := hU.2; omega⟩, fun _ => rfl⟩) nq hq)
          replace QU := Li (show ∀ q ∈ qs, PrU v7 (fun b => b < v7.heap.size ∧ (b < B ∨ w.heap.size + 1 + 1 + 1 ≤ b) ∧ some b ≠ (Value.slice A' k c').ownBlock) q from fun q hq => PrU.keep (fun b hU => ⟨⟨Nat.lt_of_lt_of_le hU.1 hb.size, hU.2⟩, low_cell hb hU.1⟩) q (QU.out q hq))
          replace O := Li (O.out.up hb)
          replace OWN := Li (OWN.out.up hb)
          replace L := Li (L.out.up hb)
          clear hb hq hpl
          go_wp2_with fail
          refine hK.out _ _ (L) (fun hHeld => ?_)
          clear hK KK
          try simp only [pnz]
          refine rd2 1 8 (fun KK hK => ?_) (fun KK hK => ?_)
          · have o1 := O.out.c7
            have zo := O.out.lt
            go_simp
            clear o1 zo
            refine hK.out _ _ (L) (fun hHeld => ?_)
            clear hK KK
            try simp only [pnz]
            refine rd1 8 fun KK hK => ?_
            go_simp
            have SB := Li (CB.new v7 25 [.int .i64 nq.op, .int .i64 nq.id, .int .i64 nq.lo, .int .i64 nq.hi, .slice nq.S nq.set.length nq.sc, .string nq.tx, .slice nq.K nq.kids.length nq.kc])
            have hb := al1 v7 (.cells #[.int .i64 nq.op, .int .i64 nq.id, .int .i64 nq.lo, .int .i64 nq.hi, .slice nq.S nq.set.length nq.sc, .string nq.tx, .slice nq.K nq.kids.length nq.kc] 25)
            replace QU := Li (show ∀ q ∈ qs, PrU (v7.alloc (.cells #[.int .i64 nq.op, .int .i64 nq.id, .int .i64 nq.lo, .int .i64 nq.hi, .slice nq.S nq.set.length nq.sc, .string nq.tx, .slice nq.K nq.kids.length nq.kc] 25)) (fun b => b < (v7.alloc (.cells #[.int .i64 nq.op, .int .i64 nq.id, .int .i64 nq.lo, .int .i64 nq.hi, .slice nq.S nq.set.length nq.sc, .string nq.tx, .slice nq.K nq.kids.length nq.kc] 25)).heap.size ∧ (b < B ∨ w.heap.size + 1 + 1 + 1 ≤ b) ∧ some b ≠ (Value.slice A' k c').ownBlock) q from fun q hq => PrU.keep (fun b hU => ⟨⟨Nat.lt_of_lt_of_le hU.1 hb.size, hU.2⟩, low_cell hb hU.1⟩) q (QU.out q hq))
            replace NQ := Li (show PrU (v7.alloc (.cells #[.int .i64 nq.op, .int .i64 nq.id, .int .i64 nq.lo, .int .i64 nq.hi, .slice nq.S nq.set.length nq.sc, .string nq.tx, .slice nq.K nq.kids.length nq.kc] 25)) (fun b => b < (v7.alloc (.cells #[.int .i64 nq.op, .int .i64 nq.id, .int .i64 nq.lo, .int .i64 nq.hi, .slice nq.S nq.set.length nq.sc, .string nq.tx, .slice nq.K nq.kids.length nq.kc] 25)).heap.size ∧ (b < B ∨ w.heap.size + 1 + 1 + 1 ≤ b) ∧ some b ≠ (Value.slice A' k c').ownBlock) nq from PrU.keep (fun b hU => ⟨⟨Nat.lt_of_lt_of_le hU.1 hb.size, hU.2⟩, low_cell hb hU.1⟩) nq NQ.out)
            replace O := Li (O.out.up hb)
            replace OWN := Li (OWN.out.up hb)
            replace L := Li (L.out.up hb)
            clear hb
            refine hK.out _ _ (L) (fun hHeld => ?_)
            clear hK KK
            try simp only [pnz]
            generalize v7.alloc (.cells #[.int .i64 nq.op, .int .i64 nq.id, .int .i64 nq.lo, .int .i64 nq.hi, .slice nq.S nq.set.length nq.sc, .string nq.tx, .slice nq.K nq.kids.length nq.kc] 25) = V8 at *
            refine rd1 9 fun KK hK => ?_
            refine step_push_prW rfl (.tmp 19) (.tmp 26) rfl (w.heap.size + 1 + 1 + 1) (.slice A' k c') qs nq v7.heap.size k rfl rfl HQ.out.symm OWN.out SB.out (by omega) O.out.lt ?_
            intro A8 c8 w8 ho hg hb hw
            replace QU := Li (show ∀ q ∈ qs, PrU w8 (fun b => b < w8.heap.size ∧ (b < B ∨ w.heap.size + 1 + 1 + 1 ≤ b) ∧ some b ≠ (Value.slice A8 (k + 1) c8).ownBlock) q from fun q hq => PrU.keep (fun b hU => ⟨⟨Nat.lt_of_lt_of_le hU.1 hg.size, hU.2.1, fun e => (hw.elim (fun h => hU.2.2 (e.trans h)) (fun h => by rw [h] at e; injection e with e; have := hU.1; omega))⟩, grown_cell hg hU.1 hU.2.2⟩) q (QU.out q hq))
            replace NQ := Li (show PrU w8 (fun b => b < w8.heap.size ∧ (b < B ∨ w.heap.size + 1 + 1 + 1 ≤ b) ∧ some b ≠ (Value.slice A8 (k + 1) c8).ownBlock) nq from PrU.keep (fun b hU => ⟨⟨Nat.lt_of_lt_of_le hU.1 hg.size, hU.2.1, fun e => (hw.elim (fun h => hU.2.2 (e.trans h)) (fun h => by rw [h] at e; injection e with e; have := hU.1; omega))⟩, grown_cell hg hU.1 hU.2.2⟩) nq NQ.out)
            replace O := Li (O.out.grown hg (OWN.out.below_ne (by omega)))
            replace L := Li (L.out.grown hg (fun g e => by have := (OWN.out.lt g e).1; omega))
            replace OWN := Li ho
            clear ho hg hb hw
            refine hK.out _ _ (L) (fun hHeld => ?_)
            clear hK KK
            try simp only [pnz]
            refine htk 10 ?_
            refine rd1 11 fun KK hK => ?_
            have y0 := O.out.cell 6 rfl
            have y1 := O.out.frozen 6
            have zo := O.out.lt
            go_simp
            have hg := grown_set w8 (w.heap.size + 1 + 1) 6 (.slice A8 (k + 1) c8)
            have HNE := Li (OWN.out.below_ne (U := w.heap.size + 1 + 1) (by omega))
            replace OWN := Li (OWN.out.set_ (g := w.heap.size + 1 + 1) 6 (.slice A8 (k + 1) c8) HNE.out)
            replace L := Li (L.out.grown hg (fun g e => by injection e with e; omega))
            replace O := Li (show CB _ _ _ [.int .i64 op, .int .i64 id, .int .i64 lo, .int .i64 hi, .slice S ns sc, .string tx, .slice A8 (k + 1) c8] from O.out.set_ 6 (.slice A8 (k + 1) c8))
            replace QU := Li (show ∀ q ∈ qs, PrU (w8.setCell ⟨w.heap.size + 1 + 1, 6, none⟩ (.slice A8 (k + 1) c8)) (fun b => b < (w8.setCell ⟨w.heap.size + 1 + 1, 6, none⟩ (.slice A8 (k + 1) c8)).heap.size ∧ (b < B ∨ w.heap.size + 1 + 1 + 1 ≤ b) ∧ some b ≠ (Value.slice A8 (k + 1) c8).ownBlock) q from fun q hq => PrU.keep (U := (fun b => b < w8.heap.size ∧ (b < B ∨ w.heap.size + 1 + 1 + 1 ≤ b) ∧ some b ≠ (Value.slice A8 (k + 1) c8).ownBlock)) (fun b hU => ⟨⟨Nat.lt_of_lt_of_le hU.1 hg.size, hU.2⟩, grown_cell hg hU.1 (fun e => by injection e with e; have := hU.2.1; omega)⟩) q (QU.out q hq))
            replace NQ := Li (show PrU (w8.setCell ⟨w.heap.size + 1 + 1, 6, none⟩ (.slice A8 (k + 1) c8)) (fun b => b < (w8.setCell ⟨w.heap.size + 1 + 1, 6, none⟩ (.slice A8 (k + 1) c8)).heap.size ∧ (b < B ∨ w.heap.size + 1 + 1 + 1 ≤ b) ∧ some b ≠ (Value.slice A8 (k + 1) c8).ownBlock) nq from PrU.keep (U := (fun b => b < w8.heap.size ∧ (b < B ∨ w.heap.size + 1 + 1 + 1 ≤ b) ∧ some b ≠ (Value.slice A8 (k + 1) c8).ownBlock)) (fun b hU => ⟨⟨Nat.lt_of_lt_of_le hU.1 hg.size, hU.2⟩, grown_cell hg hU.1 (fun e => by injection e with e; have := hU.2.1; omega)⟩) nq NQ.out)
            clear y0 y1 zo
            refine hK.out _ _ (L) (fun hHeld => ?_)
            clear hK KK
            try simp only [pnz]
            refine wpAnyH_done (by kernel_rfl) ?_ _
            go_wp2_with fail
            go_roundw
            case rel => exact ⟨k + 1, A8, c8, qs ++ [nq], by omega, by go_num, Li (by rw [List.length_append, HQ.out]; rfl), L, O, OWN, Li (fun q hq => (List.mem_append.1 hq).elim (QU.out q) fun h => by rw [List.mem_singleton] at h; subst h; exact NQ.out), Li (pl_snoc HQ.out QP.out HKD.out HPL.out)⟩
            case measure => simp [intOf]; omega
          · go_simp
            have SB := Li (CB.new v7 25 [.int .i64 nq.op, .int .i64 nq.id, .int .i64 nq.lo, .int .i64 nq.hi, .slice nq.S nq.set.length nq.sc, .string nq.tx, .slice nq.K nq.kids.length nq.kc])
            have hb := al1 v7 (.cells #[.int .i64 nq.op, .int .i64 nq.id, .int .i64 nq.lo, .int .i64 nq.hi, .slice nq.S nq.set.length nq.sc, .string nq.tx, .slice nq.K nq.kids.length nq.kc] 25)
            replace QU := Li (show ∀ q ∈ qs, PrU (v7.alloc (.cells #[.int .i64 nq.op, .int .i64 nq.id, .int .i64 nq.lo, .int .i64 nq.hi, .slice nq.S nq.set.length nq.sc, .string nq.tx, .slice nq.K nq.kids.length nq.kc] 25)) (fun b => b < (v7.alloc (.cells #[.int .i64 nq.op, .int .i64 nq.id, .int .i64 nq.lo, .int .i64 nq.hi, .slice nq.S nq.set.length nq.sc, .string nq.tx, .slice nq.K nq.kids.length nq.kc] 25)).heap.size ∧ (b < B ∨ w.heap.size + 1 + 1 + 1 ≤ b) ∧ some b ≠ (Value.slice A' k c').ownBlock) q from fun q hq => PrU.keep (fun b hU => ⟨⟨Nat.lt_of_lt_of_le hU.1 hb.size, hU.2⟩, low_cell hb hU.1⟩) q (QU.out q hq))
            replace NQ := Li (show PrU (v7.alloc (.cells #[.int .i64 nq.op, .int .i64 nq.id, .int .i64 nq.lo, .int .i64 nq.hi, .slice nq.S nq.set.length nq.sc, .string nq.tx, .slice nq.K nq.kids.length nq.kc] 25)) (fun b => b < (v7.alloc (.cells #[.int .i64 nq.op, .int .i64 nq.id, .int .i64 nq.lo, .int .i64 nq.hi, .slice nq.S nq.set.length nq.sc, .string nq.tx, .slice nq.K nq.kids.length nq.kc] 25)).heap.size ∧ (b < B ∨ w.heap.size + 1 + 1 + 1 ≤ b) ∧ some b ≠ (Value.slice A' k c').ownBlock) nq from PrU.keep (fun b hU => ⟨⟨Nat.lt_of_lt_of_le hU.1 hb.size, hU.2⟩, low_cell hb hU.1⟩) nq NQ.out)
            replace O := Li (O.out.up hb)
            replace OWN := Li (OWN.out.up hb)
            replace L := Li (L.out.up hb)
            clear hb
            refine hK.out _ _ (L) (fun hHeld => ?_)
            clear hK KK
            try simp only [pnz]
            generalize v7.alloc (.cells #[.int .i64 nq.op, .int .i64 nq.id, .int .i64 nq.lo, .int .i64 nq.hi, .slice nq.S nq.set.length nq.sc, .string nq.tx, .slice nq.K nq.kids.length nq.kc] 25) = V8 at *
            refine rd1 1 fun KK hK => ?_
            have o1 := O.out.c7
            have zo := O.out.lt
            go_simp
            clear o1 zo
            refine hK.out _ _ (L) (fun hHeld => ?_)
            clear hK KK
            try simp only [pnz]
            refine rd1 9 fun KK hK => ?_
            refine step_push_prW rfl (.tmp 19) (.tmp 26) rfl (w.heap.size + 1 + 1 + 1) (.slice A' k c') qs nq v7.heap.size k rfl rfl HQ.out.symm OWN.out SB.out (by omega) O.out.lt ?_
            intro A8 c8 w8 ho hg hb hw
            replace QU := Li (show ∀ q ∈ qs, PrU w8 (fun b => b < w8.heap.size ∧ (b < B ∨ w.heap.size + 1 + 1 + 1 ≤ b) ∧ some b ≠ (Value.slice A8 (k + 1) c8).ownBlock) q from fun q hq => PrU.keep (fun b hU => ⟨⟨Nat.lt_of_lt_of_le hU.1 hg.size, hU.2.1, fun e => (hw.elim (fun h => hU.2.2 (e.trans h)) (fun h => by rw [h] at e; injection e with e; have := hU.1; omega))⟩, grown_cell hg hU.1 hU.2.2⟩) q (QU.out q hq))
            replace NQ := Li (show PrU w8 (fun b => b < w8.heap.size ∧ (b < B ∨ w.heap.size + 1 + 1 + 1 ≤ b) ∧ some b ≠ (Value.slice A8 (k + 1) c8).ownBlock) nq from PrU.keep (fun b hU => ⟨⟨Nat.lt_of_lt_of_le hU.1 hg.size, hU.2.1, fun e => (hw.elim (fun h => hU.2.2 (e.trans h)) (fun h => by rw [h] at e; injection e with e; have := hU.1; omega))⟩, grown_cell hg hU.1 hU.2.2⟩) nq NQ.out)
            replace O := Li (O.out.grown hg (OWN.out.below_ne (by omega)))
            replace L := Li (L.out.grown hg (fun g e => by have := (OWN.out.lt g e).1; omega))
            replace OWN := Li ho
            clear ho hg hb hw
            refine hK.out _ _ (L) (fun hHeld => ?_)
            clear hK KK
            try simp only [pnz]
            refine htk 10 ?_
            refine rd1 11 fun KK hK => ?_
            have y0 := O.out.cell 6 rfl
            have y1 := O.out.frozen 6
            have zo := O.out.lt
            go_simp
            have hg := grown_set w8 (w.heap.size + 1 + 1) 6 (.slice A8 (k + 1) c8)
            have HNE := Li (OWN.out.below_ne (U := w.heap.size + 1 + 1) (by omega))
            replace OWN := Li (OWN.out.set_ (g := w.heap.size + 1 + 1) 6 (.slice A8 (k + 1) c8) HNE.out)
            replace L := Li (L.out.grown hg (fun g e => by injection e with e; omega))
            replace O := Li (show CB _ _ _ [.int .i64 op, .int .i64 id, .int .i64 lo, .int .i64 hi, .slice S ns sc, .string tx, .slice A8 (k + 1) c8] from O.out.set_ 6 (.slice A8 (k + 1) c8))
            replace QU := Li (show ∀ q ∈ qs, PrU (w8.setCell ⟨w.heap.size + 1 + 1, 6, none⟩ (.slice A8 (k + 1) c8)) (fun b => b < (w8.setCell ⟨w.heap.size + 1 + 1, 6, none⟩ (.slice A8 (k + 1) c8)).heap.size ∧ (b < B ∨ w.heap.size + 1 + 1 + 1 ≤ b) ∧ some b ≠ (Value.slice A8 (k + 1) c8).ownBlock) q from fun q hq => PrU.keep (U := (fun b => b < w8.heap.size ∧ (b < B ∨ w.heap.size + 1 + 1 + 1 ≤ b) ∧ some b ≠ (Value.slice A8 (k + 1) c8).ownBlock)) (fun b hU => ⟨⟨Nat.lt_of_lt_of_le hU.1 hg.size, hU.2⟩, grown_cell hg hU.1 (fun e => by injection e with e; have := hU.2.1; omega)⟩) q (QU.out q hq))
            replace NQ := Li (show PrU (w8.setCell ⟨w.heap.size + 1 + 1, 6, none⟩ (.slice A8 (k + 1) c8)) (fun b => b < (w8.setCell ⟨w.heap.size + 1 + 1, 6, none⟩ (.slice A8 (k + 1) c8)).heap.size ∧ (b < B ∨ w.heap.size + 1 + 1 + 1 ≤ b) ∧ some b ≠ (Value.slice A8 (k + 1) c8).ownBlock) nq from PrU.keep (U := (fun b => b < w8.heap.size ∧ (b < B ∨ w.heap.size + 1 + 1 + 1 ≤ b) ∧ some b ≠ (Value.slice A8 (k + 1) c8).ownBlock)) (fun b hU => ⟨⟨Nat.lt_of_lt_of_le hU.1 hg.size, hU.2⟩, grown_cell hg hU.1 (fun e => by injection e with e; have := hU.2.1; omega)⟩) nq NQ.out)
            clear y0 y1 zo
            refine hK.out _ _ (L) (fun hHeld => ?_)
            clear hK KK
            try simp only [pnz]
            refine wpAnyH_done (by kernel_rfl) ?_ _
            go_wp2_with fail
            go_roundw
            case rel => exact ⟨k + 1, A8, c8, qs ++ [nq], by omega, by go_num, Li (by rw [List.length_append, HQ.out]; rfl), L, O, OWN, Li (fun q hq => (List.mem_append.1 hq).elim (QU.out q) fun h => by rw [List.mem_singleton] at h; subst h; exact NQ.out), Li (pl_snoc HQ.out QP.out HKD.out HPL.out)⟩
            case measure => simp [intOf]; omega
      · have j1 : ¬ (k : Int) < (m : Int) := by omega
        obtain rfl : m = k := by omega
        have o7 := O.out.c7
        have zo := O.out.lt
        go_wp2_with ((with_reducible show wpList _ _ _ (Oper.mk none (.store _ _ _) _ _ _ _ :: _) _ _); refine wpList_store_cb rfl 25 (.tmp 2) (.tmp 29) rfl (w.heap.size + 1) [.int .i64 op, .int .i64 id, .int .i64 lo, .int .i64 hi, .slice S ns sc, .string tx, .slice A' m c'] rfl rfl 25 [.int .i64 0, .int .i64 0, .int .i64 0, .int .i64 0, .slice none 0 0, .string ⟨#[]⟩, .slice none 0 0] 7 L.out.r sizePr rfl rfl one_q7 ?_; intro w5 hc5 hg5 hz5; have E5 := Li hc5; have G5 := Li hg5; clear hc5 hg5 hz5)
        have D5 := Li (below_grown L.out.d G5.out L.out.d.size (by omega))
        have HW := OWN.out.row
        have hlq := HQ.out
        refine bodyPost_ret (res_cell1 Try.results14 rfl E5.out Try.underlying25 sizePr rfl) rfl ⟨.mk op id lo hi S sc set tx A' c' qs, by rw [show (Pr.mk op id lo hi S sc set tx A' c' qs).set.length = ns from HNS.out, show (Pr.mk op id lo hi S sc set tx A' c' qs).kids.length = m from hlq]; rfl, ?_, ?_, D5.out⟩
        · have hlow : ∀ b, b < B → ∀ o, w5.cell? ⟨b, o, none⟩ = w.cell? ⟨b, o, none⟩ := fun b hb o => D5.out.cell (p := ⟨b, o, none⟩) (Nat.lt_of_lt_of_le hb hB)
          have hup : ∀ b, b < W1.heap.size → w.heap.size + 1 + 1 + 1 ≤ b → ∀ o, w5.cell? ⟨b, o, none⟩ = W1.cell? ⟨b, o, none⟩ := fun b hb hb2 => grown_cell G5.out hb (fun e => by injection e with e; omega)
          refine ⟨(RowU.of HP.out.hs).keep (fun b hb => ⟨⟨Nat.lt_of_lt_of_le hb (Nat.le_trans hB D5.out.size), .inl hb⟩, hlow b hb⟩), HP.out.hsc, HP.out.hsm, HP.out.ht, fun hl => ?_, by have := HW.2.1; rw [List.length_map] at this; exact this, HW.2.2.1, HP.out.hv, ⟨HP.out.hf.i0, HP.out.hf.i1, HP.out.hf.l0, HP.out.hf.l1, HP.out.hf.h0, HP.out.hf.h1⟩, fun q hq => ?_⟩
          · obtain ⟨b, off, rfl, hb, hc⟩ := HW.2.2.2 hl
            have hg := (OWN.out.lt b rfl).1
            exact ⟨b, off, rfl, ⟨Nat.lt_of_lt_of_le hb G5.out.size, .inr (by omega)⟩, fun i vs hi => (hc i vs hi).keep fun j => hup b hb hg _⟩
          · exact PrU.keep (U := (fun b => b < W1.heap.size ∧ (b < B ∨ w.heap.size + 1 + 1 + 1 ≤ b) ∧ some b ≠ (Value.slice A' m c').ownBlock)) (fun b hU => ⟨⟨Nat.lt_of_lt_of_le hU.1 G5.out.size, hU.2.1.imp (fun h => h) (fun h => by omega)⟩, grown_cell G5.out hU.1 (fun e => by injection e with e; have := hU.2.1; omega)⟩) q (QU.out q hq)
        · exact .mk H4.out rfl rfl rfl rfl rfl rfl (by show qs.length = ks.length; rw [hlq, HM.out]) QP.out
end Go.Proofs.Ytkeneoinfegodaa
