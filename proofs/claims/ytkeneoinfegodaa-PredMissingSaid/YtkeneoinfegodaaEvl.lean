/-
  The program's Eval and Match, by contracts.
-/
import Derived.Test.YtkeneoinfegodaaHoP
import Derived.Test.YtkeneoinfegodaaHd
import Derived.Deep.CutRange
import Derived.Deep.DeepCutAuto
namespace Go.Proofs.Ytkeneoinfegodaa
open Go.RowKit

theorem run_field_va (b : Bool) (m : Int) (s : ByteArray) (w : World) : (Instr.field 37 (.agg #[.bool b, .int .i64 m, .string s]) 0).run Try.prog w = .ok (.bool b) w := by kernel_rfl
theorem sizePr : (Try.prog.info? 25).map (·.size) = some 7 := by kernel_rfl
def EvOK (A : Option Addr) (n c : Nat) (r : List Ce) (k : Pr) : Prop := ∀ w : World, PrAt w w.heap.size k → Ces w w.heap.size A r → Calls Try.prog 13 #[.agg #[.int .i64 k.op, .int .i64 k.id, .int .i64 k.lo, .int .i64 k.hi, .slice k.S k.set.length k.sc, .string k.tx, .slice k.K k.kids.length k.kc], .agg #[.slice A n c]] w fun e w' => e = .returned (.int .i64 (ev r k)) ∧ Below w.heap.size w w'
theorem getP_of {l : List Pr} {k : Nat} (h : k < l.length) : ∃ f, l[k]? = some f := ⟨l[k], List.getElem?_eq_getElem h⟩
theorem jun_go {d acc t z : Int} {l : List Int} {k : Nat} (hd : l.drop k = t :: l.drop (k + 1)) (h : junG d acc (l.drop k) = z) (h1 : ¬ t = d) : junG d (if t = 2 then 2 else acc) (l.drop (k + 1)) = z := by
  rw [hd, junG, if_neg h1] at h
  by_cases h2 : t = 2
  · rw [if_pos h2] at h ⊢
    exact h
  · rw [if_neg h2] at h ⊢
    exact h
theorem jun_hit {d acc z : Int} {l : List Int} {k : Nat} (hd : l.drop k = d :: l.drop (k + 1)) (h : junG d acc (l.drop k) = z) : z = d := by
  rw [hd, junG, if_pos rfl] at h
  exact h.symm
theorem map_drop1 {ks : List Pr} {k : Nat} {q : Pr} (r : List Ce) (h : ks[k]? = some q) : (ks.map (ev r)).drop k = ev r q :: (ks.map (ev r)).drop (k + 1) := drop_cons (by rw [List.getElem?_map, h]; rfl)
set_option maxHeartbeats 8000000 in
set_option maxRecDepth 20000 in
theorem junF_any (A : Option Addr) (n c : Nat) (r : List Ce) (K : Option Addr) (m kc : Nat) (ks : List Pr) (g : Nat) (d : Int) (w : World) (hm : m = ks.length) (hk : RowAt 7 w w.heap.size K (ks.map Pr.cells)) (hp : ∀ k ∈ ks, PrAt w w.heap.size k) (hml : m ≤ 9223372036854775807) (hg : CB w g 3 [.int .i64 d]) (hs : Ces w w.heap.size A r) (ih : ∀ k ∈ ks, EvOK A n c r k) :
    Calls Try.prog 45 #[.slice K m kc, .agg #[.slice A n c], .pointer (some ⟨g, 0, none⟩)] w fun e w' => e = .returned (.int .i64 (junG d (neg3 d) (ks.map (ev r)))) ∧ Below w.heap.size w w' := by
  have HM := Li hm
  have HK := Li hk
  have HP := Li hp
  have HS := Li hs
  have IH := Li ih
  obtain ⟨z, hz⟩ : ∃ z, junG d (neg3 d) (ks.map (ev r)) = z := ⟨_, rfl⟩
  rw [hz]
  have HZ := Li hz
  have G0 := Li (hg.up (al1 w (.cells #[.slice A n c] 29)))
  have R0 := Li (CB.new w 29 [.slice A n c])
  have B0 := Li (al1 w (.cells #[.slice A n c] 29))
  have zg := G0.out.lt
  have g0 := G0.out.cell 0 rfl
  clear hm hk hp hs ih hz hg
  go_enter Try.func45, Try.ntmps45
  go_wp2_with (go_at_call 33; refine (negation_any d _).mono ?_; rintro e w1 ⟨rfl, rfl⟩)
  clear zg g0
  go_loopw [6, 8, 13] (fun re _ j wr => ∃ (k : Nat) (acc : Int), k ≤ m ∧ re = .int .i64 acc ∧ j = .int .i64 k ∧ Hid (CB wr g 3 [.int .i64 d]) ∧ Hid (CB wr w.heap.size 29 [.slice A n c]) ∧ Hid (Below w.heap.size w wr) ∧ Hid (junG d acc ((ks.map (ev r)).drop k) = z)) (fun _ _ j _ => m - (intOf j).toNat)
  case atStart => exact ⟨0, _, by omega, rfl, rfl, G0, R0, B0, HZ⟩
  case round =>
    obtain ⟨k, acc, hkm, rfl, rfl, G1, R1, B1, HG⟩ := hrel
    have zg := G1.out.lt
    have g0 := G1.out.cell 0 rfl
    have zR := R1.out.lt
    have r0 := R1.out.cell 0 rfl
    by_cases hlt : k < m
    · have i1 : (k : Int) < (m : Int) := by omega
      have i0 : (0 : Int) ≤ (k : Int) := by omega
      obtain ⟨q, hq⟩ := getP_of (l := ks) (k := k) (by rw [← HM.out]; exact hlt)
      obtain ⟨b, off, rfl, hb, c0, c1, c2, c3, c4, c5, c6⟩ := prs_one (HK.out.below B1.out) hq
      have zb : b < wr.heap.size := Nat.lt_of_lt_of_le hb B1.out.size
      have HD := Li (map_drop1 r hq)
      have HQ := Li (List.mem_of_getElem? hq)
      clear hq
      obtain ⟨t, ht⟩ : ∃ t, ev r q = t := ⟨_, rfl⟩
      have HT := Li ht
      rw [ht] at HD
      clear ht
      have AA := Li (al1 wr (.cells #[.int .i64 q.op, .int .i64 q.id, .int .i64 q.lo, .int .i64 q.hi, .slice q.S q.set.length q.sc, .string q.tx, .slice q.K q.kids.length q.kc] 25))
      have B2 := Li (below_step B1.out B1.out.size AA.out)
      have G2 := Li (G1.out.up AA.out)
      have R2 := Li (R1.out.up AA.out)
      have ARM := (IH.out q HQ.out) (wr.alloc (.cells #[.int .i64 q.op, .int .i64 q.id, .int .i64 q.lo, .int .i64 q.hi, .slice q.S q.set.length q.sc, .string q.tx, .slice q.K q.kids.length q.kc] 25)) ((PrAt.more B1.out.size q (PrAt.bel B1.out q (HP.out q HQ.out))).up AA.out) (Ces.up (Ces.more (Ces.below HS.out B1.out) B1.out.size) AA.out)
      have HARM := Li ARM
      clear ARM
      by_cases h1 : t = d
      · subst h1
        have HV := Li (jun_hit HD.out HG.out)
        go_wp2_with (go_at_call 13; refine HARM.out.mono ?_; rintro e w5 ⟨rfl, hb5⟩; rw [HT.out]; have B5 := Li (below_step B2.out B2.out.size hb5); have G5 := Li (G2.out.up hb5); have g05 := G5.out.cell 0 rfl; have zg5 := G5.out.lt; clear hb5)
        go_ret
        exact ⟨by rw [HV.out]; rfl, B5.out⟩
      · have e1 : (t == d) = false := by simpa using h1
        have HG2 := Li (jun_go HD.out HG.out h1)
        by_cases h2 : t = 2
        · rw [if_pos h2] at HG2
          subst h2
          clear h1
          go_wp2_with (go_at_call 13; refine HARM.out.mono ?_; rintro e w5 ⟨rfl, hb5⟩; rw [HT.out]; have B5 := Li (below_step B2.out B2.out.size hb5); have G5 := Li (G2.out.up hb5); have R5 := Li (R2.out.up hb5); have g05 := G5.out.cell 0 rfl; have zg5 := G5.out.lt; clear hb5)
          go_roundw
          case rel => exact ⟨k + 1, 2, by omega, rfl, by go_num, G5, R5, B5, HG2⟩
          case measure => simp [intOf]; omega
        · rw [if_neg h2] at HG2
          have e2 : (t == 2) = false := by simpa using h2
          clear h1 h2
          go_wp2_with (go_at_call 13; refine HARM.out.mono ?_; rintro e w5 ⟨rfl, hb5⟩; rw [HT.out]; have B5 := Li (below_step B2.out B2.out.size hb5); have G5 := Li (G2.out.up hb5); have R5 := Li (R2.out.up hb5); have g05 := G5.out.cell 0 rfl; have zg5 := G5.out.lt; clear hb5)
          go_roundw
          case rel => exact ⟨k + 1, acc, by omega, rfl, by go_num, G5, R5, B5, HG2⟩
          case measure => simp [intOf]; omega
    · have i1 : ¬ (k : Int) < (m : Int) := by omega
      have HV := Li (show acc = z by rw [← HG.out, List.drop_eq_nil_of_le (by rw [List.length_map, ← HM.out]; omega)]; rfl)
      go_wp2
      go_ret
      exact ⟨by rw [← HV.out]; rfl, B1.out⟩
theorem ev_z {r : List Ce} {op id lo hi : Int} {S K : Option Addr} {sc kc : Nat} {set : List Va} {tx : ByteArray} {ks : List Pr} : ev r (.mk op id lo hi S sc set tx K kc ks) = evO (getL r id) op lo hi set tx (ks.map (ev r)) := ev_eq r _
set_option maxHeartbeats 16000000 in
set_option maxRecDepth 20000 in
theorem Eval_any (A : Option Addr) (n c : Nat) (r : List Ce) (hn : n = r.length) (hl : n ≤ 9223372036854775807) : ∀ p, EvOK A n c r p := Pr.induct fun p ih w hp hs => by
  obtain ⟨op, id, lo, hi, S, sc, set, tx, K, kc, ks⟩ := p
  show Calls Try.prog 13 #[.agg #[.int .i64 op, .int .i64 id, .int .i64 lo, .int .i64 hi, .slice S set.length sc, .string tx, .slice K ks.length kc], .agg #[.slice A n c]] w fun e w' => e = .returned (.int .i64 (ev r (.mk op id lo hi S sc set tx K kc ks))) ∧ Below w.heap.size w w'
  have HN := Li hn
  have HS := Li hs
  have HP := Li hp
  have IH := Li (show ∀ k ∈ ks, EvOK A n c r k from ih)
  have hsl : set.length ≤ 9223372036854775807 := Nat.le_trans hp.hsc hp.hsm
  have hkl : ks.length ≤ 9223372036854775807 := Nat.le_trans hp.hkc hp.hkm
  obtain ⟨z, hz⟩ : ∃ z, ev r (.mk op id lo hi S sc set tx K kc ks) = z := ⟨_, rfl⟩
  rw [hz]
  rw [ev_z] at hz
  obtain ⟨⟨vb, vn, vs⟩, hv⟩ : ∃ v, getL r id = v := ⟨_, rfl⟩
  rw [hv] at hz
  have HV := Li hv
  unfold evO at hz
  have P0 := Li ((CB.new w 25 [.int .i64 op, .int .i64 id, .int .i64 lo, .int .i64 hi, .slice S set.length sc, .string tx, .slice K ks.length kc]).alloc (.cells #[.slice A n c] 29))
  have R0 := Li (CB.new1 w (.cells #[.int .i64 op, .int .i64 id, .int .i64 lo, .int .i64 hi, .slice S set.length sc, .string tx, .slice K ks.length kc] 25) 29 [.slice A n c])
  have B0 := Li (al2 w (.cells #[.int .i64 op, .int .i64 id, .int .i64 lo, .int .i64 hi, .slice S set.length sc, .string tx, .slice K ks.length kc] 25) (.cells #[.slice A n c] 29))
  clear hn hs hp ih hv
  by_cases h0 : op = 0
  · subst h0
    rw [if_pos rfl] at hz
    subst hz
    go_enter Try.func13, Try.ntmps13
    go_wp2
    go_ret
    exact ⟨rfl, B0.out⟩
  rw [if_neg h0] at hz
  have e0 : (op == 0) = false := by simpa using h0
  clear h0
  by_cases h123 : op = 1 ∨ op = 2 ∨ op = 3
  · rw [if_pos h123] at hz
    have HH := Li (holds_any op id lo hi S set.length sc set tx K ks.length kc)
    cases vb with
    | true =>
      rw [if_pos rfl] at hz
      subst hz
      rcases h123 with rfl | rfl | rfl
      · clear e0
        go_enter Try.func13, Try.ntmps13
        go_wp2_with (go_at_call 29; refine (valueOf_any A n c r id _ HN.out (Ces.up HS.out B0.out) hl).mono ?_; rintro e w1 ⟨rfl, hb1⟩; rw [HV.out]; simp only [Va.ret]; have P1 := Li (P0.out.up hb1); have B1 := Li (below_step B0.out B0.out.size hb1); have p1 := P1.out.c7; have zp1 := P1.out.lt; clear hb1)
        go_ret
        exact ⟨rfl, (B1.out.alloc B1.out.size _)⟩
      · clear e0
        go_enter Try.func13, Try.ntmps13
        go_wp2_with (go_at_call 29; refine (valueOf_any A n c r id _ HN.out (Ces.up HS.out B0.out) hl).mono ?_; rintro e w1 ⟨rfl, hb1⟩; rw [HV.out]; simp only [Va.ret]; have P1 := Li (P0.out.up hb1); have B1 := Li (below_step B0.out B0.out.size hb1); have p1 := P1.out.c7; have zp1 := P1.out.lt; clear hb1)
        go_ret
        exact ⟨rfl, (B1.out.alloc B1.out.size _)⟩
      · clear e0
        go_enter Try.func13, Try.ntmps13
        go_wp2_with (go_at_call 29; refine (valueOf_any A n c r id _ HN.out (Ces.up HS.out B0.out) hl).mono ?_; rintro e w1 ⟨rfl, hb1⟩; rw [HV.out]; simp only [Va.ret]; have P1 := Li (P0.out.up hb1); have B1 := Li (below_step B0.out B0.out.size hb1); have p1 := P1.out.c7; have zp1 := P1.out.lt; clear hb1)
        go_ret
        exact ⟨rfl, (B1.out.alloc B1.out.size _)⟩
    | false =>
      rw [if_neg (by simp)] at hz
      obtain ⟨bz, hbz⟩ : ∃ b, holdB op lo hi set tx ⟨false, vn, vs⟩ = b := ⟨_, rfl⟩
      rw [hbz] at hz
      subst hz
      have HZ := Li hbz
      clear hbz
      rcases h123 with rfl | rfl | rfl
      · clear e0
        go_enter Try.func13, Try.ntmps13
        go_wp2_with (first | (go_at_call 29; refine (valueOf_any A n c r id _ HN.out (Ces.up HS.out B0.out) hl).mono ?_; rintro e w1 ⟨rfl, hb1⟩; rw [HV.out]; simp only [Va.ret]; have P1 := Li (P0.out.up hb1); have B1 := Li (below_step B0.out B0.out.size hb1); have p1 := P1.out.c7; have zp1 := P1.out.lt; clear hb1) | (go_at_call 31; refine (HH.out ⟨false, vn, vs⟩ _ rfl (RowAt.up (RowAt.up HP.out.hs B1.out) (al1 _ _)) hsl).mono ?_; rintro e w2 ⟨rfl, hb2⟩; rw [HZ.out]; have B2 := Li (below_step (B1.out.alloc B1.out.size _) (B1.out.alloc B1.out.size _).size hb2); clear hb2) | (go_at_call 30; refine (truth_any _ _).mono ?_; rintro e w3 ⟨rfl, rfl⟩))
        go_ret
        exact ⟨rfl, B2.out⟩
      · clear e0
        go_enter Try.func13, Try.ntmps13
        go_wp2_with (first | (go_at_call 29; refine (valueOf_any A n c r id _ HN.out (Ces.up HS.out B0.out) hl).mono ?_; rintro e w1 ⟨rfl, hb1⟩; rw [HV.out]; simp only [Va.ret]; have P1 := Li (P0.out.up hb1); have B1 := Li (below_step B0.out B0.out.size hb1); have p1 := P1.out.c7; have zp1 := P1.out.lt; clear hb1) | (go_at_call 31; refine (HH.out ⟨false, vn, vs⟩ _ rfl (RowAt.up (RowAt.up HP.out.hs B1.out) (al1 _ _)) hsl).mono ?_; rintro e w2 ⟨rfl, hb2⟩; rw [HZ.out]; have B2 := Li (below_step (B1.out.alloc B1.out.size _) (B1.out.alloc B1.out.size _).size hb2); clear hb2) | (go_at_call 30; refine (truth_any _ _).mono ?_; rintro e w3 ⟨rfl, rfl⟩))
        go_ret
        exact ⟨rfl, B2.out⟩
      · clear e0
        go_enter Try.func13, Try.ntmps13
        go_wp2_with (first | (go_at_call 29; refine (valueOf_any A n c r id _ HN.out (Ces.up HS.out B0.out) hl).mono ?_; rintro e w1 ⟨rfl, hb1⟩; rw [HV.out]; simp only [Va.ret]; have P1 := Li (P0.out.up hb1); have B1 := Li (below_step B0.out B0.out.size hb1); have p1 := P1.out.c7; have zp1 := P1.out.lt; clear hb1) | (go_at_call 31; refine (HH.out ⟨false, vn, vs⟩ _ rfl (RowAt.up (RowAt.up HP.out.hs B1.out) (al1 _ _)) hsl).mono ?_; rintro e w2 ⟨rfl, hb2⟩; rw [HZ.out]; have B2 := Li (below_step (B1.out.alloc B1.out.size _) (B1.out.alloc B1.out.size _).size hb2); clear hb2) | (go_at_call 30; refine (truth_any _ _).mono ?_; rintro e w3 ⟨rfl, rfl⟩))
        go_ret
        exact ⟨rfl, B2.out⟩
  rw [if_neg h123] at hz
  have e1 : (op == 1) = false := by simp; omega
  have e2 : (op == 2) = false := by simp; omega
  have e3 : (op == 3) = false := by simp; omega
  clear h123
  by_cases h4 : op = 4
  · subst h4
    rw [if_pos rfl] at hz
    simp only at hz
    subst hz
    clear e0 e1 e2 e3
    have hfr := run_field_va
    go_enter Try.func13, Try.ntmps13
    go_wp2_with (first | (go_at_call 29; refine (valueOf_any A n c r id _ HN.out (Ces.up HS.out B0.out) hl).mono ?_; rintro e w1 ⟨rfl, hb1⟩; rw [HV.out]; simp only [Va.ret]; have P1 := Li (P0.out.up hb1); have B1 := Li (below_step B0.out B0.out.size hb1); have p1 := P1.out.c7; have zp1 := P1.out.lt; clear hb1) | (go_at_call 30; refine (truth_any _ _).mono ?_; rintro e w3 ⟨rfl, rfl⟩))
    go_ret
    exact ⟨rfl, B1.out⟩
  rw [if_neg h4] at hz
  have e4 : (op == 4) = false := by simpa using h4
  clear h4
  by_cases h5 : op = 5
  · subst h5
    rw [if_pos rfl] at hz
    have HZ := Li (show junG 0 (neg3 0) (ks.map (ev r)) = z from hz)
    clear hz e0 e1 e2 e3 e4
    go_enter Try.func13, Try.ntmps13
    go_upto_region 13 with fail
    have PP := Li (show (fun w' : World => (CB w' w.heap.size 25 [.int .i64 5, .int .i64 id, .int .i64 lo, .int .i64 hi, .slice S set.length sc, .string tx, .slice K ks.length kc] ∧ CB w' (w.heap.size + 1) 29 [.slice A n c]) ∧ Below w.heap.size w w') _ from ⟨⟨P0.out, R0.out⟩, B0.out⟩)
    generalize (w.alloc (.cells #[.int .i64 5, .int .i64 id, .int .i64 lo, .int .i64 hi, .slice S set.length sc, .string tx, .slice K ks.length kc] 25)).alloc (.cells #[.slice A n c] 29) = W0 at *
    clear P0 R0 B0
    replace PP : Hid ((fun w' : World => (CB w' w.heap.size 25 [.int .i64 5, .int .i64 id, .int .i64 lo, .int .i64 hi, .slice S set.length sc, .string tx, .slice K ks.length kc] ∧ CB w' (w.heap.size + 1) 29 [.slice A n c]) ∧ Below w.heap.size w w') W0.drew) := Li ⟨⟨PP.out.1.1.dr, PP.out.1.2.dr⟩, below_drewN PP.out.2 1⟩
    refine wp_region_held_drew (S := fun w' => Hid ((CB w' w.heap.size 25 [.int .i64 5, .int .i64 id, .int .i64 lo, .int .i64 hi, .slice S set.length sc, .string tx, .slice K ks.length kc] ∧ CB w' (w.heap.size + 1) 29 [.slice A n c]) ∧ Below w.heap.size w w')) (by kernel_rfl) PP (fun hHeld => ?_)
    revert hHeld PP
    generalize W0.drew = X0
    intro PP hHeld
    refine htk 1 ?_
    refine htf 2 (fun _ h => And.intro h.out.1.1.c7 (And.intro h.out.1.1.lt (And.intro h.out.1.2.c1 h.out.1.2.lt))) ?_
    refine htf 3 (fun _ h => And.intro h.out.1.1.c7 (And.intro h.out.1.1.lt (And.intro h.out.1.2.c1 h.out.1.2.lt))) ?_
    refine rd1 0 fun KK hK => ?_
    go_simp
    go_at_call 32
    refine (junction_any 0 _).mono ?_
    rintro e v0 ⟨rfl, rfl⟩
    have GB := Li (CB.new X0 3 [.int .i64 0])
    replace PP : Hid ((fun w' : World => (CB w' w.heap.size 25 [.int .i64 5, .int .i64 id, .int .i64 lo, .int .i64 hi, .slice S set.length sc, .string tx, .slice K ks.length kc] ∧ CB w' (w.heap.size + 1) 29 [.slice A n c]) ∧ Below w.heap.size w w') _) := Li ⟨⟨PP.out.1.1.up (al1 X0 (.cells #[.int .i64 0] 3)), PP.out.1.2.up (al1 X0 (.cells #[.int .i64 0] 3))⟩, below_step PP.out.2 PP.out.2.size (al1 X0 (.cells #[.int .i64 0] 3))⟩
    go_wp2_with fail
    refine hK.out _ _ (PP) (fun hHeld => ?_)
    clear hK KK
    try simp only [pnz]
    refine rd1 4 fun KK hK => ?_
    go_simp
    go_at_call 45
    refine (junF_any A n c r K ks.length kc ks _ 0 _ rfl (HP.out.hk.up PP.out.2) (fun k hk => (HP.out.hp k hk).up PP.out.2) hkl GB.out (Ces.up HS.out PP.out.2) IH.out).mono ?_
    rintro e v4 ⟨rfl, hb4⟩
    rw [HZ.out]
    replace PP : Hid ((fun w' : World => (CB w' w.heap.size 25 [.int .i64 5, .int .i64 id, .int .i64 lo, .int .i64 hi, .slice S set.length sc, .string tx, .slice K ks.length kc] ∧ CB w' (w.heap.size + 1) 29 [.slice A n c]) ∧ Below w.heap.size w w') _) := Li ⟨⟨PP.out.1.1.up hb4, PP.out.1.2.up hb4⟩, below_step PP.out.2 PP.out.2.size hb4⟩
    clear hb4
    go_wp2_with fail
    refine hK.out _ _ (PP) (fun hHeld => ?_)
    clear hK KK
    try simp only [pnz]
    refine htk 5 ?_
    refine wpAnyH_done (by kernel_rfl) ?_ _
    go_wp2_with fail
    go_ret
    exact ⟨rfl, PP.out.2⟩
  rw [if_neg h5] at hz
  have e5 : (op == 5) = false := by simpa using h5
  clear h5
  by_cases h6 : op = 6
  · subst h6
    rw [if_pos rfl] at hz
    have HZ := Li (show junG 1 (neg3 1) (ks.map (ev r)) = z from hz)
    clear hz e0 e1 e2 e3 e4 e5
    go_enter Try.func13, Try.ntmps13
    go_upto_region 15 with fail
    have PP := Li (show (fun w' : World => (CB w' w.heap.size 25 [.int .i64 6, .int .i64 id, .int .i64 lo, .int .i64 hi, .slice S set.length sc, .string tx, .slice K ks.length kc] ∧ CB w' (w.heap.size + 1) 29 [.slice A n c]) ∧ Below w.heap.size w w') _ from ⟨⟨P0.out, R0.out⟩, B0.out⟩)
    generalize (w.alloc (.cells #[.int .i64 6, .int .i64 id, .int .i64 lo, .int .i64 hi, .slice S set.length sc, .string tx, .slice K ks.length kc] 25)).alloc (.cells #[.slice A n c] 29) = W0 at *
    clear P0 R0 B0
    replace PP : Hid ((fun w' : World => (CB w' w.heap.size 25 [.int .i64 6, .int .i64 id, .int .i64 lo, .int .i64 hi, .slice S set.length sc, .string tx, .slice K ks.length kc] ∧ CB w' (w.heap.size + 1) 29 [.slice A n c]) ∧ Below w.heap.size w w') W0.drew) := Li ⟨⟨PP.out.1.1.dr, PP.out.1.2.dr⟩, below_drewN PP.out.2 1⟩
    refine wp_region_held_drew (S := fun w' => Hid ((CB w' w.heap.size 25 [.int .i64 6, .int .i64 id, .int .i64 lo, .int .i64 hi, .slice S set.length sc, .string tx, .slice K ks.length kc] ∧ CB w' (w.heap.size + 1) 29 [.slice A n c]) ∧ Below w.heap.size w w')) (by kernel_rfl) PP (fun hHeld => ?_)
    revert hHeld PP
    generalize W0.drew = X0
    intro PP hHeld
    refine htk 1 ?_
    refine htf 2 (fun _ h => And.intro h.out.1.1.c7 (And.intro h.out.1.1.lt (And.intro h.out.1.2.c1 h.out.1.2.lt))) ?_
    refine htf 3 (fun _ h => And.intro h.out.1.1.c7 (And.intro h.out.1.1.lt (And.intro h.out.1.2.c1 h.out.1.2.lt))) ?_
    refine rd1 0 fun KK hK => ?_
    go_simp
    go_at_call 32
    refine (junction_any 1 _).mono ?_
    rintro e v0 ⟨rfl, rfl⟩
    have GB := Li (CB.new X0 3 [.int .i64 1])
    replace PP : Hid ((fun w' : World => (CB w' w.heap.size 25 [.int .i64 6, .int .i64 id, .int .i64 lo, .int .i64 hi, .slice S set.length sc, .string tx, .slice K ks.length kc] ∧ CB w' (w.heap.size + 1) 29 [.slice A n c]) ∧ Below w.heap.size w w') _) := Li ⟨⟨PP.out.1.1.up (al1 X0 (.cells #[.int .i64 1] 3)), PP.out.1.2.up (al1 X0 (.cells #[.int .i64 1] 3))⟩, below_step PP.out.2 PP.out.2.size (al1 X0 (.cells #[.int .i64 1] 3))⟩
    go_wp2_with fail
    refine hK.out _ _ (PP) (fun hHeld => ?_)
    clear hK KK
    try simp only [pnz]
    refine rd1 4 fun KK hK => ?_
    go_simp
    go_at_call 45
    refine (junF_any A n c r K ks.length kc ks _ 1 _ rfl (HP.out.hk.up PP.out.2) (fun k hk => (HP.out.hp k hk).up PP.out.2) hkl GB.out (Ces.up HS.out PP.out.2) IH.out).mono ?_
    rintro e v4 ⟨rfl, hb4⟩
    rw [HZ.out]
    replace PP : Hid ((fun w' : World => (CB w' w.heap.size 25 [.int .i64 6, .int .i64 id, .int .i64 lo, .int .i64 hi, .slice S set.length sc, .string tx, .slice K ks.length kc] ∧ CB w' (w.heap.size + 1) 29 [.slice A n c]) ∧ Below w.heap.size w w') _) := Li ⟨⟨PP.out.1.1.up hb4, PP.out.1.2.up hb4⟩, below_step PP.out.2 PP.out.2.size hb4⟩
    clear hb4
    go_wp2_with fail
    refine hK.out _ _ (PP) (fun hHeld => ?_)
    clear hK KK
    try simp only [pnz]
    refine htk 5 ?_
    refine wpAnyH_done (by kernel_rfl) ?_ _
    go_wp2_with fail
    go_ret
    exact ⟨rfl, PP.out.2⟩
  rw [if_neg h6] at hz
  have e6 : (op == 6) = false := by simpa using h6
  clear h6
  by_cases h7 : op = 7
  · subst h7
    rw [if_pos rfl] at hz
    clear e0 e1 e2 e3 e4 e5 e6
    by_cases hk : ks.length = 1
    · obtain ⟨q, rfl⟩ : ∃ q, ks = [q] := by
        match ks, hk with
        | [q], _ => exact ⟨q, rfl⟩
      simp only [List.map_cons, List.map_nil] at hz
      subst hz
      clear hk
      obtain ⟨b, off, rfl, hb, _⟩ := prs_one HP.out.hk (show [q][0]? = some q from rfl)
      have HC : Hid (∀ X, Below w.heap.size w X → (X.cell? ⟨b, off, none⟩ = some (.int .i64 q.op) ∧ X.cell? ⟨b, off + 1, none⟩ = some (.int .i64 q.id) ∧ X.cell? ⟨b, off + 2, none⟩ = some (.int .i64 q.lo) ∧ X.cell? ⟨b, off + 3, none⟩ = some (.int .i64 q.hi) ∧ X.cell? ⟨b, off + 4, none⟩ = some (.slice q.S q.set.length q.sc) ∧ X.cell? ⟨b, off + 5, none⟩ = some (.string q.tx) ∧ X.cell? ⟨b, off + 6, none⟩ = some (.slice q.K q.kids.length q.kc)) ∧ b < X.heap.size) := fun X hX => by
        obtain ⟨b', off', e, hb', hc⟩ := prs_one (HP.out.hk.below hX) (show [q][0]? = some q from rfl)
        cases e
        exact ⟨by simpa using hc, Nat.lt_of_lt_of_le hb hX.size⟩
      clear hb
      simp only [List.length_cons, List.length_nil, Nat.zero_add] at *
      go_enter Try.func13, Try.ntmps13
      go_upto_region 18 with fail
      have PP := Li (show (fun w' : World => (CB w' w.heap.size 25 [.int .i64 7, .int .i64 id, .int .i64 lo, .int .i64 hi, .slice S set.length sc, .string tx, .slice (some ⟨b, off, none⟩) 1 kc] ∧ CB w' (w.heap.size + 1) 29 [.slice A n c]) ∧ Below w.heap.size w w') _ from ⟨⟨P0.out, R0.out⟩, B0.out⟩)
      generalize (w.alloc (.cells #[.int .i64 7, .int .i64 id, .int .i64 lo, .int .i64 hi, .slice S set.length sc, .string tx, .slice (some ⟨b, off, none⟩) 1 kc] 25)).alloc (.cells #[.slice A n c] 29) = W0 at *
      clear P0 R0 B0
      replace PP : Hid ((fun w' : World => (CB w' w.heap.size 25 [.int .i64 7, .int .i64 id, .int .i64 lo, .int .i64 hi, .slice S set.length sc, .string tx, .slice (some ⟨b, off, none⟩) 1 kc] ∧ CB w' (w.heap.size + 1) 29 [.slice A n c]) ∧ Below w.heap.size w w') W0.drew) := Li ⟨⟨PP.out.1.1.dr, PP.out.1.2.dr⟩, below_drewN PP.out.2 1⟩
      refine wp_region_held_drew (S := fun w' => Hid ((CB w' w.heap.size 25 [.int .i64 7, .int .i64 id, .int .i64 lo, .int .i64 hi, .slice S set.length sc, .string tx, .slice (some ⟨b, off, none⟩) 1 kc] ∧ CB w' (w.heap.size + 1) 29 [.slice A n c]) ∧ Below w.heap.size w w')) (by kernel_rfl) PP (fun hHeld => ?_)
      revert hHeld PP
      generalize W0.drew = X0
      intro PP hHeld
      refine htk 0 ?_
      refine htf 1 (fun _ h => And.intro h.out.1.1.c7 (And.intro h.out.1.1.lt (And.intro h.out.1.2.c1 h.out.1.2.lt))) ?_
      refine htk 2 ?_
      refine htf 3 (fun _ h => HC.out _ h.out.2) ?_
      refine htf 4 (fun _ h => And.intro h.out.1.1.c7 (And.intro h.out.1.1.lt (And.intro h.out.1.2.c1 h.out.1.2.lt))) ?_
      refine rd1 5 fun KK hK => ?_
      go_simp
      go_at_call 13
      refine (IH.out q (List.mem_cons_self) _ ((HP.out.hp q (show q ∈ [q] from List.mem_cons_self)).up PP.out.2) (Ces.up HS.out PP.out.2)).mono ?_
      rintro e v5 ⟨rfl, hb5⟩
      replace PP : Hid ((fun w' : World => (CB w' w.heap.size 25 [.int .i64 7, .int .i64 id, .int .i64 lo, .int .i64 hi, .slice S set.length sc, .string tx, .slice (some ⟨b, off, none⟩) 1 kc] ∧ CB w' (w.heap.size + 1) 29 [.slice A n c]) ∧ Below w.heap.size w w') _) := Li ⟨⟨PP.out.1.1.up hb5, PP.out.1.2.up hb5⟩, below_step PP.out.2 PP.out.2.size hb5⟩
      clear hb5
      go_wp2_with fail
      refine hK.out _ _ (PP) (fun hHeld => ?_)
      clear hK KK
      try simp only [pnz]
      refine rd1 6 fun KK hK => ?_
      go_simp
      go_at_call 33
      refine (negation_any _ _).mono ?_
      rintro e v6 ⟨rfl, rfl⟩
      go_wp2_with fail
      refine hK.out _ _ (PP) (fun hHeld => ?_)
      clear hK KK
      try simp only [pnz]
      refine htk 7 ?_
      refine wpAnyH_done (by kernel_rfl) ?_ _
      go_wp2_with fail
      go_ret
      exact ⟨rfl, PP.out.2⟩
    · have hz2 : z = 2 := by
        rw [← hz]
        match ks, hk with
        | [], _ => rfl
        | [_], h => exact absurd rfl h
        | _ :: _ :: _, _ => rfl
      subst hz2
      clear hz
      have ek : ((ks.length : Int) == 1) = false := by simp; omega
      clear hk
      go_enter Try.func13, Try.ntmps13
      go_wp2
      go_ret
      exact ⟨rfl, B0.out⟩
  rw [if_neg h7] at hz
  subst hz
  have e7 : (op == 7) = false := by simpa using h7
  clear h7
  go_enter Try.func13, Try.ntmps13
  go_wp2
  go_ret
  exact ⟨rfl, B0.out⟩
end Go.Proofs.Ytkeneoinfegodaa
