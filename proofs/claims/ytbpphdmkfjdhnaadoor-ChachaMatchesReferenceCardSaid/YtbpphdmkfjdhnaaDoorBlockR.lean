/-
  The reference's Block, by a contract.
-/
import Derived.Test.YtbpphdmkfjdhnaaDoorInitR
import Derived.Test.YtbpphdmkfjdhnaaDoorXorP
namespace Go.Proofs.YtbpphdmkfjdhnaaDoor
open Go.RowKit

attribute [local go_sem] wd_add wd_addw wd_xor wd_or wd_not wd_mod wd_wrap
/-- append(v, p...), p the first words of a block: it may grow. -/
theorem wpList_grow32r {w : World} {ops : Array Oper} {rest : List Oper} {o : Oper} {a : Act} {Q : Exit → Act → World → Prop} (hgd : o.guard = none) (d x : Operand)
    (ho : o.op = .call { callee := .builtin .append, args := #[d, x], argTypes := #[40, 40] }) (base : Nat) (v : Value) (l : List UInt32) (gp : Nat) (p : List UInt32) (tl : List Value) (n c : Nat) (hn : n = p.length)
    (hs : a.eval d = v) (hx : a.eval x = .slice (some ⟨gp, 0, none⟩) n c) (hr : Owns32 w base v l) (hp : WR w gp 23 p tl) (hroom : l.length + p.length ≤ 1000000) (hbase : base ≤ w.heap.size)
    (hK : ∀ v' w', Owns32 w' base v' (l ++ p) → w.grownBy w' v.ownBlock → wpList Tryd.prog ops Q rest (a.put o.dst v') w') : wpList Tryd.prog ops Q (o :: rest) a w := by
  obtain ⟨i, hi, hz, hsz, hb⟩ := info_parts info40
  have e : (l ++ p).length = l.length + p.length := by simp
  subst hn
  refine wpList_append_own _ hgd d x 40 ho base 23 i (.int .u32 0) 1 4 Tryd.underlying40 hi hz hsz hb rfl (by decide) v l.length (cw l) hs hr ⟨gp, 0, none⟩ p.length c (cw p) hx (by rw [cw_len, Nat.mul_one]) ?_ (cw_one p) (by simp only [maxLen]; omega) (by omega) hbase ?_
  · intro j u hj
    have hj' : j < p.length := by have := (List.getElem?_eq_some_iff.1 hj).1; rwa [cw_len] at this
    rw [Addr.add_mid, Nat.zero_add, hp.cell j hj', ← hj, cw_get p j hj']
  · intro v' w' h1 h3 _
    exact hK v' w' (by unfold Owns32; rw [cw_app, e]; exact h1) h3

/-- the blocks of a call of Block: the result, the initial state, the words -/
structure RBk (w wr : World) (r gf g : Nat) (s0 v : List UInt32) (tl tl2 : List Value) : Prop where
  rr : BT wr r 30 (List.replicate 64 0)
  ff : WR wr gf 23 s0 tl
  ss : WR wr g 23 v tl2
  bel : Below w.heap.size w wr
  ne : r ≠ g ∧ gf ≠ g
  low : w.heap.size ≤ r ∧ w.heap.size ≤ g
section
variable {w wr w' : World} {r gf g : Nat} {s0 v v' : List UInt32} {tl tl2 : List Value}
theorem RBk.drew (h : RBk w wr r gf g s0 v tl tl2) : RBk w wr.drew r gf g s0 v tl tl2 := ⟨h.rr, h.ff, h.ss, h.bel.drew, h.ne, h.low⟩
theorem RBk.grown (h : RBk w wr r gf g s0 v tl tl2) (hg : wr.grownBy w' (some g)) (hv : WR w' g 23 v' tl2) : RBk w w' r gf g s0 v' tl tl2 := by
  have n := h.ne
  have l := h.low
  have hlt := h.ss.lt
  exact ⟨h.rr.grown hg (by simp; omega), h.ff.grown hg (by simp; omega), hv, h.bel.grown hg (by omega) (fun k hk => by injection hk with hk; omega), n, l⟩
theorem RBk.up (h : RBk w wr r gf g s0 v tl tl2) (hb : Below wr.heap.size wr w') : RBk w w' r gf g s0 v tl tl2 :=
  ⟨h.rr.up hb, h.ff.up hb, h.ss.up hb, h.bel.trans (hb.mono (by have := h.low; have := h.rr.lt; omega)), h.ne, h.low⟩
theorem RBk.other (h : RBk w wr r gf g s0 v tl tl2) {q : Nat} (hg : wr.grownBy w' (some q)) (hq : r < q ∧ gf < q ∧ g < q) : RBk w w' r gf g s0 v tl tl2 := by
  have l := h.low
  have hlt := h.ss.lt
  exact ⟨h.rr.grown hg (by simp; omega), h.ff.grown hg (by simp; omega), h.ss.grown hg (by simp; omega), h.bel.grown hg (by omega) (fun k hk => by injection hk with hk; omega), h.ne, l⟩
end
theorem own32_at {g n c k : Nat} (h : (Value.slice (some ⟨g, 0, none⟩) n c).ownBlock = some k) : k = g := by simpa [Value.ownBlock] using h.symm
theorem ix_64 (i k : Nat) (hi : i < 16) (hk : k < 4) : IntKind.i64.wrap (4 * (i : Int)) = 4 * (i : Int) ∧ IntKind.i64.wrap (4 * (i : Int) + (k : Int)) = 4 * (i : Int) + (k : Int) ∧ 0 ≤ 4 * (i : Int) + (k : Int) ∧ (4 * (i : Int) + (k : Int)).toNat = 4 * i + k ∧ 4 * (i : Int) + (k : Int) < 64 := by
  refine ⟨IntWalk.i64_in _ ⟨by omega, by omega⟩, IntWalk.i64_in _ ⟨by omega, by omega⟩, by omega, by omega, by omega⟩
theorem laid64_ix (s t : List UInt32) (i k : Nat) (hk : k < 4) : laid64 s t (4 * i + (k + 1)) = (laid64 s t (4 * i + k)).set (4 * i + k) (low8 (8 * k) (at_ t i + at_ s i)) := by
  rw [show 4 * i + (k + 1) = (4 * i + k) + 1 by omega, laid64, show (4 * i + k) % 4 = k by omega, show (4 * i + k) / 4 = i by omega]
theorem div_256 (X : UInt32) (k : Nat) : wd X / 2 ^ (8 * k) / 256 = wd X / 2 ^ (8 * (k + 1)) := by
  rw [Int.ediv_ediv_of_nonneg (by exact Int.le_of_lt (Int.pow_pos (by decide)))]
  congr 1
  rw [show 8 * (k + 1) = 8 * k + 8 by omega, Int.pow_add]
  rfl
theorem quarters_00 (u : List UInt32) : quarters u 0 = u := rfl
theorem rounds_ss (u : List UInt32) (k : Nat) : rounds u (k + 1) = quarters (rounds u k) 8 := rfl
theorem quarters_ss (u : List UInt32) (k : Nat) : quarters u (k + 1) = quarter (quarters u k) (pick (q4 k) 0) (pick (q4 k) 1) (pick (q4 k) 2) (pick (q4 k) 3) := rfl
theorem rounds_00 (u : List UInt32) : rounds u 0 = u := rfl
theorem laid64_0 (s t : List UInt32) : laid64 s t 0 = List.replicate 64 0 := rfl
theorem pow_0 (X : UInt32) : wd X / 2 ^ (8 * 0) = wd X := by simp
theorem owns32_16 {w : World} {base : Nat} {v : Value} {l : List UInt32} (h : Owns32 w base v ([] ++ l)) (hl : l.length = 16) : ∃ g c tl, v = .slice (some ⟨g, 0, none⟩) 16 c ∧ base ≤ g ∧ WR w g 23 l tl := by
  rw [List.nil_append] at h
  obtain ⟨g, c, tl, rfl, hg, hr⟩ := h.shape (by rw [hl]; decide)
  exact ⟨g, c, tl, by rw [hl], hg, hr⟩
theorem u32_div (X : UInt32) (k : Nat) : IntKind.u32.wrap (wd X / 2 ^ (8 * k)) = wd X / 2 ^ (8 * k) := by
  have h1 : (0 : Int) ≤ wd X := by unfold wd; omega
  have h2 : wd X < 4294967296 := by unfold wd; have := X.toNat_lt; omega
  have h3 : (0 : Int) < 2 ^ (8 * k) := Int.pow_pos (by decide)
  have h4 : wd X / 2 ^ (8 * k) ≤ wd X := Int.ediv_le_self _ h1
  have h5 : 0 ≤ wd X / 2 ^ (8 * k) := Int.ediv_nonneg h1 (Int.le_of_lt h3)
  rw [IntKind.wrap_u32]
  omega
attribute [local irreducible] q4 quarters rounds laid64 low8 sumBytes
set_option maxHeartbeats 1500000 in
set_option maxRecDepth 20000 in
theorem blockR_any (key nonce : List UInt8) (n : UInt32) (w : World) (hk : key.length = 32) (hn : nonce.length = 12) :
    Calls Tryd.prog 13 #[.agg (cb key).toArray, .agg (cb nonce).toArray, .int .u32 (wd n)] w fun e w' => e = .returned (.agg (cb (blockOf (initS key nonce n))).toArray) ∧ Below w.heap.size w w' := by
  have HL := Lib.hid (And.intro hk hn)
  have hs := Lib.hid (kn_new w key nonce)
  clear hk hn
  go_enter Tryd.func13, Tryd.ntmps13
  generalize hw0 : (w.alloc (.cells (cb key).toArray 26)).alloc (.cells (cb nonce).toArray 27) = w0 at *
  go_wp2_with (first
    | ((with_reducible show wpList _ _ _ _ _ _); refine wpList_load_all rfl 26 (.tmp 3) rfl w.heap.size rfl 26 (cb key) 5 32 (hs.out.1.alloc _) Tryd.underlying26 info26 (by rw [cb_len, HL.out.1]) ?_)
    | ((with_reducible show wpList _ _ _ _ _ _); refine wpList_load_all rfl 27 (.tmp 4) rfl (w.heap.size + 1) rfl 27 (cb nonce) 5 12 (hs.out.2.1.alloc _) Tryd.underlying27 info27 (by rw [cb_len, HL.out.2]) ?_)
    | (go_at_call 19; refine (initialR_at key nonce n _ HL.out.1 HL.out.2).mono ?_; rintro e w2 ⟨gf, cf, tl, rfl, hf2, hgf2, hb2⟩; have HR2 : Hid (BT w2 w0.heap.size 30 (List.replicate 64 0)) := Lib.hid ((bt_new (w := w0) (n := 64) (t := 30) rfl rfl).up hb2); have HF2 : Hid (WR w2 gf 23 (initS key nonce n) tl ∧ w0.heap.size < gf) := And.intro hf2 (by simp at hgf2; omega); have HB2 : Hid (Below w.heap.size w w2) := Lib.hid ((hs.out.2.2.alloc hs.out.2.2.size _).trans (hb2.mono (by have := hs.out.2.2.size; simp; omega))); clear hf2 hgf2 hb2)
    | (at_builtin; (with_reducible show wpList _ _ _ _ _ _); refine wpList_grow32r rfl (.tmp 20) (.tmp 21) rfl w2.heap.size (.slice (some ⟨w2.heap.size, 0, none⟩) 0 0) [] gf (initS key nonce n) tl 16 cf (initS_len _ _ _).symm rfl rfl (owns32_empty w2 #[] rfl) (HF2.out.1.alloc _) (by simp [initS_len]) (by simp) ?_; intro v3 w3 ho3 hg3; have HO3 := Lib.hid ho3; have HG3 : Hid (Below w2.heap.size w2 w3) := Lib.hid ((below_alloc _).grown hg3 (by simp) (fun k hk => by have := own32_at hk; omega)); clear ho3 hg3)
    | (go_at_call 20; refine (quartersR_any w3).mono ?_; rintro e w4 ⟨rfl, hq4, hb4⟩; have HQ4 := Lib.hid hq4; have HB4 := Lib.hid hb4; clear hq4 hb4))
  obtain ⟨g, c, tl2, rfl, hgl, hgr⟩ := owns32_16 HO3.out (initS_len _ _ _)
  obtain ⟨s0, hs0⟩ : ∃ s0, s0 = initS key nonce n := ⟨_, rfl⟩
  have HI : Hid (s0.length = 16) := by show _ = _; rw [hs0, initS_len]
  have HE : Hid (s0 = initS key nonce n) := hs0
  have hst : Hid (RBk w w4 w0.heap.size gf g s0 (rounds s0 0) tl tl2) := by
    rw [rounds_00, hs0]
    have a1 := HR2.out.lt
    have a2 := HF2.out.1.lt
    have a3 := hs.out.2.2.size
    have a4 := HB2.out.size
    have a5 := HG3.out.size
    exact ⟨(HR2.out.up HG3.out).up HB4.out, (HF2.out.1.up HG3.out).up HB4.out, hgr.up HB4.out, HB2.out.trans ((HG3.out.trans (HB4.out.mono a5)).mono a4), ⟨by omega, by omega⟩, ⟨by omega, by omega⟩⟩
  have hq : Hid (QT w4 w3.heap.size) := HQ4
  have HNE : Hid (g < w3.heap.size) := hgr.lt
  clear hs0 HO3 hgl hgr HG3 HB2 HF2 HR2 HQ4 HB4 hw0 hs
  generalize w0.heap.size = r at *
  generalize w3.heap.size = gq at *
  go_loopw [10, 11] (fun u _ wr => ∃ k : Nat, k ≤ 10 ∧ u = .int .i64 k ∧ Hid (RBk w wr r gf g s0 (rounds s0 k) tl tl2) ∧ Hid (QT wr gq)) (fun u _ _ => 10 - (intOf u).toNat)
  case atStart => exact ⟨0, by omega, rfl, hst, hq⟩
  case round =>
    clear hst hq
    obtain ⟨k, hk, rfl, hst, hq⟩ := hrel
    obtain ⟨wo, hwo⟩ : ∃ wo : World, wo = wr := ⟨_, rfl⟩
    subst hwo
    by_cases hlt : k < 10
    · have i1 : (k : Int) < 10 := by omega
      obtain ⟨u, hu⟩ : ∃ u, u = rounds s0 k := ⟨_, rfl⟩
      rw [← hu] at hst
      have HU : Hid (u = rounds s0 k ∧ u.length = 16) := by show _ ∧ _; rw [hu, rounds_len, HI.out]; exact ⟨rfl, rfl⟩
      clear hu
      go_wp2
      rw [← quarters_00 u] at hst
      go_loopw [11] (fun i wr => ∃ m : Nat, m ≤ 8 ∧ i = .int .i64 m ∧ Hid (RBk w wr r gf g s0 (quarters u m) tl tl2) ∧ Hid (QT wr gq)) (fun i _ => 8 - (intOf i).toNat)
      case atStart => exact ⟨0, by omega, rfl, hst, hq⟩
      case round =>
        clear hst hq
        obtain ⟨m, hm, rfl, hst, hq⟩ := hrel
        obtain ⟨wi, hwi⟩ : ∃ wi : World, wi = wr := ⟨_, rfl⟩
        subst hwi
        by_cases hlt2 : m < 8
        · have i2 : (m : Int) < 8 := by omega
          have c0 : wi.cell? ⟨gq, m * 4, none⟩ = some (.int .i64 (pick (q4 m) 0)) := hq.out.cell m 0 hlt2 (by decide)
          have c1 := hq.out.cell m 1 hlt2 (by decide)
          have c2 := hq.out.cell m 2 hlt2 (by decide)
          have c3 := hq.out.cell m 3 hlt2 (by decide)
          go_wp2_with (go_at_call 24; (refine (quartR_any g c (pick (q4 m) 0) (pick (q4 m) 1) (pick (q4 m) 2) (pick (q4 m) 3) 23 (quarters u m) tl2 wi hst.out.ss (by rw [quarters_len, HU.out.2]) ((q4_ok m hlt2).2 0 (by decide)) ((q4_ok m hlt2).2 1 (by decide)) ((q4_ok m hlt2).2 2 (by decide)) ((q4_ok m hlt2).2 3 (by decide))).mono ?_); rintro e w7 ⟨rfl, hw7, hg7⟩; rw [← quarters_ss u m] at hw7; have HW7 := Lib.hid (And.intro hw7 hg7); clear hw7 hg7)
          go_roundw
          case rel => exact ⟨m + 1, by omega, by go_num, hst.out.grown HW7.out.2 HW7.out.1, hq.out.grown HW7.out.2 (by have := HNE.out; simp; omega)⟩
          case measure => simp [intOf]; omega
        · have hm8 : m = 8 := by omega
          have i2 : ¬ (m : Int) < 8 := by omega
          rw [hm8, HU.out.1, ← rounds_ss] at hst
          go_wp2
          go_roundw
          case rel => exact ⟨k + 1, by omega, by go_num, hst, hq⟩
          case measure => simp [intOf]; omega
    · have hk10 : k = 10 := by omega
      have i1 : ¬ (k : Int) < 10 := by omega
      rw [hk10] at hst
      clear hk10 hq
      go_wp2_with ((with_reducible show wpList _ _ _ _ _ _); refine wpList_store_all rfl 30 (.tmp 12) (.tmp 40) rfl wo.heap.size (cb (List.replicate 64 0)) rfl rfl 30 (cb (List.replicate 64 0)).toArray 64 (bt_new rfl rfl) info30 (by simp [cb]) (by simp [cb_len]) (cb_one _) ?_; intro w8 hb8 hg8 hz8; have HB8 : Hid (BT w8 wo.heap.size 30 (List.replicate 64 0) ∧ Below wo.heap.size wo w8) := And.intro hb8 ((below_alloc _).grown hg8 (by simp) (fun k hk => by injection hk with hk; omega)); clear hb8 hg8 hz8)
      have hst8 : Hid (RBk w w8 r gf g s0 (rounds s0 10) tl tl2) := hst.out.up HB8.out.2
      have hq8 : Hid (BT w8 wo.heap.size 30 (laid64 s0 (rounds s0 10) (4 * 0))) := by rw [Nat.mul_zero, laid64_0]; exact HB8.out.1
      have HQM : Hid (r < wo.heap.size ∧ gf < wo.heap.size ∧ g < wo.heap.size) := ⟨hst.out.rr.lt, hst.out.ff.lt, hst.out.ss.lt⟩
      have HV : Hid ((rounds s0 10).length = 16) := by show _ = _; rw [rounds_len, HI.out]
      have hfin : Hid (blockOf s0 = sumBytes s0 (rounds s0 10)) := Lib.hid rfl
      generalize rounds s0 10 = v at *
      generalize wo.heap.size = q at *
      clear hst HB8
      go_loopw [13, 14, 15] (fun u _ _ wr => ∃ i : Nat, i ≤ 16 ∧ u = .int .i64 i ∧ Hid (RBk w wr r gf g s0 v tl tl2) ∧ Hid (BT wr q 30 (laid64 s0 v (4 * i)))) (fun u _ _ _ => 16 - (intOf u).toNat)
      case atStart => exact ⟨0, by omega, rfl, hst8, hq8⟩
      case round =>
        clear hst8 hq8
        obtain ⟨i, hi, rfl, hst, hq⟩ := hrel
        obtain ⟨wi, hwi⟩ : ∃ wi : World, wi = wr := ⟨_, rfl⟩
        subst hwi
        by_cases hlt2 : i < 16
        · have i2 : (i : Int) < 16 := by omega
          have c1 := hst.out.ss.cell i (by rw [HV.out]; exact hlt2)
          have c2 := hst.out.ff.cell i (by rw [HI.out]; exact hlt2)
          go_wp2
          go_still_tail 9, (by kernel_rfl)
          change wpList _ _ _ _ _ wi.drew
          go_wp2
          obtain ⟨X, hX⟩ : ∃ X, X = at_ v i + at_ s0 i := ⟨_, rfl⟩
          have HX := Lib.hid hX
          rw [← hX]
          clear hX c1 c2
          go_loopw [14, 15] (fun x u wr => ∃ k : Nat, k ≤ 4 ∧ u = .int .i64 k ∧ x = .int .u32 (wd X / 2 ^ (8 * k)) ∧ Hid (RBk w wr r gf g s0 v tl tl2) ∧ Hid (BT wr q 30 (laid64 s0 v (4 * i + k)))) (fun _ u _ => 4 - (intOf u).toNat)
          case atStart => exact ⟨0, by omega, rfl, by rw [pow_0], hst.out.drew, hq.out.drew⟩
          case round =>
            clear hst hq
            obtain ⟨k, hk, rfl, rfl, hst, hq⟩ := hrel
            obtain ⟨wj, hwj⟩ : ∃ wj : World, wj = wr := ⟨_, rfl⟩
            subst hwj
            by_cases hlt3 : k < 4
            · have i3 : (k : Int) < 4 := by omega
              obtain ⟨e1, e2, e3, e4, e5⟩ := ix_64 i k hlt2 hlt3
              have c3 := hq.out.cell (4 * i + k) (by rw [laid64_len]; omega)
              have f3 := hq.out.frozen (4 * i + k)
              have e6 : IntKind.u32.wrap (wd X / 2 ^ (8 * k) / 256) = wd X / 2 ^ (8 * k) / 256 := by rw [div_256]; exact u32_div X (k + 1)
              go_wp2
              go_roundw
              case rel =>
                rw [show wd X / 2 ^ (8 * k) % 256 = ((low8 (8 * k) X).toNat : Int) by rw [low8_int]]
                refine ⟨k + 1, by omega, by go_num, by rw [div_256], hst.out.other (grown_set _ _ _ _) HQM.out, ?_⟩
                rw [laid64_ix s0 v i k hlt3, ← HX.out]
                exact hq.out.set_ (4 * i + k) _
              case measure => simp [intOf]; omega
            · have hk4 : k = 4 := by omega
              have i3 : ¬ (k : Int) < 4 := by omega
              go_wp2
              go_roundw
              case rel => exact ⟨i + 1, by omega, by go_num, hst, by rw [show 4 * (i + 1) = 4 * i + k by omega]; exact hq⟩
              case measure => simp [intOf]; omega
        · have hi16 : i = 16 := by omega
          have i2 : ¬ (i : Int) < 16 := by omega
          have hq2 : Hid (BT wi q 30 (sumBytes s0 v)) := by rw [← laid64_64]; rw [hi16] at hq; exact hq
          clear hq
          go_wp2_with (first
            | ((with_reducible show wpList _ _ _ _ _ _); refine wpList_load_all rfl 30 (.tmp 12) rfl q rfl 30 (cb (sumBytes s0 v)) 5 64 hq2.out Tryd.underlying30 info30 (by rw [cb_len, sumBytes_len]) ?_)
            | ((with_reducible show wpList _ _ _ _ _ _); refine wpList_store_all rfl 30 (.tmp 6) (.tmp 67) rfl r (cb (sumBytes s0 v)) rfl rfl 30 _ 64 hst.out.rr info30 (by simp [cb]) (by rw [cb_len, sumBytes_len]) (cb_one _) ?_; intro w9 hb9 hg9 hz9; have HZ9 := Lib.hid hz9; clear hz9))
          have hbel : Below w.heap.size w w9 := hst.out.bel.grown hg9 (by have := hst.out.low; have := hst.out.rr.lt; omega) (fun k hk => by injection hk with hk; have := hst.out.low; omega)
          refine bodyPost_ret (v := .agg (cb (sumBytes s0 v)).toArray) (results_cell_row Tryd.results13 _ w9 r 30 _ (0, 0) _ rfl hb9 Tryd.underlying30 rfl (by rw [info30]; simp [cb_len, sumBytes_len])) rfl ⟨by rw [← HE.out, hfin.out], hbel⟩
end Go.Proofs.YtbpphdmkfjdhnaaDoor
