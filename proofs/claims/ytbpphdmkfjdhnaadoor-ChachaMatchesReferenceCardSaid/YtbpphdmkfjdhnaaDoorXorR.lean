/-
  The reference's Xor, by a contract.
-/
import Derived.Test.YtbpphdmkfjdhnaaDoorBlockR
import Derived.Test.YtbpphdmkfjdhnaaDoorXorP
import Derived.Deep.RegionHeldLaw
import Derived.Laws.AppendOwn
namespace Go.Proofs.YtbpphdmkfjdhnaaDoor
open Go.RowKit

attribute [local go_sem] wd_add wd_addw wd_xor wd_or wd_not wd_mod wd_wrap u8_xor
theorem blockR_is (key nonce : List UInt8) (n : UInt32) (z : Int) (bl : List UInt8) (w : World) (hk : key.length = 32) (hn : nonce.length = 12) (hz : wd n = z) (hb : blockOf (initS key nonce n) = bl) :
    Calls Tryd.prog 13 #[.agg (cb key).toArray, .agg (cb nonce).toArray, .int .u32 z] w fun e w' => e = .returned (.agg (cb bl).toArray) ∧ Below w.heap.size w w' := by
  subst hz hb
  exact blockR_any key nonce n w hk hn
theorem own_ne {w : World} {base q : Nat} {v : Value} {l st : List UInt8} (h : Owns w base v l) (hq : BT w q 30 st) : some q ≠ v.ownBlock := by
  intro e
  rcases h.2 with ⟨rfl, _⟩ | ⟨g, cap, cur, rfl, _, hg, _⟩
  · cases e
  · simp [Value.ownBlock] at e
    subst e
    have := hg.symm.trans hq
    simp at this
theorem bt_at (w : World) : ((w.alloc (.cells #[] 5)).alloc (.cells (cb (List.replicate 64 0)).toArray 30)).heap[w.heap.size + 1]? = some (.cells (cb (List.replicate 64 0)).toArray 30 (0, 0)) := bt_new (w := w.alloc (.cells #[] 5)) (n := 64) rfl (by simp)
theorem ctr_len (key nonce : List UInt8) (j : Nat) : (ctr key nonce j).length = 64 := blockOf_len _
theorem owns_empty_at {w : World} {g : Nat} (h : w.heap[g]? = some (.cells #[] 5 (0, 0))) : Owns w g (.slice (some ⟨g, 0, none⟩) 0 0) [] :=
  ⟨rfl, .inr ⟨g, 0, #[], rfl, Nat.le_refl _, h, Nat.le_refl _, by simp [maxLen], rfl, rfl⟩⟩
theorem own_up {w w' : World} {base : Nat} {v : Value} {l : List UInt8} (h : Owns w base v l) (hb : Below w.heap.size w w') : Owns w' base v l := by
  refine ⟨h.1, ?_⟩
  rcases h.2 with h2 | ⟨g, cap, cur, e, hb2, hg, r⟩
  · exact .inl h2
  · exact .inr ⟨g, cap, cur, e, hb2, (hb.block g (Array.getElem?_eq_some_iff.1 hg).1).trans hg, r⟩
theorem sh_cell {w : World} {B pa off : Nat} {b : List UInt8} (h : Shows w B (some ⟨pa, off, none⟩) b) (k : Nat) (x : UInt8) (hx : b[k]? = some x) : w.cell? ⟨pa, off + k, none⟩ = some (.int .u8 (x.toNat : Int)) := by
  obtain ⟨b', off', e, _, hc⟩ := h (by have := (List.getElem?_eq_some_iff.1 hx).1; omega)
  injection e with e
  injection e with e1 e2
  subst e1 e2
  exact hc k x hx
theorem keyAt_is (key nonce : List UInt8) (j : Nat) : keyAt key nonce j = byte (ctr key nonce (j / 64)) (j % 64) := rfl
theorem ctr_is (key nonce : List UInt8) (d k : Nat) (h : d = k / 64) : blockOf (initS key nonce (UInt32.ofNat d)) = ctr key nonce (k / 64) := by subst h; rfl
structure FX (base q : Nat) (w0 w : World) (st : List UInt8) (v : Value) (l : List UInt8) : Prop where
  bel : Below base w0 w
  bt : BT w q 30 st
  own : Owns w base v l
  top : base ≤ w.heap.size
structure GX (base q : Nat) (w0 w : World) (st : List UInt8) (v : Value) (l : List UInt8) (z : Int) (g : Nat) : Prop where
  f : FX base q w0 w st v l
  cell : w.cell? ⟨g, 0, none⟩ = some (.int .u8 z)
theorem FX.dr {base q : Nat} {w0 w : World} {st : List UInt8} {v : Value} {l : List UInt8} (h : FX base q w0 w st v l) : FX base q w0 w.drew st v l := ⟨h.bel.drew, h.bt, h.own, h.top⟩
theorem GX.dr {base q : Nat} {w0 w : World} {st : List UInt8} {v : Value} {l : List UInt8} {z : Int} {g : Nat} (h : GX base q w0 w st v l z g) : GX base q w0 w.drew st v l z g := ⟨h.f.dr, h.cell⟩
theorem FX.al {base q : Nat} {w0 w : World} {st : List UInt8} {v : Value} {l : List UInt8} (h : FX base q w0 w st v l) (z : Int) : GX base q w0 (w.alloc (.cells #[.int .u8 z] 5)) st v l z w.heap.size :=
  ⟨⟨h.bel.trans ((below_alloc _).mono h.top), h.bt.alloc _, World.ownsRow.alloc h.own _, by have := h.top; simp; omega⟩, by simp⟩
theorem step_growX {ops : Array Oper} {o : Oper} {a : Act} {w : World} {K : Act → World → Prop} {Q : Exit → Act → World → Prop} {E : Prop} (hgd : o.guard = none) (d x : Operand)
    (ho : o.op = .call { callee := .builtin .append, args := #[d, x], argTypes := #[22, 22] }) (base q : Nat) (w0 : World) (st : List UInt8) (v : Value) (l : List UInt8) (c : UInt8) (z : Int) (g : Nat)
    (hs : a.eval d = v) (hx : a.eval x = .slice (some ⟨g, 0, none⟩) 1 1) (hz : z = (c.toNat : Int)) (hG : GX base q w0 w st v l z g) (hroom : l.length + 1 ≤ 1000001)
    (hK : ∀ A' c' w', Owns w' base (.slice A' (l ++ [c]).length c') (l ++ [c]) → Below base w0 w' ∧ BT w' q 30 st → K (a.put o.dst (.slice A' (l ++ [c]).length c')) w') :
    if Region.wanted o (yielded ops a.tmps) = true then Oper.wp Tryd.prog o a w K Q else E := by
  have hw : Region.wanted o (yielded ops a.tmps) = true := by simp [Region.wanted, hgd]
  rw [if_pos hw]
  obtain ⟨i, hi, hz0, hsz, hb⟩ := info_parts info5
  have e : (l ++ [c]).length = l.length + 1 := by simp
  refine wp_append_own _ d x 22 ho base 5 i (.int .u8 0) 1 1 Tryd.underlying22 hi hz0 hsz hb rfl (by decide) v l.length (cb l) hs hG.f.own ⟨g, 0, none⟩ 1 1 (cb [c]) hx (by simp [cb]) ?_ (cb_one [c]) (by simp only [maxLen]; omega) (by omega) hG.f.top ?_
  · intro j u hj
    have h0 : j = 0 := by have := (List.getElem?_eq_some_iff.1 hj).1; simp [cb] at this; exact this
    subst h0
    simp [cb] at hj
    subst hj
    have := hG.cell
    rw [hz] at this
    simpa [Addr.add_lit] using this
  · intro v' w' h1 h3 _
    have ho' : Owns w' base v' (l ++ [c]) := by unfold Owns; rw [cb_app, e]; exact h1
    obtain ⟨A', c', rfl⟩ := ho'.slice
    exact hK A' c' w' ho' ⟨grown_owns hG.f.own h3 hG.f.bel hG.f.top (Nat.le_refl _), hG.f.bt.grown h3 (own_ne hG.f.own hG.f.bt)⟩
theorem div64 (k : Nat) (hk : k ≤ 1000000) : ∃ d : Nat, Hid (d = k / 64) ∧ (k : Int).tdiv 64 = (d : Int) ∧ IntKind.i64.wrap (d : Int) = (d : Int) ∧ IntKind.u32.wrap (d : Int) = (d : Int) ∧ wd (UInt32.ofNat d) = (d : Int) := by
  refine ⟨k / 64, rfl, by rw [Int.tdiv_eq_ediv_of_nonneg (by omega)]; omega, IntWalk.i64_in _ ⟨by omega, by omega⟩, ?_, ?_⟩
  · rw [IntKind.wrap_u32]; omega
  · unfold wd
    rw [UInt32.toNat_ofNat']
    omega
structure SXR (w wr : World) (B p base : Nat) (A : Option Addr) (key nonce b : List UInt8) : Prop where
  kk : BT wr B 26 key
  nn : BT wr p 27 nonce
  sh : Shows wr B A b
  bel : Below B w wr
  low : B < p ∧ p < base
  top : base ≤ wr.heap.size
section
variable {w wr w' : World} {B p base : Nat} {A : Option Addr} {key nonce b : List UInt8}
theorem SXR.up (h : SXR w wr B p base A key nonce b) (hb : Below base wr w') : SXR w w' B p base A key nonce b := by
  have l := h.low
  have hb2 : Below B wr w' := hb.mono (by omega)
  exact ⟨h.kk.below hb (by omega), h.nn.below hb l.2, h.sh.below hb2, h.bel.trans hb2, l, Nat.le_trans h.top hb.size⟩
end
attribute [local irreducible] blockOf initS xorOf ctr keyAt
set_option maxHeartbeats 400000 in
set_option maxRecDepth 20000 in
theorem XorR_any (key nonce : List UInt8) (A : Option Addr) (cap : Nat) (b : List UInt8) (w : World) (hk : key.length = 32) (hn : nonce.length = 12) (hb : Shows w w.heap.size A b) (hl : b.length ≤ 1000000) :
    Calls Tryd.prog 16 #[.agg (cb key).toArray, .agg (cb nonce).toArray, .slice A b.length cap] w
      fun e w' => ∃ A' c, e = .returned (.slice A' b.length c) ∧ Shows w' w'.heap.size A' (xorOf key nonce b) ∧ Below w.heap.size w w' := by
  have HL := Lib.hid (And.intro hk hn)
  have hs := Lib.hid (kn_new w key nonce)
  have HA := Lib.hid hb
  obtain ⟨N, hN⟩ : ∃ N, N = b.length := ⟨_, rfl⟩
  rw [← hN]
  have HN := Lib.hid hN
  have hN6 : N ≤ 1000000 := by omega
  clear hk hn hb hl hN
  go_enter Tryd.func16, Tryd.ntmps16
  generalize hw0 : (w.alloc (.cells (cb key).toArray 26)).alloc (.cells (cb nonce).toArray 27) = w0 at *
  go_wp2_with ((with_reducible show wpList _ _ _ _ _ _); go_loud (refine wpList_store_all rfl 30 (.tmp 8) (.tmp 11) rfl (w0.heap.size + 1) (cb (List.replicate 64 0)) rfl rfl 30 (cb (List.replicate 64 0)).toArray 64 (bt_new (w := w0.alloc (.cells #[] 5)) (n := 64) (t := 30) rfl (by simp)) info30 (by simp [cb]) (by simp [cb_len]) (cb_one _) ?_); intro w8 hb8 hg8 hz8; have HB8 := Lib.hid (And.intro hb8 (And.intro hg8 hz8)); clear hb8 hg8 hz8)
  have hz0 : w0.heap.size = w.heap.size + 1 + 1 := by rw [← hw0]; simp
  have ho0 : Hid (Owns w8 w0.heap.size (.slice (some ⟨w0.heap.size, 0, none⟩) 0 0) ((xorOf key nonce b).take 0)) := by
    rw [List.take_zero]
    exact owns_empty_at ((HB8.out.2.1.block w0.heap.size (by simp; omega) (by simp)).trans ((Below.heap_alloc _ _ _ (by simp)).trans (heap_alloc_new w0 _)))
  have hr0 : Hid (SXR w w8 w.heap.size (w.heap.size + 1) w0.heap.size A key nonce b) := by
    have hb : Below w0.heap.size w0 w8 := ((below_alloc _).trans ((below_alloc _).mono (by simp))).grown HB8.out.2.1 (by simp; omega) (fun k hk => by injection hk with hk; omega)
    have hbw := hs.out.2.2
    have hww : Below w.heap.size w w8 := hbw.trans (hb.mono (by omega))
    exact ⟨hs.out.1.up hb, hs.out.2.1.up hb, HA.out.below hww, hww, by omega, hb.size⟩
  have hq0 : Hid (∃ st : List UInt8, st.length = 64 ∧ BT w8 (w0.heap.size + 1) 30 st ∧ (0 % 64 = 0 ∨ st = ctr key nonce (0 / 64))) := ⟨_, by simp, HB8.out.1, Or.inl rfl⟩
  have HB : Hid (w.heap.size ≤ w0.heap.size) := by show _ ≤ _; omega
  have HQB : Hid (w0.heap.size ≤ w0.heap.size + 1) := Nat.le_succ _
  clear HB8 hs hw0 HA
  generalize w0.heap.size + 1 = q at *
  generalize w0.heap.size = base at *
  generalize hB : w.heap.size = B at *
  have HBB := Lib.hid hB
  clear hB hz0
  generalize B + 1 = p at *
  go_loopw [7, 9] (fun u i wr => ∃ (k : Nat) (v : Value), k ≤ N ∧ i = .int .i64 k ∧ u = v ∧ Hid (Owns wr base v ((xorOf key nonce b).take k)) ∧ Hid (SXR w wr B p base A key nonce b) ∧ Hid (∃ st : List UInt8, st.length = 64 ∧ BT wr q 30 st ∧ (k % 64 = 0 ∨ st = ctr key nonce (k / 64)))) (fun _ i _ => N - (intOf i).toNat)
  case atStart => exact ⟨0, _, by omega, rfl, rfl, ho0, hr0, hq0⟩
  case round =>
    clear ho0 hr0 hq0
    obtain ⟨k, v, hk, rfl, rfl, ho, hr, hst⟩ := hrel
    obtain ⟨wo, hwo⟩ : ∃ wo : World, wo = wr := ⟨_, rfl⟩
    subst hwo
    have HX := Lib.hid (xorOf_len key nonce b)
    by_cases hlt : k < N
    · have i1 : (k : Int) < (N : Int) := by omega
      obtain ⟨x, hx⟩ : ∃ x, b[k]? = some x := ⟨b[k]'(by rw [← HN.out]; exact hlt), by simp⟩
      have hxx := Lib.hid hx
      obtain ⟨pa, off, rfl, hpB, hcell⟩ := hr.out.sh (by rw [← HN.out]; omega)
      have hcx := Lib.hid (hcell k x hx)
      obtain ⟨z, hz, hz64, m1, m2, m3⟩ := mod64 k (by omega)
      obtain ⟨d, hd, d1, d2, d3, d4⟩ := div64 k (by omega)
      have HD4 := Lib.hid d4
      clear hcell hx d4
      by_cases h0 : z = 0
      · have m0 : (k : Int).tmod 64 = 0 := by rw [m1, h0]; rfl
        have m4 : (0 : Int) < 64 := by decide
        subst h0
        clear m1 m2 m3
        go_wp2_with (first
          | ((with_reducible show wpList _ _ _ _ _ _); refine wpList_load_all rfl 26 (.tmp 3) rfl B rfl 26 (cb key) 5 32 hr.out.kk Tryd.underlying26 info26 (by rw [cb_len, HL.out.1]) ?_)
          | ((with_reducible show wpList _ _ _ _ _ _); refine wpList_load_all rfl 27 (.tmp 4) rfl p rfl 27 (cb nonce) 5 12 hr.out.nn Tryd.underlying27 info27 (by rw [cb_len, HL.out.2]) ?_)
          | (go_at_call 13; refine (blockR_is key nonce (UInt32.ofNat d) d (ctr key nonce (k / 64)) wo HL.out.1 HL.out.2 HD4.out (ctr_is key nonce d k hd.out)).mono ?_; rintro e w5 ⟨rfl, hb5⟩; have HS5 := Lib.hid (hr.out.up (hb5.mono hr.out.top)); have HB5 := Lib.hid hb5; have HQ5 := Lib.hid (hst.out.choose_spec.2.1.up hb5); clear hb5)
          | ((with_reducible show wpList _ _ _ _ _ _); go_loud (refine wpList_store_all rfl 30 (.tmp 8) (.tmp 26) rfl q (cb (ctr key nonce (k / 64))) rfl rfl 30 _ 64 HQ5.out info30 (by simp [cb, hst.out.choose_spec.1]) (by rw [cb_len]; exact ctr_len key nonce (k / 64)) (cb_one _) ?_); intro w6 hb6 hg6 hz6; have HQ6 : Hid (BT w6 q 30 (ctr key nonce (k / 64))) := hb6; have HG6 : Hid (Below base w5 w6) := Lib.hid ((Below.refl _ _).grown hg6 HS5.out.top (fun k hk => by injection hk with hk; subst hk; exact HQB.out)); have HO6 : Hid (Owns w6 base _ ((xorOf key nonce b).take k)) := World.ownsRow.kept (own_up ho.out HB5.out) hg6 (Or.inr (fun e => own_ne (own_up ho.out HB5.out) HQ5.out e.symm)); have HS6 := Lib.hid (HS5.out.up HG6.out); have HT6 := Lib.hid HS6.out.top; have cx := sh_cell HS6.out.sh k x hxx.out; have cq := HQ6.out.cell 0 (by rw [ctr_len]; decide); clear hb6 hg6 hz6))
        have FF : FX base q w6 w6 (ctr key nonce (k / 64)) _ ((xorOf key nonce b).take k) := ⟨Below.refl _ _, HQ6.out, HO6.out, HT6.out⟩
        have FH := Lib.hid FF
        clear FF
        go_region_held_law (fun w' => w'.cell? ⟨pa, off + k, none⟩ = some (.int .u8 (x.toNat : Int)) ∧ w'.cell? ⟨q, 0, none⟩ = some (.int .u8 ((byte (ctr key nonce (k / 64)) 0).toNat : Int)))
          (first | exact hS7 | go_keep)
          (first
            | (refine step_growX rfl (.tmp 27) (.tmp 37) rfl base q w6 (ctr key nonce (k / 64)) _ ((xorOf key nonce b).take k) (x ^^^ byte (ctr key nonce (k / 64)) 0) ((x.toNat ^^^ (byte (ctr key nonce (k / 64)) 0).toNat : Nat) : Int) w6.heap.size rfl rfl (by rw [UInt8.toNat_xor]) (by first | exact FH.out.al _ | exact (FH.out.al _).dr | exact FH.out.dr.al _ | exact (FH.out.dr.al _).dr | exact FH.out.dr.dr.al _) (by rw [List.length_take]; omega) ?_; intro A7 c7 w7 ho7 hg7; have HO7 := Lib.hid ho7; have HG7 := Lib.hid hg7; have hS7 : w7.cell? ⟨pa, off + k, none⟩ = some (.int .u8 (x.toNat : Int)) ∧ w7.cell? ⟨q, 0, none⟩ = some (.int .u8 ((byte (ctr key nonce (k / 64)) 0).toNat : Int)) := ⟨sh_cell (HS6.out.up hg7.1).sh k x hxx.out, hg7.2.cell _ (by rw [ctr_len _ _ _]; omega)⟩; clear ho7 hg7))
        go_wp2_with fail
        go_roundw
        case rel =>
          have e : (xorOf key nonce b).take k ++ [x ^^^ byte (ctr key nonce (k / 64)) 0] = (xorOf key nonce b).take (k + 1) := by
            have e2 : byte (ctr key nonce (k / 64)) 0 = keyAt key nonce k := by rw [keyAt_is, ← hz.out]
            rw [List.take_add_one, xorOf_get, hxx.out, e2]
            rfl
          rw [show ((xorOf key nonce b).take k ++ [x ^^^ byte (ctr key nonce (k / 64)) 0]).length = min k (xorOf key nonce b).length + 1 by simp, e] at HO7
          refine ⟨k + 1, _, by omega, by go_num, rfl, ?_, HS6.out.up HG7.out.1, ⟨(ctr key nonce (k / 64)), ctr_len _ _ _, HG7.out.2, (nx_st k).imp id fun h => by rw [h]⟩⟩
          exact HO7
        case measure => simp [intOf]; omega
      · have g0 : ¬ ((z : Int) = 0) := by omega
        obtain ⟨st, hl64, hbt, hor⟩ := hst.out
        have hst2 : Hid (st = ctr key nonce (k / 64)) := by
          rcases hor with h | h
          · exact absurd (hz.out.trans h) h0
          · exact h
        have cq := hbt.cell z (by rw [hl64]; exact hz64)
        have cx := hcx.out
        have HBT := Lib.hid hbt
        have HT := Lib.hid hr.out.top
        clear hst hor hbt
        go_wp2
        have FF : FX base q wo wo st _ ((xorOf key nonce b).take k) := ⟨Below.refl _ _, HBT.out, ho.out, HT.out⟩
        have FH := Lib.hid FF
        clear FF
        go_region_held_law (fun w' => w'.cell? ⟨pa, off + k, none⟩ = some (.int .u8 (x.toNat : Int)) ∧ w'.cell? ⟨q, z, none⟩ = some (.int .u8 ((byte st z).toNat : Int)))
          (first | exact hS7 | go_keep)
          (first
            | (refine step_growX rfl (.tmp 27) (.tmp 37) rfl base q wo st _ ((xorOf key nonce b).take k) (x ^^^ byte st z) ((x.toNat ^^^ (byte st z).toNat : Nat) : Int) wo.heap.size rfl rfl (by rw [UInt8.toNat_xor]) (by first | exact FH.out.al _ | exact (FH.out.al _).dr | exact FH.out.dr.al _ | exact (FH.out.dr.al _).dr | exact FH.out.dr.dr.al _) (by rw [List.length_take]; omega) ?_; intro A7 c7 w7 ho7 hg7; have HO7 := Lib.hid ho7; have HG7 := Lib.hid hg7; have hS7 : w7.cell? ⟨pa, off + k, none⟩ = some (.int .u8 (x.toNat : Int)) ∧ w7.cell? ⟨q, z, none⟩ = some (.int .u8 ((byte st z).toNat : Int)) := ⟨sh_cell (hr.out.up hg7.1).sh k x hxx.out, hg7.2.cell _ (by rw [hl64]; omega)⟩; clear ho7 hg7))
        go_wp2_with fail
        go_roundw
        case rel =>
          have e : (xorOf key nonce b).take k ++ [x ^^^ byte st z] = (xorOf key nonce b).take (k + 1) := by
            have e2 : byte st z = keyAt key nonce k := by rw [keyAt_is, hst2.out, ← hz.out]
            rw [List.take_add_one, xorOf_get, hxx.out, e2]
            rfl
          rw [show ((xorOf key nonce b).take k ++ [x ^^^ byte st z]).length = min k (xorOf key nonce b).length + 1 by simp, e] at HO7
          refine ⟨k + 1, _, by omega, by go_num, rfl, ?_, hr.out.up HG7.out.1, ⟨st, hl64, HG7.out.2, (nx_st k).imp id fun h => by rw [hst2.out, h]⟩⟩
          exact HO7
        case measure => simp [intOf]; omega
    · have hkN : k = N := by omega
      have i1 : ¬ (k : Int) < (N : Int) := by omega
      rw [hkN, HN.out, List.take_of_length_le (by rw [HX.out]; exact Nat.le_refl _)] at ho
      obtain ⟨A', c', rfl⟩ := ho.out.slice
      go_wp2
      go_ret
      refine ⟨A', ⟨c', by rw [HX.out, ← HN.out]; rfl⟩, ho.out.shows.2.2, ?_⟩
      rw [HBB.out]
      exact hr.out.bel
end Go.Proofs.YtbpphdmkfjdhnaaDoor
