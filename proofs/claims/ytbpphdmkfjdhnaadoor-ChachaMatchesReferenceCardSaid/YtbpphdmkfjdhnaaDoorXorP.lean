/-
  The program's combine and Xor, by contracts.
-/
import Derived.Test.YtbpphdmkfjdhnaaDoorInitP
namespace Go.Proofs.YtbpphdmkfjdhnaaDoor
open Go.RowKit

theorem u8_xor (x y : UInt8) : bits .xor .u8 (x.toNat : Int) (y.toNat : Int) = ((x ^^^ y).toNat : Int) := by
  have hx := x.toNat_lt
  have hy := y.toNat_lt
  unfold bits
  show IntKind.u8.wrap ((BitVec.ofInt 8 _ ^^^ BitVec.ofInt 8 _).toNat : Int) = _
  rw [BitVec.toNat_xor, BitVec.toNat_ofInt, BitVec.toNat_ofInt, UInt8.toNat_xor, IntKind.wrap_u8]
  have e1 : ((x.toNat : Int) % ((2 ^ 8 : Nat) : Int)).toNat = x.toNat := by omega
  have e2 : ((y.toNat : Int) % ((2 ^ 8 : Nat) : Int)).toNat = y.toNat := by omega
  rw [e1, e2]
  have := Nat.xor_lt_two_pow (n := 8) hx hy
  omega
attribute [local go_sem] wd_add wd_addw wd_xor wd_or wd_not wd_mod wd_wrap u8_xor

theorem fill_set {α : Type} (l : List α) (z x : α) (k : Nat) (h : l[k]? = some x) : (l.take k ++ List.replicate (l.length - k) z).set k x = l.take (k + 1) ++ List.replicate (l.length - (k + 1)) z := by
  have hk := (List.getElem?_eq_some_iff.1 h).1
  apply List.ext_getElem?
  intro j
  rw [List.getElem?_set]
  by_cases hj : k = j
  · subst hj
    rw [if_pos rfl, if_pos (by simp; omega), List.getElem?_append_left (by simp; omega), List.getElem?_take, if_pos (by omega), h]
  · rw [if_neg hj]
    by_cases hlt : j < k
    · rw [List.getElem?_append_left (by simp; omega), List.getElem?_append_left (by simp; omega), List.getElem?_take, List.getElem?_take, if_pos hlt, if_pos (by omega)]
    · rw [List.getElem?_append_right (by simp; omega), List.getElem?_append_right (by simp; omega), List.getElem?_replicate, List.getElem?_replicate]
      simp only [List.length_take]
      by_cases h1 : j < l.length
      · rw [if_pos (by omega), if_pos (by omega)]
      · rw [if_neg (by omega), if_neg (by omega)]
theorem initS_at (key nonce : List UInt8) (n : UInt32) : at_ (initS key nonce n) 12 = n := by kernel_rfl
theorem initS_set (key nonce : List UInt8) (n m : UInt32) : (initS key nonce n).set 12 m = initS key nonce m := by kernel_rfl
theorem ofNat_succ (j : Nat) : UInt32.ofNat j + 1 = UInt32.ofNat (j + 1) := by
  apply UInt32.toNat_inj.1
  simp [UInt32.toNat_add, UInt32.toNat_ofNat']

/-- the state of combine's loop: s, the bytes made -/
structure SX (w wr : World) (B c q : Nat) (A : Option Addr) (key nonce b : List UInt8) (k j : Nat) : Prop where
  ss : WB wr B 49 (initS key nonce (UInt32.ofNat j))
  cc : BT wr c 5 ((xorOf key nonce b).take k ++ List.replicate (b.length - k) 0)
  sh : Shows wr B A b
  bel : Below B w wr
  low : B < c ∧ c < q
section
variable {w wr w' : World} {B c q k j : Nat} {A : Option Addr} {key nonce b : List UInt8}
theorem SX.drew (h : SX w wr B c q A key nonce b k j) : SX w wr.drew B c q A key nonce b k j := ⟨h.ss, h.cc, h.sh, h.bel.drew, h.low⟩
theorem SX.up (h : SX w wr B c q A key nonce b k j) (hb : Below wr.heap.size wr w') : SX w w' B c q A key nonce b k j :=
  ⟨h.ss.up hb, h.cc.up hb, h.sh.below (hb.mono (Nat.le_of_lt h.ss.lt)), h.bel.trans (hb.mono (Nat.le_of_lt h.ss.lt)), h.low⟩
theorem SX.stream (h : SX w wr B c q A key nonce b k j) (hg : wr.grownBy w' (some q)) : SX w w' B c q A key nonce b k j := by
  have l := h.low
  have hl := h.ss.lt
  have hb : Below B wr w' := (Below.refl B wr).grown hg (by omega) (fun k hk => by injection hk with hk; omega)
  exact ⟨h.ss.grown hg (by simp; omega), h.cc.grown hg (by simp; omega), h.sh.below hb, h.bel.trans hb, l⟩
theorem SX.inc (h : SX w wr B c q A key nonce b k j) : SX w (wr.setCell ⟨B, 12, none⟩ (.int .u32 (wd (UInt32.ofNat (j + 1))))) B c q A key nonce b k (j + 1) := by
  have l := h.low
  have hl := h.ss.lt
  have hg := grown_set wr B 12 (.int .u32 (wd (UInt32.ofNat (j + 1))))
  have hb : Below B wr (wr.setCell ⟨B, 12, none⟩ (.int .u32 (wd (UInt32.ofNat (j + 1))))) := (Below.refl B wr).grown hg (by omega) (fun k hk => by injection hk with hk; omega)
  refine ⟨?_, h.cc.grown hg (by simp; omega), h.sh.below hb, h.bel.trans hb, l⟩
  have := h.ss.set_ 12 (UInt32.ofNat (j + 1))
  rwa [initS_set] at this
theorem SX.put (h : SX w wr B c q A key nonce b k j) {x : UInt8} (hx : b[k]? = some x) : SX w (wr.setCell ⟨c, k, none⟩ (.int .u8 ((x ^^^ keyAt key nonce k).toNat : Int))) B c q A key nonce b (k + 1) j := by
  have l := h.low
  have hl := h.ss.lt
  have hg := grown_set wr c k (.int .u8 ((x ^^^ keyAt key nonce k).toNat : Int))
  have hb : Below B wr (wr.setCell ⟨c, k, none⟩ (.int .u8 ((x ^^^ keyAt key nonce k).toNat : Int))) := (Below.refl B wr).grown hg (by omega) (fun k hk => by injection hk with hk; omega)
  refine ⟨h.ss.grown hg (by simp; omega), ?_, h.sh.below hb, h.bel.trans hb, l⟩
  have := h.cc.set_ k (x ^^^ keyAt key nonce k)
  have hf := fill_set (xorOf key nonce b) 0 (x ^^^ keyAt key nonce k) k (by rw [xorOf_get, hx]; rfl)
  rw [xorOf_len] at hf
  rwa [hf] at this
end
theorem nx_div (k : Nat) (h : k % 64 = 0) : (k + 63) / 64 = k / 64 ∧ (k + 1 + 63) / 64 = k / 64 + 1 := by omega
theorem nx_div' (k : Nat) (h : ¬ k % 64 = 0) : (k + 1 + 63) / 64 = (k + 63) / 64 := by omega
theorem nx_st (k : Nat) : (k + 1) % 64 = 0 ∨ (k + 1) / 64 = k / 64 := by omega
theorem inc_wd (j : Nat) : (wd (UInt32.ofNat j) + 1) % 4294967296 = wd (UInt32.ofNat (j + 1)) ∧ IntKind.u32.wrap (wd (UInt32.ofNat j) + 1) = wd (UInt32.ofNat (j + 1)) := by
  have h : wd 1 = 1 := by decide
  have := wd_add (UInt32.ofNat j) 1
  rw [h, ofNat_succ] at this
  exact ⟨this, by rw [IntKind.wrap_u32, this]⟩
theorem mod64 (k : Nat) (hk : k ≤ 1000000) : ∃ z : Nat, Hid (z = k % 64) ∧ z < 64 ∧ (k : Int).tmod 64 = (z : Int) ∧ IntKind.i64.wrap (z : Int) = (z : Int) ∧ (z : Int) < 64 :=
  ⟨k % 64, rfl, by omega, by rw [Int.tmod_eq_emod_of_nonneg (by omega)]; omega, IntWalk.i64_in _ ⟨by omega, by omega⟩, by omega⟩

set_option maxHeartbeats 4000000 in
set_option maxRecDepth 20000 in
theorem combineP_any (key nonce : List UInt8) (A : Option Addr) (cap : Nat) (b : List UInt8) (w : World) (hb : Shows w w.heap.size A b) (hl : b.length ≤ 1000000) (G : GlobQ w) :
    Calls Tryd.prog 25 #[.agg (cw (initS key nonce 0)).toArray, .slice A b.length cap] w
      fun e w' => ∃ c, e = .returned (.slice (some ⟨c, 0, none⟩) b.length b.length) ∧ BT w' c 5 (xorOf key nonce b) ∧ w.heap.size ≤ c ∧ Below w.heap.size w w' := by
  have HA := Lib.hid hb
  have HG := Lib.hid G
  obtain ⟨N, hN⟩ : ∃ N, N = b.length := ⟨_, rfl⟩
  rw [← hN]
  have HN := Lib.hid hN
  have hN6 : N ≤ 1000000 := by omega
  have i0 : (N : Int) ≤ 281474976710656 := by omega
  clear hb G hl hN
  go_enter Tryd.func25, Tryd.ntmps25
  go_wp2_with ((with_reducible show wpList _ _ _ _ _ _); refine wpList_make_bytes _ rfl (.tmp 10) (.tmp 10) 22 rfl Tryd.underlying22 info5 .i64 .i64 N N N N rfl rfl rfl rfl (Nat.le_refl _) (by omega) ?_; intro w3 hb3 hbl3 hz3)
  have hsz : w3.heap.size = w.heap.size + 1 + 1 := by rw [hz3]; simp
  have hbw : Below w.heap.size w w3 := (below_alloc _).trans (hbl3.mono (by simp))
  have hx0 : (xorOf key nonce b).take 0 ++ List.replicate (b.length - 0) (0 : UInt8) = List.replicate N 0 := by simp [HN.out]
  have hq : Hid (BT (w3.alloc (.cells (cb (List.replicate 64 0)).toArray 30)) (w.heap.size + 1 + 1) 30 (List.replicate 64 0)) := bt_new rfl hsz.symm
  have hs : Hid (SX w (w3.alloc (.cells (cb (List.replicate 64 0)).toArray 30)) w.heap.size (w.heap.size + 1) (w.heap.size + 1 + 1) A key nonce b 0 0) := by
    refine ⟨?_, ?_, ?_, hbw.alloc (by omega) _, by omega⟩
    · have n1 : WB (w.alloc (.cells (cw (initS key nonce 0)).toArray 49)) w.heap.size 49 (initS key nonce 0) := heap_alloc_new w _
      exact (n1.below hbl3 (by simp)).alloc _
    · rw [hx0]
      have h := hb3.out
      have e : (w.alloc (.cells (cw (initS key nonce 0)).toArray 49)).heap.size = w.heap.size + 1 := by simp
      rw [e] at h
      exact BT.alloc (t := 5) h _
    · exact HA.out.below (hbw.alloc (by omega) _)
  clear hb3 hbl3 hz3 hsz hbw hx0
  generalize hB : w.heap.size = B at *
  have HB := Lib.hid hB
  clear hB
  generalize B + 1 + 1 = q at *
  generalize B + 1 = c at *
  have HX := Lib.hid (xorOf_len key nonce b)
  go_loopw [7, 8, 14] (fun _ _ i wr => ∃ k : Nat, k ≤ N ∧ i = .int .i64 k ∧ Hid (SX w wr B c q A key nonce b k ((k + 63) / 64)) ∧ Hid (∃ st : List UInt8, st.length = 64 ∧ BT wr q 30 st ∧ (k % 64 = 0 ∨ st = ctr key nonce (k / 64)))) (fun _ _ i _ => N - (intOf i).toNat)
  case atStart => exact ⟨0, by omega, rfl, hs, ⟨_, by simp, hq.out, Or.inl rfl⟩⟩
  case round =>
    clear hs hq
    obtain ⟨k, hk, rfl, hs, hst⟩ := hrel
    obtain ⟨wo, hwo⟩ : ∃ wo : World, wo = wr := ⟨_, rfl⟩
    subst hwo
    by_cases hlt : k < N
    · have i1 : (k : Int) < (N : Int) := by omega
      obtain ⟨x, hx⟩ : ∃ x, b[k]? = some x := ⟨b[k]'(by rw [← HN.out]; exact hlt), by simp⟩
      obtain ⟨p, off, rfl, hpB, hcell⟩ := hs.out.sh (by rw [← HN.out]; omega)
      have cx := hcell k x hx
      obtain ⟨z, hz, hz64, m1, m2, m3⟩ := mod64 k (by omega)
      have c3 := hs.out.cc.cell k (by simp [xorOf_len]; have := HN.out; omega)
      have f3 := hs.out.cc.frozen k
      clear hcell
      by_cases h0 : z = 0
      · have hk0 : k % 64 = 0 := by rw [← hz.out]; exact h0
        have m0 : (k : Int).tmod 64 = 0 := by rw [m1, h0]; rfl
        have m4 : (0 : Int) < 64 := by decide
        clear m1 m2 m3 h0 hz hz64
        obtain ⟨n1, n2⟩ := nx_div k hk0
        have l1 : B ≠ q := by have := hs.out.low; omega
        have l2 : B ≠ c := by have := hs.out.low; omega
        have g1 : ∀ (W : World) (j : Nat) (u : Value), (W.setCell ⟨B, 12, none⟩ u).cell? ⟨q, j, none⟩ = W.cell? ⟨q, j, none⟩ := fun W j u => World.cell?_setCell_other W _ _ u (fun e => l1 (congrArg Addr.block e))
        have g2 : ∀ (W : World) (j : Nat) (u : Value), (W.setCell ⟨B, 12, none⟩ u).cell? ⟨c, j, none⟩ = W.cell? ⟨c, j, none⟩ := fun W j u => World.cell?_setCell_other W _ _ u (fun e => l2 (congrArg Addr.block e))
        rw [n1] at hs
        go_wp2_with (first
          | ((with_reducible show wpList _ _ _ _ _ _); refine wpList_load_all rfl 49 (.tmp 2) rfl B rfl 49 (cw (initS key nonce (UInt32.ofNat (k / 64)))) 23 16 hs.out.ss Tryd.underlying49 info49 (by rw [cw_len, initS_len]) ?_)
          | (go_at_call 22; refine (blockP_any (initS key nonce (UInt32.ofNat (k / 64))) wo (initS_len _ _ _) (HG.out.below hs.out.bel (HB.out ▸ HG.out.size))).mono ?_; rintro e w5 ⟨rfl, hb5⟩; have HS5 := Lib.hid (hs.out.up hb5); have HQ5 := Lib.hid (hst.out.choose_spec.2.1.up hb5); clear hb5)
          | ((with_reducible show wpList _ _ _ _ _ _); refine wpList_store_all rfl 30 (.tmp 6) (.tmp 23) rfl q (cb (ctr key nonce (k / 64))) rfl rfl 30 _ 64 HQ5.out info30 (by simp [cb, hst.out.choose_spec.1]) (by rw [cb_len]; exact blockOf_len _) (cb_one _) ?_; intro w6 hb6 hg6 hz6; have HS6 := Lib.hid (HS5.out.stream hg6); have HQ6 : Hid (BT w6 q 30 (ctr key nonce (k / 64))) := hb6; have c12 := HS6.out.ss.cell 12 (by rw [initS_len]; decide); rw [initS_at] at c12; have f12 := HS6.out.ss.frozen 12; have cq := HQ6.out.cell 0 (by rw [show (ctr key nonce (k / 64)).length = 64 from blockOf_len _]; decide); have c6 := HS6.out.cc.cell k (by simp [xorOf_len]; have := HN.out; omega); have f6 := HS6.out.cc.frozen k; clear hb6 hg6 hz6))
        go_roundw
        case rel =>
          refine ⟨k + 1, by omega, by go_num, ?_, ?_⟩
          · rw [(inc_wd (k / 64)).1, ← UInt8.toNat_xor, n2]
            have e : byte (ctr key nonce (k / 64)) 0 = keyAt key nonce k := by unfold keyAt; rw [hk0]
            rw [e]
            exact HS6.out.inc.put hx
          · have hb := (HQ6.out.grown (grown_set w6 B 12 (.int .u32 ((wd (UInt32.ofNat (k / 64)) + 1) % 4294967296))) (by simp; omega)).grown (grown_set _ c k (.int .u8 ((x.toNat ^^^ (byte (ctr key nonce (k / 64)) 0).toNat : Nat) : Int))) (by have := hs.out.low; simp; omega)
            exact ⟨ctr key nonce (k / 64), blockOf_len _, hb, (nx_st k).imp id fun h => by rw [h]⟩
        case measure => simp [intOf]; omega
      · have g0 : ¬ ((z : Int) = 0) := by omega
        obtain ⟨st, hl64, hbt, hor⟩ := hst.out
        have hst2 : Hid (st = ctr key nonce (k / 64)) := by
          rcases hor with h | h
          · exact absurd (hz.out.trans h) h0
          · exact h
        have cq := hbt.cell z (by rw [hl64]; exact hz64)
        have HBT := Lib.hid hbt
        clear hst hor hbt
        go_wp2
        go_roundw
        case rel =>
          refine ⟨k + 1, by omega, by go_num, ?_, ?_⟩
          · rw [← UInt8.toNat_xor, nx_div' k (by rw [← hz.out]; exact h0)]
            have e : byte st z = keyAt key nonce k := by unfold keyAt; rw [hst2.out, hz.out]
            rw [e]
            exact hs.out.put hx
          · have hb := HBT.out.grown (grown_set wo c k (.int .u8 ((x.toNat ^^^ (byte st z).toNat : Nat) : Int))) (by have := hs.out.low; simp; omega)
            exact ⟨_, hl64, hb, (nx_st k).imp id fun h => by rw [hst2.out, h]⟩
        case measure => simp [intOf]; omega
    · have hkN : k = N := by omega
      have i1 : ¬ (k : Int) < (N : Int) := by omega
      go_wp2
      go_ret
      refine ⟨c, rfl, ?_, ?_, ?_⟩
      · have := hs.out.cc
        rw [hkN, HN.out, List.take_of_length_le (by rw [xorOf_len]; exact Nat.le_refl _), Nat.sub_self, List.replicate_zero, List.append_nil] at this
        exact this
      · rw [HB.out]
        exact Nat.le_of_lt hs.out.low.1
      · rw [HB.out]
        exact hs.out.bel

set_option maxHeartbeats 2000000 in
set_option maxRecDepth 20000 in
theorem XorP_any (key nonce : List UInt8) (A : Option Addr) (cap : Nat) (b : List UInt8) (w : World) (hk : key.length = 32) (hn : nonce.length = 12) (hb : Shows w w.heap.size A b) (hl : b.length ≤ 1000000) (G : GlobQ w) :
    Calls Tryd.prog 15 #[.agg (cb key).toArray, .agg (cb nonce).toArray, .slice A b.length cap] w
      fun e w' => ∃ c, e = .returned (.slice (some ⟨c, 0, none⟩) b.length b.length) ∧ BT w' c 5 (xorOf key nonce b) ∧ w.heap.size ≤ c ∧ Below w.heap.size w w' := by
  have HL := Lib.hid (And.intro hk hn)
  have hs := Lib.hid (kn_new w key nonce)
  have HG := Lib.hid G
  have HA := Lib.hid hb
  have h0 : wd 0 = 0 := by decide
  clear hk hn G hb
  go_enter Tryd.func15, Tryd.ntmps15
  generalize hw0 : (w.alloc (.cells (cb key).toArray 26)).alloc (.cells (cb nonce).toArray 27) = w0 at *
  go_wp2_with (first
    | ((with_reducible show wpList _ _ _ _ _ _); refine wpList_load_all rfl 26 (.tmp 3) rfl w.heap.size rfl 26 (cb key) 5 32 hs.out.1 Tryd.underlying26 info26 (by rw [cb_len, HL.out.1]) ?_)
    | ((with_reducible show wpList _ _ _ _ _ _); refine wpList_load_all rfl 27 (.tmp 4) rfl (w.heap.size + 1) rfl 27 (cb nonce) 5 12 hs.out.2.1 Tryd.underlying27 info27 (by rw [cb_len, HL.out.2]) ?_)
    | (go_at_call 23; rw [← h0]; refine (initialP_any key nonce 0 _ HL.out.1 HL.out.2).mono ?_; rintro e w2 ⟨rfl, hb2⟩; have HB2 : Hid (Below w.heap.size w w2) := Lib.hid (hs.out.2.2.trans (hb2.mono hs.out.2.2.size)); clear hb2)
    | (go_at_call 25; refine (combineP_any key nonce A cap b w2 (HA.out.up HB2.out) hl (HG.out.up HB2.out)).mono ?_; rintro e w3 ⟨c, rfl, hc3, hlc3, hb3⟩; have HB3 : Hid (Below w.heap.size w w3) := Lib.hid (HB2.out.trans (hb3.mono HB2.out.size)); have HC3 := Lib.hid hc3; have HL3 := Lib.hid hlc3; clear hb3 hc3 hlc3))
  go_ret
  exact ⟨c, rfl, HC3.out, Nat.le_trans HB2.out.size HL3.out, HB3.out⟩
end Go.Proofs.YtbpphdmkfjdhnaaDoor
