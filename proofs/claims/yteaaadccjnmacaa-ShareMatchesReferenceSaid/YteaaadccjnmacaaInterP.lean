/-
  The program's interpolate, by a contract.
-/
import Derived.Test.YteaaadccjnmacaaNewF
import Derived.Test.YteaaadccjnmacaaPoly
import Derived.Test.YteaaadccjnmacaaShl
import Derived.Test.YteaaadccjnmacaaHand
import Derived.Laws.OwnMore
namespace Go.Proofs.Yteaaadccjnmacaa
open Go.RowKit
attribute [local go_sem] u8_xor

/-- u as far as j, v behind it -/
def mix (u v : List UInt8) (j : Nat) : List UInt8 := u.take j ++ v.drop j
theorem mix_len (u v : List UInt8) (j : Nat) (h : u.length = v.length) : (mix u v j).length = v.length := by
  simp only [mix, List.length_append, List.length_take, List.length_drop, h]
  omega
theorem mix_at (u v : List UInt8) (j : Nat) (h : u.length = v.length) (hj : j < v.length) : (mix u v j)[j]? = v[j]? := by
  unfold mix
  rw [List.getElem?_append_right (by simp; omega), List.getElem?_drop]
  simp only [List.length_take, h, Nat.min_eq_left (Nat.le_of_lt hj), Nat.sub_self, Nat.add_zero]
theorem mix_set (u v : List UInt8) (j : Nat) (h : u.length = v.length) (c : UInt8) (hc : u[j]? = some c) : (mix u v j).set j c = mix u v (j + 1) := by
  have hj := (List.getElem?_eq_some_iff.1 hc).1
  apply List.ext_getElem?
  intro i
  rw [List.getElem?_set]
  unfold mix
  by_cases hi : j = i
  · subst hi
    rw [if_pos rfl, if_pos (by simp; omega), List.getElem?_append_left (by simp; omega), List.getElem?_take, if_pos (by omega), hc]
  · rw [if_neg hi]
    by_cases hlt : i < j
    · rw [List.getElem?_append_left (by simp; omega), List.getElem?_append_left (by simp; omega), List.getElem?_take, List.getElem?_take, if_pos hlt, if_pos (by omega)]
    · rw [List.getElem?_append_right (by simp; omega), List.getElem?_append_right (by simp; omega), List.getElem?_drop, List.getElem?_drop]
      simp only [List.length_take]
      rw [show j + (i - min j u.length) = i by omega, show j + 1 + (i - min (j + 1) u.length) = i by omega]
theorem mix_zero (u v : List UInt8) : mix u v 0 = v := by simp [mix]
theorem mix_all (u v : List UInt8) (n : Nat) (h : u.length = v.length) (hn : n = v.length) : mix u v n = u := by
  unfold mix
  rw [List.drop_of_length_le (by omega), List.append_nil, List.take_of_length_le (by omega)]

def xsOf (l : List Sh) : List UInt8 := l.map (·.1)
/-- the values at x, the first k shares being summed -/
def yAt (l : List Sh) (x : UInt8) (n k : Nat) : List UInt8 := (List.range n).map fun i => lagS (xsOf l) ((l.take k).map fun s => (s.1, byte s.2 i)) x 0
def interpB (l : List Sh) (x : UInt8) (n : Nat) : List UInt8 := yAt l x n l.length
theorem yAt_len (l : List Sh) (x : UInt8) (n k : Nat) : (yAt l x n k).length = n := by simp [yAt]
theorem yAt_zero (l : List Sh) (x : UInt8) (n : Nat) : yAt l x n 0 = List.replicate n 0 := by
  unfold yAt
  apply List.ext_getElem?
  intro i
  rw [List.getElem?_map, List.getElem?_replicate]
  by_cases hi : i < n
  · rw [List.getElem?_range hi, if_pos hi]
    rfl
  · rw [List.getElem?_eq_none (by simp; omega), if_neg hi]
    rfl
theorem lagS_snoc (xs : List UInt8) (l : List (UInt8 × UInt8)) (s : UInt8 × UInt8) (x y : UInt8) : lagS xs (l ++ [s]) x y = lagS xs l x y ^^^ gmul (weight s.1 xs x) s.2 := by simp [lagS]
theorem yAt_succ (l : List Sh) (x : UInt8) (n k i : Nat) (s : Sh) (hs : l[k]? = some s) (hi : i < n) : (yAt l x n (k + 1))[i]? = some (byte (yAt l x n k) i ^^^ gmul (weight s.1 (xsOf l) x) (byte s.2 i)) := by
  have h1 : (yAt l x n k)[i]? = some (lagS (xsOf l) ((l.take k).map fun s => (s.1, byte s.2 i)) x 0) := by
    unfold yAt
    rw [List.getElem?_map, List.getElem?_range hi]
    rfl
  rw [byte_of h1]
  unfold yAt
  rw [List.getElem?_map, List.getElem?_range hi, Option.map_some, List.take_add_one, hs]
  simp only [Option.toList_some, List.map_append, List.map_cons, List.map_nil, lagS_snoc]
theorem above_step (s : UInt8) (xs : List UInt8) (x : UInt8) (j : Nat) (o : UInt8) (h : xs[j]? = some o) : above s (xs.take (j + 1)) x = if o = s then above s (xs.take j) x else gmul (above s (xs.take j) x) (x ^^^ o) := by
  unfold above
  rw [List.take_add_one, h]
  simp [List.foldl_append]

/-- the state of interpolate's outer loop -/
structure IO (w wr : World) (Y : Nat) (y : List UInt8) : Prop where
  y_ : Blk wr Y y
  bel : Below w.heap.size w wr
theorem IO.up {w wr w' : World} {Y : Nat} {y : List UInt8} (h : IO w wr Y y) (hb : Below wr.heap.size wr w') : IO w w' Y y := ⟨h.y_.below hb h.y_.lt, h.bel.trans (hb.mono h.bel.size)⟩
theorem Blk.set_ {w : World} {g : Nat} {l : List UInt8} (h : Blk w g l) (i : Nat) (c : UInt8) : Blk (w.setCell ⟨g, i, none⟩ (.int .u8 (c.toNat : Int))) g (l.set i c) := by
  unfold Blk at h ⊢
  simp [World.setCell, Array.getElem?_modify, h, cb_set]
theorem Blk.cell {w : World} {g : Nat} {l : List UInt8} (h : Blk w g l) (i : Nat) (hi : i < l.length) : w.cell? ⟨g, i, none⟩ = some (.int .u8 ((byte l i).toNat : Int)) := by
  rw [cell_of_row w g i _ _ (0, 0) h]
  simp [cb, byte, hi]
theorem Blk.frozen {w : World} {g : Nat} {l : List UInt8} (h : Blk w g l) (i : Nat) : w.frozen? ⟨g, i, none⟩ = false := by
  unfold Blk at h
  simp [World.frozen?, h]
theorem IO.set_ {w wr : World} {Y : Nat} {y : List UInt8} (h : IO w wr Y y) (hY : w.heap.size ≤ Y) (i : Nat) (c : UInt8) : IO w (wr.setCell ⟨Y, i, none⟩ (.int .u8 (c.toNat : Int))) Y (y.set i c) :=
  ⟨h.y_.set_ i c, h.bel.setCell (p := ⟨Y, i, none⟩) hY _⟩

set_option maxHeartbeats 4000000 in
set_option maxRecDepth 20000 in
theorem interpolate_any (A : Option Addr) (cap : Nat) (l : List Sh) (x : UInt8) (F n : Nat) (w : World) (hs : ShL w w.heap.size A l) (h0 : 0 < l.length) (hl : l.length ≤ 1000000) (hn : ∀ s ∈ l, s.2.length = n) (hn0 : n ≤ 140737488351232) (hF : FB w F) :
    Calls Try.prog 26 #[.slice A l.length cap, .int .u8 (x.toNat : Int), .func (.func 27) #[.pointer (some ⟨F, 0, none⟩)] #[], .func (.func 28) #[.pointer (some ⟨F, 0, none⟩)] #[]] w
      fun e w' => ∃ g, e = .returned (.slice (some ⟨g, 0, none⟩) n n) ∧ Blk w' g (interpB l x n) ∧ w.heap.size ≤ g ∧ Below w.heap.size w w' := by
  have HS := Lib.hid hs
  have HF := Lib.hid hF
  obtain ⟨N, hN⟩ : ∃ N, N = l.length := ⟨_, rfl⟩
  have HN := Lib.hid hN
  have HL := Lib.hid hn
  rw [← hN] at h0 hl ⊢
  clear hs hn hN hF
  obtain ⟨s0, hs0⟩ : ∃ s, l[0]? = some s := ⟨l[0]'(by rw [← HN.out]; omega), by simp⟩
  obtain ⟨b, off, rfl, hbB, _, A3, n3, c4, _, _, _⟩ := HS.out.one hs0
  rw [HL.out s0 (List.mem_of_getElem? hs0), Nat.zero_mul, Nat.add_zero] at c4
  have i0 : 0 < (N : Int) := by omega
  clear hs0
  go_enter Try.func26, Try.ntmps26
  go_wp2_with ((with_reducible show wpList _ _ _ _ _ _); refine wpList_make_bytes _ rfl (.tmp 23) (.tmp 23) 22 rfl Try.underlying22 info5 .i64 .i64 n n n n rfl rfl rfl rfl (Nat.le_refl _) (by omega) ?_; intro w3 hb3 hbl3 hz3; have H3 : Hid (IO w w3 w.heap.size (yAt l x n 0)) := ⟨by rw [yAt_zero]; exact hb3.out, hbl3⟩; clear hb3 hbl3 hz3)
  clear c4
  generalize hY : w.heap.size = Y at *
  have HY := Lib.hid hY
  clear hY
  go_loopw [27] (fun i wr => ∃ k : Nat, k ≤ N ∧ i = .int .i64 k ∧ Hid (IO w wr Y (yAt l x n k))) (fun i _ => N - (intOf i).toNat)
  case atStart => exact ⟨0, by omega, rfl, H3⟩
  case round =>
    clear H3
    obtain ⟨k, hk, rfl, ho⟩ := hrel
    obtain ⟨wo, hwo⟩ : ∃ wo : World, wo = wr := ⟨_, rfl⟩
    subst hwo
    by_cases hlt : k < N
    · have i1 : (k : Int) < (N : Int) := by omega
      obtain ⟨s, hsk⟩ : ∃ s, l[k]? = some s := ⟨l[k]'(by rw [← HN.out]; exact hlt), by simp⟩
      have hbw : Hid (Below Y w wo) := by have := ho.out.bel; rwa [HY.out] at this
      obtain ⟨b', off', e, _, c1, A1, n1, c2, hsh1, hle1, hmx1⟩ := (HS.out.below hbw.out).one hsk
      injection e with e
      injection e with e1 e2
      subst e1 e2
      have hsn := HL.out s (List.mem_of_getElem? hsk)
      rw [hsn] at c2 hle1
      have HSN := Lib.hid hsn
      have HSK := Lib.hid hsk
      have HS1 := Lib.hid hsh1
      clear hsk hsh1 hsn
      go_wp2
      have hbx : Hid ((wo.alloc (.cells #[.int .u8 (s.1.toNat : Int), .slice A1 n n1] 29)).cell? ⟨wo.heap.size, 0, none⟩ = some (.int .u8 (s.1.toNat : Int)) ∧ (wo.alloc (.cells #[.int .u8 (s.1.toNat : Int), .slice A1 n n1] 29)).cell? ⟨wo.heap.size, 1, none⟩ = some (.slice A1 n n1)) := by
        have hnew := heap_alloc_new wo (.cells #[.int .u8 (s.1.toNat : Int), .slice A1 n n1] 29)
        exact ⟨cell_of_row _ wo.heap.size 0 _ _ (0, 0) hnew, cell_of_row _ wo.heap.size 1 _ _ (0, 0) hnew⟩
      have hsz : Hid ((wo.alloc (.cells #[.int .u8 (s.1.toNat : Int), .slice A1 n n1] 29)).heap.size = wo.heap.size + 1) := by show _ = _; simp
      have hbo : Hid (Below wo.heap.size wo (wo.alloc (.cells #[.int .u8 (s.1.toNat : Int), .slice A1 n n1] 29))) := below_alloc _
      have hYo : Hid (Y < wo.heap.size) := ho.out.y_.lt
      generalize hw5 : (wo.alloc (.cells #[.int .u8 (s.1.toNat : Int), .slice A1 n n1] 29)) = w5 at *
      clear hw5
      generalize hK : wo.heap.size = S at *
      have HK := Lib.hid hK
      clear hK
      go_loopw [12, 13, 33] (fun a d i wq => ∃ (j : Nat) (av dv : UInt8), j ≤ N ∧ i = .int .i64 j ∧ a = .int .u8 (av.toNat : Int) ∧ d = .int .u8 (dv.toNat : Int) ∧ Hid (av = above s.1 ((xsOf l).take j) x) ∧ Hid (dv = above s.1 ((xsOf l).take j) s.1) ∧ Hid (Below (S + 1) w5 wq) ∧ Hid (w5.heap.size ≤ wq.heap.size)) (fun _ _ i _ => N - (intOf i).toNat)
      case atStart => exact ⟨0, 1, 1, by omega, rfl, rfl, rfl, rfl, rfl, Below.refl _ _, Nat.le_refl _⟩
      case round =>
        obtain ⟨j, av, dv, hj, rfl, rfl, rfl, hav, hdv, hb, hzq⟩ := hrel
        obtain ⟨wi, hwi⟩ : ∃ wi : World, wi = wr := ⟨_, rfl⟩
        subst hwi
        have hSz : Hid (S + 1 ≤ wi.heap.size) := by have := hzq.out; have := hsz.out; show _ ≤ _; omega
        have hS0 : wi.cell? ⟨S, 0, none⟩ = some (.int .u8 (s.1.toNat : Int)) := (hb.out.cell (p := ⟨S, 0, none⟩) (Nat.lt_succ_self S)).trans hbx.out.1
        have hS1 : wi.cell? ⟨S, 1, none⟩ = some (.slice A1 n n1) := (hb.out.cell (p := ⟨S, 1, none⟩) (Nat.lt_succ_self S)).trans hbx.out.2
        have hbi : Hid (Below S wo wi) := hbo.out.trans (hb.out.mono (Nat.le_succ S))
        have hbwi : Hid (Below Y w wi) := hbw.out.trans (hbi.out.mono (Nat.le_of_lt hYo.out))
        have hFY : F < Y := by have := HF.out.lt; rw [HY.out] at this; exact this
        have hfb : Hid (FB wi F) := HF.out.below hbwi.out hFY
        by_cases hjl : j < N
        · have j1 : (j : Int) < (N : Int) := by omega
          obtain ⟨o, hoj⟩ : ∃ s, l[j]? = some s := ⟨l[j]'(by rw [← HN.out]; exact hjl), by simp⟩
          obtain ⟨b', off', e, _, d1, A4, n4, d2, _, _, _⟩ := (HS.out.below hbwi.out).one hoj
          injection e with e
          injection e with e1 e2
          subst e1 e2
          have hxo : Hid ((xsOf l)[j]? = some o.1) := by
            show _ = _
            unfold xsOf
            rw [List.getElem?_map, hoj]
            rfl
          rw [HL.out o (List.mem_of_getElem? hoj)] at d2
          clear hoj
          have hSne : S ≠ wi.heap.size := by have := hSz.out; omega
          have g0 := ((below_alloc (w := wi) (.cells #[.int .u8 (o.1.toNat : Int), .slice A4 n n4] 29)).cell (p := ⟨S, 0, none⟩) hSz.out).trans hS0
          have hfa : Hid (FB (wi.alloc (.cells #[.int .u8 (o.1.toNat : Int), .slice A4 n n4] 29)) F) := hfb.out.alloc _
          have hba : Hid (Below (S + 1) w5 (wi.alloc (.cells #[.int .u8 (o.1.toNat : Int), .slice A4 n n4] 29))) := hb.out.trans ((below_alloc _).mono hSz.out)
          have hzz : Hid (w5.heap.size ≤ (wi.alloc (.cells #[.int .u8 (o.1.toNat : Int), .slice A4 n n4] 29)).heap.size) := by
            have := hzq.out
            show _ ≤ _
            simp
            omega
          by_cases hos : o.1 = s.1
          · have hosh := Lib.hid hos
            have hne : ((o.1.toNat : Int) != (s.1.toNat : Int)) = false := by rw [hos]; simp
            have hne2 : (o.1.toNat : Int) = (s.1.toNat : Int) := by rw [hos]
            rw [hne2] at d1 hne hfa hba hzz g0
            clear hos
            go_wp2
            go_roundw
            case rel => exact ⟨j + 1, av, dv, by omega, by go_num, rfl, rfl, (show _ = _ by rw [above_step _ _ _ _ _ hxo.out, if_pos hosh.out]; exact hav.out), (show _ = _ by rw [above_step _ _ _ _ _ hxo.out, if_pos hosh.out]; exact hdv.out), hba, hzz⟩
            case measure => simp [intOf]; omega
          · have hosh := Lib.hid hos
            have hne : ((o.1.toNat : Int) != (s.1.toNat : Int)) = true := by
              have : ¬ ((o.1.toNat : Int) = (s.1.toNat : Int)) := fun e => hos (UInt8.toNat_inj.1 (by omega))
              simpa using this
            have hne2 : ¬ ((o.1.toNat : Int) = (s.1.toNat : Int)) := fun e => hos (UInt8.toNat_inj.1 (by omega))
            go_wp2
            go_quiet (first
              | (go_at_call 27; refine Calls.quiet_of (mul_is F av (x ^^^ o.1) _ _ _ rfl (xor_nat _ _) (hfa.out.drewN _)))
              | (go_at_call 27; refine Calls.quiet_of (mul_is F dv (s.1 ^^^ o.1) _ _ _ rfl (xor_nat _ _) (hfa.out.drewN _))))
            go_wp2
            go_roundw
            case rel => exact ⟨j + 1, gmul av (x ^^^ o.1), gmul dv (s.1 ^^^ o.1), by omega, by go_num, rfl, rfl, (show _ = _ by rw [above_step _ _ _ _ _ hxo.out, if_neg hosh.out, hav.out]), (show _ = _ by rw [above_step _ _ _ _ _ hxo.out, if_neg hosh.out, hdv.out]), below_drewN hba.out _, hzz⟩
            case measure => simp [intOf]; omega
        · have j1 : ¬ (j : Int) < (N : Int) := by omega
          have hjN : j = N := by omega
          obtain ⟨wt, hwt⟩ : ∃ wt, wt = gmul av (ginv dv) := ⟨_, rfl⟩
          have HWT : Hid (wt = weight s.1 (xsOf l) x) := by
            show _ = _
            rw [hwt, hav.out, hdv.out, hjN, HN.out, List.take_of_length_le (by simp [xsOf])]
            rfl
          have HIN : Hid (Calls Try.prog 28 #[.pointer (some ⟨F, 0, none⟩), .int .u8 (dv.toNat : Int)] wi fun e w' => e = .returned (.int .u8 ((ginv dv).toNat : Int)) ∧ ∃ m, w' = wi.drewN m) := inv_any F dv wi hfb.out
          have HMU : Hid (∀ m, Calls Try.prog 27 #[.pointer (some ⟨F, 0, none⟩), .int .u8 (av.toNat : Int), .int .u8 ((ginv dv).toNat : Int)] (wi.drewN m) fun e w' => e = .returned (.int .u8 (wt.toNat : Int)) ∧ ∃ m', w' = wi.drewN m') := by
            intro m
            rw [hwt]
            refine (mul_any F av (ginv dv) (wi.drewN m) (hfb.out.drewN m)).mono ?_
            rintro e w' ⟨rfl, m', rfl⟩
            exact ⟨rfl, m + m', World.drewN_drewN _ _ _⟩
          clear hwt
          have hio : Hid (IO w wi Y (yAt l x n k)) := by
            have := ho.out.up (by rw [HK.out]; exact hbi.out)
            exact this
          go_wp2_with (first
            | (go_at_call 28; refine HIN.out.mono ?_; rintro e w' ⟨rfl, m1, rfl⟩)
            | (go_at_call 27; refine (HMU.out m1).mono ?_; rintro e w' ⟨rfl, m2, rfl⟩))
          have hio2 : Hid (IO w (wi.drewN m2) Y (yAt l x n k)) := ⟨hio.out.y_, below_drewN hio.out.bel _⟩
          clear hio HIN HMU hbi hbwi hfb hS0 hS1
          generalize hw6 : wi.drewN m2 = w7 at *
          clear hw6
          go_loopw [67] (fun i wq => ∃ i' : Nat, i' ≤ n ∧ i = .int .i64 i' ∧ Hid (IO w wq Y (mix (yAt l x n (k + 1)) (yAt l x n k) i'))) (fun i _ => n - (intOf i).toNat)
          case atStart => exact ⟨0, by omega, rfl, by rw [mix_zero]; exact hio2⟩
          case round =>
            clear hio2
            obtain ⟨i', hi', rfl, hio⟩ := hrel
            obtain ⟨wu, hwu⟩ : ∃ wu : World, wu = wr := ⟨_, rfl⟩
            subst hwu
            have hll : (yAt l x n (k + 1)).length = (yAt l x n k).length := by rw [yAt_len, yAt_len]
            by_cases hil : i' < n
            · have i2 : (i' : Int) < (n : Int) := by omega
              have hbu : Hid (Below Y w wu) := by have := hio.out.bel; rwa [HY.out] at this
              obtain ⟨yc, hyc⟩ : ∃ c, c = byte (yAt l x n k) i' := ⟨_, rfl⟩
              obtain ⟨bb, hbb⟩ : ∃ c, c = byte s.2 i' := ⟨_, rfl⟩
              have c3 : wu.cell? ⟨Y, i', none⟩ = some (.int .u8 (yc.toNat : Int)) := by
                rw [hio.out.y_.cell i' (by rw [mix_len _ _ _ hll, yAt_len]; exact hil), hyc]
                congr 3
                rw [byte_of ((mix_at _ _ i' hll (by rw [yAt_len]; exact hil)).trans (byte_get (by rw [yAt_len]; exact hil)))]
              have f3 := hio.out.y_.frozen i'
              obtain ⟨b1, off1, rfl, hb1, hcell⟩ := HS1.out (by rw [HSN.out]; omega)
              have c5 : wu.cell? ⟨b1, off1 + i', none⟩ = some (.int .u8 (bb.toNat : Int)) := by
                have h1 := hcell i' bb (by rw [hbb]; exact byte_get (by rw [HSN.out]; exact hil))
                have h2 := hbw.out.cell (p := ⟨b1, off1 + i', none⟩) hb1
                exact (hbu.out.cell (p := ⟨b1, off1 + i', none⟩) hb1).trans (h2.symm.trans h1)
              clear hcell
              obtain ⟨mv, hmv⟩ : ∃ c, c = gmul wt bb := ⟨_, rfl⟩
              have HCALL : Hid (Calls Try.prog 27 #[.pointer (some ⟨F, 0, none⟩), .int .u8 (wt.toNat : Int), .int .u8 (bb.toNat : Int)] wu.drew fun e w6 => e = .returned (.int .u8 (mv.toNat : Int)) ∧ ∃ m, w6 = wu.drewN m) := by
                show Calls _ _ _ _ _
                rw [hmv]
                refine (mul_any F wt bb wu.drew (HF.out.below hbu.out.drew (by have := HF.out.lt; rw [HY.out] at this; exact this))).mono ?_
                rintro e w6 ⟨rfl, m, rfl⟩
                exact ⟨rfl, 1 + m, by rw [← World.drewN_drewN]; rfl⟩
              have HB8 : Hid (∀ m : Nat, Below Y w ((wu.drewN m).setCell ⟨Y, i', none⟩ (.int .u8 ((yc.toNat ^^^ mv.toNat : Nat) : Int)))) := fun m => (below_drewN hbu.out m).setCell (p := ⟨Y, i', none⟩) (Nat.le_refl _) _
              have HST : Hid (∀ m : Nat, Hid (IO w ((wu.drewN m).setCell ⟨Y, i', none⟩ (.int .u8 ((yc ^^^ mv).toNat : Int))) Y (mix (yAt l x n (k + 1)) (yAt l x n k) (i' + 1)))) := by
                intro m
                have h1 : IO w (wu.drewN m) Y (mix (yAt l x n (k + 1)) (yAt l x n k) i') := ⟨hio.out.y_, below_drewN hio.out.bel m⟩
                have h2 := h1.set_ (by rw [HY.out]; exact Nat.le_refl _) i' (yc ^^^ mv)
                rw [mix_set _ _ _ hll (yc ^^^ mv) (by rw [yAt_succ l x n k i' s HSK.out hil, hyc, hmv, HWT.out, hbb])] at h2
                exact h2
              have hs0 : Hid (Below Y w wu.drew) := hbu.out.drew
              have HBU := hbu
              clear hbu hyc hbb hmv hll
              go_wp2
              refine wp_region_held_drew (S := fun w' => Hid (Below Y w w')) (by kernel_rfl) hs0 (fun hHeld => ?_)
              refine hand_take (i := 0) (v := ?_) rfl (by kernel_rfl) (by kernel_rfl) (by kernel_rfl) (fun _ _ _ h => h) (Or.inl ⟨by rfl, ?_⟩) (by assumption) ?_
              rotate_left
              · intro w hSw
                clear hSw
                go_simp
                try with_reducible rfl
              try simp only [Act.put, List.setIfInBounds_toArray, List.set_cons_zero, List.set_cons_succ]
              refine hand_take (i := 1) (v := ?_) rfl (by kernel_rfl) (by kernel_rfl) (by kernel_rfl) (fun _ _ _ h => h) (Or.inl ⟨by rfl, ?_⟩) (by assumption) ?_
              rotate_left
              · intro w hSw
                clear hSw
                go_simp
                try with_reducible rfl
              try simp only [Act.put, List.setIfInBounds_toArray, List.set_cons_zero, List.set_cons_succ]
              refine hand_take (i := 2) (v := ?_) rfl (by kernel_rfl) (by kernel_rfl) (by kernel_rfl) (fun _ _ _ h => h) (Or.inl ⟨by rfl, ?_⟩) (by assumption) ?_
              rotate_left
              · intro w hSw
                clear hSw
                go_simp
                try with_reducible rfl
              try simp only [Act.put, List.setIfInBounds_toArray, List.set_cons_zero, List.set_cons_succ]
              refine hand_take (i := 4) (v := ?_) rfl (by kernel_rfl) (by kernel_rfl) (by kernel_rfl) (fun _ _ _ h => h) (Or.inl ⟨by rfl, ?_⟩) (by assumption) ?_
              rotate_left
              · intro w hSw
                clear hSw
                go_simp
                try with_reducible rfl
              try simp only [Act.put, List.setIfInBounds_toArray, List.set_cons_zero, List.set_cons_succ]
              refine hand_take (i := 5) (v := ?_) rfl (by kernel_rfl) (by kernel_rfl) (by kernel_rfl) (fun _ _ _ h => h) (Or.inl ⟨by rfl, ?_⟩) (by assumption) ?_
              rotate_left
              · intro w hSw
                clear hSw
                go_simp
                try with_reducible rfl
              try simp only [Act.put, List.setIfInBounds_toArray, List.set_cons_zero, List.set_cons_succ]
              refine hand_take (i := 6) (v := ?_) rfl (by kernel_rfl) (by kernel_rfl) (by kernel_rfl) (fun _ _ _ h => h) (Or.inl ⟨by rfl, ?_⟩) (by assumption) ?_
              rotate_left
              · intro w hSw
                clear hSw
                go_simp
                try with_reducible rfl
              try simp only [Act.put, List.setIfInBounds_toArray, List.set_cons_zero, List.set_cons_succ]
              refine wpAnyH_ready (rs := [3, 7]) (by kernel_rfl) (by simp) ?_
              refine (hand_cons rfl (fun KK hK => ?_) (hand_cons rfl (fun KK hK => ?_) AllReadyH.nil))
              · go_simp
                skip
                refine hK.out _ _ (hHeld) (fun hHeld => ?_)
                clear hK KK
                try simp only [Act.put, List.setIfInBounds_toArray, List.set_cons_zero, List.set_cons_succ]
                refine wpAnyH_ready (rs := [7]) (by kernel_rfl) (by simp) ?_
                refine hand_cons rfl (fun KK hK => ?_) AllReadyH.nil
                go_simp
                go_at_call 27
                refine HCALL.out.mono ?_
                rintro e w6 ⟨rfl, m6, rfl⟩
                go_wp2_with fail
                refine hK.out _ _ (Lib.hid (below_drewN HBU.out m6)) (fun hHeld => ?_)
                clear hK KK
                try simp only [Act.put, List.setIfInBounds_toArray, List.set_cons_zero, List.set_cons_succ]
                refine hand_take (i := 8) (v := ?_) rfl (by kernel_rfl) (by kernel_rfl) (by kernel_rfl) (fun _ _ _ h => h) (Or.inl ⟨by rfl, ?_⟩) (by assumption) ?_
                rotate_left
                · intro w hSw
                  clear hSw
                  go_simp
                  try with_reducible rfl
                try simp only [Act.put, List.setIfInBounds_toArray, List.set_cons_zero, List.set_cons_succ]
                refine hand_take (i := 9) (v := ?_) rfl (by kernel_rfl) (by kernel_rfl) (by kernel_rfl) (fun _ _ _ h => h) (Or.inl ⟨by rfl, ?_⟩) (by assumption) ?_
                rotate_left
                · intro w hSw
                  clear hSw
                  go_simp
                  try with_reducible rfl
                try simp only [Act.put, List.setIfInBounds_toArray, List.set_cons_zero, List.set_cons_succ]
                refine wpAnyH_ready (rs := [10]) (by kernel_rfl) (by simp) ?_
                refine hand_cons rfl (fun KK hK => ?_) AllReadyH.nil
                go_simp
                skip
                refine hK.out _ _ (Lib.hid (HB8.out m6)) (fun hHeld => ?_)
                clear hK KK
                try simp only [Act.put]
                refine wpAnyH_done (by kernel_rfl) ?_ _
                go_wp2
                go_roundw
                case rel =>
                  refine ⟨i' + 1, by omega, by go_num, ?_⟩
                  rw [← UInt8.toNat_xor]
                  exact HST.out m6
                case measure => simp [intOf]; omega
              · go_simp
                go_at_call 27
                refine HCALL.out.mono ?_
                rintro e w6 ⟨rfl, m6, rfl⟩
                go_wp2_with fail
                refine hK.out _ _ (Lib.hid (below_drewN HBU.out m6)) (fun hHeld => ?_)
                clear hK KK
                try simp only [Act.put, List.setIfInBounds_toArray, List.set_cons_zero, List.set_cons_succ]
                refine wpAnyH_ready (rs := [3]) (by kernel_rfl) (by simp) ?_
                refine hand_cons rfl (fun KK hK => ?_) AllReadyH.nil
                go_simp
                skip
                refine hK.out _ _ (hHeld) (fun hHeld => ?_)
                clear hK KK
                try simp only [Act.put, List.setIfInBounds_toArray, List.set_cons_zero, List.set_cons_succ]
                refine hand_take (i := 8) (v := ?_) rfl (by kernel_rfl) (by kernel_rfl) (by kernel_rfl) (fun _ _ _ h => h) (Or.inl ⟨by rfl, ?_⟩) (by assumption) ?_
                rotate_left
                · intro w hSw
                  clear hSw
                  go_simp
                  try with_reducible rfl
                try simp only [Act.put, List.setIfInBounds_toArray, List.set_cons_zero, List.set_cons_succ]
                refine hand_take (i := 9) (v := ?_) rfl (by kernel_rfl) (by kernel_rfl) (by kernel_rfl) (fun _ _ _ h => h) (Or.inl ⟨by rfl, ?_⟩) (by assumption) ?_
                rotate_left
                · intro w hSw
                  clear hSw
                  go_simp
                  try with_reducible rfl
                try simp only [Act.put, List.setIfInBounds_toArray, List.set_cons_zero, List.set_cons_succ]
                refine wpAnyH_ready (rs := [10]) (by kernel_rfl) (by simp) ?_
                refine hand_cons rfl (fun KK hK => ?_) AllReadyH.nil
                go_simp
                skip
                refine hK.out _ _ (Lib.hid (HB8.out m6)) (fun hHeld => ?_)
                clear hK KK
                try simp only [Act.put]
                refine wpAnyH_done (by kernel_rfl) ?_ _
                go_wp2
                go_roundw
                case rel =>
                  refine ⟨i' + 1, by omega, by go_num, ?_⟩
                  rw [← UInt8.toNat_xor]
                  exact HST.out m6
                case measure => simp [intOf]; omega
            · have i2 : ¬ (i' : Int) < (n : Int) := by omega
              have hin : i' = n := by omega
              go_wp2
              go_roundw
              case rel =>
                refine ⟨k + 1, by omega, by go_num, ?_⟩
                have := hio.out
                rw [hin, mix_all _ _ n hll (by rw [yAt_len])] at this
                exact this
              case measure => simp [intOf]; omega
    · have i1 : ¬ (k : Int) < (N : Int) := by omega
      have hkN : k = N := by omega
      go_wp2
      go_ret
      refine ⟨Y, rfl, ?_, by rw [HY.out]; exact Nat.le_refl _, ho.out.bel⟩
      have := ho.out.y_
      rw [hkN, HN.out] at this
      exact this
end Go.Proofs.Yteaaadccjnmacaa
