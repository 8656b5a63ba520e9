/-
  The program's newField, by a contract.
-/
import Derived.Test.YteaaadccjnmacaaFieldP
import Derived.Deep.DeepMust
namespace Go.Proofs.Yteaaadccjnmacaa
open Go.RowKit
attribute [local go_sem] u8_xor zero56
attribute [local simp] Z56_ne
/-- the state of newField's loop -/
structure NF (w wr : World) (g n : Nat) : Prop where
  res : wr.heap[w.heap.size]? = some (.cells Z56 55 (0, 0))
  tab : BT wr g 55 (part n)
  bel : Below w.heap.size w wr
theorem NF.set_ {w wr : World} {g n : Nat} (h : NF w wr g n) (hg : w.heap.size < g) (X : UInt8) (hX : X = ex n) :
    NF w ((wr.setCell ⟨g, n, none⟩ (.int .u8 (X.toNat : Int))).setCell ⟨g, 255 + X.toNat, none⟩ (.int .u8 ((UInt8.ofNat n).toNat : Int))) g (n + 1) := by
  subst hX
  refine ⟨?_, (h.tab.set_ n (ex n)).set_ (255 + (ex n).toNat) (UInt8.ofNat n), ?_⟩
  · have h1 := ((grown_set wr g n (.int .u8 ((ex n).toNat : Int))).block w.heap.size (by have := h.tab.lt; omega) (by simp; omega)).trans h.res
    exact ((grown_set _ g (255 + (ex n).toNat) (.int .u8 ((UInt8.ofNat n).toNat : Int))).block w.heap.size (Array.getElem?_eq_some_iff.1 h1).1 (by simp; omega)).trans h1
  · have hb := h.bel
    refine (hb.grown (grown_set wr g n _) hb.size (fun k hk => by injection hk with hk; omega)).grown (grown_set _ g _ _) (by have := hb.size; simp [World.setCell]; omega) (fun k hk => by injection hk with hk; omega)
theorem nf_new (w : World) : NF w ((w.alloc (.cells Z56 55)).alloc (.cells Z56 55)) (w.heap.size + 1) 0 := by
  have z : ∀ (w : World) (o : Obj), (w.alloc o).heap.size = w.heap.size + 1 := fun w o => by simp
  refine ⟨?_, ?_, (below_alloc _).alloc (by simp) _⟩
  · exact (Below.heap_alloc _ _ _ (by simp)).trans (heap_alloc_new w _)
  · have := heap_alloc_new (w.alloc (.cells Z56 55)) (.cells Z56 55)
    rw [z] at this
    unfold BT
    rw [← Z56_eq]
    exact this
set_option maxHeartbeats 2000000 in
set_option maxRecDepth 20000 in
theorem newField_any (w : World) : Calls Try.prog 24 #[] w fun e w' => e = .returned (.agg (cb tabs).toArray) ∧ Below w.heap.size w w' := by
  have zn := Z56_ne
  have h0 := Lib.hid (nf_new w)
  go_enter Try.func24, Try.ntmps24
  go_wp2
  generalize hg : w.heap.size + 1 = g at *
  have HG := Lib.hid hg
  clear hg
  go_loopw [2, 3, 4] (fun x _ i wr => ∃ (n : Nat) (X : UInt8), n ≤ 255 ∧ i = .int .i64 n ∧ x = .int .u8 (X.toNat : Int) ∧ Hid (X = ex (n % 255)) ∧ Hid (NF w wr g n)) (fun _ _ i _ => 255 - (intOf i).toNat)
  case atStart => exact ⟨0, 1, by omega, rfl, rfl, (show _ = _ from by decide +kernel), h0⟩
  case round =>
    obtain ⟨n, X, hn, rfl, rfl, hX, hf⟩ := hrel
    by_cases hlt : n < 255
    · have i1 : (n : Int) < 255 := by omega
      have hXe : Hid (X = ex n) := by
        have := hX.out
        rw [Nat.mod_eq_of_lt hlt] at this
        exact this
      clear hX
      have hX8 := X.toNat_lt
      have c1 := hf.out.tab.cell n (by rw [part_len]; omega)
      have f1 := hf.out.tab.frozen n
      have hs := (hf.out.tab.set_ n X)
      have c2 := hs.cell (255 + X.toNat) (by rw [List.length_set, part_len]; omega)
      have f2 := hs.frozen (255 + X.toNat)
      clear hs
      obtain ⟨M, hM, hc, hc2⟩ : ∃ M : UInt8, Hid (M = UInt8.ofNat n) ∧ IntKind.u8.wrap (n : Int) = (M.toNat : Int) ∧ (n : Int) % 256 = (M.toNat : Int) := by
        have e : ((UInt8.ofNat n).toNat : Int) = n := by rw [UInt8.toNat_ofNat_of_lt' (by simpa using (by omega : n < 256))]
        exact ⟨_, rfl, by rw [IntKind.wrap_u8, e]; omega, by rw [e]; omega⟩
      go_wp2_with (go_at_call 36; refine (double_any X _).mono ?_; rintro e w6 ⟨rfl, rfl⟩)
      go_roundw
      case rel =>
        refine ⟨n + 1, X ^^^ dbl X, by omega, by go_num, by rw [← UInt8.toNat_xor], ?_, ?_⟩
        · show _ = _
          rw [hXe.out, step_ex n hlt]
        · rw [hM.out]
          exact hf.out.set_ (by have := HG.out; omega) X hXe.out
      case measure => simp [intOf]; omega
    · clear zn
      have hn5 : n = 255 := by omega
      have i1 : ¬ (n : Int) < 255 := by omega
      have hf5 : Hid (NF w wr g 255) := by rw [← hn5]; exact hf
      clear hf hX
      go_wp2_with (first
        | ((with_reducible show wpList _ _ _ _ _ _); refine wpList_load_all rfl 55 (.tmp 1) rfl g rfl 55 (cb tabs) _ (by have := hf5.out.tab; rw [part_all] at this; exact this) Try.underlying55 rfl 511 infoF (by rw [cb_len, tabs_len]) ?_)
        | ((with_reducible show wpList _ _ _ _ _ _); refine wpList_store_all rfl 55 (.tmp 0) (.tmp 21) rfl w.heap.size (cb tabs) rfl rfl 55 Z56 511 hf5.out.res infoF Z56_size (by rw [cb_len, tabs_len]) (cb_one _) ?_; intro w9 hb9 hg9 hz9; have HZ9 := Lib.hid hz9; clear hz9))
      have hbel : Below w.heap.size w w9 := hf5.out.bel.grown hg9 hf5.out.bel.size (fun k hk => by injection hk with hk; omega)
      exact bodyPost_ret (v := .agg (cb tabs).toArray) (results_cell_row Try.results24 _ w9 w.heap.size 55 _ (0, 0) _ rfl hb9 Try.underlying55 rfl (by rw [infoF]; simp [cb_len, tabs_len])) rfl ⟨rfl, hbel⟩

theorem sum_mod (a b : UInt8) : ∃ d : Nat, Hid (d = (lg a + lg b) % 255) ∧ d < 255 ∧ ((lg a : Int) + (lg b : Int)).tmod 255 = (d : Int) ∧ IntKind.i64.wrap ((lg a : Int) + (lg b : Int)) = (lg a : Int) + (lg b : Int) ∧ IntKind.i64.wrap (d : Int) = (d : Int) ∧ (d : Int) < 255 := by
  have h1 := lg_lt a
  have h2 := lg_lt b
  exact ⟨(lg a + lg b) % 255, rfl, by omega, by rw [Int.tmod_eq_emod_of_nonneg (by omega)]; omega, IntWalk.i64_in _ ⟨by omega, by omega⟩, IntWalk.i64_in _ ⟨by omega, by omega⟩, by omega⟩

theorem beq_u8 {a : UInt8} (h : ¬ a = 0) : ((a.toNat : Int) == 0) = false := by
  have : ¬ ((a.toNat : Int) = 0) := fun e => h (UInt8.toNat_inj.1 (by simpa using e))
  simpa using this
set_option maxHeartbeats 2000000 in
set_option maxRecDepth 20000 in
/-- f.mul: nothing in memory turns. -/
theorem mul_any (g : Nat) (a b : UInt8) (w : World) (hF : FB w g) :
    Calls Try.prog 27 #[.pointer (some ⟨g, 0, none⟩), .int .u8 (a.toNat : Int), .int .u8 (b.toNat : Int)] w fun e w' => e = .returned (.int .u8 ((gmul a b).toNat : Int)) ∧ ∃ m, w' = w.drewN m := by
  have HF := Lib.hid hF
  clear hF
  by_cases ha : a = 0
  · subst ha
    go_enter Try.func27, Try.ntmps27
    go_wp2
    go_ret
    exact ⟨by rw [zero_gmul]; rfl, 0, rfl⟩
  · have ia := beq_u8 ha
    by_cases hb : b = 0
    · subst hb
      go_enter Try.func27, Try.ntmps27
      go_wp2
      go_ret
      exact ⟨by rw [gmul_zero]; rfl, 0, rfl⟩
    · have ib := beq_u8 hb
      obtain ⟨d, hd, hd5, e1, e2, e3, e4⟩ := sum_mod a b
      have ha8 := a.toNat_lt
      have hb8 := b.toNat_lt
      have c1 := HF.out.cell (255 + a.toNat) (by rw [tabs_len]; omega)
      have c2 := HF.out.cell (255 + b.toNat) (by rw [tabs_len]; omega)
      have c3 := HF.out.cell d (by rw [tabs_len]; omega)
      rw [tabs_lg] at c1 c2
      rw [tabs_ex d hd5] at c3
      have l1 := lg_lt a
      have l2 := lg_lt b
      go_enter Try.func27, Try.ntmps27
      go_wp2
      go_quiet (fail)
      go_wp2
      go_ret
      refine ⟨?_, nq, rfl⟩
      have e : gmul a b = ex d := by
        rw [hd.out]
        unfold gmul
        rw [if_neg (by simp [ha, hb])]
      rw [e]
      rfl

theorem neg_mod (a : UInt8) : ∃ d : Nat, Hid (d = (255 - lg a) % 255) ∧ d < 255 ∧ (255 - (lg a : Int)).tmod 255 = (d : Int) ∧ IntKind.u8.wrap (255 - (lg a : Int)) = 255 - (lg a : Int) ∧ IntKind.u8.wrap (d : Int) = (d : Int) ∧ (255 - (lg a : Int)) % 256 = 255 - (lg a : Int) ∧ (d : Int) % 256 = (d : Int) ∧ (d : Int) < 255 := by
  have h1 := lg_lt a
  exact ⟨(255 - lg a) % 255, rfl, by omega, by rw [Int.tmod_eq_emod_of_nonneg (by omega)]; omega, by rw [IntKind.wrap_u8]; omega, by rw [IntKind.wrap_u8]; omega, by omega, by omega, by omega⟩
set_option maxHeartbeats 2000000 in
set_option maxRecDepth 20000 in
theorem inv_any (g : Nat) (a : UInt8) (w : World) (hF : FB w g) :
    Calls Try.prog 28 #[.pointer (some ⟨g, 0, none⟩), .int .u8 (a.toNat : Int)] w fun e w' => e = .returned (.int .u8 ((ginv a).toNat : Int)) ∧ ∃ m, w' = w.drewN m := by
  have HF := Lib.hid hF
  clear hF
  by_cases ha : a = 0
  · subst ha
    go_enter Try.func28, Try.ntmps28
    go_wp2
    go_ret
    exact ⟨by rw [ginv_zero]; rfl, 0, rfl⟩
  · have ia := beq_u8 ha
    have ib : ¬ ((a.toNat : Int) = 0) := by simpa using ia
    obtain ⟨d, hd, hd5, e1, e2, e3, e4, e5, e6⟩ := neg_mod a
    have ha8 := a.toNat_lt
    have c1 := HF.out.cell (255 + a.toNat) (by rw [tabs_len]; omega)
    have c3 := HF.out.cell d (by rw [tabs_len]; omega)
    rw [tabs_lg] at c1
    rw [tabs_ex d hd5] at c3
    have l1 := lg_lt a
    go_enter Try.func28, Try.ntmps28
    go_wp2
    go_quiet (fail)
    go_wp2
    go_ret
    refine ⟨?_, nq, rfl⟩
    have e : ginv a = ex d := by
      rw [hd.out]
      unfold ginv
      rw [if_neg ha]
    rw [e]
    rfl

theorem fb_new {w' : World} {g : Nat} (h : w'.heap[g]? = some (.cells (cb tabs).toArray 55 (0, 0))) : FB w' g := h
theorem FB.below {w w' : World} {g B : Nat} (h : FB w g) (hb : Below B w w') (hg : g < B) : FB w' g := BT.below h hb hg
theorem FB.up {w w' : World} {g : Nat} (h : FB w g) (hb : Below w.heap.size w w') : FB w' g := BT.up h hb
theorem FB.alloc {w : World} {g : Nat} (h : FB w g) (o : Obj) : FB (w.alloc o) g := BT.alloc h o
theorem FB.drewN {w : World} {g : Nat} (h : FB w g) (n : Nat) : FB (w.drewN n) g := h
theorem FB.grown {w w' : World} {g : Nat} {row : Option Nat} (h : FB w g) (hb : w.grownBy w' row) (hg : some g ≠ row) : FB w' g := BT.grown h hb hg
theorem FB.lt {w : World} {g : Nat} (h : FB w g) : g < w.heap.size := BT.lt h

theorem made_f {w w1 w2 : World} {o : Obj} (h : Below w.heap.size w w1) (hg : (w1.alloc o).grownBy w2 (some w1.heap.size)) : Below w.heap.size w w2 := by
  have hs := h.size
  refine (h.alloc hs o).grown hg ?_ (fun k hk => ?_)
  · simp
    omega
  · injection hk with hk
    omega
set_option maxHeartbeats 2000000 in
set_option maxRecDepth 20000 in
theorem Mul_any (a b : UInt8) (w : World) : Calls Try.prog 18 #[.int .u8 (a.toNat : Int), .int .u8 (b.toNat : Int)] w fun e w' => e = .returned (.int .u8 ((gmul a b).toNat : Int)) ∧ Below w.heap.size w w' := by
  have zn := Z56_ne
  go_enter Try.func18, Try.ntmps18
  go_wp2_with (first
    | (go_at_call 24; refine (newField_any _).mono ?_; rintro e w1 ⟨rfl, hb1⟩; have HB1 := Lib.hid hb1; clear hb1)
    | ((with_reducible show wpList _ _ _ _ _ _); refine wpList_store_all rfl 55 (.tmp 5) (.tmp 6) rfl w1.heap.size (cb tabs) rfl rfl 55 Z56 511 (heap_alloc_new w1 _) infoF Z56_size (by rw [cb_len, tabs_len]) (cb_one _) ?_; intro w2 hf2 hg2 hz2; have HF2 := Lib.hid (fb_new hf2); have HB2 := Lib.hid (made_f HB1.out hg2); clear hf2 hg2 hz2)
    | (go_at_call 27; refine (mul_any w1.heap.size a b _ HF2.out).mono ?_; rintro e w3 ⟨rfl, m, rfl⟩))
  go_ret
  exact ⟨rfl, below_drewN HB2.out _⟩
set_option maxHeartbeats 2000000 in
set_option maxRecDepth 20000 in
theorem Inv_any (a : UInt8) (w : World) : Calls Try.prog 19 #[.int .u8 (a.toNat : Int)] w fun e w' => e = .returned (.int .u8 ((ginv a).toNat : Int)) ∧ Below w.heap.size w w' := by
  have zn := Z56_ne
  go_enter Try.func19, Try.ntmps19
  go_wp2_with (first
    | (go_at_call 24; refine (newField_any _).mono ?_; rintro e w1 ⟨rfl, hb1⟩; have HB1 := Lib.hid hb1; clear hb1)
    | ((with_reducible show wpList _ _ _ _ _ _); refine wpList_store_all rfl 55 (.tmp 3) (.tmp 4) rfl w1.heap.size (cb tabs) rfl rfl 55 Z56 511 (heap_alloc_new w1 _) infoF Z56_size (by rw [cb_len, tabs_len]) (cb_one _) ?_; intro w2 hf2 hg2 hz2; have HF2 := Lib.hid (fb_new hf2); have HB2 := Lib.hid (made_f HB1.out hg2); clear hf2 hg2 hz2)
    | (go_at_call 28; refine (inv_any w1.heap.size a _ HF2.out).mono ?_; rintro e w3 ⟨rfl, m, rfl⟩))
  go_ret
  exact ⟨rfl, below_drewN HB2.out _⟩
theorem mul_is (g : Nat) (a b : UInt8) (n m : Int) (w : World) (hn : n = (a.toNat : Int)) (hm : m = (b.toNat : Int)) (hF : FB w g) :
    Calls Try.prog 27 #[.pointer (some ⟨g, 0, none⟩), .int .u8 n, .int .u8 m] w fun e w' => e = .returned (.int .u8 ((gmul a b).toNat : Int)) ∧ ∃ m, w' = w.drewN m := by
  subst hn hm
  exact mul_any g a b w hF
theorem inv_is (g : Nat) (a : UInt8) (n : Int) (w : World) (hn : n = (a.toNat : Int)) (hF : FB w g) :
    Calls Try.prog 28 #[.pointer (some ⟨g, 0, none⟩), .int .u8 n] w fun e w' => e = .returned (.int .u8 ((ginv a).toNat : Int)) ∧ ∃ m, w' = w.drewN m := by
  subst hn
  exact inv_any g a w hF
theorem xor_nat (a b : UInt8) : (((a.toNat ^^^ b.toNat : Nat)) : Int) = ((a ^^^ b).toNat : Int) := by rw [UInt8.toNat_xor]
end Go.Proofs.Yteaaadccjnmacaa
