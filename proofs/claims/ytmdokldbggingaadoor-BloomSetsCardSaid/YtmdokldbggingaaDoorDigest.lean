/-
  The program's digest, by a contract.
-/
import Derived.Test.YtmdokldbggingaaDoorWordsP
namespace Go.Proofs.YtmdokldbggingaaDoor
open Go.RowKit

attribute [local go_sem] wd_add wd_addw wd_xor wd_or wd_not wd_mod wd_wrap low8_0 low8_8 low8_16 low8_24

theorem info24D : (Tryd.prog.info? 68).map (·.size) = some 32 := by kernel_rfl
theorem index_words (v : List UInt32) (i : Nat) (w : World) (hv : v.length = 8) (hi : i < 8) : (Instr.index 79 (.agg (cw v).toArray) (.int .i64 i)).run Tryd.prog w = .ok (.int .u32 (wd (at_ v i))) w := by
  have hz : (sizeOf 74).run Tryd.prog w = .ok 1 w := by kernel_rfl
  have hg := cw_get v i (by omega)
  simp [Instr.index, run_underlying Tryd.underlying79, asIntOf, hi, hz, part, hg]

/-- the bytes, laid word by word -/
def laidB (h : List UInt32) : Nat → List UInt8
  | 0 => List.replicate 32 0
  | k + 1 => ((((laidB h k).set (k * 4) (low8 0 (at_ h k))).set (k * 4 + 1) (low8 8 (at_ h k))).set (k * 4 + 2) (low8 16 (at_ h k))).set (k * 4 + 3) (low8 24 (at_ h k))
theorem laidB_len (h : List UInt32) (k : Nat) : (laidB h k).length = 32 := by
  induction k with
  | zero => simp [laidB]
  | succ k ih => simp [laidB, ih]
theorem laidB_8 (h : List UInt32) : laidB h 8 = bytesOf h := by kernel_rfl

/-- the state of digest's loop -/
structure SD (w wr : World) (B r d q : Nat) (h : List UInt32) (l : List UInt8) : Prop where
  rr : BT wr r 68 (List.replicate 32 0)
  dd : BT wr d 68 l
  bel : Below B w wr
  low : B ≤ r ∧ r < d ∧ d < wr.heap.size
theorem SD.set_ {w wr : World} {B r d q : Nat} {h : List UInt32} {l : List UInt8} (s : SD w wr B r d q h l) (i : Nat) (c : UInt8) : SD w (wr.setCell ⟨d, i, none⟩ (.int .u8 (c.toNat : Int))) B r d q h (l.set i c) := by
  have l := s.low
  have hg := grown_set wr d i (.int .u8 (c.toNat : Int))
  exact ⟨s.rr.grown hg (by simp; omega), s.dd.set_ i c, s.bel.grown hg (by omega) (fun k hk => by injection hk with hk; omega), by have := hg.size; omega⟩
theorem byte_facts (i : Nat) (hi : i < 8) : IntKind.i64.wrap ((i : Int) * 4) = (i : Int) * 4 ∧ 0 ≤ (i : Int) * 4 ∧ ((i : Int) * 4).toNat = i * 4 ∧ (i : Int) * 4 < 32 ∧
    IntKind.i64.wrap ((i : Int) * 4 + 1) = (i : Int) * 4 + 1 ∧ 0 ≤ (i : Int) * 4 + 1 ∧ ((i : Int) * 4 + 1).toNat = i * 4 + 1 ∧ (i : Int) * 4 + 1 < 32 ∧
    IntKind.i64.wrap ((i : Int) * 4 + 2) = (i : Int) * 4 + 2 ∧ 0 ≤ (i : Int) * 4 + 2 ∧ ((i : Int) * 4 + 2).toNat = i * 4 + 2 ∧ (i : Int) * 4 + 2 < 32 ∧
    IntKind.i64.wrap ((i : Int) * 4 + 3) = (i : Int) * 4 + 3 ∧ 0 ≤ (i : Int) * 4 + 3 ∧ ((i : Int) * 4 + 3).toNat = i * 4 + 3 ∧ (i : Int) * 4 + 3 < 32 := by
  refine ⟨IntWalk.i64_in _ ⟨by omega, by omega⟩, by omega, by omega, by omega, IntWalk.i64_in _ ⟨by omega, by omega⟩, by omega, by omega, by omega, IntWalk.i64_in _ ⟨by omega, by omega⟩, by omega, by omega, by omega, IntWalk.i64_in _ ⟨by omega, by omega⟩, by omega, by omega, by omega⟩
theorem cb_oneB (l : List UInt8) : ∀ u ∈ cb l, u.oneCell' = true := cb_one l

set_option maxHeartbeats 2000000 in
set_option maxRecDepth 20000 in
theorem digest_any (h : List UInt32) (w : World) (hh : h.length = 8) :
    Calls Tryd.prog 57 #[.agg (cw h).toArray] w fun e w' => e = .returned (.agg (cb (bytesOf h)).toArray) ∧ Below w.heap.size w w' := by
  have HH := Lib.hid hh
  clear hh
  go_enter Tryd.func57, Tryd.ntmps57
  go_wp2_with ((with_reducible show wpList _ _ _ _ _ _); refine wpList_load_all rfl 79 (.tmp 1) rfl w.heap.size rfl 79 (cw h) 74 8 ((Below.heap_alloc _ _ _ (by simp; omega)).trans ((Below.heap_alloc _ _ _ (by simp)).trans (heap_alloc_new w _))) Tryd.underlying79 info41 (by rw [cw_len, HH.out]) ?_)
  have z : ∀ (w : World) (o : Obj), (w.alloc o).heap.size = w.heap.size + 1 := fun w o => by simp
  have hst : Hid (SD w (((w.alloc (.cells (cw h).toArray 79)).alloc (.cells (cb (List.replicate 32 0)).toArray 68)).alloc (.cells (cb (List.replicate 32 0)).toArray 68)) w.heap.size (w.heap.size + 1) (w.heap.size + 1 + 1) w.heap.size h (laidB h 0)) :=
    ⟨(bt_new rfl (by rw [z])).alloc _, bt_new rfl (by rw [z, z]), ((below_alloc _).alloc (by rw [z]; omega) _).alloc (by rw [z, z]; omega) _, by rw [z, z, z]; omega⟩
  clear z
  generalize w.heap.size + 1 + 1 = d at hst ⊢
  generalize w.heap.size + 1 = r at hst ⊢
  generalize hB : w.heap.size = B at hst ⊢
  have HB := Lib.hid hB
  clear hB
  go_loopw [8] (fun i wr => ∃ k : Nat, k ≤ 8 ∧ i = .int .i64 k ∧ Hid (SD w wr B r d B h (laidB h k))) (fun i _ => 8 - (intOf i).toNat)
  case atStart => exact ⟨0, by omega, rfl, hst⟩
  case round =>
    clear hst
    obtain ⟨k, hk, rfl, hs⟩ := hrel
    obtain ⟨wo, hwo⟩ : ∃ wo : World, wo = wr := ⟨_, rfl⟩
    subst hwo
    by_cases hlt : k < 8
    · have hix := fun W => index_words h k W HH.out hlt
      have c0 := hs.out.dd.cell (k * 4) (by rw [laidB_len]; omega)
      have c1 := hs.out.dd.cell (k * 4 + 1) (by rw [laidB_len]; omega)
      have c2 := hs.out.dd.cell (k * 4 + 2) (by rw [laidB_len]; omega)
      have c3 := hs.out.dd.cell (k * 4 + 3) (by rw [laidB_len]; omega)
      have f0 := hs.out.dd.frozen (k * 4)
      have f1 := hs.out.dd.frozen (k * 4 + 1)
      have f2 := hs.out.dd.frozen (k * 4 + 2)
      have f3 := hs.out.dd.frozen (k * 4 + 3)
      have i1 : (k : Int) < 8 := by omega
      obtain ⟨a1, a2, a3, a4, b1, b2, b3, b4, d1, d2, d3, d4, e1, e2, e3, e4⟩ := byte_facts k hlt
      go_wp2
      go_roundw
      case rel => exact ⟨k + 1, by omega, by go_num, (((hs.out.set_ (k * 4) (low8 0 (at_ h k))).set_ (k * 4 + 1) (low8 8 (at_ h k))).set_ (k * 4 + 2) (low8 16 (at_ h k))).set_ (k * 4 + 3) (low8 24 (at_ h k))⟩
      case measure => simp [intOf]; omega
    · have hk8 : k = 8 := by omega
      rw [hk8, laidB_8] at hs
      clear hk8 hk
      go_wp2_with (first
        | ((with_reducible show wpList _ _ _ _ _ _); refine wpList_load_all rfl 68 (.tmp 3) rfl d rfl 68 (cb (bytesOf h)) 5 32 hs.out.dd Tryd.underlying68 info24D (by rw [cb_len, bytesOf_len]) ?_)
        | ((with_reducible show wpList _ _ _ _ _ _); refine wpList_store_all rfl 68 (.tmp 2) (.tmp 37) rfl r (cb (bytesOf h)) rfl rfl 68 _ 32 hs.out.rr info24D (by simp [cb]) (by rw [cb_len, bytesOf_len]) (cb_one _) ?_; intro w5 hb5 hg5 hz5; have HZ5 := Lib.hid hz5; clear hz5))
      have hbel : Below B w w5 := hs.out.bel.grown hg5 (by have := hs.out.low; omega) (fun k hk => by injection hk with hk; have := hs.out.low; omega)
      refine bodyPost_ret (v := .agg (cb (bytesOf h)).toArray) (results_cell_row Tryd.results57 _ w5 r 68 _ (0, 0) _ rfl hb5 Tryd.underlying68 rfl (by rw [info24D]; simp [cb_len, bytesOf_len])) rfl ⟨rfl, ?_⟩
      rw [HB.out]
      exact hbel
end Go.Proofs.YtmdokldbggingaaDoor
