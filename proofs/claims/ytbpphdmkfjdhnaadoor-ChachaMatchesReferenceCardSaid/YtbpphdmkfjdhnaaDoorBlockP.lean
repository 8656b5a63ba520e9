/-
  The program's block, by a contract.
-/
import Derived.Test.YtbpphdmkfjdhnaaDoorDoubleP
import Derived.Test.YtbpphdmkfjdhnaaDoorWordsP
import Derived.Outline
namespace Go.Proofs.YtbpphdmkfjdhnaaDoor
open Go.RowKit

attribute [local go_sem] wd_add wd_addw wd_xor wd_or wd_not wd_mod wd_wrap

theorem info49 : (Tryd.prog.info? 49).map (·.size) = some 16 := by kernel_rfl
theorem info30 : (Tryd.prog.info? 30).map (·.size) = some 64 := by kernel_rfl

/-- the bytes, laid one at a time -/
def laid64 (s t : List UInt32) : Nat → List UInt8
  | 0 => List.replicate 64 0
  | k + 1 => (laid64 s t k).set k (low8 (8 * (k % 4)) (at_ t (k / 4) + at_ s (k / 4)))
theorem laid64_len (s t : List UInt32) (k : Nat) : (laid64 s t k).length = 64 := by
  induction k with
  | zero => simp [laid64]
  | succ k ih => simp [laid64, ih]
theorem laid64_64 (s t : List UInt32) : laid64 s t 64 = sumBytes s t := by kernel_rfl

/-- the blocks of a call of block: s, the result, the mixed words -/
structure SB (w wr : World) (B r m : Nat) (s v : List UInt32) : Prop where
  ss : WB wr B 49 s
  rr : BT wr r 30 (List.replicate 64 0)
  mm : WB wr m 49 v
  bel : Below B w wr
  low : B < r ∧ r < m
section
variable {w wr w' : World} {B r m : Nat} {s v v' : List UInt32}
theorem SB.lt (h : SB w wr B r m s v) : B < wr.heap.size ∧ r < wr.heap.size ∧ m < wr.heap.size := ⟨h.ss.lt, h.rr.lt, h.mm.lt⟩
theorem SB.grown (h : SB w wr B r m s v) (hg : wr.grownBy w' (some m)) (hv : WB w' m 49 v') : SB w w' B r m s v' := by
  have l := h.low
  have hl := h.lt
  exact ⟨h.ss.grown hg (by simp; omega), h.rr.grown hg (by simp; omega), hv, h.bel.grown hg (by omega) (fun k hk => by injection hk with hk; omega), l⟩
theorem SB.other (h : SB w wr B r m s v) {q : Nat} (hg : wr.grownBy w' (some q)) (hq : m < q) : SB w w' B r m s v := by
  have l := h.low
  have hl := h.lt
  exact ⟨h.ss.grown hg (by simp; omega), h.rr.grown hg (by simp; omega), h.mm.grown hg (by simp; omega), h.bel.grown hg (by omega) (fun k hk => by injection hk with hk; omega), l⟩
theorem SB.drew (h : SB w wr B r m s v) : SB w wr.drew B r m s v := ⟨h.ss, h.rr, h.mm, h.bel.drew, h.low⟩
theorem SB.alloc (h : SB w wr B r m s v) (o : Obj) : SB w (wr.alloc o) B r m s v := ⟨h.ss.alloc o, h.rr.alloc o, h.mm.alloc o, h.bel.alloc (Nat.le_of_lt h.lt.1) o, h.low⟩
end
theorem sb_new (w : World) (s : List UInt32) : SB w (((w.alloc (.cells (cw s).toArray 49)).alloc (.cells (cb (List.replicate 64 0)).toArray 30)).alloc (.cells (cw (List.replicate 16 0)).toArray 49)) w.heap.size (w.heap.size + 1) (w.heap.size + 1 + 1) s (List.replicate 16 0) := by
  have z : ∀ (w : World) (o : Obj), (w.alloc o).heap.size = w.heap.size + 1 := fun w o => by simp
  have n1 : WB (w.alloc (.cells (cw s).toArray 49)) w.heap.size 49 s := heap_alloc_new w _
  refine ⟨(n1.alloc _).alloc _, ?_, ?_, ((below_alloc _).alloc (by simp) _).alloc (by simp; omega) _, by omega⟩
  · have := bt_new (w := w.alloc (.cells (cw s).toArray 49)) (n := 64) (t := 30) rfl rfl
    rw [z] at this
    exact this.alloc _
  · have := wb_new (w := (w.alloc (.cells (cw s).toArray 49)).alloc (.cells (cb (List.replicate 64 0)).toArray 30)) (n := 16) (t := 49) rfl rfl
    rw [z, z] at this
    exact this
theorem byte_at (i : Nat) (hi : i < 64) : ∃ d r : Nat, Hid (d = i / 4) ∧ Hid (r = i % 4) ∧ d < 16 ∧ r < 4 ∧ (i : Int).tdiv 4 = d ∧ (i : Int).tmod 4 = r ∧ IntKind.i64.wrap (d : Int) = d ∧ IntKind.i64.wrap (r : Int) = r ∧
    IntKind.i64.wrap ((r : Int) * 8) = (r : Int) * 8 ∧ ((r : Int) * 8).toNat = r * 8 ∧ 0 ≤ (r : Int) * 8 ∧ (r : Int) * 8 ≤ 32 ∧ (d : Int) < 16 := by
  refine ⟨i / 4, i % 4, rfl, rfl, by omega, by omega, by rw [Int.tdiv_eq_ediv_of_nonneg (by omega)]; omega, by rw [Int.tmod_eq_emod_of_nonneg (by omega)]; omega, IntWalk.i64_in _ ⟨by omega, by omega⟩, IntWalk.i64_in _ ⟨by omega, by omega⟩, IntWalk.i64_in _ ⟨by omega, by omega⟩, by omega, by omega, by omega, by omega⟩

set_option maxHeartbeats 2000000 in
set_option maxRecDepth 20000 in
theorem blockP_any (s : List UInt32) (w : World) (hs : s.length = 16) (G : GlobQ w) :
    Calls Tryd.prog 22 #[.agg (cw s).toArray] w fun e w' => e = .returned (.agg (cb (blockOf s)).toArray) ∧ Below w.heap.size w w' := by
  have HS := Lib.hid hs
  have HG := Lib.hid G
  have hn := Lib.hid (sb_new w s)
  clear hs G
  go_enter Tryd.func22, Tryd.ntmps22
  go_wp2_with (first
    | ((with_reducible show wpList _ _ _ _ _ _); refine wpList_load_all rfl 49 (.tmp 1) rfl w.heap.size rfl 49 (cw s) 23 16 (((show WB (w.alloc (.cells (cw s).toArray 49)) w.heap.size 49 s from heap_alloc_new w _).alloc _)) Tryd.underlying49 info49 (by rw [cw_len, HS.out]) ?_)
    | ((with_reducible show wpList _ _ _ _ _ _); refine wpList_store_all rfl 49 (.tmp 3) (.tmp 7) rfl (w.heap.size + 1 + 1) (cw s) rfl rfl 49 (cw (List.replicate 16 0)).toArray 16 hn.out.mm info49 (by simp [cw]) (by rw [cw_len, HS.out]) (cw_one _) ?_; intro w3 hb3 hg3 hz3; have H3 : Hid (SB w w3 w.heap.size (w.heap.size + 1) (w.heap.size + 1 + 1) s (rounds s 0)) := hn.out.grown hg3 hb3; clear hb3 hg3 hz3))
  generalize hB : w.heap.size = B at *
  have HB := Lib.hid hB
  clear hB hn
  generalize B + 1 + 1 = m at *
  generalize B + 1 = r at *
  go_loopw [8] (fun i wr => ∃ k : Nat, k ≤ 10 ∧ i = .int .i64 k ∧ Hid (SB w wr B r m s (rounds s k))) (fun i _ => 10 - (intOf i).toNat)
  case atStart => exact ⟨0, by omega, rfl, H3⟩
  case round =>
    clear H3
    obtain ⟨k, hk, rfl, hst⟩ := hrel
    obtain ⟨wo, hwo⟩ : ∃ wo : World, wo = wr := ⟨_, rfl⟩
    subst hwo
    by_cases hlt : k < 10
    · have i1 : (k : Int) < 10 := by omega
      go_wp2_with (go_at_call 30; refine (doubleP_any m 49 (rounds s k) wo hst.out.mm (by rw [rounds_len, HS.out]) (HG.out.below hst.out.bel (HB.out ▸ HG.out.size))).mono ?_; rintro e w6 ⟨rfl, hv6, hg6⟩)
      go_roundw
      case rel => exact ⟨k + 1, by omega, by go_num, hst.out.grown hg6 hv6⟩
      case measure => simp [intOf]; omega
    · have hk10 : k = 10 := by omega
      rw [hk10] at hst
      clear hk10 hk
      go_wp2
      have hq : Hid (BT (wo.alloc (.cells (cb (List.replicate 64 0)).toArray 30)) wo.heap.size 30 (laid64 s (rounds s 10) 0)) := bt_new rfl rfl
      have hst2 : Hid (SB w (wo.alloc (.cells (cb (List.replicate 64 0)).toArray 30)) B r m s (rounds s 10)) := hst.out.alloc _
      have hqm : Hid (m < wo.heap.size) := hst.out.lt.2.2
      have hrl : Hid ((rounds s 10).length = 16) := by show _ = _; rw [rounds_len, HS.out]
      have hfin : Hid (blockOf s = sumBytes s (rounds s 10)) := Lib.hid rfl
      generalize rounds s 10 = v at *
      generalize wo.heap.size = q at *
      clear hst
      go_loopw [12] (fun i wr => ∃ k : Nat, k ≤ 64 ∧ i = .int .i64 k ∧ Hid (SB w wr B r m s v) ∧ Hid (BT wr q 30 (laid64 s v k))) (fun i _ => 64 - (intOf i).toNat)
      case atStart => exact ⟨0, by omega, rfl, hst2, hq⟩
      case round =>
        clear hst2 hq
        obtain ⟨k, hk, rfl, hst, hq⟩ := hrel
        obtain ⟨wo, hwo⟩ : ∃ wo : World, wo = wr := ⟨_, rfl⟩
        subst hwo
        by_cases hlt : k < 64
        · obtain ⟨d, z, hd, hz, hd16, hz4, e1, e2, e3, e4, e5, e6, e7, e8, e9⟩ := byte_at k hlt
          have i1 : (k : Int) < 64 := by omega
          have c1 := hst.out.mm.cell d (by rw [hrl.out]; exact hd16)
          have c2 := hst.out.ss.cell d (by rw [HS.out]; exact hd16)
          have c3 := hq.out.cell k (by rw [laid64_len]; exact hlt)
          have f3 := hq.out.frozen k
          go_wp2
          go_still_tail 9, (by kernel_rfl)
          change wpList _ _ _ _ _ wo.drew
          go_wp2
          go_roundw
          case rel =>
            rw [show wd (at_ v d + at_ s d) / 2 ^ (z * 8) % 256 = ((low8 (8 * (k % 4)) (at_ v (k / 4) + at_ s (k / 4))).toNat : Int) by rw [low8_int, ← hd.out, ← hz.out, Nat.mul_comm]]
            exact ⟨k + 1, by omega, by go_num, (hst.out.other (grown_set _ _ _ _) hqm.out).drew, (hq.out.set_ k _).drew⟩
          case measure => simp [intOf]; omega
        · have hk64 : k = 64 := by omega
          rw [hk64, laid64_64] at hq
          go_wp2_with (first
            | ((with_reducible show wpList _ _ _ _ _ _); refine wpList_load_all rfl 30 (.tmp 4) rfl q rfl 30 (cb (sumBytes s v)) 5 64 hq.out Tryd.underlying30 info30 (by rw [cb_len, sumBytes_len]) ?_)
            | ((with_reducible show wpList _ _ _ _ _ _); refine wpList_store_all rfl 30 (.tmp 2) (.tmp 33) rfl r (cb (sumBytes s v)) rfl rfl 30 _ 64 hst.out.rr info30 (by simp [cb]) (by rw [cb_len, sumBytes_len]) (cb_one _) ?_; intro w9 hb9 hg9 hz9; have HZ9 := Lib.hid hz9; clear hz9))
          have hbel : Below B w w9 := hst.out.bel.grown hg9 (by have := hst.out.lt; omega) (fun k hk => by injection hk with hk; have := hst.out.low; omega)
          refine bodyPost_ret (v := .agg (cb (sumBytes s v)).toArray) (results_cell_row Tryd.results22 _ w9 r 30 _ (0, 0) _ rfl hb9 Tryd.underlying30 rfl (by rw [info30]; simp [cb_len, sumBytes_len])) rfl ⟨by rw [hfin.out], by rw [HB.out]; exact hbel⟩
end Go.Proofs.YtbpphdmkfjdhnaaDoor
