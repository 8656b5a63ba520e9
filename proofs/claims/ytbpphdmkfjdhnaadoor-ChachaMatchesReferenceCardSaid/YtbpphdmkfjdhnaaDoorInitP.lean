/-
  The program's initial, Block, by contracts.
-/
import Derived.Test.YtbpphdmkfjdhnaaDoorLoadP
namespace Go.Proofs.YtbpphdmkfjdhnaaDoor
open Go.RowKit

attribute [local go_sem] wd_add wd_addw wd_xor wd_or wd_not wd_mod wd_wrap
theorem info26 : (Tryd.prog.info? 26).map (·.size) = some 32 := by kernel_rfl
theorem info27 : (Tryd.prog.info? 27).map (·.size) = some 12 := by kernel_rfl

/-- the blocks of a call of initial: the key, the nonce, the result, the words -/
structure SI (w wr : World) (B p r g : Nat) (key nonce : List UInt8) (v : List UInt32) : Prop where
  kk : BT wr B 26 key
  nn : BT wr p 27 nonce
  rr : WB wr r 49 (List.replicate 16 0)
  vv : WB wr g 49 v
  bel : Below B w wr
  low : B < p ∧ p < r ∧ r < g
section
variable {w wr w' : World} {B p r g : Nat} {key nonce : List UInt8} {v v' : List UInt32}
theorem SI.grown (h : SI w wr B p r g key nonce v) (hg : wr.grownBy w' (some g)) (hv : WB w' g 49 v') : SI w w' B p r g key nonce v' := by
  have l := h.low
  have hl := h.kk.lt
  exact ⟨h.kk.grown hg (by simp; omega), h.nn.grown hg (by simp; omega), h.rr.grown hg (by simp; omega), hv, h.bel.grown hg (by omega) (fun k hk => by injection hk with hk; omega), l⟩
theorem SI.drew (h : SI w wr B p r g key nonce v) : SI w wr.drew B p r g key nonce v := ⟨h.kk, h.nn, h.rr, h.vv, h.bel.drew, h.low⟩
end
theorem si_new (w : World) (key nonce : List UInt8) : SI w ((((w.alloc (.cells (cb key).toArray 26)).alloc (.cells (cb nonce).toArray 27)).alloc (.cells (cw (List.replicate 16 0)).toArray 49)).alloc (.cells (cw (List.replicate 16 0)).toArray 49))
    w.heap.size (w.heap.size + 1) (w.heap.size + 1 + 1) (w.heap.size + 1 + 1 + 1) key nonce (List.replicate 16 0) := by
  have z : ∀ (w : World) (o : Obj), (w.alloc o).heap.size = w.heap.size + 1 := fun w o => by simp
  have n1 : BT (w.alloc (.cells (cb key).toArray 26)) w.heap.size 26 key := heap_alloc_new w _
  have n2 : BT ((w.alloc (.cells (cb key).toArray 26)).alloc (.cells (cb nonce).toArray 27)) (w.heap.size + 1) 27 nonce := by
    have := heap_alloc_new (w.alloc (.cells (cb key).toArray 26)) (.cells (cb nonce).toArray 27)
    rw [z] at this
    exact this
  refine ⟨((n1.alloc _).alloc _).alloc _, (n2.alloc _).alloc _, ?_, ?_, (((below_alloc _).alloc (by simp) _).alloc (by simp; omega) _).alloc (by simp; omega) _, by omega⟩
  · have := wb_new (w := (w.alloc (.cells (cb key).toArray 26)).alloc (.cells (cb nonce).toArray 27)) (n := 16) (t := 49) rfl rfl
    rw [z, z] at this
    exact this.alloc _
  · have := wb_new (w := ((w.alloc (.cells (cb key).toArray 26)).alloc (.cells (cb nonce).toArray 27)).alloc (.cells (cw (List.replicate 16 0)).toArray 49)) (n := 16) (t := 49) rfl rfl
    rw [z, z, z] at this
    exact this
theorem loadP_is (g o n : Nat) (v : List UInt32) (p m c : Nat) (tp : TypeId) (b : List UInt8) (u : List UInt32) (w : World) (hm : m = b.length) (hv : WB w g 49 v) (hb : BT w p tp b) (hgp : p ≠ g) (hn : o + n ≤ v.length) (hl : b.length ≤ 4 * n) (hn16 : n ≤ 16) (hu : loadAt v o b b.length = u) :
    Calls Tryd.prog 31 #[.slice (some ⟨g, o, none⟩) n n, .slice (some ⟨p, 0, none⟩) m c] w fun e w' => e = .returned (.tuple #[]) ∧ WB w' g 49 u ∧ w.grownBy w' (some g) := by
  subst hm hu
  exact loadP_any g o n n _ v p c tp b w hv hb hgp hn hl hn16

set_option maxHeartbeats 2000000 in
set_option maxRecDepth 20000 in
theorem initialP_any (key nonce : List UInt8) (n : UInt32) (w : World) (hk : key.length = 32) (hn : nonce.length = 12) :
    Calls Tryd.prog 23 #[.agg (cb key).toArray, .agg (cb nonce).toArray, .int .u32 (wd n)] w fun e w' => e = .returned (.agg (cw (initS key nonce n)).toArray) ∧ Below w.heap.size w w' := by
  have HL := Lib.hid (And.intro hk hn)
  have hs := Lib.hid (si_new w key nonce)
  clear hk hn
  go_enter Tryd.func23, Tryd.ntmps23
  go_wp2_with ((with_reducible show wpList _ _ _ _ _ _); refine wpList_store_all rfl 49 (.tmp 7) (.tmp 8) rfl (w.heap.size + 1 + 1 + 1) (cw S0) rfl rfl 49 (cw (List.replicate 16 0)).toArray 16 hs.out.vv info49 (by simp [cw]) (by rw [cw_len, S0_len]) (cw_one _) ?_; intro w3 hb3 hg3 hz3; have H3 : Hid (SI w w3 w.heap.size (w.heap.size + 1) (w.heap.size + 1 + 1) (w.heap.size + 1 + 1 + 1) key nonce S0) := hs.out.grown hg3 hb3; clear hb3 hg3 hz3)
  generalize hB : w.heap.size = B at *
  have HB := Lib.hid hB
  clear hB hs
  generalize B + 1 + 1 + 1 = g at *
  generalize B + 1 + 1 = r at *
  generalize B + 1 = p at *
  go_still_tail 2, (by kernel_rfl)
  change wpList _ _ _ _ _ w3.drew
  go_wp2_with (go_at_call 31; refine (loadP_is g 4 12 S0 B 32 32 26 key (setMany S0 4 key 8) w3.drew HL.out.1.symm H3.out.drew.vv H3.out.drew.kk (by have := H3.out.low; omega) (by decide) (by rw [HL.out.1]; decide) (by decide) (by rw [HL.out.1]; exact load_key key)).mono ?_; rintro e w5 ⟨rfl, hv5, hg5⟩; have H5 : Hid (SI w w5 B p r g key nonce (setMany S0 4 key 8)) := H3.out.drew.grown hg5 hv5; clear hv5 hg5; have cc := H5.out.vv.cell 12 (by rw [setMany_len, S0_len]; decide); have fc := H5.out.vv.frozen 12)
  have H6 : Hid (SI w (w5.setCell ⟨g, 12, none⟩ (.int .u32 (wd n))) B p r g key nonce ((setMany S0 4 key 8).set 12 n)) := H5.out.grown (grown_set _ _ _ _) (H5.out.vv.set_ 12 n)
  generalize w5.setCell ⟨g, 12, none⟩ (.int .u32 (wd n)) = w6 at *
  clear cc fc H5 H3
  go_still_tail 2, (by kernel_rfl)
  change wpList _ _ _ _ _ w6.drew
  go_wp2_with (first
    | (go_at_call 31; refine (loadP_is g 13 3 ((setMany S0 4 key 8).set 12 n) p 12 12 27 nonce (initS key nonce n) w6.drew HL.out.2.symm H6.out.drew.vv H6.out.drew.nn (by have := H6.out.low; omega) (by simp [setMany_len, S0_len]) (by rw [HL.out.2]; decide) (by decide) (by rw [HL.out.2]; exact load_nonce key nonce n)).mono ?_; rintro e w7 ⟨rfl, hv7, hg7⟩; have H7 : Hid (SI w w7 B p r g key nonce (initS key nonce n)) := H6.out.drew.grown hg7 hv7; clear hv7 hg7)
    | ((with_reducible show wpList _ _ _ _ _ _); refine wpList_load_all rfl 49 (.tmp 7) rfl g rfl 49 (cw (initS key nonce n)) 23 16 H7.out.vv Tryd.underlying49 info49 (by rw [cw_len, initS_len]) ?_)
    | ((with_reducible show wpList _ _ _ _ _ _); refine wpList_store_all rfl 49 (.tmp 6) (.tmp 17) rfl r (cw (initS key nonce n)) rfl rfl 49 _ 16 H7.out.rr info49 (by simp [cw]) (by rw [cw_len, initS_len]) (cw_one _) ?_; intro w9 hb9 hg9 hz9; have HZ9 := Lib.hid hz9; clear hz9))
  have hbel : Below B w w9 := H7.out.bel.grown hg9 (by have := H7.out.kk.lt; omega) (fun k hk => by injection hk with hk; have := H7.out.low; omega)
  refine bodyPost_ret (v := .agg (cw (initS key nonce n)).toArray) (results_cell_row Tryd.results23 _ w9 r 49 _ (0, 0) _ rfl hb9 Tryd.underlying49 rfl (by rw [info49]; simp [cw_len, initS_len])) rfl ⟨rfl, by rw [HB.out]; exact hbel⟩

/-- the blocks of a call of Block or Xor: the key and the nonce -/
theorem kn_new (w : World) (key nonce : List UInt8) : BT ((w.alloc (.cells (cb key).toArray 26)).alloc (.cells (cb nonce).toArray 27)) w.heap.size 26 key ∧
    BT ((w.alloc (.cells (cb key).toArray 26)).alloc (.cells (cb nonce).toArray 27)) (w.heap.size + 1) 27 nonce ∧
    Below w.heap.size w ((w.alloc (.cells (cb key).toArray 26)).alloc (.cells (cb nonce).toArray 27)) := by
  have z : ∀ (w : World) (o : Obj), (w.alloc o).heap.size = w.heap.size + 1 := fun w o => by simp
  have n1 : BT (w.alloc (.cells (cb key).toArray 26)) w.heap.size 26 key := heap_alloc_new w _
  refine ⟨n1.alloc _, ?_, (below_alloc _).alloc (by simp) _⟩
  have := heap_alloc_new (w.alloc (.cells (cb key).toArray 26)) (.cells (cb nonce).toArray 27)
  rw [z] at this
  exact this
set_option maxHeartbeats 2000000 in
set_option maxRecDepth 20000 in
theorem BlockP_any (key nonce : List UInt8) (n : UInt32) (w : World) (hk : key.length = 32) (hn : nonce.length = 12) (G : GlobQ w) :
    Calls Tryd.prog 12 #[.agg (cb key).toArray, .agg (cb nonce).toArray, .int .u32 (wd n)] w fun e w' => e = .returned (.agg (cb (blockOf (initS key nonce n))).toArray) ∧ Below w.heap.size w w' := by
  have HL := Lib.hid (And.intro hk hn)
  have hs := Lib.hid (kn_new w key nonce)
  have HG := Lib.hid G
  clear hk hn G
  go_enter Tryd.func12, Tryd.ntmps12
  generalize hw0 : (w.alloc (.cells (cb key).toArray 26)).alloc (.cells (cb nonce).toArray 27) = w0 at *
  go_wp2_with (first
    | ((with_reducible show wpList _ _ _ _ _ _); refine wpList_load_all rfl 26 (.tmp 3) rfl w.heap.size rfl 26 (cb key) 5 32 (hs.out.1.alloc _) Tryd.underlying26 info26 (by rw [cb_len, HL.out.1]) ?_)
    | ((with_reducible show wpList _ _ _ _ _ _); refine wpList_load_all rfl 27 (.tmp 4) rfl (w.heap.size + 1) rfl 27 (cb nonce) 5 12 (hs.out.2.1.alloc _) Tryd.underlying27 info27 (by rw [cb_len, HL.out.2]) ?_)
    | (go_at_call 23; refine (initialP_any key nonce n _ HL.out.1 HL.out.2).mono ?_; rintro e w2 ⟨rfl, hb2⟩; have HB2 : Hid (Below w.heap.size w w2) := Lib.hid ((hs.out.2.2.alloc hs.out.2.2.size _).trans (hb2.mono (by have := hs.out.2.2.size; simp; omega))); have HR2 : Hid (BT w2 w0.heap.size 30 (List.replicate 64 0)) := Lib.hid ((bt_new rfl rfl).up hb2); clear hb2)
    | (go_at_call 22; refine (blockP_any (initS key nonce n) w2 (initS_len _ _ _) (HG.out.up HB2.out)).mono ?_; rintro e w3 ⟨rfl, hb3⟩; have HB3 : Hid (Below w.heap.size w w3) := Lib.hid (HB2.out.trans (hb3.mono HB2.out.size)); have HR3 : Hid (BT w3 w0.heap.size 30 (List.replicate 64 0)) := Lib.hid (HR2.out.up hb3); clear hb3)
    | ((with_reducible show wpList _ _ _ _ _ _); refine wpList_store_all rfl 30 (.tmp 6) (.tmp 11) rfl w0.heap.size (cb (blockOf (initS key nonce n))) rfl rfl 30 _ 64 HR3.out info30 (by simp [cb]) (by rw [cb_len, blockOf_len]) (cb_one _) ?_; intro w9 hb9 hg9 hz9; have HZ9 := Lib.hid hz9; clear hz9))
  have hbel : Below w.heap.size w w9 := HB3.out.grown hg9 HB3.out.size (fun k hk => by injection hk with hk; have := hs.out.2.2.size; omega)
  exact bodyPost_ret (v := .agg (cb (blockOf (initS key nonce n))).toArray) (results_cell_row Tryd.results12 _ w9 w0.heap.size 30 _ (0, 0) _ rfl hb9 Tryd.underlying30 rfl (by rw [info30]; simp [cb_len, blockOf_len])) rfl ⟨rfl, hbel⟩
end Go.Proofs.YtbpphdmkfjdhnaaDoor
