/-
  sanity: the fixed examples.
-/
import Derived.Test.YtdpkbhhmhmffnaaDoorPairR
import Derived.Test.YtdpkbhhmhmffnaaDoorVectors
import Derived.Test.YtdpkbhhmhmffnaaDoorEqD
import Derived.Test.YtdpkbhhmhmffnaaDoorLoadD
import Derived.Deep.RegionWith
import Derived.Test.YtdpkbhhmhmffnaaDoorHand
namespace Go.Proofs.YtdpkbhhmhmffnaaDoor
open Go.RowKit

theorem key32_fin : ∀ j : Fin 32, key32.take (j.val + 1) = key32.take j.val ++ [UInt8.ofNat j.val] := by decide
theorem key32_succ (j : Nat) (h : j < 32) : key32.take (j + 1) = key32.take j ++ [UInt8.ofNat j] := key32_fin ⟨j, h⟩
theorem j_u8 (j : Nat) (h : j < 32) : (j : Int) = ((UInt8.ofNat j).toNat : Int) := by simp; omega
theorem key32_K : ∃ K : Nat → List UInt8, K 0 = [] ∧ (∀ j, j < 32 → K (j + 1) = K j ++ [UInt8.ofNat j]) ∧ (∀ j, j ≤ 32 → (K j).length = j) ∧ K 32 = key32 :=
  ⟨fun j => key32.take j, rfl, key32_succ, fun j h => by show (key32.take j).length = j; rw [List.length_take]; show min j 32 = j; omega, by decide⟩

theorem lit_step {w w' : World} {o : Obj} {l : List UInt8} (hb : w'.heap[w.heap.size]? = some (.cells (cb l).toArray 24 (0, 0))) (hg : (w.alloc o).grownBy w' (some w.heap.size)) : BT w' w.heap.size 24 l ∧ Below w.heap.size w w' :=
  ⟨hb, (below_alloc o).grown hg (by simp) (fun k hk => by injection hk with hk; omega)⟩

/-- what sanity has before its last statement -/
structure SY (w wr : World) (d1 d2 d3 : Nat) (A : Option Addr) : Prop where
  none : BT wr d1 24 bnone
  abc : BT wr d2 24 babc
  keyed : BT wr d3 24 bkeyed
  key : Shows wr wr.heap.size A key32
  glob : Glob wr
  low : w.heap.size ≤ wr.heap.size
  bel : Below w.heap.size w wr
theorem SY.up {w wr w' : World} {d1 d2 d3 : Nat} {A : Option Addr} (s : SY w wr d1 d2 d3 A) (hb : Below wr.heap.size wr w') : SY w w' d1 d2 d3 A :=
  ⟨s.none.up hb, s.abc.up hb, s.keyed.up hb, s.key.up hb, s.glob.up hb, Nat.le_trans s.low hb.size, s.bel.trans (hb.mono s.low)⟩
theorem SY.drew {w wr : World} {d1 d2 d3 : Nat} {A : Option Addr} (s : SY w wr d1 d2 d3 A) : SY w wr.drew d1 d2 d3 A := ⟨s.none, s.abc, s.keyed, s.key, ⟨s.glob.iv, s.glob.order, s.glob.size⟩, s.low, s.bel.drew⟩
abbrev SS (w : World) (d1 d2 d3 : Nat) (A : Option Addr) (w' : World) : Prop := w'.rangeAt d1 0 (cb bnone) ∧ w'.rangeAt d2 0 (cb babc) ∧ w'.rangeAt d3 0 (cb bkeyed) ∧ Hid (SY w w' d1 d2 d3 A)
theorem SY.ss {w wr : World} {d1 d2 d3 : Nat} {A : Option Addr} (s : SY w wr d1 d2 d3 A) : SS w d1 d2 d3 A wr := ⟨s.none.range, s.abc.range, s.keyed.range, Lib.hid s⟩

theorem syRaise {w wr : World} {d1 d2 d3 : Nat} {A : Option Addr} (s : Hid (SY w wr d1 d2 d3 A)) : wr.rangeAt d1 0 (cb bnone) ∧ wr.rangeAt d2 0 (cb babc) ∧ wr.rangeAt d3 0 (cb bkeyed) ∧ Hid (SY w wr d1 d2 d3 A) := s.out.ss
theorem syDrew {w wr : World} {d1 d2 d3 : Nat} {A : Option Addr} (s : Hid (SY w wr d1 d2 d3 A)) : Hid (SY w wr.drew d1 d2 d3 A) := Lib.hid s.out.drew
theorem syAlloc {w wr : World} {d1 d2 d3 : Nat} {A : Option Addr} {o : Obj} (s : Hid (SY w wr d1 d2 d3 A)) : Hid (SY w (wr.alloc o) d1 d2 d3 A) := Lib.hid (s.out.up (below_alloc o))
theorem sum_none {w wr : World} {d1 d2 d3 : Nat} {A : Option Addr} (s : Hid (SY w wr d1 d2 d3 A)) : Calls Tryd.prog 9 #[.slice none 0 0] wr fun e w' => e = .returned (.agg (cb bnone).toArray) ∧ Hid (SY w w' d1 d2 d3 A) :=
  (sumP_any none 0 [] wr s.out.glob Shows.nil (by simp) (by decide) (by simp)).mono fun _ _ h => ⟨by rw [h.1, none_d], Lib.hid (s.out.up h.2)⟩
theorem abc_shows (w : World) : Shows (w.alloc (.cells #[.int .u8 97, .int .u8 98, .int .u8 99] 5)) (w.alloc (.cells #[.int .u8 97, .int .u8 98, .int .u8 99] 5)).heap.size (some ⟨w.heap.size, 0, none⟩) [97, 98, 99] :=
  BT.shows (t := 5) (heap_alloc_new w _) (by simp)
theorem sum_abc {w wr : World} {d1 d2 d3 : Nat} {A : Option Addr} (s : Hid (SY w wr d1 d2 d3 A)) : Calls Tryd.prog 9 #[.slice (some ⟨wr.heap.size, 0, none⟩) 3 3] (wr.alloc (.cells #[.int .u8 97, .int .u8 98, .int .u8 99] 5)) fun e w' => e = .returned (.agg (cb babc).toArray) ∧ Hid (SY w w' d1 d2 d3 A) :=
  (sumP_is _ 3 3 [97, 98, 99] _ rfl (s.out.up (below_alloc _)).glob (abc_shows wr) ⟨by omega, by omega⟩ (by simp)).mono fun _ _ h => ⟨by rw [h.1, abc_d], Lib.hid ((s.out.up (below_alloc _)).up h.2)⟩
theorem keyed_32 {w wr : World} {d1 d2 d3 c : Nat} {A : Option Addr} (s : Hid (SY w wr d1 d2 d3 A)) (hc : Hid (32 ≤ c ∧ c ≤ 9223372036854775807)) : Calls Tryd.prog 11 #[.slice A 32 c, .slice none 0 0] wr fun e w' => e = .returned (.agg (cb bkeyed).toArray) ∧ Hid (SY w w' d1 d2 d3 A) :=
  (keyedP_any A c key32 none 0 [] wr s.out.glob s.out.key Shows.nil hc.out.1 (by simp) hc.out.2 (by decide) (by simp)).mono fun _ _ h => ⟨by rw [h.1, keyed_d], Lib.hid (s.out.up h.2)⟩
theorem leaf_none {w wr : World} {d1 d2 d3 : Nat} {A : Option Addr} (s : Hid (SY w wr d1 d2 d3 A)) : Calls Tryd.prog 13 #[.slice none 0 0] wr fun e w' => ∃ dg : List UInt8, e = .returned (.agg (cb dg).toArray) ∧ dg.length = 32 ∧ Hid (dg = digestOf [] [0]) ∧ Hid (SY w w' d1 d2 d3 A) :=
  (leafP_any none 0 [] wr s.out.glob Shows.nil (by simp)).mono fun _ _ h => ⟨_, h.1, digestOf_len _ _, Lib.hid rfl, Lib.hid (s.out.up h.2)⟩

theorem zero_shows (w : World) : BT (w.alloc (.cells #[.int .u8 0] 5)) w.heap.size 5 [0] := heap_alloc_new w _
theorem sumR_bt {w wr : World} {d1 d2 d3 g : Nat} {A : Option Addr} {dg : List UInt8} (s : Hid (SY w wr d1 d2 d3 A)) (hb : Hid (BT wr g 5 [0])) (hd : Hid (dg = digestOf [] [0])) : Calls Tryd.prog 10 #[.slice (some ⟨g, 0, none⟩) 1 1] wr fun e w' => e = .returned (.agg (cb dg).toArray) ∧ Hid (SY w w' d1 d2 d3 A) :=
  (sumR_is (some ⟨g, 0, none⟩) 1 1 [0] wr rfl (hb.out.shows hb.out.lt) (by simp)).mono fun _ _ h => ⟨by rw [h.1, hd.out], Lib.hid (s.out.up h.2)⟩
theorem sumR_zero {w wr : World} {d1 d2 d3 : Nat} {A : Option Addr} {dg : List UInt8} (s : Hid (SY w wr d1 d2 d3 A)) (hd : Hid (dg = digestOf [] [0])) : Calls Tryd.prog 10 #[.slice (some ⟨wr.heap.size, 0, none⟩) 1 1] (wr.alloc (.cells #[.int .u8 0] 5)) fun e w' => e = .returned (.agg (cb dg).toArray) ∧ Hid (SY w w' d1 d2 d3 A) :=
  sumR_bt (syAlloc s) (Lib.hid (zero_shows wr)) hd
theorem leaf_none2 {w wr : World} {d1 d2 d3 : Nat} {A : Option Addr} (s : Hid (SY w wr d1 d2 d3 A)) : Calls Tryd.prog 13 #[.slice none 0 0] (wr.alloc (.cells #[.int .u8 0] 5)) fun e w' => ∃ dg : List UInt8, e = .returned (.agg (cb dg).toArray) ∧ dg.length = 32 ∧ Hid (dg = digestOf [] [0]) ∧ Hid (SY w w' d1 d2 d3 A) ∧ Hid (BT w' wr.heap.size 5 [0]) :=
  (leafP_any none 0 [] _ (syAlloc s).out.glob Shows.nil (by simp)).mono fun _ _ h => ⟨_, h.1, digestOf_len _ _, Lib.hid rfl, Lib.hid ((syAlloc s).out.up h.2), Lib.hid ((zero_shows wr).up h.2)⟩
theorem key32_len : key32.length = 32 := rfl
theorem bnone_len : bnone.length = 32 := rfl
theorem babc_len : babc.length = 32 := rfl
theorem bkeyed_len : bkeyed.length = 32 := rfl
theorem val_none : Value.agg #[.int .u8 105, .int .u8 33, .int .u8 122, .int .u8 48, .int .u8 121, .int .u8 144, .int .u8 128, .int .u8 148, .int .u8 225, .int .u8 17, .int .u8 33, .int .u8 208, .int .u8 66, .int .u8 53, .int .u8 74, .int .u8 124, .int .u8 31, .int .u8 85, .int .u8 182, .int .u8 72, .int .u8 44, .int .u8 161, .int .u8 165, .int .u8 30, .int .u8 27, .int .u8 37, .int .u8 13, .int .u8 253, .int .u8 30, .int .u8 208, .int .u8 238, .int .u8 249] = .agg (cb bnone).toArray := rfl
theorem val_abc : Value.agg #[.int .u8 80, .int .u8 140, .int .u8 94, .int .u8 140, .int .u8 50, .int .u8 124, .int .u8 20, .int .u8 226, .int .u8 225, .int .u8 167, .int .u8 43, .int .u8 163, .int .u8 78, .int .u8 235, .int .u8 69, .int .u8 47, .int .u8 55, .int .u8 69, .int .u8 139, .int .u8 32, .int .u8 158, .int .u8 214, .int .u8 58, .int .u8 41, .int .u8 77, .int .u8 153, .int .u8 155, .int .u8 76, .int .u8 134, .int .u8 103, .int .u8 89, .int .u8 130] = .agg (cb babc).toArray := rfl
theorem val_keyed : Value.agg #[.int .u8 72, .int .u8 168, .int .u8 153, .int .u8 125, .int .u8 164, .int .u8 7, .int .u8 135, .int .u8 107, .int .u8 61, .int .u8 121, .int .u8 192, .int .u8 217, .int .u8 35, .int .u8 37, .int .u8 173, .int .u8 59, .int .u8 137, .int .u8 203, .int .u8 183, .int .u8 84, .int .u8 216, .int .u8 106, .int .u8 183, .int .u8 26, .int .u8 238, .int .u8 4, .int .u8 122, .int .u8 211, .int .u8 69, .int .u8 253, .int .u8 44, .int .u8 73] = .agg (cb bkeyed).toArray := rfl
attribute [local irreducible] bnone babc bkeyed key32 digestOf
attribute [local go_sem] eqGuard_d
set_option maxHeartbeats 2000000 in
set_option maxRecDepth 20000 in
theorem sanity_any (w : World) (G : Glob w) :
    Calls Tryd.prog 8 #[] w fun e w' => e = .returned (.bool true) ∧ Below w.heap.size w w' := by
  have HG := Lib.hid G
  clear G
  obtain ⟨K, hK0, hKs, hKl, hK32⟩ := key32_K
  have HKs := Lib.hid hKs
  have HKl := Lib.hid hKl
  have HK32 := Lib.hid hK32
  have HK0 := Lib.hid hK0
  clear hKs hKl hK32 hK0
  go_enter Tryd.func8, Tryd.ntmps8
  go_wp2_with fail
  have hK1 : Hid (Owns (w.alloc (.cells #[] 5)) w.heap.size (.slice (some ⟨w.heap.size, 0, none⟩) 0 0) []) := bt_owns1 (heap_alloc_new w (.cells #[] 5)) rfl (by decide) (Nat.le_refl _)
  rw [← HK0.out] at hK1
  go_loopw [1, 2] (fun v i wr => ∃ (j n : Nat) (A : Option Addr) (c : Nat), j ≤ 32 ∧ i = .int .i64 j ∧ v = .slice A n c ∧ Hid (n = j) ∧ Hid (Owns wr w.heap.size (.slice A n c) (K j)) ∧ Hid (Below w.heap.size w wr)) (fun _ i _ => 32 - (intOf i).toNat)
  case atStart => exact ⟨0, 0, _, _, by omega, rfl, rfl, rfl, hK1, Lib.hid (below_alloc _)⟩
  case round =>
    obtain ⟨j, n, A, cc, hj, rfl, rfl, hn, ho, hb⟩ := hrel
    obtain ⟨wo, hwo⟩ : ∃ wo : World, wo = wr := ⟨_, rfl⟩
    subst hwo
    by_cases hjm : j < 32
    · have e := Lib.hid (HKs.out j hjm)
      have hl := Lib.hid (HKl.out j (by omega))
      have b2 : (j : Int) < 32 := by omega
      go_wp2_with (at_builtin; (refine wpList_growC rfl (.tmp 11) (.tmp 14) _ rfl Tryd.underlying22 info5 w.heap.size (.slice A n cc) (K j) (UInt8.ofNat j) _ rfl rfl rfl ?_ ho.out (by rw [hl.out]; omega) hb.out.size ?_; exact j_u8 j hjm; intro A3 c3 w3 hr3 hg3))
      go_roundw
      case rel => exact ⟨j + 1, j + 1, A3, c3, by omega, by go_num, by simp [hl.out], rfl, by show Owns _ _ _ _; rw [e.out]; have h := hr3; rw [List.length_append, hl.out] at h; exact h, Lib.hid (grown_owns ho.out hg3 hb.out hb.out.size (Nat.le_refl _))⟩
      case measure => simp [intOf]; omega
    · have hjm2 : j = 32 := by omega
      have hn2 : n = 32 := hn.out.trans hjm2
      rw [hjm2, hn2, HK32.out] at ho
      clear hjm2 hj hn
      subst hn2
      go_wp2_with (first
        | ((with_reducible show wpList _ _ _ _ _ _); (refine wpList_store_all rfl 24 (.tmp 3) (.tmp 16) rfl wo.heap.size (cb bnone) rfl val_none 24 (cb (List.replicate 32 0)).toArray 32 (bt_new (w := wo) (n := 32) rfl rfl) info24D (by simp [cb]) (by rw [cb_len, bnone_len]) (cb_one _) ?_; intro w2 hb2 hg2 hz2; have s2 := Lib.hid (lit_step hb2 hg2); clear hz2 hb2 hg2))
        | ((with_reducible show wpList _ _ _ _ _ _); (refine wpList_store_all rfl 24 (.tmp 4) (.tmp 17) rfl w2.heap.size (cb babc) rfl val_abc 24 (cb (List.replicate 32 0)).toArray 32 (bt_new (w := w2) (n := 32) rfl rfl) info24D (by simp [cb]) (by rw [cb_len, babc_len]) (cb_one _) ?_; intro w3 hb3 hg3 hz3; have s3 := Lib.hid (lit_step hb3 hg3); clear hz3 hb3 hg3))
        | ((with_reducible show wpList _ _ _ _ _ _); (refine wpList_store_all rfl 24 (.tmp 5) (.tmp 18) rfl w3.heap.size (cb bkeyed) rfl val_keyed 24 (cb (List.replicate 32 0)).toArray 32 (bt_new (w := w3) (n := 32) rfl rfl) info24D (by simp [cb]) (by rw [cb_len, bkeyed_len]) (cb_one _) ?_; intro w4 hb4 hg4 hz4; have s4 := Lib.hid (lit_step hb4 hg4); clear hz4 hb4 hg4)))
      have hsw : Hid (SY w w4 wo.heap.size w2.heap.size w3.heap.size A) := by
        have b2 := s2.out.2
        have b3 := s3.out.2
        have b4 := s4.out.2
        have kk := (Owns.shows ho.out).2.2
        have g := HG.out.below hb.out HG.out.size
        exact ⟨(s2.out.1.up b3).up b4, s3.out.1.up b4, s4.out.1, ((kk.up b2).up b3).up b4, ((g.up b2).up b3).up b4, Nat.le_trans hb.out.size (Nat.le_trans b2.size (Nat.le_trans b3.size b4.size)), ((hb.out.trans (b2.mono hb.out.size)).trans (b3.mono (Nat.le_trans hb.out.size b2.size))).trans (b4.mono (Nat.le_trans hb.out.size (Nat.le_trans b2.size b3.size)))⟩
      have hcc : Hid (32 ≤ cc ∧ cc ≤ 9223372036854775807) := ⟨key32_len ▸ (Owns.shows ho.out).2.1, ho.out.cap_le⟩
      generalize wo.heap.size = d1 at *
      generalize w2.heap.size = d2 at *
      generalize w3.heap.size = d3 at *
      clear s2 s3 s4 ho hb
      have hu := Tryd.underlying24
      have l1 : (cb bnone).length = 32 := by rw [cb_len, bnone_len]
      have l2 : (cb babc).length = 32 := by rw [cb_len, babc_len]
      have l3 : (cb bkeyed).length = 32 := by rw [cb_len, bkeyed_len]
      have i1 : (Tryd.prog.info? 24).map (·.size) = some (cb bnone).length := by rw [l1]; exact info24D
      have i2 : (Tryd.prog.info? 24).map (·.size) = some (cb babc).length := by rw [l2]; exact info24D
      have i3 : (Tryd.prog.info? 24).map (·.size) = some (cb bkeyed).length := by rw [l3]; exact info24D
      have q1 := eql_same bnone bnone_len
      have q2 := eql_same babc babc_len
      have q3 := eql_same bkeyed bkeyed_len
      clear HKs HKl HK32 HK0 hK1 hjm
      have hs0 := syDrew hsw
      refine wp_region_held_drew (S := fun w' => Hid (SY w w' d1 d2 d3 A)) (by kernel_rfl) hs0 (fun hHeld => ?_)
      refine hand_take (i := 1) rfl (by kernel_rfl) (by kernel_rfl) (by kernel_rfl) (fun _ _ _ h => h) (yieldsIf_load_mid (by rfl) _ _ rfl d1 0 rfl (cb bnone) _ (fun _ h => h.out.none.range) hu rfl i1) (by assumption) ?_
      try simp only [Act.put, List.setIfInBounds_toArray, List.set_cons_zero, List.set_cons_succ]
      refine wpAnyH_ready (rs := [0]) (by kernel_rfl) (by simp) ?_
      refine hand_cons rfl (fun KK hK => ?_) AllReadyH.nil
      go_simp
      go_at_call 9
      refine (sum_none (w := w) (d1 := d1) (d2 := d2) (d3 := d3) (A := A) (by with_reducible assumption)).mono ?_
      rintro e w5 ⟨rfl, hs5⟩
      go_wp2_with fail
      refine hK.out _ _ (hs5) (fun hHeld => ?_)
      clear hK KK
      try simp only [Act.put, List.setIfInBounds_toArray, List.set_cons_zero, List.set_cons_succ]
      refine hand_take (i := 2) (v := ?_) rfl (by kernel_rfl) (by kernel_rfl) (by kernel_rfl) (fun _ _ _ h => h) (Or.inl ⟨by rfl, ?_⟩) (by assumption) ?_
      rotate_left
      · intro w hSw
        clear hSw
        go_simp
        try with_reducible rfl
      try simp only [Act.put, List.setIfInBounds_toArray, List.set_cons_zero, List.set_cons_succ]
      refine hand_take (i := 3) (v := ?_) rfl (by kernel_rfl) (by kernel_rfl) (by kernel_rfl) (fun _ _ _ h => h) (Or.inl ⟨by rfl, ?_⟩) (by assumption) ?_
      rotate_left
      · intro w hSw
        clear hSw
        go_simp
        try with_reducible rfl
      try simp only [Act.put, List.setIfInBounds_toArray, List.set_cons_zero, List.set_cons_succ]
      refine hand_take (i := 6) rfl (by kernel_rfl) (by kernel_rfl) (by kernel_rfl) (fun _ _ _ h => h) (yieldsIf_load_mid (by rfl) _ _ rfl d2 0 rfl (cb babc) _ (fun _ h => h.out.abc.range) hu rfl i2) (by assumption) ?_
      try simp only [Act.put, List.setIfInBounds_toArray, List.set_cons_zero, List.set_cons_succ]
      refine wpAnyH_ready (rs := [4]) (by kernel_rfl) (by simp) ?_
      refine hand_cons rfl (fun KK hK => ?_) AllReadyH.nil
      go_simp
      skip
      refine hK.out _ _ (by with_reducible exact syAlloc hHeld) (fun hHeld => ?_)
      clear hK KK
      try simp only [Act.put, List.setIfInBounds_toArray, List.set_cons_zero, List.set_cons_succ]
      refine wpAnyH_ready (rs := [5]) (by kernel_rfl) (by simp) ?_
      refine hand_cons rfl (fun KK hK => ?_) AllReadyH.nil
      go_simp
      go_at_call 9
      refine (sum_abc (w := w) (d1 := d1) (d2 := d2) (d3 := d3) (A := A) hs5).mono ?_
      rintro e w6 ⟨rfl, hs6⟩
      go_wp2_with fail
      refine hK.out _ _ (hs6) (fun hHeld => ?_)
      clear hK KK
      try simp only [Act.put, List.setIfInBounds_toArray, List.set_cons_zero, List.set_cons_succ]
      refine hand_take (i := 7) (v := ?_) rfl (by kernel_rfl) (by kernel_rfl) (by kernel_rfl) (fun _ _ _ h => h) (Or.inl ⟨by rfl, ?_⟩) (by assumption) ?_
      rotate_left
      · intro w hSw
        clear hSw
        go_simp
        try with_reducible rfl
      try simp only [Act.put, List.setIfInBounds_toArray, List.set_cons_zero, List.set_cons_succ]
      refine hand_take (i := 8) (v := ?_) rfl (by kernel_rfl) (by kernel_rfl) (by kernel_rfl) (fun _ _ _ h => h) (Or.inl ⟨by rfl, ?_⟩) (by assumption) ?_
      rotate_left
      · intro w hSw
        clear hSw
        go_simp
        try with_reducible rfl
      try simp only [Act.put, List.setIfInBounds_toArray, List.set_cons_zero, List.set_cons_succ]
      refine hand_take (i := 9) (v := ?_) rfl (by kernel_rfl) (by kernel_rfl) (by kernel_rfl) (fun _ _ _ h => h) (Or.inl ⟨by rfl, ?_⟩) (by assumption) ?_
      rotate_left
      · intro w hSw
        clear hSw
        go_simp
        try with_reducible rfl
      try simp only [Act.put, List.setIfInBounds_toArray, List.set_cons_zero, List.set_cons_succ]
      refine hand_take (i := 10) (v := ?_) rfl (by kernel_rfl) (by kernel_rfl) (by kernel_rfl) (fun _ _ _ h => h) (Or.inl ⟨by rfl, ?_⟩) (by assumption) ?_
      rotate_left
      · intro w hSw
        clear hSw
        go_simp
        try with_reducible rfl
      try simp only [Act.put, List.setIfInBounds_toArray, List.set_cons_zero, List.set_cons_succ]
      refine hand_take (i := 12) rfl (by kernel_rfl) (by kernel_rfl) (by kernel_rfl) (fun _ _ _ h => h) (yieldsIf_load_mid (by rfl) _ _ rfl d3 0 rfl (cb bkeyed) _ (fun _ h => h.out.keyed.range) hu rfl i3) (by assumption) ?_
      try simp only [Act.put, List.setIfInBounds_toArray, List.set_cons_zero, List.set_cons_succ]
      refine wpAnyH_ready (rs := [11]) (by kernel_rfl) (by simp) ?_
      refine hand_cons rfl (fun KK hK => ?_) AllReadyH.nil
      go_simp
      go_at_call 11
      refine (keyed_32 (w := w) (d1 := d1) (d2 := d2) (d3 := d3) (A := A) (by with_reducible assumption) hcc).mono ?_
      rintro e w7 ⟨rfl, hs7⟩
      go_wp2_with fail
      refine hK.out _ _ (hs7) (fun hHeld => ?_)
      clear hK KK
      try simp only [Act.put, List.setIfInBounds_toArray, List.set_cons_zero, List.set_cons_succ]
      refine hand_take (i := 13) (v := ?_) rfl (by kernel_rfl) (by kernel_rfl) (by kernel_rfl) (fun _ _ _ h => h) (Or.inl ⟨by rfl, ?_⟩) (by assumption) ?_
      rotate_left
      · intro w hSw
        clear hSw
        go_simp
        try with_reducible rfl
      try simp only [Act.put, List.setIfInBounds_toArray, List.set_cons_zero, List.set_cons_succ]
      refine hand_take (i := 14) (v := ?_) rfl (by kernel_rfl) (by kernel_rfl) (by kernel_rfl) (fun _ _ _ h => h) (Or.inl ⟨by rfl, ?_⟩) (by assumption) ?_
      rotate_left
      · intro w hSw
        clear hSw
        go_simp
        try with_reducible rfl
      try simp only [Act.put, List.setIfInBounds_toArray, List.set_cons_zero, List.set_cons_succ]
      refine hand_take (i := 15) (v := ?_) rfl (by kernel_rfl) (by kernel_rfl) (by kernel_rfl) (fun _ _ _ h => h) (Or.inl ⟨by rfl, ?_⟩) (by assumption) ?_
      rotate_left
      · intro w hSw
        clear hSw
        go_simp
        try with_reducible rfl
      try simp only [Act.put, List.setIfInBounds_toArray, List.set_cons_zero, List.set_cons_succ]
      refine wpAnyH_ready (rs := [16, 17]) (by kernel_rfl) (by simp) ?_
      refine (hand_cons rfl (fun KK hK => ?_) (hand_cons rfl (fun KK hK => ?_) AllReadyH.nil))
      · go_simp
        go_at_call 13
        refine (leaf_none (w := w) (d1 := d1) (d2 := d2) (d3 := d3) (A := A) hs7).mono ?_
        rintro e w8 ⟨dg, rfl, hl8, hdg, hs8⟩
        have q4 := eql_same dg hl8
        clear hl8
        go_wp2_with fail
        refine hK.out _ _ (hs8) (fun hHeld => ?_)
        clear hK KK
        try simp only [Act.put, List.setIfInBounds_toArray, List.set_cons_zero, List.set_cons_succ]
        refine wpAnyH_ready (rs := [17]) (by kernel_rfl) (by simp) ?_
        refine hand_cons rfl (fun KK hK => ?_) AllReadyH.nil
        go_simp
        skip
        refine hK.out _ _ (by with_reducible exact syAlloc hHeld) (fun hHeld => ?_)
        clear hK KK
        try simp only [Act.put, List.setIfInBounds_toArray, List.set_cons_zero, List.set_cons_succ]
        refine wpAnyH_ready (rs := [18]) (by kernel_rfl) (by simp) ?_
        refine hand_cons rfl (fun KK hK => ?_) AllReadyH.nil
        go_simp
        go_at_call 10
        refine (sumR_zero (w := w) (d1 := d1) (d2 := d2) (d3 := d3) (A := A) hs8 hdg).mono ?_
        rintro e w9 ⟨rfl, hs9⟩
        go_wp2_with fail
        refine hK.out _ _ (hs9) (fun hHeld => ?_)
        clear hK KK
        try simp only [Act.put, List.setIfInBounds_toArray, List.set_cons_zero, List.set_cons_succ]
        refine hand_take (i := 19) (v := ?_) rfl (by kernel_rfl) (by kernel_rfl) (by kernel_rfl) (fun _ _ _ h => h) (Or.inl ⟨by rfl, ?_⟩) (by assumption) ?_
        rotate_left
        · intro w hSw
          clear hSw
          go_simp
          try with_reducible rfl
        try simp only [Act.put, List.setIfInBounds_toArray, List.set_cons_zero, List.set_cons_succ]
        refine hand_take (i := 20) (v := ?_) rfl (by kernel_rfl) (by kernel_rfl) (by kernel_rfl) (fun _ _ _ h => h) (Or.inl ⟨by rfl, ?_⟩) (by assumption) ?_
        rotate_left
        · intro w hSw
          clear hSw
          go_simp
          try with_reducible rfl
        try simp only [Act.put, List.setIfInBounds_toArray, List.set_cons_zero, List.set_cons_succ]
        refine hand_take (i := 21) (v := ?_) rfl (by kernel_rfl) (by kernel_rfl) (by kernel_rfl) (fun _ _ _ h => h) (Or.inl ⟨by rfl, ?_⟩) (by assumption) ?_
        rotate_left
        · intro w hSw
          clear hSw
          go_simp
          try with_reducible rfl
        try simp only [Act.put, List.setIfInBounds_toArray, List.set_cons_zero]
        refine wpAnyH_done (by kernel_rfl) ?_ _
        go_wp2
        go_ret
        exact ⟨rfl, hs9.out.bel⟩
      · go_simp
        skip
        refine hK.out _ _ (by with_reducible exact syAlloc hHeld) (fun hHeld => ?_)
        clear hK KK
        try simp only [Act.put, List.setIfInBounds_toArray, List.set_cons_zero, List.set_cons_succ]
        refine wpAnyH_ready (rs := [16]) (by kernel_rfl) (by simp) ?_
        refine hand_cons rfl (fun KK hK => ?_) AllReadyH.nil
        go_simp
        go_at_call 13
        refine (leaf_none2 (w := w) (d1 := d1) (d2 := d2) (d3 := d3) (A := A) hs7).mono ?_
        rintro e w8 ⟨dg, rfl, hl8, hdg, hs8, hz8⟩
        have q4 := eql_same dg hl8
        clear hl8
        go_wp2_with fail
        refine hK.out _ _ (hs8) (fun hHeld => ?_)
        clear hK KK
        try simp only [Act.put, List.setIfInBounds_toArray, List.set_cons_zero, List.set_cons_succ]
        refine wpAnyH_ready (rs := [18]) (by kernel_rfl) (by simp) ?_
        refine hand_cons rfl (fun KK hK => ?_) AllReadyH.nil
        go_simp
        go_at_call 10
        refine (sumR_bt (w := w) (d1 := d1) (d2 := d2) (d3 := d3) (A := A) hs8 hz8 hdg).mono ?_
        rintro e w9 ⟨rfl, hs9⟩
        go_wp2_with fail
        refine hK.out _ _ (hs9) (fun hHeld => ?_)
        clear hK KK
        try simp only [Act.put, List.setIfInBounds_toArray, List.set_cons_zero, List.set_cons_succ]
        refine hand_take (i := 19) (v := ?_) rfl (by kernel_rfl) (by kernel_rfl) (by kernel_rfl) (fun _ _ _ h => h) (Or.inl ⟨by rfl, ?_⟩) (by assumption) ?_
        rotate_left
        · intro w hSw
          clear hSw
          go_simp
          try with_reducible rfl
        try simp only [Act.put, List.setIfInBounds_toArray, List.set_cons_zero, List.set_cons_succ]
        refine hand_take (i := 20) (v := ?_) rfl (by kernel_rfl) (by kernel_rfl) (by kernel_rfl) (fun _ _ _ h => h) (Or.inl ⟨by rfl, ?_⟩) (by assumption) ?_
        rotate_left
        · intro w hSw
          clear hSw
          go_simp
          try with_reducible rfl
        try simp only [Act.put, List.setIfInBounds_toArray, List.set_cons_zero, List.set_cons_succ]
        refine hand_take (i := 21) (v := ?_) rfl (by kernel_rfl) (by kernel_rfl) (by kernel_rfl) (fun _ _ _ h => h) (Or.inl ⟨by rfl, ?_⟩) (by assumption) ?_
        rotate_left
        · intro w hSw
          clear hSw
          go_simp
          try with_reducible rfl
        try simp only [Act.put, List.setIfInBounds_toArray, List.set_cons_zero]
        refine wpAnyH_done (by kernel_rfl) ?_ _
        go_wp2
        go_ret
        exact ⟨rfl, hs9.out.bel⟩
end Go.Proofs.YtdpkbhhmhmffnaaDoor
