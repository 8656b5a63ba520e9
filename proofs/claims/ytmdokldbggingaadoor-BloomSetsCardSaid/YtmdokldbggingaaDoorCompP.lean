/-
  The program's compression, by a contract.
-/
import Derived.Test.YtmdokldbggingaaDoorMixP
import Derived.Test.YtmdokldbggingaaDoorSpec
import Derived.Test.YtmdokldbggingaaDoorRows8
import Derived.LoopTactic
import Derived.Deep.LoopGhost
import Derived.Deep.Cut
import Derived.StillTailTactics
import Derived.Deep.DeepMust
namespace Go.Proofs.YtmdokldbggingaaDoor
open Go.RowKit

attribute [local go_sem] wd_add wd_addw wd_xor wd_or wd_not

/-- What the package's variables hold: IV in block 0, the table in block 1. -/
structure Glob (w : World) : Prop where
  iv : ∀ i, i < 8 → w.cell? ⟨0, i, none⟩ = some (.int .u32 (wd (at_ IV i)))
  order : ∀ r i, r < 10 → i < 16 → w.cell? ⟨1, r * 16 + i, none⟩ = some (.int .u8 (pick (row r) i))
  size : 2 ≤ w.heap.size
theorem Glob.below {w w' : World} {B : Nat} (h : Glob w) (hb : Below B w w') (h2 : 2 ≤ B) : Glob w' :=
  ⟨fun i hi => (hb.cell (p := ⟨0, i, none⟩) (by simp; omega)).trans (h.iv i hi), fun r i hr hi => (hb.cell (p := ⟨1, r * 16 + i, none⟩) (by simp; omega)).trans (h.order r i hr hi), Nat.le_trans h.size hb.size⟩
theorem Glob.up {w w' : World} (h : Glob w) (hb : Below w.heap.size w w') : Glob w' := h.below hb h.size

/-- The blocks of a call of compress: h, m, the result, v. -/
structure St (w wr : World) (B qh qm qr qv : Nat) (h m v : List UInt32) : Prop where
  hh : WB wr qh 79 h
  mm : WB wr qm 83 m
  rr : WB wr qr 79 (List.replicate 8 0)
  vv : WB wr qv 83 v
  hl : h.length = 8
  ml : m.length = 16
  vl : v.length = 16
  bel : Below B w wr
  low : B ≤ qh ∧ qh < qm ∧ qm < qr ∧ qr < qv ∧ qv < wr.heap.size
section
variable {w wr w' : World} {B qh qm qr qv : Nat} {h m v : List UInt32}
theorem St.drew (s : St w wr B qh qm qr qv h m v) : St w wr.drew B qh qm qr qv h m v := ⟨s.hh, s.mm, s.rr, s.vv, s.hl, s.ml, s.vl, s.bel.drew, s.low⟩
theorem St.alloc (s : St w wr B qh qm qr qv h m v) (o : Obj) : St w (wr.alloc o) B qh qm qr qv h m v :=
  ⟨s.hh.alloc o, s.mm.alloc o, s.rr.alloc o, s.vv.alloc o, s.hl, s.ml, s.vl, s.bel.alloc (by have := s.low; omega) o, by have := s.low; simp; omega⟩
theorem St.grown (s : St w wr B qh qm qr qv h m v) {v' : List UInt32} (hg : wr.grownBy w' (some qv)) (hv : WB w' qv 83 v') (hl : v'.length = v.length) : St w w' B qh qm qr qv h m v' := by
  have l := s.low
  exact ⟨s.hh.grown hg (by simp; omega), s.mm.grown hg (by simp; omega), s.rr.grown hg (by simp; omega), hv, s.hl, s.ml, hl.trans s.vl, s.bel.grown hg (by omega) (fun k hk => by injection hk with hk; omega), by have := hg.size; omega⟩
theorem St.other (s : St w wr B qh qm qr qv h m v) {S : Nat} (hg : wr.grownBy w' (some S)) (hS : qv < S) : St w w' B qh qm qr qv h m v := by
  have l := s.low
  exact ⟨s.hh.grown hg (by simp; omega), s.mm.grown hg (by simp; omega), s.rr.grown hg (by simp; omega), s.vv.grown hg (by simp; omega), s.hl, s.ml, s.vl, s.bel.grown hg (by omega) (fun k hk => by injection hk with hk; omega), by have := hg.size; omega⟩
theorem St.setV (s : St w wr B qh qm qr qv h m v) (i : Nat) (x : UInt32) : St w (wr.setCell ⟨qv, i, none⟩ (.int .u32 (wd x))) B qh qm qr qv h m (v.set i x) :=
  s.grown (grown_set _ _ _ _) (s.vv.set_ i x) (by simp)
theorem St.setH (s : St w wr B qh qm qr qv h m v) (i : Nat) (x : UInt32) : St w (wr.setCell ⟨qh, i, none⟩ (.int .u32 (wd x))) B qh qm qr qv (h.set i x) m v := by
  have l := s.low
  have hg := grown_set wr qh i (.int .u32 (wd x))
  exact ⟨s.hh.set_ i x, s.mm.grown hg (by simp; omega), s.rr.grown hg (by simp; omega), s.vv.grown hg (by simp; omega), by simp [s.hl], s.ml, s.vl, s.bel.grown hg (by omega) (fun k hk => by injection hk with hk; omega), by have := hg.size; omega⟩
end

theorem st_new (w : World) (h m : List UInt32) (hh : h.length = 8) (hm : m.length = 16) (d v : Array Value) (hd : d = (cw (List.replicate 8 0)).toArray) (hv : v = (cw (List.replicate 16 0)).toArray) :
    St w ((((w.alloc (.cells (cw h).toArray 79)).alloc (.cells (cw m).toArray 83)).alloc (.cells d 79)).alloc (.cells v 83)) w.heap.size w.heap.size (w.heap.size + 1) (w.heap.size + 1 + 1) (w.heap.size + 1 + 1 + 1) h m (List.replicate 16 0) := by
  subst hd hv
  have z : ∀ (w : World) (o : Obj), (w.alloc o).heap.size = w.heap.size + 1 := fun w o => by simp
  have e1 : WB (w.alloc (.cells (cw h).toArray 79)) w.heap.size 79 h := heap_alloc_new w _
  generalize hw1 : w.alloc (.cells (cw h).toArray 79) = w1 at e1 ⊢
  have z1 : w1.heap.size = w.heap.size + 1 := by rw [← hw1, z]
  have e2 : WB (w1.alloc (.cells (cw m).toArray 83)) w1.heap.size 83 m := heap_alloc_new w1 _
  have e1' := e1.alloc (.cells (cw m).toArray 83)
  generalize hw2 : w1.alloc (.cells (cw m).toArray 83) = w2 at e1' e2 ⊢
  have z2 : w2.heap.size = w1.heap.size + 1 := by rw [← hw2, z]
  have e3 : WB (w2.alloc (.cells (cw (List.replicate 8 0)).toArray 79)) w2.heap.size 79 (List.replicate 8 0) := heap_alloc_new w2 _
  have e2' := e2.alloc (.cells (cw (List.replicate 8 0)).toArray 79)
  have e1'' := e1'.alloc (.cells (cw (List.replicate 8 0)).toArray 79)
  generalize hw3 : w2.alloc (.cells (cw (List.replicate 8 0)).toArray 79) = w3 at e1'' e2' e3 ⊢
  have z3 : w3.heap.size = w2.heap.size + 1 := by rw [← hw3, z]
  have e4 : WB (w3.alloc (.cells (cw (List.replicate 16 0)).toArray 83)) w3.heap.size 83 (List.replicate 16 0) := heap_alloc_new w3 _
  rw [z3, z2, z1] at e4
  rw [z2, z1] at e3
  rw [z1] at e2'
  refine ⟨e1''.alloc _, e2'.alloc _, e3.alloc _, e4, hh, hm, by simp, ?_, ?_⟩
  · rw [← hw3, ← hw2, ← hw1]
    exact ((((Below.refl _ _).alloc (Nat.le_refl _) _).alloc (by simp) _).alloc (by simp; omega) _).alloc (by simp; omega) _
  · rw [z, z3, z2, z1]
    omega

theorem info41 : (Tryd.prog.info? 79).map (·.size) = some 8 := by kernel_rfl
theorem info56 : (Tryd.prog.info? 91).map (·.size) = some 16 := by kernel_rfl
theorem rb_one (l : List Nat) : ∀ u ∈ (l.map fun n : Nat => Value.int .u8 (n : Int)), u.oneCell' = true := by
  intro u hu
  obtain ⟨c, _, rfl⟩ := List.mem_map.1 hu
  rfl
/-- A row of the table in block g. -/
def RB (w : World) (g : Nat) (s : List Nat) : Prop := w.heap[g]? = some (.cells (s.map fun n : Nat => Value.int .u8 (n : Int)).toArray 91 (0, 0))
theorem RB.lt {w : World} {g : Nat} {s : List Nat} (h : RB w g s) : g < w.heap.size := (Array.getElem?_eq_some_iff.1 h).1
theorem RB.cell {w : World} {g : Nat} {s : List Nat} (h : RB w g s) (i : Nat) (hi : i < s.length) : w.cell? ⟨g, i, none⟩ = some (.int .u8 (pick s i)) := by
  rw [cell_of_row w g i _ _ (0, 0) h]
  simp [pick, hi]
theorem RB.grown {w w' : World} {g : Nat} {s : List Nat} {row : Option Nat} (h : RB w g s) (hb : w.grownBy w' row) (hg : some g ≠ row) : RB w' g s := (hb.block g h.lt hg).trans h
theorem Glob.row {w : World} (G : Glob w) {r : Nat} (hr : r < 10) : w.rangeAt 1 (r * 16) ((row r).map fun n : Nat => Value.int .u8 (n : Int)) := fun j v hv => by
  have hl := (row_ok r hr).1
  simp only [List.getElem?_map, Option.map_eq_some_iff] at hv
  obtain ⟨a, ha, rfl⟩ := hv
  have hj : j < 16 := by have := (List.getElem?_eq_some_iff.1 ha).1; omega
  rw [G.order r j hr hj]
  simp [pick, ha]

theorem rem_facts (i q c : Nat) (q' c' : Int) (hi : i < 4) (hq : q < 4) (hc : c ≤ 12) (e : q' = q) (e' : c' = c) : ∃ p : Nat, (Hid (p = (i + q) % 4) ∧ p < 4) ∧ IntKind.i64.wrap ((i : Int) + q') = (i : Int) + q' ∧ ((i : Int) + q').tmod 4 = (p : Int) ∧ IntKind.i64.wrap (p : Int) = (p : Int) ∧
    IntKind.i64.wrap (c' + (p : Int)) = c' + (p : Int) ∧ 0 ≤ c' + (p : Int) ∧ (c' + (p : Int)).toNat = c + p ∧ c' + (p : Int) < 16 := by
  subst e e'
  refine ⟨(i + q) % 4, ⟨rfl, by omega⟩, IntWalk.i64_in _ ⟨by omega, by omega⟩, by rw [Int.tmod_eq_emod_of_nonneg (by omega)]; omega, IntWalk.i64_in _ ⟨by omega, by omega⟩, IntWalk.i64_in _ ⟨by omega, by omega⟩, by omega, by omega, by omega⟩
theorem dia_facts (i : Nat) (hi : i < 4) : IntKind.i64.wrap (2 * (i : Int)) = 2 * (i : Int) ∧
    IntKind.i64.wrap (8 + 2 * (i : Int)) = 8 + 2 * (i : Int) ∧ 0 ≤ 8 + 2 * (i : Int) ∧ (8 + 2 * (i : Int)).toNat = 8 + 2 * i ∧ 8 + 2 * (i : Int) < 16 ∧
    IntKind.i64.wrap (9 + 2 * (i : Int)) = 9 + 2 * (i : Int) ∧ 0 ≤ 9 + 2 * (i : Int) ∧ (9 + 2 * (i : Int)).toNat = 9 + 2 * i ∧ 9 + 2 * (i : Int) < 16 := by
  refine ⟨IntWalk.i64_in _ ⟨by omega, by omega⟩, IntWalk.i64_in _ ⟨by omega, by omega⟩, by omega, by omega, by omega, IntWalk.i64_in _ ⟨by omega, by omega⟩, by omega, by omega, by omega⟩
theorem lt16 {v : List UInt32} {i c : Nat} (hl : v.length = 16) (hi : i < 4) (_h : 0 ≤ c) : i < v.length := by omega
theorem lt16p {v : List UInt32} {p c : Nat} (hl : v.length = 16) (hp : p < 4) (hc : c ≤ 12) : c + p < v.length := by omega

set_option maxHeartbeats 4000000 in
set_option maxRecDepth 20000 in
theorem compP_any (z m : List UInt32) (t : Nat) (last : Bool) (w : World) (hh : z.length = 8) (hm : m.length = 16) (G : Glob w) :
    Calls Tryd.prog 55 #[.agg (cw z).toArray, .agg (cw m).toArray, .int .u64 t, .bool last] w
      fun e w' => e = .returned (.agg (cw (compressed z m t last)).toArray) ∧ Below w.heap.size w w' := by
  have hst := Lib.hid (st_new w z m hh hm #[Value.int IntKind.u32 0, Value.int IntKind.u32 0, Value.int IntKind.u32 0, Value.int IntKind.u32 0, Value.int IntKind.u32 0, Value.int IntKind.u32 0, Value.int IntKind.u32 0, Value.int IntKind.u32 0]
    #[Value.int IntKind.u32 0, Value.int IntKind.u32 0, Value.int IntKind.u32 0, Value.int IntKind.u32 0, Value.int IntKind.u32 0, Value.int IntKind.u32 0, Value.int IntKind.u32 0, Value.int IntKind.u32 0, Value.int IntKind.u32 0, Value.int IntKind.u32 0, Value.int IntKind.u32 0, Value.int IntKind.u32 0, Value.int IntKind.u32 0, Value.int IntKind.u32 0, Value.int IntKind.u32 0, Value.int IntKind.u32 0] rfl rfl)
  have HG := Lib.hid G
  have HH := Lib.hid hh
  have HM := Lib.hid hm
  clear G hh hm
  go_enter Tryd.func55, Tryd.ntmps55
  go_wp2
  generalize hB : w.heap.size = B at hst ⊢
  generalize B + 1 = qm at hst ⊢
  generalize qm + 1 = qr at hst ⊢
  generalize qr + 1 = qv at hst ⊢
  have HB := Lib.hid hB
  clear hB
  go_loopw [16] (fun i wr => ∃ k : Nat, k ≤ 8 ∧ i = .int .i64 k ∧ Hid (St w wr B B qm qr qv z m (laidV z k))) (fun i _ => 8 - (intOf i).toNat)
  case atStart => exact ⟨0, by omega, rfl, hst⟩
  case round =>
    obtain ⟨k, hk, rfl, hs⟩ := hrel
    by_cases hlt : k < 8
    · have hg := HG.out.below hs.out.bel (HB.out ▸ HG.out.size)
      have ch := hs.out.hh.cell k (by rw [HH.out]; exact hlt)
      have ci := hg.iv k hlt
      have ft := hs.out.vv.frozen k
      have ft2 := hs.out.vv.frozen (8 + k)
      have i1 : (k : Int) < 8 := by omega
      have i2 : (8 : Int) + (k : Int) < 16 := by omega
      have i3 : IntKind.i64.wrap (8 + (k : Int)) = 8 + (k : Int) := IntWalk.i64_in _ ⟨by omega, by omega⟩
      have i4 : (k : Int) < 16 := by omega
      have i5 : (0 : Int) ≤ 8 + (k : Int) := by omega
      have i6 : (8 + (k : Int)).toNat = 8 + k := by omega
      have cv1 := hs.out.vv.cell k (by rw [laidV_len]; omega)
      have cv2 := hs.out.vv.cell (8 + k) (by rw [laidV_len]; omega)
      clear hg
      go_wp2
      have n1 : B ≠ qv := by have := hs.out.low; omega
      have n2 : 0 ≠ qv := by have := hs.out.low; have := hs.out.bel.size; have := HG.out.size; omega
      have f1 : ∀ (W : World) (i j : Nat) (u : Value), (W.setCell ⟨qv, i, none⟩ u).cell? ⟨B, j, none⟩ = W.cell? ⟨B, j, none⟩ := fun W i j u => World.cell?_setCell_other W _ _ u (fun e => n1 (congrArg Addr.block e).symm)
      have f2 : ∀ (W : World) (i j : Nat) (u : Value), (W.setCell ⟨qv, i, none⟩ u).cell? ⟨0, j, none⟩ = W.cell? ⟨0, j, none⟩ := fun W i j u => World.cell?_setCell_other W _ _ u (fun e => n2 (congrArg Addr.block e).symm)
      go_region_held3 (fun w' => w'.cell? ⟨B, k, none⟩ = some (.int .u32 (wd (at_ z k))) ∧ w'.cell? ⟨0, k, none⟩ = some (.int .u32 (wd (at_ IV k))) ∧ w'.frozen? ⟨qv, k, none⟩ = false ∧ w'.frozen? ⟨qv, 8 + k, none⟩ = false) (go_keep) (fail)
      go_wp2
      go_roundw
      case rel => exact ⟨k + 1, by omega, by go_num, (((hs.out.setV k _).setV (8 + k) _).drew)⟩
      case measure => simp [intOf]; omega
    · have hk8 : k = 8 := by omega
      rw [hk8, laidV_8 HH.out] at hs
      have hlo := (wd_lo t).symm
      have hhi := (wd_hi t).symm
      have hsg : IntKind.u32.signed = false := rfl
      have hvl : (z ++ IV).length = 16 := by rw [List.length_append, HH.out]; rfl
      have c12 := hs.out.vv.cell 12 (by omega)
      have c13 := hs.out.vv.cell 13 (by omega)
      have c14 := hs.out.vv.cell 14 (by omega)
      have f12 := hs.out.vv.frozen 12
      have f13 := hs.out.vv.frozen 13
      have f14 := hs.out.vv.frozen 14
      generalize hv0 : z ++ IV = v0 at hs c12 c13 c14 hvl
      have HV := Lib.hid hv0
      clear hv0
      clear hk8 hk
      cases last
      case false =>
        go_wp2
        have hs1 : St w ((wr.setCell ⟨qv, 12, none⟩ (.int .u32 (wd (at_ v0 12 ^^^ lo32 t)))).setCell ⟨qv, 13, none⟩ (.int .u32 (wd (at_ v0 13 ^^^ hi32 t)))) B B qm qr qv z m (ticked v0 t false) := by
          rw [ticked_no]
          exact (hs.out.setV 12 _).setV 13 _
        generalize ((wr.setCell ⟨qv, 12, none⟩ (.int .u32 (wd (at_ v0 12 ^^^ lo32 t)))).setCell ⟨qv, 13, none⟩ (.int .u32 (wd (at_ v0 13 ^^^ hi32 t)))) = w1 at hs1 ⊢
        clear hs
        have hv1 : (ticked v0 t false).length = 16 := by rw [ticked_len, hvl]
        have HC : Hid (compressed z m t false = folded z (rnds m (ticked v0 t false) 10)) := by show _ = _; rw [← HV.out]; rfl
        generalize ticked v0 t false = v1 at hs1 hv1 HC
        have HS := Lib.hid hs1
        have HV1 := Lib.hid hv1
        clear hs1 hv1 c12 c13 c14 f12 f13 f14 hlo hhi hsg hst
        go_loopw [49] (fun i wr => ∃ k : Nat, k ≤ 10 ∧ i = .int .i64 k ∧ Hid (St w wr B B qm qr qv z m (rnds m v1 k))) (fun i _ => 10 - (intOf i).toNat)
        case atStart => exact ⟨0, by omega, rfl, HS⟩
        case round =>
          obtain ⟨k, hk, rfl, hs⟩ := hrel
          obtain ⟨wo, hwo⟩ : ∃ wo : World, wo = wr := ⟨_, rfl⟩
          subst hwo
          by_cases hlt : k < 10
          · have hg := HG.out.below hs.out.bel (HB.out ▸ HG.out.size)
            have hrow := row_ok k hlt
            have hrg := hg.row hlt
            have i1 : (k : Int) < 10 := by omega
            have HR := Lib.hid hrow
            have HRG := Lib.hid hrg
            clear hg hrow hrg
            go_wp2_with (first
              | ((with_reducible show wpList _ _ _ _ _ _); refine wpList_load_mid rfl 91 (.tmp 53) rfl 1 (k * 16) rfl ((row k).map fun n : Nat => Value.int .u8 (n : Int)) (.array 16 5) HRG.out Tryd.underlying91 rfl (by rw [info56, List.length_map, HR.out.1]) ?_)
              | ((with_reducible show wpList _ _ _ _ _ _); refine wpList_store_all rfl 91 (.tmp 12) (.tmp 54) rfl wo.heap.size ((row k).map fun n : Nat => Value.int .u8 (n : Int)) rfl rfl 91 #[Value.int IntKind.u8 0, Value.int IntKind.u8 0, Value.int IntKind.u8 0, Value.int IntKind.u8 0, Value.int IntKind.u8 0, Value.int IntKind.u8 0, Value.int IntKind.u8 0, Value.int IntKind.u8 0, Value.int IntKind.u8 0, Value.int IntKind.u8 0, Value.int IntKind.u8 0, Value.int IntKind.u8 0, Value.int IntKind.u8 0, Value.int IntKind.u8 0, Value.int IntKind.u8 0, Value.int IntKind.u8 0] 16 (heap_alloc_new wo _) info56 rfl (by rw [List.length_map, HR.out.1]) (rb_one _) ?_; intro w5 hb5 hg5 hz5))
            have hs5 : Hid (St w w5 B B qm qr qv z m (cols m (row k) (rnds m v1 k) 0)) := (hs.out.alloc _).other hg5 hs.out.low.2.2.2.2
            have hb5' : Hid (RB w5 wo.heap.size (row k)) := hb5
            have HSv : Hid (qv < wo.heap.size) := hs.out.low.2.2.2.2
            generalize wo.heap.size = S at hs5 hb5' HSv ⊢
            clear hb5 hg5 hz5 HRG
            go_loopw [55] (fun i wr => ∃ n : Nat, n ≤ 4 ∧ i = .int .i64 n ∧ Hid (St w wr B B qm qr qv z m (cols m (row k) (rnds m v1 k) n)) ∧ Hid (RB wr S (row k))) (fun i _ => 4 - (intOf i).toNat)
            case atStart => exact ⟨0, by omega, rfl, hs5, hb5'⟩
            case round =>
              obtain ⟨i, hi, rfl, hs, hb⟩ := hrel
              obtain ⟨wr2, hwr2⟩ : ∃ wr2 : World, wr2 = wr := ⟨_, rfl⟩
              subst hwr2
              clear hs5 hb5'
              by_cases hlt4 : i < 4
              · skip
                have r1 := HR.out.2 (2 * i) (by omega)
                have r2 := HR.out.2 (2 * i + 1) (by omega)
                have cs1 := hb.out.cell (2 * i) (by rw [HR.out.1]; omega)
                have cs2 := hb.out.cell (2 * i + 1) (by rw [HR.out.1]; omega)
                have cm1 := hs.out.mm.cell (pick (row k) (2 * i)) (by rw [HM.out]; exact r1)
                have cm2 := hs.out.mm.cell (pick (row k) (2 * i + 1)) (by rw [HM.out]; exact r2)
                have x1 : ((pick (row k) (2 * i) : Nat) : Int) < 16 := by omega
                have x2 : ((pick (row k) (2 * i + 1) : Nat) : Int) < 16 := by omega
                have j1 : (i : Int) < 16 := by omega
                have a1 : IntKind.i64.wrap (4 + (i : Int)) = 4 + (i : Int) := IntWalk.i64_in _ ⟨by omega, by omega⟩
                have a2 : (0 : Int) ≤ 4 + (i : Int) := by omega
                have a3 : (4 + (i : Int)).toNat = 4 + i := by omega
                have a4 : 4 + (i : Int) < 16 := by omega
                have b1 : IntKind.i64.wrap (8 + (i : Int)) = 8 + (i : Int) := IntWalk.i64_in _ ⟨by omega, by omega⟩
                have b2 : (0 : Int) ≤ 8 + (i : Int) := by omega
                have b3 : (8 + (i : Int)).toNat = 8 + i := by omega
                have b4 : 8 + (i : Int) < 16 := by omega
                have c1 : IntKind.i64.wrap (12 + (i : Int)) = 12 + (i : Int) := IntWalk.i64_in _ ⟨by omega, by omega⟩
                have c2 : (0 : Int) ≤ 12 + (i : Int) := by omega
                have c3 : (12 + (i : Int)).toNat = 12 + i := by omega
                have c4 : 12 + (i : Int) < 16 := by omega
                have d1 : IntKind.i64.wrap (2 * (i : Int)) = 2 * (i : Int) := IntWalk.i64_in _ ⟨by omega, by omega⟩
                have d2 : (0 : Int) ≤ 2 * (i : Int) := by omega
                have d3 : (2 * (i : Int)).toNat = 2 * i := by omega
                have d4 : 2 * (i : Int) < 16 := by omega
                have e1 : IntKind.i64.wrap (2 * (i : Int) + 1) = 2 * (i : Int) + 1 := IntWalk.i64_in _ ⟨by omega, by omega⟩
                have e2 : (0 : Int) ≤ 2 * (i : Int) + 1 := by omega
                have e3 : (2 * (i : Int) + 1).toNat = 2 * i + 1 := by omega
                have e4 : 2 * (i : Int) + 1 < 16 := by omega
                clear r1 r2
                go_wp2
                go_still_tail 24, (by kernel_rfl)
                change wpList _ _ _ _ _ wr2.drew
                go_wp2_with (go_at_call 60; refine (mixP_any qv i (4 + i) (8 + i) (12 + i) 83 (cols m (row k) (rnds m v1 k) i) (at_ m (pick (row k) (2 * i))) (at_ m (pick (row k) (2 * i + 1))) wr2.drew hs.out.drew.vv (by rw [hs.out.vl]; omega) (by rw [hs.out.vl]; omega) (by rw [hs.out.vl]; omega) (by rw [hs.out.vl]; omega)).mono ?_; rintro e w6 ⟨rfl, hw6, hg6⟩)
                have hs6 : Hid (St w w6 B B qm qr qv z m (cols m (row k) (rnds m v1 k) (i + 1))) := hs.out.drew.grown hg6 hw6 (mixed_len _ _ _ _ _ _ _)
                have hb6 : Hid (RB w6 S (row k)) := RB.grown (w := wr2.drew) hb.out hg6 (by have := HSv.out; simp; omega)
                clear hw6 hg6
                go_roundw
                case rel => exact ⟨i + 1, by omega, by go_num, hs6, hb6⟩
                case measure => simp [intOf]; omega
              · have hi4 : i = 4 := by omega
                rw [hi4] at hs
                clear hi4 hi
                go_wp2
                go_loopw [84] (fun i wr => ∃ n : Nat, n ≤ 4 ∧ i = .int .i64 n ∧ Hid (St w wr B B qm qr qv z m (dias m (row k) (cols m (row k) (rnds m v1 k) 4) n)) ∧ Hid (RB wr S (row k))) (fun i _ => 4 - (intOf i).toNat)
                case atStart => exact ⟨0, by omega, rfl, hs, hb⟩
                case round =>
                  clear hs hb
                  obtain ⟨i, hi, rfl, hs, hb⟩ := hrel
                  obtain ⟨wr3, hwr3⟩ : ∃ wr3 : World, wr3 = wr := ⟨_, rfl⟩
                  subst hwr3
                  by_cases hlt4 : i < 4
                  · skip
                    have r1 := HR.out.2 (8 + 2 * i) (by omega)
                    have r2 := HR.out.2 (9 + 2 * i) (by omega)
                    have cs1 := hb.out.cell (8 + 2 * i) (by rw [HR.out.1]; omega)
                    have cs2 := hb.out.cell (9 + 2 * i) (by rw [HR.out.1]; omega)
                    have cm1 := hs.out.mm.cell (pick (row k) (8 + 2 * i)) (by rw [HM.out]; exact r1)
                    have cm2 := hs.out.mm.cell (pick (row k) (9 + 2 * i)) (by rw [HM.out]; exact r2)
                    have x1 : ((pick (row k) (8 + 2 * i) : Nat) : Int) < 16 := by omega
                    have x2 : ((pick (row k) (9 + 2 * i) : Nat) : Int) < 16 := by omega
                    have j1 : (i : Int) < 16 := by omega
                    obtain ⟨d1, e01, e02, e03, e04, e11, e12, e13, e14⟩ := dia_facts i hlt4
                    obtain ⟨p1, hp1, u01, u02, u03, u04, u05, u06, u07⟩ := rem_facts i 1 4 1 4 hlt4 (by decide) (by decide) rfl rfl
                    obtain ⟨p2, hp2, u11, u12, u13, u14, u15, u16, u17⟩ := rem_facts i 2 8 2 8 hlt4 (by decide) (by decide) rfl rfl
                    obtain ⟨p3, hp3, u21, u22, u23, u24, u25, u26, u27⟩ := rem_facts i 3 12 3 12 hlt4 (by decide) (by decide) rfl rfl
                    clear r1 r2
                    go_wp2
                    go_still_tail 31, (by kernel_rfl)
                    change wpList _ _ _ _ _ wr3.drew
                    go_wp2_with (go_at_call 60; refine (mixP_any qv i (4 + p1) (8 + p2) (12 + p3) 83 (dias m (row k) (cols m (row k) (rnds m v1 k) 4) i) (at_ m (pick (row k) (8 + 2 * i))) (at_ m (pick (row k) (9 + 2 * i))) wr3.drew hs.out.drew.vv (lt16 (c := 0) hs.out.vl hlt4 (Nat.zero_le _)) (lt16p hs.out.vl hp1.2 (by decide)) (lt16p hs.out.vl hp2.2 (by decide)) (lt16p hs.out.vl hp3.2 (by decide))).mono ?_; rintro e w6 ⟨rfl, hw6, hg6⟩)
                    have hs6 : Hid (St w w6 B B qm qr qv z m (dias m (row k) (cols m (row k) (rnds m v1 k) 4) (i + 1))) := by
                      refine hs.out.drew.grown hg6 ?_ (mixed_len _ _ _ _ _ _ _)
                      rw [hp1.1.out, hp2.1.out, hp3.1.out] at hw6
                      exact hw6
                    have hb6 : Hid (RB w6 S (row k)) := RB.grown (w := wr3.drew) hb.out hg6 (fun e => Nat.ne_of_gt HSv.out (Option.some.inj e))
                    clear hw6 hg6 d1 e01 e02 e03 e04 e11 e12 e13 e14 u01 u02 u03 u04 u05 u06 u07 u11 u12 u13 u14 u15 u16 u17 u21 u22 u23 u24 u25 u26 u27 hp1 hp2 hp3
                    go_roundw
                    case rel => exact ⟨i + 1, by omega, by go_num, hs6, hb6⟩
                    case measure => simp [intOf]; omega
                  · have hi4 : i = 4 := by omega
                    rw [hi4] at hs
                    clear hi4 hi
                    go_wp2
                    go_roundw
                    case rel => exact ⟨k + 1, by omega, by go_num, hs⟩
                    case measure => simp [intOf]; omega
          · have hk10 : k = 10 := by omega
            rw [hk10] at hs
            clear hk10 hk
            go_wp2
            have HV2 : Hid ((rnds m v1 10).length = 16) := by show _ = _; rw [rnds_len, HV1.out]
            generalize rnds m v1 10 = v2 at hs HC HV2
            go_loopw [121] (fun i wr => ∃ n : Nat, n ≤ 8 ∧ i = .int .i64 n ∧ Hid (St w wr B B qm qr qv (foldP z v2 n) m v2)) (fun i _ => 8 - (intOf i).toNat)
            case atStart => exact ⟨0, by omega, rfl, hs⟩
            case round =>
              clear hs
              obtain ⟨i, hi, rfl, hs⟩ := hrel
              obtain ⟨wr4, hwr4⟩ : ∃ wr4 : World, wr4 = wr := ⟨_, rfl⟩
              subst hwr4
              by_cases hlt8 : i < 8
              · skip
                have ch := hs.out.hh.cell i (by rw [hs.out.hl]; exact hlt8)
                have fh := hs.out.hh.frozen i
                have cv1 := hs.out.vv.cell i (by rw [HV2.out]; omega)
                have cv2 := hs.out.vv.cell (8 + i) (by rw [HV2.out]; omega)
                have i1 : (i : Int) < 8 := by omega
                have i2 : (i : Int) < 16 := by omega
                have b1 : IntKind.i64.wrap (8 + (i : Int)) = 8 + (i : Int) := IntWalk.i64_in _ ⟨by omega, by omega⟩
                have b2 : (0 : Int) ≤ 8 + (i : Int) := by omega
                have b3 : (8 + (i : Int)).toNat = 8 + i := by omega
                have b4 : 8 + (i : Int) < 16 := by omega
                go_wp2
                go_still_tail 13, (by kernel_rfl)
                change wpList _ _ _ _ _ wr4.drew
                go_wp2
                go_roundw
                case rel => exact ⟨i + 1, by omega, by go_num, (hs.out.drew.setH i _)⟩
                case measure => simp [intOf]; omega
              · have hi8 : i = 8 := by omega
                rw [hi8, foldP_8 HH.out] at hs
                clear hi8 hi
                go_wp2_with (first
                  | ((with_reducible show wpList _ _ _ _ _ _); refine wpList_load_all rfl 79 (.tmp 4) rfl B rfl 79 (cw (folded z v2)) 74 8 hs.out.hh Tryd.underlying79 info41 (by rw [cw_len, folded_len]) ?_)
                  | ((with_reducible show wpList _ _ _ _ _ _); refine wpList_store_all rfl 79 (.tmp 8) (.tmp 138) rfl qr (cw (folded z v2)) rfl rfl 79 _ 8 hs.out.rr info41 (by simp [cw]) (by rw [cw_len, folded_len]) (cw_one _) ?_; intro w5 hb5 hg5 hz5))
                have hbel : Below B w w5 := hs.out.bel.grown hg5 (by have := hs.out.low; omega) (fun k hk => by injection hk with hk; have := hs.out.low; omega)
                refine bodyPost_ret (v := .agg (cw (folded z v2)).toArray) (results_cell_row Tryd.results55 _ w5 qr 79 _ (0, 0) _ rfl hb5 Tryd.underlying79 rfl (by rw [info41]; simp [cw_len, folded_len])) rfl ⟨?_, ?_⟩
                · rw [HC.out]
                · rw [HB.out]
                  exact hbel

      case true =>
        go_wp2
        have hs1 : St w (((wr.setCell ⟨qv, 12, none⟩ (.int .u32 (wd (at_ v0 12 ^^^ lo32 t)))).setCell ⟨qv, 13, none⟩ (.int .u32 (wd (at_ v0 13 ^^^ hi32 t)))).setCell ⟨qv, 14, none⟩ (.int .u32 (wd (~~~ (at_ v0 14))))) B B qm qr qv z m (ticked v0 t true) := by
          rw [ticked_yes]
          exact ((hs.out.setV 12 _).setV 13 _).setV 14 _
        generalize (((wr.setCell ⟨qv, 12, none⟩ (.int .u32 (wd (at_ v0 12 ^^^ lo32 t)))).setCell ⟨qv, 13, none⟩ (.int .u32 (wd (at_ v0 13 ^^^ hi32 t)))).setCell ⟨qv, 14, none⟩ (.int .u32 (wd (~~~ (at_ v0 14))))) = w1 at hs1 ⊢
        clear hs
        have hv1 : (ticked v0 t true).length = 16 := by rw [ticked_len, hvl]
        have HC : Hid (compressed z m t true = folded z (rnds m (ticked v0 t true) 10)) := by show _ = _; rw [← HV.out]; rfl
        generalize ticked v0 t true = v1 at hs1 hv1 HC
        have HS := Lib.hid hs1
        have HV1 := Lib.hid hv1
        clear hs1 hv1 c12 c13 c14 f12 f13 f14 hlo hhi hsg hst
        go_loopw [49] (fun i wr => ∃ k : Nat, k ≤ 10 ∧ i = .int .i64 k ∧ Hid (St w wr B B qm qr qv z m (rnds m v1 k))) (fun i _ => 10 - (intOf i).toNat)
        case atStart => exact ⟨0, by omega, rfl, HS⟩
        case round =>
          obtain ⟨k, hk, rfl, hs⟩ := hrel
          obtain ⟨wo, hwo⟩ : ∃ wo : World, wo = wr := ⟨_, rfl⟩
          subst hwo
          by_cases hlt : k < 10
          · have hg := HG.out.below hs.out.bel (HB.out ▸ HG.out.size)
            have hrow := row_ok k hlt
            have hrg := hg.row hlt
            have i1 : (k : Int) < 10 := by omega
            have HR := Lib.hid hrow
            have HRG := Lib.hid hrg
            clear hg hrow hrg
            go_wp2_with (first
              | ((with_reducible show wpList _ _ _ _ _ _); refine wpList_load_mid rfl 91 (.tmp 53) rfl 1 (k * 16) rfl ((row k).map fun n : Nat => Value.int .u8 (n : Int)) (.array 16 5) HRG.out Tryd.underlying91 rfl (by rw [info56, List.length_map, HR.out.1]) ?_)
              | ((with_reducible show wpList _ _ _ _ _ _); refine wpList_store_all rfl 91 (.tmp 12) (.tmp 54) rfl wo.heap.size ((row k).map fun n : Nat => Value.int .u8 (n : Int)) rfl rfl 91 #[Value.int IntKind.u8 0, Value.int IntKind.u8 0, Value.int IntKind.u8 0, Value.int IntKind.u8 0, Value.int IntKind.u8 0, Value.int IntKind.u8 0, Value.int IntKind.u8 0, Value.int IntKind.u8 0, Value.int IntKind.u8 0, Value.int IntKind.u8 0, Value.int IntKind.u8 0, Value.int IntKind.u8 0, Value.int IntKind.u8 0, Value.int IntKind.u8 0, Value.int IntKind.u8 0, Value.int IntKind.u8 0] 16 (heap_alloc_new wo _) info56 rfl (by rw [List.length_map, HR.out.1]) (rb_one _) ?_; intro w5 hb5 hg5 hz5))
            have hs5 : Hid (St w w5 B B qm qr qv z m (cols m (row k) (rnds m v1 k) 0)) := (hs.out.alloc _).other hg5 hs.out.low.2.2.2.2
            have hb5' : Hid (RB w5 wo.heap.size (row k)) := hb5
            have HSv : Hid (qv < wo.heap.size) := hs.out.low.2.2.2.2
            generalize wo.heap.size = S at hs5 hb5' HSv ⊢
            clear hb5 hg5 hz5 HRG
            go_loopw [55] (fun i wr => ∃ n : Nat, n ≤ 4 ∧ i = .int .i64 n ∧ Hid (St w wr B B qm qr qv z m (cols m (row k) (rnds m v1 k) n)) ∧ Hid (RB wr S (row k))) (fun i _ => 4 - (intOf i).toNat)
            case atStart => exact ⟨0, by omega, rfl, hs5, hb5'⟩
            case round =>
              obtain ⟨i, hi, rfl, hs, hb⟩ := hrel
              obtain ⟨wr2, hwr2⟩ : ∃ wr2 : World, wr2 = wr := ⟨_, rfl⟩
              subst hwr2
              clear hs5 hb5'
              by_cases hlt4 : i < 4
              · skip
                have r1 := HR.out.2 (2 * i) (by omega)
                have r2 := HR.out.2 (2 * i + 1) (by omega)
                have cs1 := hb.out.cell (2 * i) (by rw [HR.out.1]; omega)
                have cs2 := hb.out.cell (2 * i + 1) (by rw [HR.out.1]; omega)
                have cm1 := hs.out.mm.cell (pick (row k) (2 * i)) (by rw [HM.out]; exact r1)
                have cm2 := hs.out.mm.cell (pick (row k) (2 * i + 1)) (by rw [HM.out]; exact r2)
                have x1 : ((pick (row k) (2 * i) : Nat) : Int) < 16 := by omega
                have x2 : ((pick (row k) (2 * i + 1) : Nat) : Int) < 16 := by omega
                have j1 : (i : Int) < 16 := by omega
                have a1 : IntKind.i64.wrap (4 + (i : Int)) = 4 + (i : Int) := IntWalk.i64_in _ ⟨by omega, by omega⟩
                have a2 : (0 : Int) ≤ 4 + (i : Int) := by omega
                have a3 : (4 + (i : Int)).toNat = 4 + i := by omega
                have a4 : 4 + (i : Int) < 16 := by omega
                have b1 : IntKind.i64.wrap (8 + (i : Int)) = 8 + (i : Int) := IntWalk.i64_in _ ⟨by omega, by omega⟩
                have b2 : (0 : Int) ≤ 8 + (i : Int) := by omega
                have b3 : (8 + (i : Int)).toNat = 8 + i := by omega
                have b4 : 8 + (i : Int) < 16 := by omega
                have c1 : IntKind.i64.wrap (12 + (i : Int)) = 12 + (i : Int) := IntWalk.i64_in _ ⟨by omega, by omega⟩
                have c2 : (0 : Int) ≤ 12 + (i : Int) := by omega
                have c3 : (12 + (i : Int)).toNat = 12 + i := by omega
                have c4 : 12 + (i : Int) < 16 := by omega
                have d1 : IntKind.i64.wrap (2 * (i : Int)) = 2 * (i : Int) := IntWalk.i64_in _ ⟨by omega, by omega⟩
                have d2 : (0 : Int) ≤ 2 * (i : Int) := by omega
                have d3 : (2 * (i : Int)).toNat = 2 * i := by omega
                have d4 : 2 * (i : Int) < 16 := by omega
                have e1 : IntKind.i64.wrap (2 * (i : Int) + 1) = 2 * (i : Int) + 1 := IntWalk.i64_in _ ⟨by omega, by omega⟩
                have e2 : (0 : Int) ≤ 2 * (i : Int) + 1 := by omega
                have e3 : (2 * (i : Int) + 1).toNat = 2 * i + 1 := by omega
                have e4 : 2 * (i : Int) + 1 < 16 := by omega
                clear r1 r2
                go_wp2
                go_still_tail 24, (by kernel_rfl)
                change wpList _ _ _ _ _ wr2.drew
                go_wp2_with (go_at_call 60; refine (mixP_any qv i (4 + i) (8 + i) (12 + i) 83 (cols m (row k) (rnds m v1 k) i) (at_ m (pick (row k) (2 * i))) (at_ m (pick (row k) (2 * i + 1))) wr2.drew hs.out.drew.vv (by rw [hs.out.vl]; omega) (by rw [hs.out.vl]; omega) (by rw [hs.out.vl]; omega) (by rw [hs.out.vl]; omega)).mono ?_; rintro e w6 ⟨rfl, hw6, hg6⟩)
                have hs6 : Hid (St w w6 B B qm qr qv z m (cols m (row k) (rnds m v1 k) (i + 1))) := hs.out.drew.grown hg6 hw6 (mixed_len _ _ _ _ _ _ _)
                have hb6 : Hid (RB w6 S (row k)) := RB.grown (w := wr2.drew) hb.out hg6 (by have := HSv.out; simp; omega)
                clear hw6 hg6
                go_roundw
                case rel => exact ⟨i + 1, by omega, by go_num, hs6, hb6⟩
                case measure => simp [intOf]; omega
              · have hi4 : i = 4 := by omega
                rw [hi4] at hs
                clear hi4 hi
                go_wp2
                go_loopw [84] (fun i wr => ∃ n : Nat, n ≤ 4 ∧ i = .int .i64 n ∧ Hid (St w wr B B qm qr qv z m (dias m (row k) (cols m (row k) (rnds m v1 k) 4) n)) ∧ Hid (RB wr S (row k))) (fun i _ => 4 - (intOf i).toNat)
                case atStart => exact ⟨0, by omega, rfl, hs, hb⟩
                case round =>
                  clear hs hb
                  obtain ⟨i, hi, rfl, hs, hb⟩ := hrel
                  obtain ⟨wr3, hwr3⟩ : ∃ wr3 : World, wr3 = wr := ⟨_, rfl⟩
                  subst hwr3
                  by_cases hlt4 : i < 4
                  · skip
                    have r1 := HR.out.2 (8 + 2 * i) (by omega)
                    have r2 := HR.out.2 (9 + 2 * i) (by omega)
                    have cs1 := hb.out.cell (8 + 2 * i) (by rw [HR.out.1]; omega)
                    have cs2 := hb.out.cell (9 + 2 * i) (by rw [HR.out.1]; omega)
                    have cm1 := hs.out.mm.cell (pick (row k) (8 + 2 * i)) (by rw [HM.out]; exact r1)
                    have cm2 := hs.out.mm.cell (pick (row k) (9 + 2 * i)) (by rw [HM.out]; exact r2)
                    have x1 : ((pick (row k) (8 + 2 * i) : Nat) : Int) < 16 := by omega
                    have x2 : ((pick (row k) (9 + 2 * i) : Nat) : Int) < 16 := by omega
                    have j1 : (i : Int) < 16 := by omega
                    obtain ⟨d1, e01, e02, e03, e04, e11, e12, e13, e14⟩ := dia_facts i hlt4
                    obtain ⟨p1, hp1, u01, u02, u03, u04, u05, u06, u07⟩ := rem_facts i 1 4 1 4 hlt4 (by decide) (by decide) rfl rfl
                    obtain ⟨p2, hp2, u11, u12, u13, u14, u15, u16, u17⟩ := rem_facts i 2 8 2 8 hlt4 (by decide) (by decide) rfl rfl
                    obtain ⟨p3, hp3, u21, u22, u23, u24, u25, u26, u27⟩ := rem_facts i 3 12 3 12 hlt4 (by decide) (by decide) rfl rfl
                    clear r1 r2
                    go_wp2
                    go_still_tail 31, (by kernel_rfl)
                    change wpList _ _ _ _ _ wr3.drew
                    go_wp2_with (go_at_call 60; refine (mixP_any qv i (4 + p1) (8 + p2) (12 + p3) 83 (dias m (row k) (cols m (row k) (rnds m v1 k) 4) i) (at_ m (pick (row k) (8 + 2 * i))) (at_ m (pick (row k) (9 + 2 * i))) wr3.drew hs.out.drew.vv (lt16 (c := 0) hs.out.vl hlt4 (Nat.zero_le _)) (lt16p hs.out.vl hp1.2 (by decide)) (lt16p hs.out.vl hp2.2 (by decide)) (lt16p hs.out.vl hp3.2 (by decide))).mono ?_; rintro e w6 ⟨rfl, hw6, hg6⟩)
                    have hs6 : Hid (St w w6 B B qm qr qv z m (dias m (row k) (cols m (row k) (rnds m v1 k) 4) (i + 1))) := by
                      refine hs.out.drew.grown hg6 ?_ (mixed_len _ _ _ _ _ _ _)
                      rw [hp1.1.out, hp2.1.out, hp3.1.out] at hw6
                      exact hw6
                    have hb6 : Hid (RB w6 S (row k)) := RB.grown (w := wr3.drew) hb.out hg6 (fun e => Nat.ne_of_gt HSv.out (Option.some.inj e))
                    clear hw6 hg6 d1 e01 e02 e03 e04 e11 e12 e13 e14 u01 u02 u03 u04 u05 u06 u07 u11 u12 u13 u14 u15 u16 u17 u21 u22 u23 u24 u25 u26 u27 hp1 hp2 hp3
                    go_roundw
                    case rel => exact ⟨i + 1, by omega, by go_num, hs6, hb6⟩
                    case measure => simp [intOf]; omega
                  · have hi4 : i = 4 := by omega
                    rw [hi4] at hs
                    clear hi4 hi
                    go_wp2
                    go_roundw
                    case rel => exact ⟨k + 1, by omega, by go_num, hs⟩
                    case measure => simp [intOf]; omega
          · have hk10 : k = 10 := by omega
            rw [hk10] at hs
            clear hk10 hk
            go_wp2
            have HV2 : Hid ((rnds m v1 10).length = 16) := by show _ = _; rw [rnds_len, HV1.out]
            generalize rnds m v1 10 = v2 at hs HC HV2
            go_loopw [121] (fun i wr => ∃ n : Nat, n ≤ 8 ∧ i = .int .i64 n ∧ Hid (St w wr B B qm qr qv (foldP z v2 n) m v2)) (fun i _ => 8 - (intOf i).toNat)
            case atStart => exact ⟨0, by omega, rfl, hs⟩
            case round =>
              clear hs
              obtain ⟨i, hi, rfl, hs⟩ := hrel
              obtain ⟨wr4, hwr4⟩ : ∃ wr4 : World, wr4 = wr := ⟨_, rfl⟩
              subst hwr4
              by_cases hlt8 : i < 8
              · skip
                have ch := hs.out.hh.cell i (by rw [hs.out.hl]; exact hlt8)
                have fh := hs.out.hh.frozen i
                have cv1 := hs.out.vv.cell i (by rw [HV2.out]; omega)
                have cv2 := hs.out.vv.cell (8 + i) (by rw [HV2.out]; omega)
                have i1 : (i : Int) < 8 := by omega
                have i2 : (i : Int) < 16 := by omega
                have b1 : IntKind.i64.wrap (8 + (i : Int)) = 8 + (i : Int) := IntWalk.i64_in _ ⟨by omega, by omega⟩
                have b2 : (0 : Int) ≤ 8 + (i : Int) := by omega
                have b3 : (8 + (i : Int)).toNat = 8 + i := by omega
                have b4 : 8 + (i : Int) < 16 := by omega
                go_wp2
                go_still_tail 13, (by kernel_rfl)
                change wpList _ _ _ _ _ wr4.drew
                go_wp2
                go_roundw
                case rel => exact ⟨i + 1, by omega, by go_num, (hs.out.drew.setH i _)⟩
                case measure => simp [intOf]; omega
              · have hi8 : i = 8 := by omega
                rw [hi8, foldP_8 HH.out] at hs
                clear hi8 hi
                go_wp2_with (first
                  | ((with_reducible show wpList _ _ _ _ _ _); refine wpList_load_all rfl 79 (.tmp 4) rfl B rfl 79 (cw (folded z v2)) 74 8 hs.out.hh Tryd.underlying79 info41 (by rw [cw_len, folded_len]) ?_)
                  | ((with_reducible show wpList _ _ _ _ _ _); refine wpList_store_all rfl 79 (.tmp 8) (.tmp 138) rfl qr (cw (folded z v2)) rfl rfl 79 _ 8 hs.out.rr info41 (by simp [cw]) (by rw [cw_len, folded_len]) (cw_one _) ?_; intro w5 hb5 hg5 hz5))
                have hbel : Below B w w5 := hs.out.bel.grown hg5 (by have := hs.out.low; omega) (fun k hk => by injection hk with hk; have := hs.out.low; omega)
                refine bodyPost_ret (v := .agg (cw (folded z v2)).toArray) (results_cell_row Tryd.results55 _ w5 qr 79 _ (0, 0) _ rfl hb5 Tryd.underlying79 rfl (by rw [info41]; simp [cw_len, folded_len])) rfl ⟨?_, ?_⟩
                · rw [HC.out]
                · rw [HB.out]
                  exact hbel

end Go.Proofs.YtmdokldbggingaaDoor
