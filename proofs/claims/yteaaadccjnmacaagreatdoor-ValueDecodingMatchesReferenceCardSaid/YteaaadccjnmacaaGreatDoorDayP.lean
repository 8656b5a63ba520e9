/-
  The program's calendar: leapYears, monthStart, padded, dateOf, each by a contract.
-/
import Derived.Test.YteaaadccjnmacaaGreatDoorValP
import Derived.Test.YteaaadccjnmacaaGreatDoorDayS
import Derived.Test.YteaaadccjnmacaaGreatDoorLays
import Derived.Lib.SmallJoins
import Derived.Lib.AppendIntMem
import Derived.Deep.QuietTactic
import Derived.BigQuiet
import Derived.Deep.RegionHeld3
namespace Go.Proofs.YteaaadccjnmacaaGreatDoor
open Go.RowKit

/-- what the package's variables hold, the library's among them -/
structure Glob5 (w : World) : Prop where
  days : ∀ i, i < 12 → w.cell? ⟨0, i, none⟩ = some (.int .i64 (bef i))
  tab : Lib.TabIs Tryz.prog w "internal/strconv.uint64pow10" .u64 Lib.pow10Tab
  syn : ∃ te pe, w.cell? ⟨3, 0, none⟩ = some (.iface te pe)
  rng : ∃ te pe, w.cell? ⟨4, 0, none⟩ = some (.iface te pe)
theorem Glob5.up {w w' : World} (h : Glob5 w) (hb : Below w.heap.size w w') : Glob5 w' := by
  obtain ⟨h1, h2, ⟨te, pe, h3⟩, ⟨tf, pf, h4⟩⟩ := h
  exact ⟨fun i hi => (hb.cell (p := ⟨0, i, none⟩) (World.block_lt_of_cell? w _ (h1 i hi))).trans (h1 i hi), Lib.tabBelow_of_tabIs h2 w' hb,
    ⟨te, pe, (hb.cell (p := ⟨3, 0, none⟩) (World.block_lt_of_cell? w _ h3)).trans h3⟩, ⟨tf, pf, (hb.cell (p := ⟨4, 0, none⟩) (World.block_lt_of_cell? w _ h4)).trans h4⟩⟩
theorem below_gr (w : World) (k : Nat) (os : Array Obj) : Below w.heap.size w (Go.Sort.grow (w.drewN k) os) :=
  ⟨rfl, rfl, rfl, by simp [Go.Sort.grow], fun j hj => Go.Sort.heap_grow_old (w.drewN k) os hj⟩
theorem below_dn {B : Nat} {a w : World} (h : Below B a w) (n : Nat) : Below B a (w.drewN n) := ⟨h.os, h.tape, h.output, h.size, h.block⟩

theorem leapYears_any (y : Int) (w : World) (h0 : 0 ≤ y) (h1 : y ≤ 100000) : Calls Tryz.prog 67 #[.int .i64 y] w fun e w' => e = .returned (.int .i64 (lpY y)) ∧ w' = w := by
  go_enter Tryz.func67, Tryz.ntmps67
  go_wp2
  go_ret
  exact ⟨rfl, rfl⟩
theorem lpY_le (y : Int) (h0 : 0 ≤ y) (h1 : y ≤ 100000) : 0 ≤ lpY y ∧ lpY y ≤ 100000 := by unfold lpY; omega
theorem ret_i {a b : Int} (h : a = b) : Ending.returned (.int .i64 a) = Ending.returned (.int .i64 b) := by rw [h]

set_option maxHeartbeats 1000000 in
theorem monthStart_any (m : Nat) (w : World) (hG : Glob5 w) (hm : m ≤ 100000) : Calls Tryz.prog 49 #[.int .i64 (m : Int)] w fun e w' => e = .returned (.int .i64 (mStart m)) ∧ w' = w := by
  obtain ⟨q, hq⟩ : ∃ q, m / 12 = q := ⟨_, rfl⟩
  obtain ⟨k, hk⟩ : ∃ k, m % 12 = k := ⟨_, rfl⟩
  have hk12 : k < 12 := by omega
  have hq1 : q ≤ 10000 := by omega
  have hc := hG.days k hk12
  have hb := bef_le k
  have i1 : (m : Int) / 12 = (q : Int) := by omega
  have i2 : (m : Int) % 12 = (k : Int) := by omega
  have hl0 := lpY_le (q : Int) (by omega) (by omega)
  have hl1 := lpY_le ((q : Int) + 1) (by omega) (by omega)
  have HL := Lib.hid (fun y (h0 : 0 ≤ y) (h1 : y ≤ 100000) (w1 : World) => leapYears_any y w1 h0 h1)
  have HS : Hid (mStart m = 365 * (q : Int) + lpY ((q : Int) + (if 1 < k then 1 else 0)) + bef k - 1011356) := by show _ = _; unfold mStart; rw [hq, hk]
  have r1 : Hid ((m : Int) / 12 = (q : Int)) := i1
  clear hG hq hk
  generalize bef k = bk at *
  by_cases h1 : 1 < k
  · have j1 : (1 : Int) < (k : Int) := by omega
    rw [if_pos h1] at HS
    obtain ⟨l1, e1⟩ : ∃ l, lpY ((q : Int) + 1) = l := ⟨_, rfl⟩
    rw [e1] at HS hl1
    have HE1 := Lib.hid e1
    obtain ⟨l0, e0⟩ : ∃ l, lpY (q : Int) = l := ⟨_, rfl⟩
    rw [e0] at hl0
    have HE0 := Lib.hid e0
    clear e1 e0 r1
    go_enter Tryz.func49, Tryz.ntmps49
    go_wp2_with (first
      | ((with_reducible show Calls _ 67 #[.int .i64 (q : Int)] _ _); refine (HL.out (q : Int) (by omega) (by omega) _).mono ?_; rintro e w1 ⟨rfl, rfl⟩; rw [HE0.out])
      | (go_at_call 67; refine (HL.out ((q : Int) + 1) (by omega) (by omega) _).mono ?_; rintro e w1 ⟨rfl, rfl⟩; rw [HE1.out]))
    go_ret
    exact ⟨ret_i (by rw [HS.out]; omega), rfl⟩
  · have j1 : ¬ (1 : Int) < (k : Int) := by omega
    rw [if_neg h1, Int.add_zero] at HS
    obtain ⟨l0, e0⟩ : ∃ l, lpY (q : Int) = l := ⟨_, rfl⟩
    rw [e0] at hl0 HS
    have HE0 := Lib.hid e0
    clear e0 r1 hl1
    go_enter Tryz.func49, Tryz.ntmps49
    go_wp2_with (go_at_call 67; refine (HL.out (q : Int) (by omega) (by omega) _).mono ?_; rintro e w1 ⟨rfl, rfl⟩; rw [HE0.out])
    go_ret
    exact ⟨ret_i (by rw [HS.out]; omega), rfl⟩
theorem mStart_bd (m : Nat) (hm : m ≤ 67200) : -1011356 ≤ mStart m ∧ mStart m ≤ 1040000 := by
  have h1 := mStart_mono 0 m (by omega)
  have h2 := mStart_mono m 67200 (by omega)
  have h3 : mStart 67200 = 1034002 := by simp [mStart, lpY, bef, befT]
  rw [mStart_0] at h1
  omega

/-- the closure of dateOf -/
theorem after_any (m B : Nat) (d : Int) (w : World) (hG : Glob5 w) (hm : m ≤ 67188) (hB : w.cell? ⟨B, 0, none⟩ = some (.int .i64 d)) :
    Calls Tryz.prog 48 #[.int .i64 (m : Int), .pointer (some ⟨B, 0, none⟩)] w fun e w' => e = .returned (.bool (decide (mStart (m + 1) > d))) ∧ ∃ q, w' = w.drewN q := by
  have HM : Hid (∀ w1, Glob5 w1 → Calls Tryz.prog 49 #[.int .i64 ((m : Int) + 1)] w1 fun e w' => e = .returned (.int .i64 (mStart (m + 1))) ∧ w' = w1) := fun w1 h => monthStart_any (m + 1) w1 h (by omega)
  have HG := Lib.hid (fun n => hG.up (below_dn (Below.refl w.heap.size w) n))
  have hbd := mStart_bd (m + 1) (by omega)
  have hw : IntKind.i64.wrap ((m : Int) + 1) = (m : Int) + 1 := IntWalk.i64_in _ (by omega)
  clear hG
  generalize mStart (m + 1) = z at *
  go_enter Tryz.func48, Tryz.ntmps48
  go_wp2
  go_quiet ((go_at_call 49; exact Calls.quiet_of_same (HM.out _ (HG.out _))))
  go_wp2
  go_ret
  exact ⟨rfl, nq, rfl⟩
theorem search_n (n B : Nat) (d : Int) (w : World) (hn : n = 67188) (hG : Glob5 w) (hB : w.cell? ⟨B, 0, none⟩ = some (.int .i64 d)) :
    Calls Tryz.prog 47 #[.int .i64 (n : Int), .func (.func 48) #[] #[.pointer (some ⟨B, 0, none⟩)]] w fun e w' => e = .returned (.int .i64 (monOf d)) ∧ Below w.heap.size w w' := by
  have hm : (List.range n).countP (fun i => !decide (mStart (i + 1) > d)) = monOf d := by unfold monOf; rw [hn]
  have hlt : n < 4611686018427387904 := by omega
  have hle : n ≤ 67188 := by omega
  clear hn
  have h := Any.sort_Search Tryz.search 48 #[.pointer (some ⟨B, 0, none⟩)] n (fun i => decide (mStart (i + 1) > d)) w (fun args w1 => by go_simp) hlt
    (fun m os i hi => by
      have hb := below_gr w m os
      refine (after_any i B d _ (hG.up hb) (by omega) ((hb.cell (p := ⟨B, 0, none⟩) (World.block_lt_of_cell? w _ hB)).trans hB)).mono ?_
      rintro e w' ⟨h1, q, rfl⟩
      exact ⟨h1, q, #[], by simp⟩)
    (fun a b hab _ hk => gt_mono d a b hab hk)
  refine h.mono ?_
  rintro e w' ⟨rfl, q, os, rfl⟩
  rw [hm]
  exact ⟨rfl, below_gr w q os⟩
theorem search_any (z : Int) (B : Nat) (d : Int) (w : World) (hz : z = 67188) (hG : Glob5 w) (hB : w.cell? ⟨B, 0, none⟩ = some (.int .i64 d)) :
    Calls Tryz.prog 47 #[.int .i64 z, .func (.func 48) #[] #[.pointer (some ⟨B, 0, none⟩)]] w fun e w' => e = .returned (.int .i64 (monOf d)) ∧ Below w.heap.size w w' := by
  obtain ⟨n, hn⟩ : ∃ n : Nat, n = 67188 := ⟨_, rfl⟩
  obtain rfl : (n : Int) = z := by omega
  exact search_n n B d w hn hG hB
end Go.Proofs.YteaaadccjnmacaaGreatDoor
