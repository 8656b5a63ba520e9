/-
  P4.5: refreshed shares have the same points and yield the same secret, and what was added are shares of zero bytes. For every input that the row lets in; no further condition.
-/
import Derived.Test.YtoobljmiagdmhaaRefM
import Derived.Test.YtoobljmiagdmhaaOwnN
import Derived.Test.YtoobljmiagdmhaaSameR
namespace Go.Proofs.Ytoobljmiagdmhaa.refr
open Go.ChangeShapes Go.WideShapes Go.ChangeAt Go.RowKit

theorem Same_is (A C : Option Addr) (c d n : Nat) (l : List UInt8) (w : World) (hn : n = l.length) (h1 : Shows w w.heap.size A l) (h2 : Shows w w.heap.size C l) (hm : n ≤ 9223372036854775807) :
    Calls Try.prog 23 #[.slice A n c, .slice C n d] w fun e w' => e = .returned (.bool true) ∧ Below w.heap.size w w' := by
  refine (Same_any A n c l C n d l w h1 h2 hn hn hm hm).mono ?_
  rintro e w' ⟨rfl, m, rfl⟩
  exact ⟨by simp, below_drewN (Below.refl _ _) m⟩

theorem sane_box (w : World) (a b c d : Value) : Calls Try.prog 11 #[] (w.alloc (.cells #[a, b, c, d] 29)) fun e w' => e = .returned (.bool true) ∧
    w'.cell? ⟨w.heap.size, 0, none⟩ = some a ∧ w'.cell? ⟨w.heap.size, 1, none⟩ = some b ∧ w'.cell? ⟨w.heap.size, 2, none⟩ = some c ∧ w'.cell? ⟨w.heap.size, 3, none⟩ = some d ∧ w.heap.size < w'.heap.size ∧ Below w.heap.size w w' := by
  refine (sanity_any _).mono ?_
  rintro e w' ⟨h1, hb⟩
  have hn := heap_alloc_new w (.cells #[a, b, c, d] 29)
  have hlt : w.heap.size < (w.alloc (.cells #[a, b, c, d] 29)).heap.size := by rw [hz]; exact Nat.lt_succ_self _
  exact ⟨h1, (hb.cell (p := ⟨w.heap.size, 0, none⟩) hlt).trans (cell_of_row _ w.heap.size 0 _ _ (0, 0) hn), (hb.cell (p := ⟨w.heap.size, 1, none⟩) hlt).trans (cell_of_row _ w.heap.size 1 _ _ (0, 0) hn),
    (hb.cell (p := ⟨w.heap.size, 2, none⟩) hlt).trans (cell_of_row _ w.heap.size 2 _ _ (0, 0) hn), (hb.cell (p := ⟨w.heap.size, 3, none⟩) hlt).trans (cell_of_row _ w.heap.size 3 _ _ (0, 0) hn), Nat.lt_of_lt_of_le hlt hb.size, step_al (ba1 w _) hb⟩
theorem box2 {w1 w2 : World} {D P T : Nat} {a b : Value} (h0 : w1.cell? ⟨D, 0, none⟩ = some a) (h1 : w1.cell? ⟨D, 1, none⟩ = some b) (hD : D < w1.heap.size) (hb : Below w1.heap.size w1 w2) :
    BX (w2.alloc (.cells #[.int .i64 (P : Int), .int .i64 (T : Int)] 30)) D w2.heap.size a b P T := by
  have hb2 := step_al hb (ba1 w2 (.cells #[.int .i64 (P : Int), .int .i64 (T : Int)] 30))
  have hn := heap_alloc_new w2 (.cells #[.int .i64 (P : Int), .int .i64 (T : Int)] 30)
  exact ⟨(hb2.cell (p := ⟨D, 0, none⟩) hD).trans h0, (hb2.cell (p := ⟨D, 1, none⟩) hD).trans h1, cell_of_row _ w2.heap.size 0 _ _ (0, 0) hn, cell_of_row _ w2.heap.size 1 _ _ (0, 0) hn, by rw [hz]; have := hb.size; omega, by rw [hz]; exact Nat.lt_succ_self _⟩
theorem own_low {w : World} {base base' : Nat} {v : Value} {l : List UInt8} (h : Owns w base' v l) (hle : base ≤ base') : Owns w base v l := by
  refine ⟨h.1, ?_⟩
  rcases h.2 with h2 | ⟨g, cap, cur, e, hb2, r⟩
  · exact .inl h2
  · exact .inr ⟨g, cap, cur, e, Nat.le_trans hle hb2, r⟩
theorem shl_at {w : World} {B g i : Nat} {l : List Sh} {s : Sh} (h : ShL w B (some ⟨g, 0, none⟩) l) (hi : l[i]? = some s) : ShAt w B g (i * 2) s := by
  obtain ⟨b, off, e, _, h2⟩ := h.one hi
  injection e with e
  injection e with e1 e2
  subst e1 e2
  rw [Nat.zero_add] at h2
  exact h2
theorem al_n {base n : Nat} {w0 w : World} {v : Value} {L : List Sh} (h : FN base w0 w v L) (s : Sh) (A : Option Addr) (c : Nat) (hn : n = s.2.length) (ho : Owns w base (.slice A n c) s.2) :
    GN base w0 (w.alloc (.cells #[.int .u8 (s.1.toNat : Int), .slice A n c] 33)) v L s A c w.heap.size := by
  subst hn
  exact h.al s A c ho

/-- the block that make([]byte, n) lays -/
def zobj (n : Nat) : Obj := .cells (cb (List.replicate n 0)).toArray 5 (0, 0)
theorem make_zeros (n : Nat) (hn : n ≤ 281474976710656) (w : World) : (Instr.makeSlice 27 (.int .i64 (n : Int)) (.int .i64 (n : Int))).run Try.prog w = .ok (.slice (some ⟨w.heap.size, 0, none⟩) n n) (w.alloc (zobj n)) := by
  obtain ⟨i, hi, hz, hs, hb⟩ := info_parts info5
  have hr := run_make (P := Try.prog) w 27 5 i (.int .u8 0) Try.underlying27 hi hz .i64 .i64 (n : Int) (n : Int) (by omega) (by omega) (by rw [hb]; omega) (by omega)
  simp only [Int.toNat_natCast] at hr
  rw [hr]
  unfold zobj
  congr 3
  apply Array.ext'
  rw [hs, Nat.mul_one, show Value.cells (.int .u8 0) = #[.int .u8 0] from rfl, toList_madeCells_one, cb_zeros]
theorem zobj_blk (n : Nat) (w : World) : Blk (w.alloc (zobj n)) w.heap.size (List.replicate n 0) := by
  unfold Blk zobj
  rw [heap_alloc_new]
attribute [local irreducible] zobj

attribute [local irreducible] splitL interpB wfB addL newL sumL
set_option maxHeartbeats 2000000 in
set_option maxRecDepth 20000 in
/-- The deal is too great, or the random bytes: nothing is asked. -/
theorem walk_big (A : Option Addr) (ca : Nat) (sl : List UInt8) (B : Option Addr) (cb_ : Nat) (rl : List UInt8) (x y : UInt8) (C : Option Addr) (cc n : Nat) (w : World) (hsl : sl.length ≤ 9223372036854775807) (hrl : rl.length ≤ 9223372036854775807)
    (hbig : ¬ (sl.length ≤ 40 ∧ rl.length ≤ 400 ∧ n ≤ 400)) :
    Calls Try.prog 9 #[.agg #[.slice A sl.length ca, .slice B rl.length cb_, .int .u8 (x.toNat : Int), .int .u8 (y.toNat : Int)], .slice C n cc] w fun e w' => e = .returned (.bool true) ∧ Below w.heap.size w w' := by
  obtain ⟨P, hP⟩ : ∃ P, P = 1 + x.toNat % 8 := ⟨_, rfl⟩
  obtain ⟨T, hT⟩ : ∃ T, T = P + y.toNat % 9 := ⟨_, rfl⟩
  obtain ⟨z, hzz⟩ : ∃ z, (decide (sl.length ≤ 40) && decide (rl.length ≤ 400)) = z := ⟨_, rfl⟩
  have HF := Lib.hid (fun w1 => fits_is A B sl.length ca rl.length cb_ P T x y z w1 hP hT hsl hrl hzz)
  have hzn : z = true → 400 < (n : Int) := by
    intro h
    rw [h] at hzz
    simp at hzz
    omega
  clear hP hT hzz hbig
  cases z with
  | false =>
    clear hzn
    go_enter Try.func9, Try.ntmps9
    go_wp2_with (first
      | ((with_reducible show Calls _ 11 _ _ _); refine (sane_box w _ _ _ _).mono ?_; rintro e w1 ⟨rfl, c0, c1, c2, c3, lt1, hb1⟩; have HB1 := Lib.hid hb1; clear hb1)
      | ((with_reducible show Calls _ 24 _ _ _); refine (HF.out _).mono ?_; rintro e w2 ⟨rfl, hb2⟩; have HB2 := Lib.hid hb2; clear hb2))
    go_ret
    exact ⟨rfl, step_al (step_al HB1.out HB2.out) (ba1 w2 _)⟩
  | true =>
    have hn := hzn rfl
    clear hzn
    go_enter Try.func9, Try.ntmps9
    go_wp2_with (first
      | ((with_reducible show Calls _ 11 _ _ _); refine (sane_box w _ _ _ _).mono ?_; rintro e w1 ⟨rfl, c0, c1, c2, c3, lt1, hb1⟩; have HB1 := Lib.hid hb1; clear hb1)
      | ((with_reducible show Calls _ 24 _ _ _); refine (HF.out _).mono ?_; rintro e w2 ⟨rfl, hb2⟩; have HB2 := Lib.hid hb2; clear hb2))
    go_ret
    exact ⟨rfl, step_al (step_al HB1.out HB2.out) (ba1 w2 _)⟩

set_option maxHeartbeats 4000000 in
set_option maxRecDepth 20000 in
theorem walk_small (A : Option Addr) (ca : Nat) (sl : List UInt8) (B : Option Addr) (cb_ : Nat) (rl : List UInt8) (x y : UInt8) (C : Option Addr) (cc : Nat) (rn : List UInt8) (w : World)
    (h1 : sl.length ≤ 40) (h2 : rl.length ≤ 400) (h3 : rn.length ≤ 400)
    (hsA : Shows w w.heap.size A sl) (hcA : sl.length ≤ ca) (hmA : ca ≤ 140737488351232) (hsB : Shows w w.heap.size B rl) (hcB : rl.length ≤ cb_) (hmB : cb_ ≤ 140737488351232)
    (hsC : Shows w w.heap.size C rn) (hcC : rn.length ≤ cc) (hmC : cc ≤ 140737488351232) :
    Calls Try.prog 9 #[.agg #[.slice A sl.length ca, .slice B rl.length cb_, .int .u8 (x.toNat : Int), .int .u8 (y.toNat : Int)], .slice C rn.length cc] w fun e w' => e = .returned (.bool true) ∧ Below w.heap.size w w' := by
  obtain ⟨P, hP⟩ : ∃ P, P = 1 + x.toNat % 8 := ⟨_, rfl⟩
  obtain ⟨T, hT⟩ : ∃ T, T = P + y.toNat % 9 := ⟨_, rfl⟩
  have hP1 : 1 ≤ P := by omega
  have hPT : P ≤ T := by omega
  have hT16 : T ≤ 16 := by omega
  have hzz : (decide (sl.length ≤ 40) && decide (rl.length ≤ 400)) = true := by simp [h1, h2]
  obtain ⟨N, hN⟩ : ∃ N, N = sl.length := ⟨_, rfl⟩
  obtain ⟨R, hR⟩ : ∃ N, N = rl.length := ⟨_, rfl⟩
  obtain ⟨M, hM⟩ : ∃ N, N = rn.length := ⟨_, rfl⟩
  have HF := Lib.hid (fun w1 => fits_is A B sl.length ca rl.length cb_ P T x y true w1 hP hT (by omega) (by omega) hzz)
  have HS : Hid (∀ w1, Below w.heap.size w w1 → Calls Try.prog 16 #[.slice A N ca, .slice B R cb_, .agg #[.int .i64 (P : Int), .int .i64 (T : Int)]] w1
      fun e w' => ∃ g, e = .returned (.tuple #[.slice (some ⟨g, 0, none⟩) T T, .int .i64 0]) ∧ ShL w' w'.heap.size (some ⟨g, 0, none⟩) (splitL sl rl P T) ∧ Below w1.heap.size w1 w') := fun w1 hb =>
    split_is A N ca sl B R cb_ rl P T w1 hN hR (hsA.up hb) (by omega) ⟨hcA, by omega⟩ (hsB.up hb) (by omega) ⟨hcB, by omega⟩ hP1 hPT (by omega)
  have HR : Hid (∀ (w1 : World) (g : Nat), Below w.heap.size w w1 → ShL w1 w1.heap.size (some ⟨g, 0, none⟩) (splitL sl rl P T) → Calls Try.prog 20 #[.slice (some ⟨g, 0, none⟩) T T, .slice C M cc, .int .i64 (P : Int)] w1
      fun e w' => ∃ g', e = .returned (.tuple #[.slice (some ⟨g', 0, none⟩) T T, .int .i64 0]) ∧ ShL w' w'.heap.size (some ⟨g', 0, none⟩) (newL sl rl rn P T) ∧ Below w1.heap.size w1 w') := fun w1 g hb hl => by
    have k := refresh_any (some ⟨g, 0, none⟩) T T (splitL sl rl P T) C M cc rn (P : Int) w1 (splitL_len _ _ _ _).symm hM hl (by rw [splitL_len]; omega) (fun s hs => by rw [split_lens hs]; omega) (hsC.up hb) (by omega) ⟨hcC, by omega⟩ (by omega) (by omega) (comb_back hP1 (by omega) (fun _ h => h) (split_nodup sl rl P T (by omega)) (by rw [splitL_len]; exact hPT)).1
    unfold newL
    exact k
  have HA := Lib.hid hsA
  have HN := Lib.hid hN
  have hN40 : N ≤ 40 := by omega
  have hM400 : (M : Int) ≤ 400 := by omega
  have HNB := Lib.hid (new_back (sl := sl) (rl := rl) (rn := rn) hP1 hPT (by omega : T ≤ 255))
  have HAB := Lib.hid (add_back (sl := sl) (rl := rl) (rn := rn) hP1 hPT (by omega : T ≤ 255))
  rw [← hN, ← hR] at HF
  rw [← hN] at HNB HAB
  rw [← hN, ← hR, ← hM]
  clear hP hT hzz hsA hsB hsC hN hR hM h1 h2 h3 hcA hmA hcB hmB hcC hmC
  go_enter Try.func9, Try.ntmps9
  go_wp2_with (first
    | ((with_reducible show Calls _ 11 _ _ _); refine (sane_box w _ _ _ _).mono ?_; rintro e w1 ⟨rfl, c0, c1, c2, c3, lt1, hb1⟩; have HB1 := Lib.hid hb1; clear hb1)
    | ((with_reducible show Calls _ 24 _ _ _); refine (HF.out _).mono ?_; rintro e w2 ⟨rfl, hb2⟩; have HB2 := Lib.hid (step_al (step_al HB1.out hb2) (ba1 w2 (.cells #[.int .i64 (P : Int), .int .i64 (T : Int)] 30))); have X2 := Lib.hid (box2 (P := P) (T := T) c0 c1 lt1 hb2); have d0 := X2.out.d0; have d1 := X2.out.d1; have f0 := X2.out.f0; have f1 := X2.out.f1; clear hb2)
    | ((with_reducible show Calls _ 16 _ _ _); refine (HS.out _ HB2.out).mono ?_; rintro e w3 ⟨g3, rfl, hl3, hb3⟩; have HL3 := Lib.hid hl3; have HB3 := Lib.hid (step_al HB2.out hb3); have X3 := Lib.hid (X2.out.up hb3); have e0 := X3.out.d0; have e1 := X3.out.d1; have e2 := X3.out.f0; have e3 := X3.out.f1; clear hl3 hb3)
    | ((with_reducible show Calls _ 20 _ _ _); refine (HR.out _ g3 HB3.out HL3.out).mono ?_; rintro e w5 ⟨g5, rfl, hl5, hb5⟩; have HL5 := Lib.hid hl5; have HL45 := Lib.hid (HL3.out.up hb5); have HB5 := Lib.hid (step_al HB3.out hb5); have X5 := Lib.hid (X3.out.up hb5); have z0 := X5.out.d0; have z1 := X5.out.f0; have z2 := X5.out.f1; clear hl5 hb5))
  have hown : Hid (OwnN (w5.alloc (.cells #[] 33)) w5.heap.size (.slice (some ⟨w5.heap.size, 0, none⟩) 0 0) (addL sl rl rn P 0)) := by unfold addL; exact own_newN w5
  have hbel : Hid (Below w5.heap.size w5 (w5.alloc (.cells #[] 33))) := ba1 w5 _
  generalize (w5.alloc (.cells #[] 33)) = w6 at *
  clear c0 c1 c2 c3 lt1 d0 d1 f0 f1 e0 e1 e2 e3 z0 z1 z2
  go_loopw [12, 13] (fun v i wr => ∃ (k : Nat) (A' : Option Addr) (c' : Nat), k ≤ T ∧ i = .int .i64 k ∧ v = .slice A' k c' ∧ Hid (OwnN wr w5.heap.size (.slice A' k c') (addL sl rl rn P k)) ∧ Hid (Below w5.heap.size w5 wr)) (fun _ i _ => T - (intOf i).toNat)
  case atStart => exact ⟨0, _, _, by omega, rfl, rfl, hown, hbel⟩
  case round =>
    clear hown hbel
    obtain ⟨k, A', c', hk, rfl, rfl, hown, hbw⟩ := hrel
    obtain ⟨wo, hwo⟩ : ∃ wo : World, wo = wr := ⟨_, rfl⟩
    subst hwo
    have X6 := Lib.hid (X5.out.up hbw.out)
    by_cases hlt : k < T
    · have j1 : (k : Int) < (T : Int) := by omega
      obtain ⟨s, hs⟩ : ∃ s, s = addS sl rl rn P k := ⟨_, rfl⟩
      obtain ⟨p1, hp1⟩ : ∃ p, p = maskB (UInt8.ofNat (k + 1)) (P - 1) rl sl := ⟨_, rfl⟩
      obtain ⟨p2, hp2⟩ : ∃ p, p = maskB (UInt8.ofNat (k + 1)) (P - 1) rn p1 := ⟨_, rfl⟩
      have e1 : (splitL sl rl P T)[k]? = some (s.1, p1) := by rw [hs, hp1]; exact split_get _ _ _ _ _ hlt
      have e2 : (newL sl rl rn P T)[k]? = some (s.1, p2) := by rw [hs, hp2, hp1]; exact newL_get _ _ _ _ _ _ hlt
      have n1 : N = p1.length := by rw [hp1, maskB_len]; exact HN.out
      have n2 : N = p2.length := by rw [hp2, maskB_len]; exact n1
      have hsum : s.2 = sumL p1 p2 := by rw [hs, hp2, hp1]; rfl
      have HSM := Lib.hid hsum
      have HSL : Hid (N = s.2.length) := by show N = _; rw [hsum, sumL_len]; exact n1
      have HE : Hid (addL sl rl rn P k ++ [s] = addL sl rl rn P (k + 1)) := by show _ = _; rw [hs]; exact addL_snoc _ _ _ _ _
      obtain ⟨cx, Q1, b1, cy, hsh1, _, _⟩ := shl_at HL45.out e1
      obtain ⟨dx, Q2, b2, dy, hsh2, _, _⟩ := shl_at HL5.out e2
      have HSU : Hid (∀ w1, Below w5.heap.size w5 w1 → Calls Try.prog 27 #[.slice Q1 N b1, .slice Q2 N b2] w1 fun e w' => ∃ A' c', e = .returned (.slice A' N c') ∧ Owns w' w1.heap.size (.slice A' N c') (sumL p1 p2) ∧ Below w1.heap.size w1 w') := fun w1 hb =>
        Sum_any Q1 Q2 N N b1 b2 p1 p2 w1 n1 n2 (hsh1.up hb) (hsh2.up hb) (by omega) (by omega)
      simp only at cy dy cx dx
      rw [← n1] at cy
      rw [← n2] at dy
      clear hs hp1 hp2 e1 e2 n1 n2 hsum hsh1 hsh2
      have HCELL : Hid (∀ w1, Below w5.heap.size w5 w1 → w1.cell? ⟨g3, k * 2, none⟩ = some (.int .u8 (s.1.toNat : Int)) ∧ w1.cell? ⟨g3, k * 2 + 1, none⟩ = some (.slice Q1 N b1) ∧ w1.cell? ⟨g5, k * 2, none⟩ = some (.int .u8 (s.1.toNat : Int)) ∧ w1.cell? ⟨g5, k * 2 + 1, none⟩ = some (.slice Q2 N b2)) := fun w1 hb =>
        ⟨(hb.cell (p := ⟨g3, k * 2, none⟩) (World.block_lt_of_cell? w5 _ cx)).trans cx, (hb.cell (p := ⟨g3, k * 2 + 1, none⟩) (World.block_lt_of_cell? w5 _ cy)).trans cy, (hb.cell (p := ⟨g5, k * 2, none⟩) (World.block_lt_of_cell? w5 _ dx)).trans dx, (hb.cell (p := ⟨g5, k * 2 + 1, none⟩) (World.block_lt_of_cell? w5 _ dy)).trans dy⟩
      clear cx cy dx dy
      obtain ⟨cx, cy, dx, dy⟩ := HCELL.out wo hbw.out
      have q0 := X6.out.d0
      go_wp2
      go_quiet (fail)
      go_wp2
      clear HF HS HR HA HN HNB HAB X2 X3 HB1 HB2 HB3 HL3 HL5 HL45 cx cy dx dy q0 X6
      have hbd : Hid (Below w5.heap.size w5 (wo.drewN nq)) := below_drewN hbw.out nq
      have FF : FN w5.heap.size w5 (wo.drewN nq) (.slice A' k c') (addL sl rl rn P k) := ⟨hbd.out, hown.out.up (below_drewN (Below.refl _ _) nq), hbd.out.size⟩
      generalize wo.drewN nq = wd at *
      have FH := Lib.hid FF
      clear FF hown hbw
      obtain ⟨cx, cy, dx, dy⟩ := HCELL.out wd hbd.out
      have HLE := Lib.hid FH.out.top
      go_region_held_law (fun w' => w'.cell? ⟨g3, k * 2, none⟩ = some (.int .u8 (s.1.toNat : Int)) ∧ w'.cell? ⟨g3, k * 2 + 1, none⟩ = some (.slice Q1 N b1) ∧ w'.cell? ⟨g5, k * 2, none⟩ = some (.int .u8 (s.1.toNat : Int)) ∧ w'.cell? ⟨g5, k * 2 + 1, none⟩ = some (.slice Q2 N b2))
        (first | exact hS8 | exact hS7 | go_keep)
        (first
          | (go_at_call 27; refine (HSU.out _ (by first | exact hbd.out | exact hbd.out.drew | exact hbd.out.drew.drew | exact hbd.out.drew.drew.drew)).mono ?_; rintro e w7 ⟨A7, c7, rfl, ho7, hb7⟩; have HF7 : Hid (FN w5.heap.size w5 w7 (.slice A' k c') (addL sl rl rn P k)) := (by first | exact FH.out.up hb7 | exact FH.out.dr.up hb7 | exact FH.out.dr.dr.up hb7 | exact FH.out.dr.dr.dr.up hb7); have HO7 : Hid (Owns w7 w5.heap.size (.slice A7 N c7) s.2) := (by show Owns _ _ _ _; rw [HSM.out]; exact own_low ho7 HLE.out); have hS7 := HCELL.out w7 HF7.out.bel; clear ho7 hb7)
          | (refine step_growN rfl (.tmp 111) (.tmp 129) rfl w5.heap.size w5 _ (addL sl rl rn P k) s A7 c7 w7.heap.size rfl rfl (by first | exact al_n HF7.out s A7 c7 HSL.out HO7.out | exact (al_n HF7.out s A7 c7 HSL.out HO7.out).dr | exact al_n HF7.out.dr s A7 c7 HSL.out HO7.out | exact (al_n HF7.out.dr s A7 c7 HSL.out HO7.out).dr | exact al_n HF7.out.dr.dr s A7 c7 HSL.out HO7.out | exact (al_n HF7.out.dr.dr s A7 c7 HSL.out HO7.out).dr) (by rw [addL_len]; omega) ?_; intro A8 c8 w8 ho8 hb8; have HO8 := Lib.hid ho8; have HB8 := Lib.hid hb8; have hS8 := HCELL.out w8 hb8; clear ho8 hb8))
      go_wp2_with fail
      go_roundw
      case rel =>
        have h9 := HO8.out
        rw [HE.out, addL_len] at h9
        exact ⟨k + 1, A8, c8, by omega, by go_num, by simp [addL_len], h9, HB8⟩
      case measure => simp [intOf]; omega
    · have hkT : k = T := by omega
      have j1 : ¬ (k : Int) < (T : Int) := by omega
      subst hkT
      obtain ⟨-, hc1, hc2, hsl⟩ := hown.out.shl
      rw [addL_len] at hc1
      have HK1 : Hid (∀ w1, Below wo.heap.size wo w1 → Calls Try.prog 18 #[.slice (some ⟨g5, 0, none⟩) k k, .int .i64 (P : Int)] w1 fun e w' => ∃ g, e = .returned (.tuple #[.slice (some ⟨g, 0, none⟩) N N, .int .i64 0]) ∧ Blk w' g sl ∧ w1.heap.size ≤ g ∧ Below w1.heap.size w1 w') := fun w1 hb => by
        have hcm := combine_ok (some ⟨g5, 0, none⟩) k k (newL sl rl rn P k) P N w1 (newL_len _ _ _ _ _).symm ((HL5.out.up hbw.out).up hb) (by rw [newL_len]; omega) ⟨Nat.le_refl _, by omega⟩ (fun s hs => by rw [newL_lens hs, HN.out]) (by omega) hP1 (by omega) HNB.out.1 hPT HNB.out.2.1
        rw [HNB.out.2.2] at hcm
        exact hcm
      have HK2 : Hid (∀ w1, Below wo.heap.size wo w1 → Calls Try.prog 18 #[.slice A' k c', .int .i64 (P : Int)] w1 fun e w' => ∃ g, e = .returned (.tuple #[.slice (some ⟨g, 0, none⟩) N N, .int .i64 0]) ∧ Blk w' g (List.replicate N 0) ∧ w1.heap.size ≤ g ∧ Below w1.heap.size w1 w') := fun w1 hb => by
        have hcm := combine_ok A' k c' (addL sl rl rn P k) P N w1 (addL_len _ _ _ _ _).symm (hsl.up hb) (by rw [addL_len]; omega) ⟨hc1, hc2⟩ (fun s hs => by rw [addL_lens hs, HN.out]) (by omega) hP1 (by omega) HAB.out.1 hPT HAB.out.2.1
        rw [HAB.out.2.2] at hcm
        exact hcm
      have HB6 := Lib.hid (step_al HB5.out hbw.out)
      have q0 := X6.out.f0
      clear hsl hc1 hc2
      have hmk := make_zeros N (by omega)
      go_wp2_with (first
        | ((with_reducible show Calls _ 18 #[.slice (some ⟨g5, 0, none⟩) _ _, _] _ _); refine (HK1.out _ (Below.refl _ _)).mono ?_; rintro e w7 ⟨g7, rfl, hk7, _, hb7⟩; have HK7 := Lib.hid hk7; have HB67 := Lib.hid hb7; have HB7 := Lib.hid (step_al HB6.out hb7); have X7 := Lib.hid (X6.out.up hb7); have r0 := X7.out.f0; clear hk7 hb7)
        | ((with_reducible show Calls _ 18 _ _ _); refine (HK2.out _ HB67.out).mono ?_; rintro e w8 ⟨g8, rfl, hk8, _, hb8⟩; have HK8 := Lib.hid hk8; have HK78 := Lib.hid (HK7.out.shows.up hb8); have HB8 := Lib.hid (step_al HB7.out hb8); have X8 := Lib.hid (X7.out.up hb8); have r1 := X8.out.d0; clear hk8 hb8)
        | ((with_reducible show Calls _ 23 #[.slice (some ⟨g7, 0, none⟩) _ _, _] _ _); refine (Same_is (some ⟨g7, 0, none⟩) A N ca N sl w8 HN.out HK78.out (HA.out.up HB8.out) (by omega)).mono ?_; rintro e w9 ⟨rfl, hb9⟩; have HB9 := Lib.hid (step_al HB8.out hb9); have HK9 := Lib.hid (HK8.out.shows.up hb9); have X9 := Lib.hid (X8.out.up hb9); have r2 := X9.out.d0; clear hb9)
        | ((with_reducible show Calls _ 23 _ _ _); refine (Same_is (some ⟨g8, 0, none⟩) (some ⟨w9.heap.size, 0, none⟩) N N N (List.replicate N 0) _ (by simp) (HK9.out.up (ba1 w9 (zobj N))) (zobj_blk N w9).shows (by omega)).mono ?_; rintro e w11 ⟨rfl, hb11⟩; have HB11 := Lib.hid (step_al (step_al HB9.out (ba1 w9 (zobj N))) hb11); clear hb11))
      go_ret
      exact ⟨rfl, HB11.out⟩

theorem walk (A : Option Addr) (ca : Nat) (sl : List UInt8) (B : Option Addr) (cb_ : Nat) (rl : List UInt8) (x y : UInt8) (C : Option Addr) (cc : Nat) (rn : List UInt8) (w : World)
    (hsA : Shows w w.heap.size A sl) (hcA : sl.length ≤ ca) (hmA : ca ≤ 140737488351232) (hsB : Shows w w.heap.size B rl) (hcB : rl.length ≤ cb_) (hmB : cb_ ≤ 140737488351232)
    (hsC : Shows w w.heap.size C rn) (hcC : rn.length ≤ cc) (hmC : cc ≤ 140737488351232) :
    Calls Try.prog 9 #[.agg #[.slice A sl.length ca, .slice B rl.length cb_, .int .u8 (x.toNat : Int), .int .u8 (y.toNat : Int)], .slice C rn.length cc] w fun e w' => e = .returned (.bool true) ∧ Below w.heap.size w w' := by
  by_cases h : sl.length ≤ 40 ∧ rl.length ≤ 400 ∧ rn.length ≤ 400
  · exact walk_small A ca sl B cb_ rl x y C cc rn w h.1 h.2.1 h.2.2 hsA hcA hmA hsB hcB hmB hsC hcC hmC
  · exact walk_big A ca sl B cb_ rl x y C cc rn.length w (by omega) (by omega) h

set_option maxRecDepth 100000 in
theorem contract (H : Type) (enc : TypeId × Value → H) (W : World) (base : Nat) (args : Array Value) (ds gs : List (DataW H)) (before : List MemPlace)
    (hval : ∀ (j : Nat) t v, Try.f9.params[j]? = some t → args[j]? = some v → Value.okWide Try.prog W .any base t v)
    (hW : DataW.Whole enc Try.prog Try.f9.params.toList Rows.shareRefreshSpec.vars false W args.toList ds gs before)
    (hsz : (DataW.weightsEach Try.prog (Try.f9.params.toList ++ Rows.shareRefreshSpec.plain.varTypes Try.prog) (ds ++ gs)).all (· ≤ reachBytes) = true) :
    Calls Try.prog 9 args W fun e W' => ∃ v, e = .returned v ∧ Rows.shareRefreshSpec.post enc Try.prog Try.f9 false true false false W args v W' := by
  have hW' := hW
  obtain ⟨p, q, hA0, hV, rfl, _, _⟩ := hW
  have hA : DataW.TrodAll enc Try.prog W 0 (fun _ => true) true Try.f9.params.toList args.toList ds p := hA0
  rw [Try.params9] at hA hval hsz
  obtain ⟨v0, vs0, d0, ds0, p0, q0, hargs, rfl, rfl, h0, r0⟩ := trodAll_cons hA
  obtain ⟨v1, vs1, d1, ds1, p1, q1, rfl, rfl, rfl, h1, r1⟩ := trodAll_cons r0
  obtain ⟨rfl, rfl, rfl⟩ := trodAll_nil r1
  obtain rfl : args = #[v0, v1] := by cases args; simp_all
  obtain ⟨rfl, rfl⟩ := trodVars_none hV
  have k0 := h0
  have lt0 : ∀ x ∈ p0, x.block < W.heap.size := by obtain ⟨m, hm⟩ := k0; exact DataW.trod_lt m _ _ _ hm
  have S0 : ∀ n ∈ d0.weights Try.prog 29, n ≤ 140737488351232 := weights_le hsz (j := 0) rfl rfl
  have k1 := h1
  have lt1 : ∀ x ∈ p1, x.block < W.heap.size := by obtain ⟨m, hm⟩ := k1; exact DataW.trod_lt m _ _ _ hm
  have S1 : ∀ n ∈ d1.weights Try.prog 27, n ≤ 140737488351232 := weights_le hsz (j := 1) rfl rfl
  obtain ⟨A0, ca0, sl0, B0, cb0, rl0, x0, y0, rfl, hsA0, hcA0, hsB0, hcB0, Y0⟩ := open_deal (hval 0 29 v0 rfl rfl) h0
  have Z0 := Y0 S0
  obtain ⟨a1, len1, cap1, rfl⟩ := okWide_slice Try.underlying27 (hval 1 27 v1 rfl rfl)
  obtain ⟨fu1, hf1⟩ := h1
  obtain ⟨l1, rfl, hlc1, _, hs1, hcp1, hd1⟩ := open_bytes hf1
  have hc1 : cap1 ≤ 140737488351232 := by rw [hcp1]; exact places_le hd1 S1
  refine (walk A0 ca0 sl0 B0 cb0 rl0 x0 y0 a1 cap1 l1 W hsA0 hcA0 Z0.1 hsB0 hcB0 Z0.2 hs1 hlc1 hc1).mono fun e W' ⟨he, bel⟩ => ?_
  subst he
  exact ⟨_, rfl, _, _, _, [], _, [], hW', trodAll_mk1 (shut_bool Try.underlying4 _), (trodAll_cons_mk (Below.trod laidOut (by kernel_rfl) (of_decide_eq_true (by kernel_rfl)) k0 bel lt0) (trodAll_cons_mk (Below.trod laidOut (by kernel_rfl) (of_decide_eq_true (by kernel_rfl)) k1 bel lt1) trodAll_mk0)), rfl, bel.frame _, fun h => by cases h⟩

set_option maxRecDepth 100000 in
theorem lifted (os : Os) (started : os.Started) (H : Type) (enc : TypeId × Value → H) :
    ReturnsInHanded {} Try.checked os 9 .any (Rows.shareRefreshSpec.pre6 enc Try.prog Try.f9 Rows.shareRefreshRow.domain false) (Rows.shareRefreshSpec.post enc Try.prog Try.f9 false true false false) := by
  refine returnsInHanded_of_change_sized (C := Try.checked) own started (by kernel_rfl) Try.func9
    (ChangeSpec.witness6 (enc := enc) (C := Try.checked) false ⟨#[], #[.agg #[.slice none 0 0, .slice none 0 0, .int .u8 0, .int .u8 0], .slice none 0 0], []⟩ 8 (by kernel_rfl) (by kernel_rfl) (by kernel_rfl) (by kernel_rfl)) ?_
  intro W base args ds gs before hval hW _ hsz _
  exact contract H enc W base args ds gs before hval hW hsz

/-- The statement. -/
theorem proved : Rows.ShareRefreshSaid :=
  OpenClaim.holds_of_wide 9 Try.f9 rfl rfl rfl rfl rfl rfl rfl ⟨rfl, rfl, rfl, rfl, rfl⟩ rfl rfl rfl rfl rfl (by kernel_rfl) Try.func9 (by kernel_rfl)
    (of_decide_eq_true (by kernel_rfl)) (by unfold Func.isWrapper; rw [if_neg (of_decide_eq_false (by kernel_rfl))]; exact ⟨rfl, rfl⟩)
    (fun os started H enc _ => lifted os started H enc)
end Go.Proofs.Ytoobljmiagdmhaa.refr
