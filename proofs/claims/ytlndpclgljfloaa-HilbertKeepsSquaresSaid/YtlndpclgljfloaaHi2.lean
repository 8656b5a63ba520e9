/-
  The program's Index: by a contract.
-/
import Derived.Test.YtlndpclgljfloaaHi1
import Derived.Deep.LoopGhost
import Derived.BigQuiet
import Derived.Outline
import Derived.Deep.CutRange
import Derived.Deep.DeepCutAuto
import Derived.Deep.QuietTactic
namespace Go.Proofs.Ytlndpclgljfloaa
open Go.RowKit

/-- a fresh variable of the quadrants' type -/
def ZS : List Value := [.int .u32 0, .int .u32 0, .nilFunc, .nilFunc, .int .u32 0, .int .u32 0, .nilFunc, .nilFunc, .int .u32 0, .int .u32 0, .nilFunc, .nilFunc, .int .u32 0, .int .u32 0, .nilFunc, .nilFunc]
theorem info67 : (Try.prog.info? 67).map (·.size) = some 16 := by kernel_rfl
theorem QS_one : ∀ u ∈ QS, u.oneCell' = true := by decide
theorem qix0 (w : World) : (Instr.index 67 (.agg QS.toArray) (.int .i64 0)).run Try.prog w = .ok (.agg #[.int .u32 0, .int .u32 0, .func (.func 42) #[] #[], .func (.func 42) #[] #[]]) w := by kernel_rfl
theorem qix1 (w : World) : (Instr.index 67 (.agg QS.toArray) (.int .i64 1)).run Try.prog w = .ok (.agg #[.int .u32 0, .int .u32 1, .func (.func 43) #[] #[], .func (.func 44) #[] #[]]) w := by kernel_rfl
theorem qix2 (w : World) : (Instr.index 67 (.agg QS.toArray) (.int .i64 2)).run Try.prog w = .ok (.agg #[.int .u32 1, .int .u32 1, .func (.func 45) #[] #[], .func (.func 46) #[] #[]]) w := by kernel_rfl
theorem qix3 (w : World) : (Instr.index 67 (.agg QS.toArray) (.int .i64 3)).run Try.prog w = .ok (.agg #[.int .u32 1, .int .u32 0, .func (.func 47) #[] #[], .func (.func 48) #[] #[]]) w := by kernel_rfl
/-- the quadrant of a point, and where the point lies in it -/
def qn (s x y : Nat) : Nat := if x < s then (if y < s then 0 else 1) else if s ≤ y then 2 else 3
def en (s q x y : Nat) : Nat × Nat := if q = 0 then (y, x) else if q = 1 then (x, y - s) else if q = 2 then (x - s, y - s) else (s - 1 - y, 2 * s - 1 - x)
theorem hI_en (m x y : Nat) : Hb.hI (m + 1) x y = qn (2 ^ m) x y * (2 ^ m * 2 ^ m) + Hb.hI m (en (2 ^ m) (qn (2 ^ m) x y) x y).1 (en (2 ^ m) (qn (2 ^ m) x y) x y).2 := by
  rw [Hb.hI]
  unfold qn
  split
  · split
    · simp [en]
    · simp [en]
  · split
    · simp [en]
    · simp [en]
/-- what Index answers -/
def idxOk (K : Int) (x y : Nat) : Bool := isOB K && decide (x < 2 ^ K.toNat) && decide (y < 2 ^ K.toNat)
/-- the head of Index's loop: what is left of the curve -/
structure IxI (w : World) (N x y m i : Nat) (wr : World) : Prop where
  b : Below w.heap.size w wr
  c : CB wr (w.heap.size + 1) 67 QS
  hx : x < 2 ^ m
  hy : y < 2 ^ m
  e : N = i * (2 ^ m * 2 ^ m) + Hb.hI m x y
  m : m ≤ 16
theorem IxI.lt {w wr : World} {N x y m i : Nat} (h : IxI w N x y m i wr) (hN : N < 4294967296) : i < 4294967296 := by
  have e := h.e
  have : i * 1 ≤ i * (2 ^ m * 2 ^ m) := Nat.mul_le_mul_left _ (Nat.mul_pos (Nat.two_pow_pos m) (Nat.two_pow_pos m))
  omega
theorem IxI.done {w wr : World} {N x y i : Nat} (h : IxI w N x y 0 i wr) : N = i := by
  have e := h.e
  simp [Hb.hI] at e
  exact e
theorem pow_half {K : Nat} (h : 0 < K) : 2 ^ (K - 1) = 2 ^ K / 2 := by
  obtain ⟨k, rfl⟩ : ∃ k, K = k + 1 := ⟨K - 1, by omega⟩
  rw [Nat.pow_succ, Nat.mul_div_cancel _ (by decide)]; rfl
theorem half_pow (m : Nat) : 2 ^ (m + 1) / 2 = 2 ^ m := by rw [Nat.pow_succ, Nat.mul_div_cancel _ (by decide)]
theorem pow_mod {k : Nat} (h : k < 32) : (2 : Int) ^ k % 4294967296 = ((2 ^ k : Nat) : Int) := by
  have : 2 ^ k < 2 ^ 32 := Nat.pow_lt_pow_right (by decide) h
  have e : (2 : Int) ^ k = ((2 ^ k : Nat) : Int) := by push_cast; rfl
  rw [e]
  exact Int.emod_eq_of_lt (Int.natCast_nonneg _) (Int.ofNat_lt.2 this)
theorem ix_e {N i q m S x y : Nat} (hS : 2 ^ m = S) (h : N = i * (2 ^ (m + 1) * 2 ^ (m + 1)) + (q * (S * S) + Hb.hI m x y)) : N = (4 * i + q) * (2 ^ m * 2 ^ m) + Hb.hI m x y := by
  rw [h, Hb.sq, hS, Nat.add_mul, Nat.mul_comm 4 i, Nat.mul_assoc]
  omega
theorem quo0 {X S : Nat} (h : X < S) : (X : Int) / (S : Int) = 0 := by
  rw [← Int.natCast_ediv, Nat.div_eq_of_lt h]; rfl
theorem quo1 {X S : Nat} (h : X < S * 2) (h1 : S ≤ X) : (X : Int) / (S : Int) = 1 := by
  rw [← Int.natCast_ediv, Nat.div_eq_of_lt_le (k := 1) (by omega) (by omega)]; rfl
set_option maxHeartbeats 4000000 in
set_option maxRecDepth 20000 in
theorem Index_ok (K x y : Nat) (w : World) (hK : 1 ≤ K ∧ K ≤ 16) (hx : x < 2 ^ K) (hy : y < 2 ^ K) :
    Calls Try.prog 11 #[.int .i64 K, .int .u32 x, .int .u32 y] w fun e w' => e = .returned (.tuple #[.int .u64 (Hb.hI K x y : Nat), .int .i64 0]) ∧ Below w.heap.size w w' := by
  have j0 : isOB (K : Int) = true := decide_eq_true (by omega)
  have j1 : decide (x < 2 ^ K) = true := decide_eq_true hx
  have j2 : decide (y < 2 ^ K) = true := decide_eq_true hy
  obtain ⟨N, hN⟩ : ∃ N, Hb.hI K x y = N := ⟨_, rfl⟩
  have HN := Li hN
  have hNL : N < 4294967296 := by
    have h := Hb.hI_lt K x y hx hy
    have h2 : 2 ^ K ≤ 2 ^ 16 := Nat.pow_le_pow_right (by decide) hK.2
    have h3 : 2 ^ K * 2 ^ K ≤ 2 ^ 16 * 2 ^ 16 := Nat.mul_le_mul h2 h2
    rw [← hN]; omega
  have HNL := Li hNL
  have hKp : 0 < K := hK.1
  rw [hN]
  have HX := Li hx
  have HY := Li hy
  have J0 := Li j0
  have J1 := Li j1
  have J2 := Li j2
  have B2 := Li (al2 w (.cells QS.toArray 67) (.cells ZS.toArray 67))
  have hk1 : (1 : Int) ≤ (K : Int) := by omega
  have hk2 : (K : Int) ≤ 16 := by omega
  clear hN hNL hx hy j0 j1 j2
  go_enter Try.func11, Try.ntmps11
  go_wp2_with (first
    | (go_at_call 26; refine (isOrder_any _ _).mono ?_; rintro e w1 ⟨rfl, hw1⟩; subst w1; rw [J0.out])
    | (go_at_call 27; refine (isCoord_any x K _ (by omega)).mono ?_; rintro e w1 ⟨rfl, hw1⟩; subst w1; rw [J1.out])
    | (go_at_call 27; refine (isCoord_any y K _ (by omega)).mono ?_; rintro e w1 ⟨rfl, hw1⟩; subst w1; rw [J2.out])
    | (go_at_call 28; refine (quadrants_any _).mono ?_; rintro e w1 ⟨rfl, hw1⟩; subst w1)
    | ((with_reducible show wpList _ _ _ (Oper.mk none (.store _ _ _) _ _ _ _ :: _) _ _); refine wpList_store_cb rfl 67 (.tmp 8) (.tmp 28) rfl (w.heap.size + 1) QS rfl rfl 67 ZS 16 (CB.new1 w (.cells QS.toArray 67) 67 ZS) info67 rfl rfl QS_one ?_; intro w3 hc3 hg3 hz3; have C3 := Li hc3; have B3 := Li (below_grown B2.out hg3 (by simp; omega) (by omega)); clear hc3 hg3 hz3))
  go_loopw [1, 2, 9, 10] (fun s1 s2 s9 s10 wr => ∃ m X Y i S : Nat, s1 = .int .u32 X ∧ s2 = .int .u32 Y ∧ s9 = .int .u64 i ∧ s10 = .int .u32 S ∧ Hid (S = 2 ^ m / 2) ∧ Hid (IxI w N X Y m i wr)) (fun _ _ _ s10 _ => (intOf s10).toNat)
  case atStart => exact ⟨K, x, y, 0, 2 ^ (K - 1), rfl, rfl, rfl, by rw [pow_mod (by omega)], Li (pow_half hKp), Li ⟨B3.out, C3.out, HX.out, HY.out, by rw [Nat.zero_mul, Nat.zero_add]; exact HN.out.symm, by omega⟩⟩
  case round =>
    clear B2 B3 C3
    obtain ⟨m, X, Y, i, S, rfl, rfl, rfl, rfl, HS, HI⟩ := hrel
    have hi32 : i < 4294967296 := HI.out.lt HNL.out
    have i0 : (0 : Int) ≤ (i : Int) := by omega
    rcases Nat.eq_zero_or_pos m with hm | hm
    · subst hm
      obtain rfl : S = 0 := HS.out
      go_wp2
      go_ret2
      exact ⟨by rw [HI.out.done]; rfl, HI.out.b⟩
    · obtain ⟨m, rfl⟩ : ∃ m', m = m' + 1 := ⟨m - 1, by omega⟩
      obtain rfl : S = 2 ^ m := HS.out.trans (half_pow m)
      have hm16 := HI.out.m
      have hXb := HI.out.hx
      have hYb := HI.out.hy
      rw [Nat.pow_succ] at hXb hYb
      have hE := HI.out.e
      rw [hI_en] at hE
      have hS31 : 2 ^ m < 2 ^ 31 := Nat.pow_lt_pow_right (by decide) (by omega)
      have hS0 : 0 < 2 ^ m := Nat.two_pow_pos m
      have HXB := Li hXb
      have HYB := Li hYb
      have HE := Li hE
      have hlt : ∀ {a b : Nat}, a < 2 ^ m → b < 2 ^ m → a < 2 ^ m ∧ b < 2 ^ m := fun h1 h2 => ⟨h1, h2⟩
      have HM := Li (rfl : 2 ^ m = 2 ^ m)
      clear hXb hYb hE hm hlt HM
      obtain ⟨S, hSm⟩ : ∃ S, 2 ^ m = S := ⟨_, rfl⟩
      have HSm := Li hSm
      rw [hSm] at HS HE HXB HYB hS31 hS0 ⊢
      clear hSm
      have hX32 : X < 2 ^ 32 := by have := HXB.out; omega
      have hY32 : Y < 2 ^ 32 := by have := HYB.out; omega
      have HX2 := Li (show X < 2 * S by have := HXB.out; omega)
      have HB0 := Li HI.out.b
      have HC0 := Li HI.out.c
      have z0 := HI.out.c.lt
      have s0 : (0 : Int) < (S : Int) := by omega
      have s1 : ¬ (S : Int) = 0 := by omega
      have hx0 : (0 : Int) ≤ (X : Int) := by omega
      have hy0 : (0 : Int) ≤ (Y : Int) := by omega
      have HIE := Li (And.intro HI.out.b.size HI.out.m)
      clear HI
      have hcase : (X < S ∧ Y < S) ∨ (X < S ∧ S ≤ Y) ∨ (S ≤ X ∧ S ≤ Y) ∨ (S ≤ X ∧ Y < S) := by omega
      rcases hcase with ⟨h1, h2⟩ | ⟨h1, h2⟩ | ⟨h1, h2⟩ | ⟨h1, h2⟩
      · have hdx : (X : Int) / (S : Int) = 0 := quo0 h1
        have hdy : (Y : Int) / (S : Int) = 0 := quo0 h2
        have hqn : qn S X Y = 0 := by unfold qn; split <;> (try split) <;> omega
        replace HE := Li HE.out
        rw [hqn] at HE
        have HYS := Li h2
        have HXS := Li h1
        have HA := Li (show Y < S by have := HXB.out; have := HYB.out; omega)
        have HB := Li (show X < S by have := HXB.out; have := HYB.out; omega)
        clear h1 h2 hqn
        have qi0 := qix0; have qi1 := qix1; have qi2 := qix2; have qi3 := qix3
        go_wp2_with ((with_reducible show wpList _ _ _ (Oper.mk _ (.load _ _) _ _ _ _ :: _) _ _); refine wpList_load_cb rfl 67 (.tmp 8) rfl (w.heap.size + 1) rfl 67 QS _ HC0.out Try.underlying67 rfl 16 info67 rfl ?_)
        go_loopw [1, 2, 9, 37] (fun s1 s2 s9 s37 wy => ∃ n : Nat, n ≤ 0 ∧ s1 = .int .u32 X ∧ s2 = .int .u32 Y ∧ s9 = .int .u64 i ∧ s37 = .int .i64 n ∧ Hid (Below w.heap.size w wy) ∧ Hid (CB wy (w.heap.size + 1) 67 QS)) (fun _ _ _ s37 _ => 4 - (intOf s37).toNat)
        case atStart => exact ⟨0, by omega, rfl, rfl, rfl, rfl, HB0, HC0⟩
        case round =>
          clear HB0 HC0 z0
          obtain ⟨n, hn, rfl, rfl, rfl, rfl, HB1, HC1⟩ := hrel
          have z1 := HC1.out.lt
          have hn2 : n = 0 := by omega
          rcases hn2 with rfl
          · go_upto_region 11 with fail
            go_quiet (fail)
            go_wp2_with (go_at_call 42; refine (q1_any X Y S _).mono ?_; rintro e w5 ⟨rfl, hw5⟩; subst w5)
            go_roundw
            case rel => exact ⟨m, Y, X, 4 * i + 0, S / 2, rfl, rfl, by go_num, by go_num, Li (by rw [HSm.out]), Li ⟨below_drewN (HB1.out.alloc HB1.out.size _) _, (HC1.out.alloc _).drewN _, by rw [HSm.out]; exact HA.out, by rw [HSm.out]; exact HB.out, ix_e HSm.out HE.out, by omega⟩⟩
            case measure => simp [intOf]; omega
      · have hdx : (X : Int) / (S : Int) = 0 := quo0 h1
        have hdy : (Y : Int) / (S : Int) = 1 := quo1 HYB.out h2
        have hqn : qn S X Y = 1 := by unfold qn; split <;> (try split) <;> omega
        replace HE := Li HE.out
        rw [hqn] at HE
        have HSY := Li h2
        have HXS := Li h1
        have HA := Li (show X < S by have := HXB.out; have := HYB.out; omega)
        have HB := Li (show (Y - S) < S by have := HXB.out; have := HYB.out; omega)
        clear h1 h2 hqn
        have qi0 := qix0; have qi1 := qix1; have qi2 := qix2; have qi3 := qix3
        go_wp2_with ((with_reducible show wpList _ _ _ (Oper.mk _ (.load _ _) _ _ _ _ :: _) _ _); refine wpList_load_cb rfl 67 (.tmp 8) rfl (w.heap.size + 1) rfl 67 QS _ HC0.out Try.underlying67 rfl 16 info67 rfl ?_)
        go_loopw [1, 2, 9, 37] (fun s1 s2 s9 s37 wy => ∃ n : Nat, n ≤ 1 ∧ s1 = .int .u32 X ∧ s2 = .int .u32 Y ∧ s9 = .int .u64 i ∧ s37 = .int .i64 n ∧ Hid (Below w.heap.size w wy) ∧ Hid (CB wy (w.heap.size + 1) 67 QS)) (fun _ _ _ s37 _ => 4 - (intOf s37).toNat)
        case atStart => exact ⟨0, by omega, rfl, rfl, rfl, rfl, HB0, HC0⟩
        case round =>
          clear HB0 HC0 z0
          obtain ⟨n, hn, rfl, rfl, rfl, rfl, HB1, HC1⟩ := hrel
          have z1 := HC1.out.lt
          have hn2 : n = 0 ∨ n = 1 := by omega
          rcases hn2 with rfl | rfl
          · go_upto_region 11 with fail
            go_quiet (fail)
            go_wp2
            go_roundw
            case rel => exact ⟨1, by omega, rfl, rfl, rfl, by go_num, Li (below_drewN (HB1.out.alloc HB1.out.size _) _), Li ((HC1.out.alloc _).drewN _)⟩
            case measure => simp [intOf]
          · go_upto_region 11 with fail
            go_quiet (fail)
            go_wp2_with (go_at_call 43; refine (q2_any X Y S _ HSY.out hY32).mono ?_; rintro e w5 ⟨rfl, hw5⟩; subst w5)
            go_roundw
            case rel => exact ⟨m, X, (Y - S), 4 * i + 1, S / 2, rfl, rfl, by go_num, by go_num, Li (by rw [HSm.out]), Li ⟨below_drewN (HB1.out.alloc HB1.out.size _) _, (HC1.out.alloc _).drewN _, by rw [HSm.out]; exact HA.out, by rw [HSm.out]; exact HB.out, ix_e HSm.out HE.out, by omega⟩⟩
            case measure => simp [intOf]; omega
      · have hdx : (X : Int) / (S : Int) = 1 := quo1 HXB.out h1
        have hdy : (Y : Int) / (S : Int) = 1 := quo1 HYB.out h2
        have hqn : qn S X Y = 2 := by unfold qn; split <;> (try split) <;> omega
        replace HE := Li HE.out
        rw [hqn] at HE
        have HSY := Li h2
        have HSX := Li h1
        have HA := Li (show (X - S) < S by have := HXB.out; have := HYB.out; omega)
        have HB := Li (show (Y - S) < S by have := HXB.out; have := HYB.out; omega)
        clear h1 h2 hqn
        have qi0 := qix0; have qi1 := qix1; have qi2 := qix2; have qi3 := qix3
        go_wp2_with ((with_reducible show wpList _ _ _ (Oper.mk _ (.load _ _) _ _ _ _ :: _) _ _); refine wpList_load_cb rfl 67 (.tmp 8) rfl (w.heap.size + 1) rfl 67 QS _ HC0.out Try.underlying67 rfl 16 info67 rfl ?_)
        go_loopw [1, 2, 9, 37] (fun s1 s2 s9 s37 wy => ∃ n : Nat, n ≤ 2 ∧ s1 = .int .u32 X ∧ s2 = .int .u32 Y ∧ s9 = .int .u64 i ∧ s37 = .int .i64 n ∧ Hid (Below w.heap.size w wy) ∧ Hid (CB wy (w.heap.size + 1) 67 QS)) (fun _ _ _ s37 _ => 4 - (intOf s37).toNat)
        case atStart => exact ⟨0, by omega, rfl, rfl, rfl, rfl, HB0, HC0⟩
        case round =>
          clear HB0 HC0 z0
          obtain ⟨n, hn, rfl, rfl, rfl, rfl, HB1, HC1⟩ := hrel
          have z1 := HC1.out.lt
          have hn2 : n = 0 ∨ n = 1 ∨ n = 2 := by omega
          rcases hn2 with rfl | rfl | rfl
          · go_upto_region 11 with fail
            go_quiet (fail)
            go_wp2
            go_roundw
            case rel => exact ⟨1, by omega, rfl, rfl, rfl, by go_num, Li (below_drewN (HB1.out.alloc HB1.out.size _) _), Li ((HC1.out.alloc _).drewN _)⟩
            case measure => simp [intOf]
          · go_upto_region 11 with fail
            go_quiet (fail)
            go_wp2
            go_roundw
            case rel => exact ⟨2, by omega, rfl, rfl, rfl, by go_num, Li (below_drewN (HB1.out.alloc HB1.out.size _) _), Li ((HC1.out.alloc _).drewN _)⟩
            case measure => simp [intOf]
          · go_upto_region 11 with fail
            go_quiet (fail)
            go_wp2_with (go_at_call 45; refine (q4_any X Y S _ HSX.out HSY.out hX32 hY32).mono ?_; rintro e w5 ⟨rfl, hw5⟩; subst w5)
            go_roundw
            case rel => exact ⟨m, (X - S), (Y - S), 4 * i + 2, S / 2, rfl, rfl, by go_num, by go_num, Li (by rw [HSm.out]), Li ⟨below_drewN (HB1.out.alloc HB1.out.size _) _, (HC1.out.alloc _).drewN _, by rw [HSm.out]; exact HA.out, by rw [HSm.out]; exact HB.out, ix_e HSm.out HE.out, by omega⟩⟩
            case measure => simp [intOf]; omega
      · have hdx : (X : Int) / (S : Int) = 1 := quo1 HXB.out h1
        have hdy : (Y : Int) / (S : Int) = 0 := quo0 h2
        have hqn : qn S X Y = 3 := by unfold qn; split <;> (try split) <;> omega
        replace HE := Li HE.out
        rw [hqn] at HE
        have HSX := Li h1
        have HYS := Li h2
        have HA := Li (show (S - 1 - Y) < S by have := HXB.out; have := HYB.out; omega)
        have HB := Li (show (2 * S - 1 - X) < S by have := HXB.out; have := HYB.out; omega)
        clear h1 h2 hqn
        have qi0 := qix0; have qi1 := qix1; have qi2 := qix2; have qi3 := qix3
        go_wp2_with ((with_reducible show wpList _ _ _ (Oper.mk _ (.load _ _) _ _ _ _ :: _) _ _); refine wpList_load_cb rfl 67 (.tmp 8) rfl (w.heap.size + 1) rfl 67 QS _ HC0.out Try.underlying67 rfl 16 info67 rfl ?_)
        go_loopw [1, 2, 9, 37] (fun s1 s2 s9 s37 wy => ∃ n : Nat, n ≤ 3 ∧ s1 = .int .u32 X ∧ s2 = .int .u32 Y ∧ s9 = .int .u64 i ∧ s37 = .int .i64 n ∧ Hid (Below w.heap.size w wy) ∧ Hid (CB wy (w.heap.size + 1) 67 QS)) (fun _ _ _ s37 _ => 4 - (intOf s37).toNat)
        case atStart => exact ⟨0, by omega, rfl, rfl, rfl, rfl, HB0, HC0⟩
        case round =>
          clear HB0 HC0 z0
          obtain ⟨n, hn, rfl, rfl, rfl, rfl, HB1, HC1⟩ := hrel
          have z1 := HC1.out.lt
          have hn2 : n = 0 ∨ n = 1 ∨ n = 2 ∨ n = 3 := by omega
          rcases hn2 with rfl | rfl | rfl | rfl
          · go_upto_region 11 with fail
            go_quiet (fail)
            go_wp2
            go_roundw
            case rel => exact ⟨1, by omega, rfl, rfl, rfl, by go_num, Li (below_drewN (HB1.out.alloc HB1.out.size _) _), Li ((HC1.out.alloc _).drewN _)⟩
            case measure => simp [intOf]
          · go_upto_region 11 with fail
            go_quiet (fail)
            go_wp2
            go_roundw
            case rel => exact ⟨2, by omega, rfl, rfl, rfl, by go_num, Li (below_drewN (HB1.out.alloc HB1.out.size _) _), Li ((HC1.out.alloc _).drewN _)⟩
            case measure => simp [intOf]
          · go_upto_region 11 with fail
            go_quiet (fail)
            go_wp2
            go_roundw
            case rel => exact ⟨3, by omega, rfl, rfl, rfl, by go_num, Li (below_drewN (HB1.out.alloc HB1.out.size _) _), Li ((HC1.out.alloc _).drewN _)⟩
            case measure => simp [intOf]
          · go_upto_region 11 with fail
            go_quiet (fail)
            go_wp2_with (go_at_call 47; refine (q6_any X Y S _ hS31 HYS.out HX2.out).mono ?_; rintro e w5 ⟨rfl, hw5⟩; subst w5)
            go_roundw
            case rel => exact ⟨m, (S - 1 - Y), (2 * S - 1 - X), 4 * i + 3, S / 2, rfl, rfl, by go_num, by go_num, Li (by rw [HSm.out]), Li ⟨below_drewN (HB1.out.alloc HB1.out.size _) _, (HC1.out.alloc _).drewN _, by rw [HSm.out]; exact HA.out, by rw [HSm.out]; exact HB.out, ix_e HSm.out HE.out, by omega⟩⟩
            case measure => simp [intOf]; omega
end Go.Proofs.Ytlndpclgljfloaa
