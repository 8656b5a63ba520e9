/-
  The program's Point at other orders and indices; the reference's index and point, Index and Point: by contracts.
-/
import Derived.Test.YtlndpclgljfloaaHi3
namespace Go.Proofs.Ytlndpclgljfloaa
open Go.RowKit

def ptX (K : Int) (i : Nat) : Nat := if ptB K i then (Hb.hP K.toNat i).1 else 0
def ptY (K : Int) (i : Nat) : Nat := if ptB K i then (Hb.hP K.toNat i).2 else 0
def ptE (K : Int) (i : Nat) : Int := if ptB K i then 0 else 1
theorem pt_bad {K : Int} {i : Nat} (h : ptB K i = false) : ptX K i = 0 ∧ ptY K i = 0 ∧ ptE K i = 1 := by
  unfold ptX ptY ptE
  rw [h]
  exact ⟨rfl, rfl, rfl⟩
theorem pt_good {k i : Nat} (h : ptB (k : Int) i = true) : ptX k i = (Hb.hP k i).1 ∧ ptY k i = (Hb.hP k i).2 ∧ ptE k i = 0 := by
  unfold ptX ptY ptE
  rw [h]
  exact ⟨rfl, rfl, rfl⟩
theorem ptB_of {k i : Nat} (h : isOB (k : Int) = true) : ptB (k : Int) i = decide (i < 2 ^ k * 2 ^ k) := by
  unfold ptB
  rw [h, Bool.true_and, Int.toNat_natCast]
set_option maxHeartbeats 2000000 in
theorem Point_any (K : Int) (i : Nat) (w : World) :
    Calls Try.prog 13 #[.int .i64 K, .int .u64 i] w fun e w' => e = .returned (.tuple #[.int .u32 (ptX K i : Nat), .int .u32 (ptY K i : Nat), .int .i64 (ptE K i)]) ∧ Below w.heap.size w w' := by
  cases h0 : isOB K with
  | false =>
    obtain ⟨e1, e2, e3⟩ := pt_bad (K := K) (i := i) (by unfold ptB; rw [h0]; rfl)
    have J0 := Li h0
    rw [e1, e2, e3]
    clear h0 e1 e2 e3
    go_enter Try.func13, Try.ntmps13
    go_wp2_with (go_at_call 26; refine (isOrder_any _ _).mono ?_; rintro e w1 ⟨rfl, hw1⟩; subst w1; rw [J0.out])
    go_ret3
    exact ⟨rfl, Below.refl _ _⟩
  | true =>
    obtain ⟨k, rfl, hk1, hk2⟩ := ob_nat h0
    have J0 := Li h0
    have hB := ptB_of (i := i) h0
    by_cases h1 : i < 2 ^ k * 2 ^ k
    · rw [decide_eq_true h1] at hB
      obtain ⟨e1, e2, e3⟩ := pt_good hB
      rw [e1, e2, e3]
      exact Point_ok k i w ⟨hk1, hk2⟩ h1
    · rw [decide_eq_false h1] at hB
      obtain ⟨e1, e2, e3⟩ := pt_bad hB
      rw [e1, e2, e3]
      have hsh : ((i : Int) / 2 ^ (2 * k) != 0) = true := by rw [shiftB, decide_eq_false h1]; rfl
      clear h0 h1 e1 e2 e3 hB
      go_enter Try.func13, Try.ntmps13
      go_wp2_with (go_at_call 26; refine (isOrder_any _ _).mono ?_; rintro e w1 ⟨rfl, hw1⟩; subst w1; rw [J0.out])
      go_ret3
      exact ⟨rfl, Below.refl _ _⟩
theorem sqb {m : Nat} (h : m ≤ 15) : 2 ^ m ≤ 32768 ∧ 0 < 2 ^ m ∧ 2 ^ m * 2 ^ m ≤ 1073741824 := by
  have h1 : 2 ^ m ≤ 2 ^ 15 := Nat.pow_le_pow_right (by decide) h
  have h2 : 2 ^ m * 2 ^ m ≤ 2 ^ 15 * 2 ^ 15 := Nat.mul_le_mul h1 h1
  exact ⟨by omega, Nat.two_pow_pos m, by omega⟩
theorem mulw {S Q : Nat} (hQ : S * S = Q) (hQb : Q ≤ 1073741824) (hS : S ≤ 32768) : IntKind.u64.wrap (IntKind.u64.wrap (S : Int) * IntKind.u64.wrap (S : Int)) = (Q : Int) := by
  have e0 : IntKind.u64.wrap (S : Int) = S := by rw [IntKind.wrap_u64]; omega
  rw [e0, ← Int.natCast_mul, hQ, IntKind.wrap_u64]; omega
theorem mulw2 {S Q : Nat} (hQ : S * S = Q) (hQb : Q ≤ 1073741824) : IntKind.u64.wrap ((S : Int) * (S : Int)) = (Q : Int) ∧ (S : Int) * (S : Int) = (Q : Int) := by
  rw [← Int.natCast_mul, hQ, IntKind.wrap_u64]
  exact ⟨by omega, rfl⟩
set_option maxHeartbeats 4000000 in
theorem index_any : ∀ (k x y : Nat) (w : World), k ≤ 16 → x < 2 ^ k → y < 2 ^ k →
    Calls Try.prog 29 #[.int .i64 k, .int .u32 x, .int .u32 y] w fun e w' => e = .returned (.int .u64 (Hb.hI k x y : Nat)) ∧ w' = w := by
  intro k
  induction k with
  | zero =>
    intro x y w _ _ _
    go_enter Try.func29, Try.ntmps29
    go_wp2_with fail
    go_ret
    exact ⟨rfl, rfl⟩
  | succ m ih =>
    intro x y w hk hx hy
    obtain ⟨b1, b2, b3⟩ := sqb (m := m) (by omega)
    rw [Nat.pow_succ] at hx hy
    have hpm : (2 : Int) ^ m % 4294967296 = ((2 ^ m : Nat) : Int) := pow_mod (by omega)
    have hlt := Hb.hI_lt m
    have hE := hI_en m x y
    obtain ⟨S, hS⟩ : ∃ S, 2 ^ m = S := ⟨_, rfl⟩
    obtain ⟨Q, hQ⟩ : ∃ Q, S * S = Q := ⟨_, rfl⟩
    rw [hS] at hx hy b1 b2 b3 hpm hlt hE ih
    rw [hQ] at b3 hlt hE
    obtain ⟨q1, q2⟩ := mulw2 hQ b3
    rw [hE]
    have IH := Li ih
    have HLT := Li hlt
    have m0 : ¬ ((m : Int) + 1 = 0) := by omega
    have hm15 : m ≤ 15 := by omega
    clear hE ih hlt hS hQ hk
    have hcase : (x < S ∧ y < S) ∨ (x < S ∧ S ≤ y) ∨ (S ≤ x ∧ S ≤ y) ∨ (S ≤ x ∧ y < S) := by omega
    rcases hcase with ⟨h1, h2⟩ | ⟨h1, h2⟩ | ⟨h1, h2⟩ | ⟨h1, h2⟩
    · have HQN := Li (show qn S x y = 0 by unfold qn; split <;> (try split) <;> omega)
      have ha : y < S := by omega
      have hb : x < S := by omega
      have hl := HLT.out y x ha hb
      obtain ⟨V, hV⟩ : ∃ V, Hb.hI m y x = V := ⟨_, rfl⟩
      rw [hV] at hl
      have HV := Li hV
      have HR := Li (IH.out y x w (by omega) ha hb)
      rw [hV] at HR
      rw [HQN.out]
      clear hV
      go_enter Try.func29, Try.ntmps29
      go_wp2_with (go_at_call 29; refine HR.out.mono ?_; rintro e w5 ⟨rfl, hw5⟩; subst w5)
      go_ret
      exact ⟨by simp [en, HV.out], rfl⟩
    · have HQN := Li (show qn S x y = 1 by unfold qn; split <;> (try split) <;> omega)
      have ha : x < S := by omega
      have hb : (y - S) < S := by omega
      have hl := HLT.out x (y - S) ha hb
      have e1 : (y : Int) - S = ((y - S : Nat) : Int) := by omega
      obtain ⟨V, hV⟩ : ∃ V, Hb.hI m x (y - S) = V := ⟨_, rfl⟩
      rw [hV] at hl
      have HV := Li hV
      have HR := Li (IH.out x (y - S) w (by omega) ha hb)
      rw [hV] at HR
      rw [HQN.out]
      clear hV
      go_enter Try.func29, Try.ntmps29
      go_wp2_with (go_at_call 29; refine HR.out.mono ?_; rintro e w5 ⟨rfl, hw5⟩; subst w5)
      go_ret
      exact ⟨by simp [en, HV.out], rfl⟩
    · have HQN := Li (show qn S x y = 2 by unfold qn; split <;> (try split) <;> omega)
      have ha : (x - S) < S := by omega
      have hb : (y - S) < S := by omega
      have hl := HLT.out (x - S) (y - S) ha hb
      have e1 : (x : Int) - S = ((x - S : Nat) : Int) := by omega
      have e2 : (y : Int) - S = ((y - S : Nat) : Int) := by omega
      obtain ⟨V, hV⟩ : ∃ V, Hb.hI m (x - S) (y - S) = V := ⟨_, rfl⟩
      rw [hV] at hl
      have HV := Li hV
      have HR := Li (IH.out (x - S) (y - S) w (by omega) ha hb)
      rw [hV] at HR
      rw [HQN.out]
      clear hV
      go_enter Try.func29, Try.ntmps29
      go_wp2_with (go_at_call 29; refine HR.out.mono ?_; rintro e w5 ⟨rfl, hw5⟩; subst w5)
      go_ret
      exact ⟨by simp [en, HV.out], rfl⟩
    · have HQN := Li (show qn S x y = 3 by unfold qn; split <;> (try split) <;> omega)
      have ha : (S - 1 - y) < S := by omega
      have hb : (2 * S - 1 - x) < S := by omega
      have hl := HLT.out (S - 1 - y) (2 * S - 1 - x) ha hb
      have e1 : (S : Int) - 1 - y = ((S - 1 - y : Nat) : Int) := by omega
      have e2 : 2 * (S : Int) - 1 - x = ((2 * S - 1 - x : Nat) : Int) := by omega
      obtain ⟨V, hV⟩ : ∃ V, Hb.hI m (S - 1 - y) (2 * S - 1 - x) = V := ⟨_, rfl⟩
      rw [hV] at hl
      have HV := Li hV
      have HR := Li (IH.out (S - 1 - y) (2 * S - 1 - x) w (by omega) ha hb)
      rw [hV] at HR
      rw [HQN.out]
      clear hV
      go_enter Try.func29, Try.ntmps29
      go_wp2_with (go_at_call 29; refine HR.out.mono ?_; rintro e w5 ⟨rfl, hw5⟩; subst w5)
      go_ret
      exact ⟨by simp [en, HV.out], rfl⟩
set_option maxHeartbeats 4000000 in
theorem RIndex_any (K : Int) (x y : Nat) (w : World) :
    Calls Try.prog 12 #[.int .i64 K, .int .u32 x, .int .u32 y] w fun e w' => e = .returned (.tuple #[.int .u64 (ixV K x y : Nat), .int .i64 (ixE K x y)]) ∧ w' = w := by
  by_cases hk1 : K < 1
  · obtain ⟨e1, e2⟩ := ix_bad (K := K) (x := x) (y := y) (by rw [show isOB K = false from decide_eq_false (by omega)]; rfl)
    rw [e1, e2]
    clear e1 e2
    go_enter Try.func12, Try.ntmps12
    go_wp2_with fail
    go_ret2
    exact ⟨rfl, rfl⟩
  · by_cases hk2 : 16 < K
    · obtain ⟨e1, e2⟩ := ix_bad (K := K) (x := x) (y := y) (by rw [show isOB K = false from decide_eq_false (by omega)]; rfl)
      rw [e1, e2]
      clear e1 e2
      go_enter Try.func12, Try.ntmps12
      go_wp2_with fail
      go_ret2
      exact ⟨rfl, rfl⟩
    · have h0 : isOB K = true := decide_eq_true (by omega)
      obtain ⟨k, rfl, k1, k2⟩ := ob_nat h0
      have hpm : (2 : Int) ^ k % 4294967296 = ((2 ^ k : Nat) : Int) := pow_mod (by omega)
      by_cases h1 : x < 2 ^ k
      · by_cases h2 : y < 2 ^ k
        · have hb : (isOB (k : Int) && decide (x < 2 ^ (k : Int).toNat) && decide (y < 2 ^ (k : Int).toNat)) = true := by rw [h0, Int.toNat_natCast, decide_eq_true h1, decide_eq_true h2]; rfl
          have e1 : ixV (k : Int) x y = Hb.hI k x y := by unfold ixV; rw [hb, Int.toNat_natCast]; rfl
          have e2 : ixE (k : Int) x y = 0 := by unfold ixE; rw [hb]; rfl
          rw [e1, e2]
          have HC := Li (index_any k x y w k2 h1 h2)
          obtain ⟨V, hV⟩ : ∃ V, Hb.hI k x y = V := ⟨_, rfl⟩
          rw [hV] at HC ⊢
          obtain ⟨T, hT⟩ : ∃ T, 2 ^ k = T := ⟨_, rfl⟩
          rw [hT] at h1 h2 hpm
          clear h0 hb e1 e2 hV hT
          go_enter Try.func12, Try.ntmps12
          go_wp2_with (go_at_call 29; refine HC.out.mono ?_; rintro e w5 ⟨rfl, hw5⟩; subst w5)
          go_ret2
          exact ⟨rfl, rfl⟩
        · obtain ⟨e1, e2⟩ := ix_bad (K := (k : Int)) (x := x) (y := y) (by rw [Int.toNat_natCast, decide_eq_false h2, Bool.and_false])
          rw [e1, e2]
          obtain ⟨T, hT⟩ : ∃ T, 2 ^ k = T := ⟨_, rfl⟩
          rw [hT] at h1 h2 hpm
          clear h0 hT e1 e2
          go_enter Try.func12, Try.ntmps12
          go_wp2_with fail
          go_ret2
          exact ⟨rfl, rfl⟩
      · obtain ⟨e1, e2⟩ := ix_bad (K := (k : Int)) (x := x) (y := y) (by rw [Int.toNat_natCast, decide_eq_false h1, Bool.and_false]; rfl)
        rw [e1, e2]
        obtain ⟨T, hT⟩ : ∃ T, 2 ^ k = T := ⟨_, rfl⟩
        rw [hT] at h1 hpm
        clear h0 hT e1 e2
        go_enter Try.func12, Try.ntmps12
        go_wp2_with fail
        go_ret2
        exact ⟨rfl, rfl⟩
set_option maxHeartbeats 4000000 in
theorem point_any : ∀ (k i : Nat) (w : World), k ≤ 16 → i < 2 ^ k * 2 ^ k →
    Calls Try.prog 30 #[.int .i64 k, .int .u64 i] w fun e w' => e = .returned (.tuple #[.int .u32 (Hb.hP k i).1, .int .u32 (Hb.hP k i).2]) ∧ w' = w := by
  intro k
  induction k with
  | zero =>
    intro i w _ _
    go_enter Try.func30, Try.ntmps30
    go_wp2_with fail
    go_ret2
    exact ⟨rfl, rfl⟩
  | succ m ih =>
    intro i w hk hi
    obtain ⟨b1, b2, b3⟩ := sqb (m := m) (by omega)
    rw [Hb.sq] at hi
    have hpm : (2 : Int) ^ m % 4294967296 = ((2 ^ m : Nat) : Int) := pow_mod (by omega)
    have hlt := Hb.hP_lt m
    have hE : Hb.hP (m + 1) i = Hb.lv (2 ^ m) (i / (2 ^ m * 2 ^ m)) (Hb.hP m (i % (2 ^ m * 2 ^ m))) := rfl
    obtain ⟨S, hS⟩ : ∃ S, 2 ^ m = S := ⟨_, rfl⟩
    obtain ⟨Q, hQ⟩ : ∃ Q, S * S = Q := ⟨_, rfl⟩
    rw [hS] at hi b1 b2 b3 hpm hlt hE ih
    rw [hQ] at b3 hlt hE hi ih
    have hQ0 : 0 < Q := by rw [← hQ]; exact Nat.mul_pos b2 b2
    obtain ⟨q1, q2⟩ := mulw2 hQ b3
    have hr := Nat.mod_lt i hQ0
    have HC := Li (ih (i % Q) w (by omega) hr)
    have hl := hlt _ hr
    obtain ⟨⟨X, Y⟩, hP⟩ : ∃ p, Hb.hP m (i % Q) = p := ⟨_, rfl⟩
    rw [hP] at hl hE HC
    rw [hE]
    have hrem : (i : Int) % (Q : Int) = ((i % Q : Nat) : Int) := by push_cast; rfl
    have hX : X < S := hl.1
    have hY : Y < S := hl.2
    have m0 : ¬ ((m : Int) + 1 = 0) := by omega
    have Q0 : ¬ ((Q : Int) = 0) := by omega
    have hm15 : m ≤ 15 := by omega
    have hq4 : i / Q < 4 := by rw [Nat.div_lt_iff_lt_mul hQ0]; exact hi
    have hqq : (i : Int) / (Q : Int) = ((i / Q : Nat) : Int) := by push_cast; rfl
    generalize i / Q = q at *
    generalize i % Q = r at *
    have hi32 : i < 4294967296 := by omega
    clear hE ih hlt hS hQ hk hl hP hi
    have hcase : q = 0 ∨ q = 1 ∨ q = 2 ∨ q = 3 := by omega
    rcases hcase with rfl | rfl | rfl | rfl
    · go_enter Try.func30, Try.ntmps30
      go_wp2_with (go_at_call 30; refine HC.out.mono ?_; rintro e w5 ⟨rfl, hw5⟩; subst w5)
      go_ret2
      exact ⟨by simp [Hb.lv], rfl⟩
    · go_enter Try.func30, Try.ntmps30
      go_wp2_with (go_at_call 30; refine HC.out.mono ?_; rintro e w5 ⟨rfl, hw5⟩; subst w5)
      go_ret2
      exact ⟨by simp [Hb.lv], rfl⟩
    · go_enter Try.func30, Try.ntmps30
      go_wp2_with (go_at_call 30; refine HC.out.mono ?_; rintro e w5 ⟨rfl, hw5⟩; subst w5)
      go_ret2
      exact ⟨by simp [Hb.lv], rfl⟩
    · have e1 := Li (show (S : Int) - 1 - X = ((S - 1 - X : Nat) : Int) by omega)
      have e2 := Li (show 2 * (S : Int) - 1 - Y = ((2 * S - 1 - Y : Nat) : Int) by omega)
      go_enter Try.func30, Try.ntmps30
      go_wp2_with (go_at_call 30; refine HC.out.mono ?_; rintro e w5 ⟨rfl, hw5⟩; subst w5)
      go_ret2
      exact ⟨by simp [Hb.lv, ← e1.out, ← e2.out], rfl⟩
theorem pow_mod2 {k : Nat} (h : k ≤ 16) : IntKind.u64.wrap (2 ^ (2 * k)) = ((2 ^ k * 2 ^ k : Nat) : Int) := by
  have h2 : 2 ^ k ≤ 2 ^ 16 := Nat.pow_le_pow_right (by decide) h
  have h3 : 2 ^ k * 2 ^ k ≤ 2 ^ 16 * 2 ^ 16 := Nat.mul_le_mul h2 h2
  have e : (2 : Int) ^ (2 * k) = ((2 ^ k * 2 ^ k : Nat) : Int) := by rw [← Nat.pow_add, ← Nat.two_mul]; push_cast; rfl
  rw [e, IntKind.wrap_u64]
  omega
set_option maxHeartbeats 4000000 in
theorem RPoint_any (K : Int) (i : Nat) (w : World) :
    Calls Try.prog 14 #[.int .i64 K, .int .u64 i] w fun e w' => e = .returned (.tuple #[.int .u32 (ptX K i : Nat), .int .u32 (ptY K i : Nat), .int .i64 (ptE K i)]) ∧ w' = w := by
  by_cases hk1 : K < 1
  · obtain ⟨e1, e2, e3⟩ := pt_bad (K := K) (i := i) (by unfold ptB; rw [show isOB K = false from decide_eq_false (by omega)]; rfl)
    rw [e1, e2, e3]
    clear e1 e2 e3
    go_enter Try.func14, Try.ntmps14
    go_wp2_with fail
    go_ret3
    exact ⟨rfl, rfl⟩
  · by_cases hk2 : 16 < K
    · obtain ⟨e1, e2, e3⟩ := pt_bad (K := K) (i := i) (by unfold ptB; rw [show isOB K = false from decide_eq_false (by omega)]; rfl)
      rw [e1, e2, e3]
      clear e1 e2 e3
      go_enter Try.func14, Try.ntmps14
      go_wp2_with fail
      go_ret3
      exact ⟨rfl, rfl⟩
    · have h0 : isOB K = true := decide_eq_true (by omega)
      obtain ⟨k, rfl, k1, k2⟩ := ob_nat h0
      have hB := ptB_of (i := i) h0
      have hpm : IntKind.u64.wrap (2 ^ (2 * k)) = ((2 ^ k * 2 ^ k : Nat) : Int) := pow_mod2 k2
      by_cases h1 : i < 2 ^ k * 2 ^ k
      · rw [decide_eq_true h1] at hB
        obtain ⟨e1, e2, e3⟩ := pt_good hB
        rw [e1, e2, e3]
        have HC := Li (point_any k i w k2 h1)
        obtain ⟨⟨X, Y⟩, hP⟩ : ∃ p, Hb.hP k i = p := ⟨_, rfl⟩
        rw [hP] at HC ⊢
        obtain ⟨T, hT⟩ : ∃ T, 2 ^ k * 2 ^ k = T := ⟨_, rfl⟩
        rw [hT] at h1 hpm
        clear h0 hB e1 e2 e3 hP hT
        go_enter Try.func14, Try.ntmps14
        go_wp2_with (go_at_call 30; refine HC.out.mono ?_; rintro e w5 ⟨rfl, hw5⟩; subst w5)
        go_ret3
        exact ⟨rfl, rfl⟩
      · rw [decide_eq_false h1] at hB
        obtain ⟨e1, e2, e3⟩ := pt_bad hB
        rw [e1, e2, e3]
        obtain ⟨T, hT⟩ : ∃ T, 2 ^ k * 2 ^ k = T := ⟨_, rfl⟩
        rw [hT] at h1 hpm
        clear h0 hB e1 e2 e3 hT
        go_enter Try.func14, Try.ntmps14
        go_wp2_with fail
        go_ret3
        exact ⟨rfl, rfl⟩
end Go.Proofs.Ytlndpclgljfloaa
