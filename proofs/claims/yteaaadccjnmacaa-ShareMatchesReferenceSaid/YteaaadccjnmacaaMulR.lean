/-
  The reference's Mul and Inv, by contracts.
-/
import Derived.Test.YteaaadccjnmacaaFieldP
namespace Go.Proofs.Yteaaadccjnmacaa
open Go.RowKit

theorem i64_xor (a b : Nat) (ha : a < 65536) (hb : b < 65536) : bits .xor .i64 (a : Int) (b : Int) = ((a ^^^ b : Nat) : Int) := by
  unfold bits
  show IntKind.i64.wrap ((BitVec.ofInt 64 _ ^^^ BitVec.ofInt 64 _).toNat : Int) = _
  have hx := Nat.xor_lt_two_pow (n := 16) ha hb
  rw [BitVec.toNat_xor, BitVec.toNat_ofInt, BitVec.toNat_ofInt]
  have e1 : ((a : Int) % ((2 ^ 64 : Nat) : Int)).toNat = a := by omega
  have e2 : ((b : Int) % ((2 ^ 64 : Nat) : Int)).toNat = b := by omega
  rw [e1, e2, IntWalk.i64_in _ ⟨by omega, by omega⟩]
theorem i64_283 (a : Nat) (ha : a < 65536) : bits .xor .i64 (a : Int) 283 = ((a ^^^ 283 : Nat) : Int) := i64_xor a 283 ha (by decide)
theorem dbl_hi64 (X : UInt8) (h : 255 < 2 * X.toNat) : bits .xor .i64 (2 * (X.toNat : Int)) 283 = ((dbl X).toNat : Int) := by
  have := i64_283 (2 * X.toNat) (by have := X.toNat_lt; omega)
  rw [dbl_nat, if_pos (by omega), ← this]
  congr 1
theorem dbl_lo64 (X : UInt8) (h : ¬ 255 < 2 * X.toNat) : 2 * (X.toNat : Int) = ((dbl X).toNat : Int) := by
  rw [dbl_nat, if_neg (by omega)]
  omega
attribute [local irreducible] gmul ginv
theorem gmul_zero_nat (X : UInt8) : gmul X (UInt8.ofNat 0) = 0 := gmul_zero X

set_option maxHeartbeats 2000000 in
set_option maxRecDepth 20000 in
theorem mulR_any (a b : UInt8) (w : World) : Calls Try.prog 32 #[.int .u8 (a.toNat : Int), .int .u8 (b.toNat : Int)] w fun e w' => e = .returned (.int .u8 ((gmul a b).toNat : Int)) ∧ w' = w := by
  have ha := a.toNat_lt
  have hb := b.toNat_lt
  go_enter Try.func32, Try.ntmps32
  go_wp2
  go_loopw [5, 6, 7] (fun out x y wr => ∃ (o X : UInt8) (k : Nat), k < 256 ∧ out = .int .i64 (o.toNat : Int) ∧ x = .int .i64 (X.toNat : Int) ∧ y = .int .i64 (k : Int) ∧ Hid (o ^^^ gmul X (UInt8.ofNat k) = gmul a b) ∧ wr = w) (fun _ _ y _ => (intOf y).toNat)
  case atStart => exact ⟨0, a, b.toNat, by omega, rfl, rfl, rfl, (show _ = _ by rw [UInt8.ofNat_toNat, UInt8.zero_xor]), rfl⟩
  case round =>
    obtain ⟨o, X, k, hk, rfl, rfl, rfl, hr, rfl⟩ := hrel
    by_cases h0 : k = 0
    · subst h0
      have ho := o.toNat_lt
      have e1 : IntKind.u8.wrap (o.toNat : Int) = (o.toNat : Int) := by rw [IntKind.wrap_u8]; omega
      have e2 : (o.toNat : Int) % 256 = (o.toNat : Int) := by omega
      go_wp2
      go_ret
      have := hr.out
      rw [gmul_zero_nat, UInt8.xor_zero] at this
      exact ⟨by rw [← this]; rfl, rfl⟩
    · have i0 : 0 < (k : Int) := by omega
      have hX := X.toNat_lt
      have ho := o.toNat_lt
      obtain ⟨k2, hk2, e2, e3⟩ : ∃ k2 : Nat, Hid (k2 = k / 2) ∧ (k : Int).tdiv 2 = (k2 : Int) ∧ k2 < 256 := ⟨k / 2, rfl, by rw [Int.tdiv_eq_ediv_of_nonneg (by omega)]; omega, by omega⟩
      have hlt : k2 < k := by have := hk2.out; omega
      have hst := gmul_step X k hk
      have HST := Lib.hid hst
      have hox := i64_xor o.toNat X.toNat (by omega) (by omega)
      rw [← UInt8.toNat_xor] at hox
      clear hst
      by_cases hp : k % 2 = 1
      · have e1 : (k : Int).tmod 2 = 1 := by rw [Int.tmod_eq_emod_of_nonneg (by omega)]; omega
        have HP := Lib.hid hp
        clear hp
        have hn : Hid ((o ^^^ X) ^^^ gmul (dbl X) (UInt8.ofNat k2) = gmul a b) := by
          show _ = _
          rw [← hr.out, HST.out, if_pos HP.out, hk2.out, UInt8.xor_assoc]
        by_cases hov : 255 < 2 * X.toNat
        · have e4 : 255 < 2 * (X.toNat : Int) := by omega
          have e5 := dbl_hi64 X hov
          clear hov
          go_wp2
          go_roundw
          case rel => exact ⟨o ^^^ X, dbl X, k2, by omega, by simp, rfl, rfl, hn, (by first | trivial | rfl)⟩
          case measure => simp [intOf]; omega
        · have e4 : ¬ 255 < 2 * (X.toNat : Int) := by omega
          have e5 := dbl_lo64 X hov
          clear hov
          go_wp2
          go_roundw
          case rel => exact ⟨o ^^^ X, dbl X, k2, by omega, by simp, by rw [← e5], rfl, hn, (by first | trivial | rfl)⟩
          case measure => simp [intOf]; omega
      · have e1 : (k : Int).tmod 2 = 0 := by rw [Int.tmod_eq_emod_of_nonneg (by omega)]; omega
        have HP := Lib.hid hp
        clear hp
        have hn : Hid (o ^^^ gmul (dbl X) (UInt8.ofNat k2) = gmul a b) := by
          show _ = _
          rw [← hr.out, HST.out, if_neg HP.out, hk2.out, UInt8.zero_xor]
        by_cases hov : 255 < 2 * X.toNat
        · have e4 : 255 < 2 * (X.toNat : Int) := by omega
          have e5 := dbl_hi64 X hov
          clear hov
          go_wp2
          go_roundw
          case rel => exact ⟨o, dbl X, k2, by omega, rfl, rfl, rfl, hn, (by first | trivial | rfl)⟩
          case measure => simp [intOf]; omega
        · have e4 : ¬ 255 < 2 * (X.toNat : Int) := by omega
          have e5 := dbl_lo64 X hov
          clear hov
          go_wp2
          go_roundw
          case rel => exact ⟨o, dbl X, k2, by omega, rfl, by rw [← e5], rfl, hn, (by first | trivial | rfl)⟩
          case measure => simp [intOf]; omega

set_option maxHeartbeats 2000000 in
set_option maxRecDepth 20000 in
theorem invR_any (a : UInt8) (w : World) : Calls Try.prog 33 #[.int .u8 (a.toNat : Int)] w fun e w' => e = .returned (.int .u8 ((ginv a).toNat : Int)) ∧ w' = w := by
  go_enter Try.func33, Try.ntmps33
  go_wp2
  go_loopw [3, 4, 5] (fun out p i wr => ∃ (o P : UInt8) (k m : Nat), k + m = 7 ∧ out = .int .u8 (o.toNat : Int) ∧ p = .int .u8 (P.toNat : Int) ∧ i = .int .i64 (k : Int) ∧ Hid ((powers m (o, P)).1 = ginv a) ∧ wr = w) (fun _ _ i _ => 7 - (intOf i).toNat)
  case atStart => exact ⟨1, a, 0, 7, by omega, rfl, rfl, rfl, powers_inv a, rfl⟩
  case round =>
    obtain ⟨o, P, k, m, hk, rfl, rfl, rfl, hr, rfl⟩ := hrel
    cases m with
    | zero =>
      have i1 : ¬ (k : Int) < 7 := by omega
      go_wp2
      go_ret
      exact ⟨by rw [← hr.out]; rfl, rfl⟩
    | succ m =>
      have i1 : (k : Int) < 7 := by omega
      go_wp2_with (first
        | ((with_reducible show Calls _ _ #[.int .u8 (P.toNat : Int), .int .u8 (P.toNat : Int)] _ _); refine (mulR_any P P _).mono ?_; rintro e w' ⟨rfl, rfl⟩)
        | ((with_reducible show Calls _ _ #[.int .u8 (o.toNat : Int), .int .u8 ((gmul P P).toNat : Int)] _ _); refine (mulR_any o (gmul P P) _).mono ?_; rintro e w' ⟨rfl, rfl⟩))
      go_roundw
      case rel => exact ⟨gmul o (gmul P P), gmul P P, k + 1, m, by omega, rfl, rfl, by go_num, hr, (by first | trivial | rfl)⟩
      case measure => simp [intOf]; omega
end Go.Proofs.Yteaaadccjnmacaa
