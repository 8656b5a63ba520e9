/-
  The library's Div64: by a contract.
-/
import Derived.Test.YtlndpclgljfloaaDbL
import Derived.Test.YtlndpclgljfloaaLays
import Derived.Test.YtlndpclgljfloaaHi1
import Derived.Deep.LoopGhost
import Derived.Deep.CutBlock
import Derived.Deep.CutRange
import Derived.Deep.DeepCutAuto
import Derived.Lib.BitFns
import Derived.Lib.ItoaNum
import Derived.Laws.Bits64b
import Derived.BigQuiet
import Derived.Deep.QuietTactic
import Derived.Outline
namespace Go.Proofs.Ytlndpclgljfloaa
open Go.RowKit

set_option maxHeartbeats 4000000 in
set_option maxRecDepth 20000 in
theorem Div64_low (lo y : Nat) (w : World) (hy : 0 < y) (hlo : lo < 2 ^ 64) (hy64 : y < 2 ^ 64) :
    Calls Try.prog 32 #[.int .u64 0, .int .u64 lo, .int .u64 y] w fun e w' => (∃ r, e = .returned (.tuple #[.int .u64 (lo / y : Nat), r])) ∧ Below w.heap.size w w' := by
  have e0 : (lo : Int) / (y : Int) = ((lo / y : Nat) : Int) := by push_cast; rfl
  have y0 : ((y : Int) == 0) = false := beq_false_of_ne (by omega)
  have y1 : ¬ (y : Int) ≤ 0 := by omega
  have y3 : ¬ (y : Int) = 0 := by omega
  have hq : lo / y < 2 ^ 64 := Nat.lt_of_le_of_lt (Nat.div_le_self _ _) hlo
  generalize lo / y = q at *
  go_enter Try.func32, Try.ntmps32
  go_wp2_with fail
  go_quiet (fail)
  go_wp2
  go_ret2
  exact ⟨⟨_, rfl⟩, below_drewN (Below.refl _ _) _⟩
theorem and32 {x : Nat} (h : x < 2 ^ 64) : bits .and .u64 (x : Int) 4294967295 = ((x % 4294967296 : Nat) : Int) := by
  have h1 := bits_and_u64_nat x 4294967295 h (by omega)
  rw [Nat.and_two_pow_sub_one_eq_mod x 32] at h1
  exact h1
theorem or64 (x c : Nat) (hx : x < 2 ^ 64) (hc : c < 2 ^ 64) : bits .or .u64 (x : Int) (c : Int) = ((x ||| c : Nat) : Int) := by
  unfold bits
  show IntKind.u64.wrap ((BitVec.ofInt 64 _ ||| BitVec.ofInt 64 _).toNat : Int) = _
  rw [BitVec.toNat_or, BitVec.toNat_ofInt, BitVec.toNat_ofInt, IntKind.wrap_u64]
  have e1 : ((x : Int) % ((2 ^ 64 : Nat) : Int)).toNat = x := by omega
  have e2 : ((c : Int) % ((2 ^ 64 : Nat) : Int)).toNat = c := by omega
  rw [e1, e2]
  have := Nat.or_lt_two_pow hx hc
  omega
theorem bitLen_bounds {y : Nat} (h : 0 < y) (hy : y < 2 ^ 64) : 1 ≤ Lib.bitLen y ∧ 2 ^ (Lib.bitLen y - 1) ≤ y ∧ y < 2 ^ Lib.bitLen y := Lib.bitLenAux_bounds 64 y hy (by omega)
/-- the divisor with its highest bit set, the dividend shifted likewise -/
structure Nrm (hi lo y s Y n1 n0 U L v u : Nat) : Prop where
  s63 : s ≤ 63
  Y1 : 2 ^ 63 ≤ Y
  Y2 : Y < 2 ^ 64
  Ye : Y = n1 * 2 ^ 32 + n0
  n1l : 2 ^ 31 ≤ n1
  n1h : n1 < 2 ^ 32
  n0h : n0 < 2 ^ 32
  Ul : U < Y
  vh : v < 2 ^ 32
  uh : u < 2 ^ 32
  e : (U * 2 ^ 64 + v * 2 ^ 32 + u) / Y = (hi * 2 ^ 64 + lo) / y
  fY : IntKind.u64.wrap ((y : Int) * 2 ^ s) = (Y : Int)
  fn1 : (Y : Int) / 4294967296 = (n1 : Int)
  fn0 : bits .and .u64 (Y : Int) 4294967295 = (n0 : Int)
  fU : bits .or .u64 (IntKind.u64.wrap ((hi : Int) * 2 ^ s)) ((lo : Int) / 2 ^ (64 - s)) = (U : Int)
  fL : IntKind.u64.wrap ((lo : Int) * 2 ^ s) = (L : Int)
  fv : (L : Int) / 4294967296 = (v : Int)
  fu : bits .and .u64 (L : Int) 4294967295 = (u : Int)
theorem castp (a s : Nat) : (a : Int) * 2 ^ s = ((a * 2 ^ s : Nat) : Int) := by push_cast; rfl
theorem castq (a s : Nat) : (a : Int) / 2 ^ s = ((a / 2 ^ s : Nat) : Int) := by push_cast; rfl
theorem nrm_of {hi lo y : Nat} (h0 : 0 < hi) (hy : hi < y) (hlo : lo < 2 ^ 64) (hy64 : y < 2 ^ 64) : ∃ s Y n1 n0 U L v u : Nat, (64 - (Lib.bitLen y : Int)) = (s : Int) ∧ Nrm hi lo y s Y n1 n0 U L v u := by
  obtain ⟨b1, b2, b3⟩ := bitLen_bounds (y := y) (by omega) hy64
  have b4 := Lib.bitLen_le y 64 (by decide) hy64
  generalize Lib.bitLen y = b at *
  obtain ⟨s, rfl⟩ : ∃ s, b = 64 - s := ⟨64 - b, by omega⟩
  have hs64 : s ≤ 63 := by omega
  have hpY : 2 ^ 63 ≤ y * 2 ^ s := by
    have := Nat.mul_le_mul_right (2 ^ s) b2
    rw [← Nat.pow_add, show 64 - s - 1 + s = 63 by omega] at this
    exact this
  have hpY2 : y * 2 ^ s < 2 ^ 64 := by
    have := Nat.mul_lt_mul_of_pos_right b3 (Nat.two_pow_pos s)
    rw [← Nat.pow_add, show 64 - s + s = 64 by omega] at this
    exact this
  have hU := Db.norm_lt (hi := hi) (lo := lo) (y := y) hs64 hy hlo
  have hor := Db.norm_or (hi := hi) (lo := lo) hs64 hlo
  have hL : lo * 2 ^ s % 2 ^ 64 = lo * 2 ^ s % 2 ^ 64 / 2 ^ 32 * 2 ^ 32 + lo * 2 ^ s % 2 ^ 64 % 2 ^ 32 := by omega
  have hq := Db.norm_quo (hi := hi) (lo := lo) (y := y) hs64 hL
  have hle : lo / 2 ^ (64 - s) ≤ lo := Nat.div_le_self _ _
  refine ⟨s, y * 2 ^ s, y * 2 ^ s / 2 ^ 32, y * 2 ^ s % 2 ^ 32, hi * 2 ^ s + lo / 2 ^ (64 - s), lo * 2 ^ s % 2 ^ 64, lo * 2 ^ s % 2 ^ 64 / 2 ^ 32, lo * 2 ^ s % 2 ^ 64 % 2 ^ 32, by omega, ?_⟩
  refine ⟨hs64, hpY, hpY2, by omega, by omega, by omega, by omega, hU, by omega, by omega, hq, ?_, ?_, ?_, ?_, ?_, ?_, ?_⟩
  · rw [castp, IntKind.wrap_u64]; omega
  · omega
  · exact and32 hpY2
  · rw [castp, castq]
    have hA : hi * 2 ^ s < 2 ^ 64 := Nat.lt_of_le_of_lt (Nat.le_add_right _ _) (Nat.lt_trans hU hpY2)
    have hB : lo / 2 ^ (64 - s) < 2 ^ 64 := Nat.lt_of_le_of_lt hle hlo
    have e1 : IntKind.u64.wrap ((hi * 2 ^ s : Nat) : Int) = ((hi * 2 ^ s : Nat) : Int) := by
      generalize hi * 2 ^ s = A at hA ⊢
      rw [IntKind.wrap_u64]; omega
    rw [e1, or64 _ _ hA hB, hor]
  · rw [castp, IntKind.wrap_u64]; omega
  · omega
  · exact and32 (by omega)
set_option maxHeartbeats 8000000 in
set_option maxRecDepth 20000 in
theorem Div64_high (hi lo y : Nat) (w : World) (h0 : 0 < hi) (hy : hi < y) (hlo : lo < 2 ^ 64) (hy64 : y < 2 ^ 64) :
    Calls Try.prog 32 #[.int .u64 hi, .int .u64 lo, .int .u64 y] w fun e w' => (∃ r, e = .returned (.tuple #[.int .u64 ((hi * 2 ^ 64 + lo) / y : Nat), r])) ∧ Below w.heap.size w w' := by
  have HC := Li (Try.bits_LeadingZeros64 y w (by omega) (by omega))
  obtain ⟨s, Y, n1, n0, U, L, v, u, hs, hN⟩ := nrm_of h0 hy hlo hy64
  rw [Int.toNat_natCast, hs] at HC
  have hs63 := hN.s63
  have y0 : ((y : Int) == 0) = false := beq_false_of_ne (by omega)
  have y1 : ¬ y ≤ hi := by omega
  have y2 : ((hi : Int) == 0) = false := beq_false_of_ne (by omega)
  have hY0 : 0 < Y := by have := hN.Y1; omega
  obtain ⟨q1, hq1⟩ : ∃ q1, (U * 2 ^ 32 + v) / Y = q1 := ⟨_, rfl⟩
  obtain ⟨M, hM⟩ : ∃ M, (U * 2 ^ 32 + v) % Y = M := ⟨_, rfl⟩
  obtain ⟨q0, hq0⟩ : ∃ q0, (M * 2 ^ 32 + u) / Y = q0 := ⟨_, rfl⟩
  have hMY : M < Y := by rw [← hM]; exact Nat.mod_lt _ hY0
  have hq1l : q1 < 2 ^ 32 := by rw [← hq1]; exact Db.lt_b hN.Ul hN.vh
  have hq0l : q0 < 2 ^ 32 := by rw [← hq0]; exact Db.lt_b hMY hN.uh
  have hres : q1 * 2 ^ 32 + q0 = (hi * 2 ^ 64 + lo) / y := by
    rw [← hN.e, ← Db.two_digits hY0, hq1, hM, hq0]
  rw [← hres]
  obtain ⟨P, hP⟩ : ∃ P, q1 * Y = P := ⟨_, rfl⟩
  have hPM : U * 2 ^ 32 + v = P + M := by
    have h1 := Nat.div_add_mod (U * 2 ^ 32 + v) Y
    have h2 : Y * q1 = P := by rw [Nat.mul_comm]; exact hP
    rw [hq1, hM, h2] at h1
    exact h1.symm
  obtain ⟨fY, fn1, fn0, fU, fL, fv, fu⟩ : IntKind.u64.wrap ((y : Int) * 2 ^ s) = (Y : Int) ∧ (Y : Int) / 4294967296 = (n1 : Int) ∧ bits .and .u64 (Y : Int) 4294967295 = (n0 : Int) ∧ bits .or .u64 (IntKind.u64.wrap ((hi : Int) * 2 ^ s)) ((lo : Int) / 2 ^ (64 - s)) = (U : Int) ∧ IntKind.u64.wrap ((lo : Int) * 2 ^ s) = (L : Int) ∧ (L : Int) / 4294967296 = (v : Int) ∧ bits .and .u64 (L : Int) 4294967295 = (u : Int) := ⟨hN.fY, hN.fn1, hN.fn0, hN.fU, hN.fL, hN.fv, hN.fu⟩
  have hn1 : ¬ (n1 : Int) = 0 := by have := hN.n1l; omega
  have HN := Li hN
  have HQ1 := Li hq1
  have HQ0 := Li hq0
  have HPM := Li hPM
  have HMY := Li hMY
  have hU64 : U < 18446744073709551616 := by have := hN.Ul; have := hN.Y2; omega
  have hM64 : M < 18446744073709551616 := by have := hN.Y2; omega
  have hv32 : v < 4294967296 := hN.vh
  have hu32 : u < 4294967296 := hN.uh
  have hn32 : n0 < 4294967296 := hN.n0h
  have hn132 : n1 < 4294967296 := hN.n1h
  obtain ⟨a0, ha0⟩ : ∃ a0, U / n1 = a0 := ⟨_, rfl⟩
  obtain ⟨r0, hr0⟩ : ∃ r0, U - a0 * n1 = r0 := ⟨_, rfl⟩
  obtain ⟨p0, hp0⟩ : ∃ p0, a0 * n1 = p0 := ⟨_, rfl⟩
  have hp0l : p0 ≤ U := by rw [← hp0, ← ha0]; exact Nat.div_mul_le_self U n1
  have fa0 : (U : Int) / (n1 : Int) = (a0 : Int) := by rw [← ha0]; push_cast; rfl
  have fp0 : (a0 : Int) * (n1 : Int) = (p0 : Int) := by rw [← hp0]; push_cast; rfl
  have hap : a0 ≤ 4294967297 := by have := (Db.kn_start hN.Ye hN.n1l hN.n1h hN.n0h hN.Ul hN.vh).q1; rw [ha0] at this; exact this
  have fr0 : (U : Int) - (p0 : Int) = (r0 : Int) := by rw [← hr0, hp0]; omega
  have hr0l : r0 < 4294967296 := by
    have h1 := Nat.div_add_mod U n1
    have h2 := Nat.mod_lt U (show 0 < n1 by have := hN.n1l; omega)
    rw [ha0, Nat.mul_comm, hp0] at h1
    rw [hp0] at hr0
    omega
  have HK0 := Li (show Db.Kn Y n1 n0 U v a0 r0 by rw [← hr0, ← ha0]; exact Db.kn_start hN.Ye hN.n1l hN.n1h hN.n0h hN.Ul hN.vh)
  have f17 : IntKind.u64.wrap (IntKind.u64.wrap (IntKind.u64.wrap ((U : Int) * 4294967296) + (v : Int)) - IntKind.u64.wrap ((q1 : Int) * (Y : Int))) = (M : Int) := by
    have hPc : (q1 : Int) * (Y : Int) = (P : Int) := by rw [← hP]; push_cast; rfl
    have hPi : (U : Int) * 4294967296 + (v : Int) = (P : Int) + (M : Int) := by omega
    rw [hPc, IntKind.wrap_u64, IntKind.wrap_u64, IntKind.wrap_u64, IntKind.wrap_u64]
    omega
  obtain ⟨a1, ha1⟩ : ∃ a1, M / n1 = a1 := ⟨_, rfl⟩
  obtain ⟨r1, hr1⟩ : ∃ r1, M - a1 * n1 = r1 := ⟨_, rfl⟩
  obtain ⟨p1, hp1⟩ : ∃ p1, a1 * n1 = p1 := ⟨_, rfl⟩
  have hp1l : p1 ≤ M := by rw [← hp1, ← ha1]; exact Nat.div_mul_le_self M n1
  have fa1 : (M : Int) / (n1 : Int) = (a1 : Int) := by rw [← ha1]; push_cast; rfl
  have fp1 : (a1 : Int) * (n1 : Int) = (p1 : Int) := by rw [← hp1]; push_cast; rfl
  have hap1 : a1 ≤ 4294967297 := by have := (Db.kn_start hN.Ye hN.n1l hN.n1h hN.n0h hMY hN.uh).q1; rw [ha1] at this; exact this
  have fr1 : (M : Int) - (p1 : Int) = (r1 : Int) := by rw [← hr1, hp1]; omega
  have hr1l : r1 < 4294967296 := by
    have h1 := Nat.div_add_mod M n1
    have h2 := Nat.mod_lt M (show 0 < n1 by have := hN.n1l; omega)
    rw [ha1, Nat.mul_comm, hp1] at h1
    rw [hp1] at hr1
    omega
  have HK1 := Li (show Db.Kn Y n1 n0 M u a1 r1 by rw [← hr1, hp1, ← hp1, ← ha1]; exact Db.kn_start hN.Ye hN.n1l hN.n1h hN.n0h hMY hN.uh)
  clear ha1 hr1 hp1
  clear hN hq1 hq0 hM hMY hres hPM hP ha0 hr0 hp0 hs h0 hy hlo hy64
  go_enter Try.func32, Try.ntmps32
  go_upto_block 0 with (go_at_call 49; refine HC.out.mono ?_; rintro e w5 ⟨rfl, hw5⟩; subst w5)
  go_cut [15, 16] from 67 to 85 (fun s15 _ wx => s15 = .int .u64 q1 ∧ wx = w)
  case first =>
    go_wp2_with fail
    go_loop [15, 16] (fun s15 s16 => ∃ q r : Nat, s15 = .int .u64 q ∧ s16 = .int .u64 r ∧ Hid (Db.Kn Y n1 n0 U v q r) ∧ r < 4294967296) (fun s15 _ => (intOf s15).toNat)
    case atStart => exact ⟨a0, r0, rfl, rfl, HK0, hr0l⟩
    case round =>
      clear HK0 hr0l fa0 fp0 fr0
      obtain ⟨q, r, rfl, rfl, HK, hr⟩ := hrel
      have hqb : q ≤ 4294967297 := HK.out.q1
      by_cases hq : (4294967296 : Int) ≤ (q : Int)
      · obtain ⟨k0, k1⟩ := Db.kn_next HK.out HN.out.Ye HN.out.Ul HN.out.vh (.inl (by omega))
        have K1 := Li k1
        by_cases hb : (4294967296 : Int) ≤ (r : Int) + (n1 : Int)
        · have HE := Li (Db.kn_break k1 HN.out.Ye hY0 HN.out.n0h (by omega) (by omega))
          clear k1
          go_wp2
          go_meet
          case rel => exact ⟨by rw [HQ1.out] at HE; rw [← HE.out]; go_num, rfl⟩
        · clear k1
          go_wp2
          go_round
          case rel => exact ⟨q - 1, r + n1, by go_num, by go_num, K1, by omega⟩
          case measure => simp [intOf]; omega
      · obtain ⟨p, hp⟩ : ∃ p, q * n0 = p := ⟨_, rfl⟩
        have hpl : p ≤ 4294967295 * 4294967295 := by rw [← hp]; exact Nat.mul_le_mul (by omega) (by omega)
        have fp : (q : Int) * (n0 : Int) = (p : Int) := by rw [← hp]; push_cast; rfl
        by_cases hc : 4294967296 * (r : Int) + (v : Int) < (p : Int)
        · obtain ⟨k0, k1⟩ := Db.kn_next HK.out HN.out.Ye HN.out.Ul HN.out.vh (.inr (by rw [hp]; omega))
          have K1 := Li k1
          by_cases hb : (4294967296 : Int) ≤ (r : Int) + (n1 : Int)
          · have HE := Li (Db.kn_break k1 HN.out.Ye hY0 HN.out.n0h (by omega) (by omega))
            clear k1 hp
            go_wp2
            go_meet
            case rel => exact ⟨by rw [HQ1.out] at HE; rw [← HE.out]; go_num, rfl⟩
          · clear k1 hp
            go_wp2
            go_round
            case rel => exact ⟨q - 1, r + n1, by go_num, by go_num, K1, by omega⟩
            case measure => simp [intOf]; omega
        · have HE := Li (Db.kn_done HK.out HN.out.Ye hY0 (by rw [hp]; omega))
          clear hp
          go_wp2
          go_meet
          case rel => exact ⟨by rw [HQ1.out] at HE; rw [← HE.out], rfl⟩
  case rest =>
    clear HK0 hr0l fa0 fp0 fr0
    obtain ⟨rfl, hwc⟩ := hcut
    subst wc
    go_upto_block 2 with fail
    go_cut [18, 16] from 102 to 120 (fun s18 _ wx => s18 = .int .u64 q0 ∧ wx = w)
    case first =>
      go_wp2_with fail
      go_loop [18, 16] (fun s18 s16 => ∃ q r : Nat, s18 = .int .u64 q ∧ s16 = .int .u64 r ∧ Hid (Db.Kn Y n1 n0 M u q r) ∧ r < 4294967296) (fun s18 _ => (intOf s18).toNat)
      case atStart => exact ⟨a1, r1, rfl, rfl, HK1, hr1l⟩
      case round =>
        clear HK1 hr1l fa1 fp1 fr1
        obtain ⟨q, r, rfl, rfl, HK, hr⟩ := hrel
        have hqb : q ≤ 4294967297 := HK.out.q1
        by_cases hq : (4294967296 : Int) ≤ (q : Int)
        · obtain ⟨k0, k1⟩ := Db.kn_next HK.out HN.out.Ye HMY.out HN.out.uh (.inl (by omega))
          have K1 := Li k1
          by_cases hb : (4294967296 : Int) ≤ (r : Int) + (n1 : Int)
          · have HE := Li (Db.kn_break k1 HN.out.Ye hY0 HN.out.n0h (by omega) (by omega))
            clear k1
            go_wp2
            go_meet
            case rel => exact ⟨by rw [HQ0.out] at HE; rw [← HE.out]; go_num, rfl⟩
          · clear k1
            go_wp2
            go_round
            case rel => exact ⟨q - 1, r + n1, by go_num, by go_num, K1, by omega⟩
            case measure => simp [intOf]; omega
        · obtain ⟨p, hp⟩ : ∃ p, q * n0 = p := ⟨_, rfl⟩
          have hpl : p ≤ 4294967295 * 4294967295 := by rw [← hp]; exact Nat.mul_le_mul (by omega) (by omega)
          have fp : (q : Int) * (n0 : Int) = (p : Int) := by rw [← hp]; push_cast; rfl
          by_cases hc : 4294967296 * (r : Int) + (u : Int) < (p : Int)
          · obtain ⟨k0, k1⟩ := Db.kn_next HK.out HN.out.Ye HMY.out HN.out.uh (.inr (by rw [hp]; omega))
            have K1 := Li k1
            by_cases hb : (4294967296 : Int) ≤ (r : Int) + (n1 : Int)
            · have HE := Li (Db.kn_break k1 HN.out.Ye hY0 HN.out.n0h (by omega) (by omega))
              clear k1 hp
              go_wp2
              go_meet
              case rel => exact ⟨by rw [HQ0.out] at HE; rw [← HE.out]; go_num, rfl⟩
            · clear k1 hp
              go_wp2
              go_round
              case rel => exact ⟨q - 1, r + n1, by go_num, by go_num, K1, by omega⟩
              case measure => simp [intOf]; omega
          · have HE := Li (Db.kn_done HK.out HN.out.Ye hY0 (by rw [hp]; omega))
            clear hp
            go_wp2
            go_meet
            case rel => exact ⟨by rw [HQ0.out] at HE; rw [← HE.out], rfl⟩
    case rest =>
      obtain ⟨rfl, hwc⟩ := hcut
      subst wc
      go_wp2_with fail
      go_ret2
      exact ⟨⟨_, by rw [show ((q1 * 2 ^ 32 + q0 : Nat) : Int) = (q1 : Int) * 4294967296 + (q0 : Int) by omega]; rfl⟩, Below.refl _ _⟩
theorem Div64_any (hi lo y : Nat) (w : World) (hy : hi < y) (hlo : lo < 2 ^ 64) (hy64 : y < 2 ^ 64) :
    Calls Try.prog 32 #[.int .u64 hi, .int .u64 lo, .int .u64 y] w fun e w' => (∃ r, e = .returned (.tuple #[.int .u64 ((hi * 2 ^ 64 + lo) / y : Nat), r])) ∧ Below w.heap.size w w' := by
  rcases Nat.eq_zero_or_pos hi with rfl | h0
  · rw [Nat.zero_mul, Nat.zero_add]
    exact Div64_low lo y w hy hlo hy64
  · exact Div64_high hi lo y w h0 hy hlo hy64
end Go.Proofs.Ytlndpclgljfloaa
