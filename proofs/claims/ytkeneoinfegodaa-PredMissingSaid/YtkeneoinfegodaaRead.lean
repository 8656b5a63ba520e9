/-
  The program's reading functions: ReadU, ReadS, span, ReadText, ReadBytes: each by a contract.
-/
import Derived.Test.YtkeneoinfegodaaWrite
import Derived.Deep.LoopGhost
import Derived.BigGuardPart
import Derived.Outline
namespace Go.Proofs.Ytkeneoinfegodaa
open Go.RowKit Go.Lib

/-- Three numbers and an error, as ReadU hands them back. -/
def retU (r : Nat × Nat × Nat) : Ending := .returned (.tuple #[.int .u64 r.1, .int .i64 r.2.1, .int .i64 r.2.2])
theorem retU_mk {x y z : Int} {n k e : Nat} (hx : x = n) (hy : y = k) (hz : z = e) : Ending.returned (.tuple #[.int .u64 x, .int .i64 y, .int .i64 z]) = retU (n, k, e) := by
  subst hx hy hz
  rfl
theorem wrap_top : IntKind.u64.wrap (((1 : Nat) : Int) * 2 ^ (7 * 9)) = 9223372036854775808 := by decide

set_option maxRecDepth 20000 in
set_option maxHeartbeats 1000000 in
theorem ReadU_any (A : Option Addr) (cap : Nat) (l : List UInt8) (a : Int) (w : World) (hs : Shows w w.heap.size A l) (hl : l.length ≤ 9223372036854775807) :
    Calls Try.prog 88 #[.slice A l.length cap, .int .i64 a] w fun e w' => e = retU (Num.readU l a) ∧ w = w' := by
  by_cases hneg : a < 0
  · have hv := Lib.hid (Num.readU_out (l := l) (.inl hneg))
    go_enter Try.func88, Try.ntmps88
    go_wp2_with fail
    go_step3
    go_wp2_with fail
    rw [Exit.noGoto_ret]
    go_ret3
    exact ⟨by rw [hv.out]; rfl, rfl⟩
  by_cases hbig : (l.length : Int) < a
  · have hv := Lib.hid (Num.readU_out (l := l) (.inr hbig))
    go_enter Try.func88, Try.ntmps88
    go_wp2_with fail
    go_step3
    go_wp2_with fail
    go_ret3
    exact ⟨by rw [hv.out]; rfl, rfl⟩
  obtain ⟨k, rfl⟩ := Int.eq_ofNat_of_zero_le (Int.not_lt.1 hneg)
  have hk : k ≤ l.length := by omega
  go_enter Try.func88, Try.ntmps88
  go_wp2_with fail
  go_step3
  go_wp2_with fail
  go_step3
  go_wp2_with fail
  go_loop [7, 8, 9] (fun n nx sh => ∃ i acc : Nat, i ≤ 9 ∧ k + i ≤ l.length ∧ n = .int .u64 acc ∧ nx = .int .i64 (k + i : Nat) ∧ sh = .int .i64 (7 * i : Nat) ∧ Hid (acc < 128 ^ i) ∧ Hid (Num.scan 0 0 (l.drop k) = Num.scan i acc (l.drop (k + i))))
    (fun _ _ sh => 70 - (intOf sh).toNat)
  case atStart => exact ⟨0, 0, by omega, by omega, rfl, rfl, rfl, show (0 : Nat) < 128 ^ 0 by decide, rfl⟩
  case round =>
    obtain ⟨i, acc, hi, hki, rfl, rfl, rfl, hacc, hsc⟩ := hrel
    by_cases hend : k + i = l.length
    · have hv : Num.readU l k = (0, 0, 6) := Num.readU_err hk (by rw [hsc.out, List.drop_of_length_le (by omega), Num.scan_nil]) (by omega)
      have HV := Lib.hid hv
      have hend' : (k : Int) + i = l.length := by omega
      clear hv hend
      go_wp2_with fail
      try rw [Exit.noGoto_ret]
      go_ret3
      exact ⟨by rw [HV.out]; rfl, rfl⟩
    have hlt : k + i < l.length := by omega
    have hlt' : (k : Int) + i < l.length := by omega
    obtain ⟨b, off, rfl, _, hcell⟩ := hs (by omega)
    obtain ⟨c, hc⟩ : ∃ c, l[k + i]? = some c := ⟨_, List.getElem?_eq_getElem hlt⟩
    have hd : l.drop (k + i) = c :: l.drop (k + (i + 1)) := by
      rw [List.drop_eq_getElem_cons hlt]
      congr 1
      rw [List.getElem?_eq_getElem hlt] at hc
      exact Option.some.inj hc
    have hcc := hcell _ _ hc
    have h256 := c.toNat_lt
    rw [hd] at hsc
    obtain ⟨d, hdc⟩ : ∃ d, d = c.toNat := ⟨_, rfl⟩
    rw [← hdc] at hcc h256
    have HD := Lib.hid hdc
    clear hd hc hcell hend hdc hs
    have h256' : d < 256 := h256
    clear h256
    rcases (show (i = 9 ∧ 1 < d) ∨ (i = 9 ∧ d = 0) ∨ (i = 9 ∧ d = 1) ∨ (0 < i ∧ i < 9 ∧ d = 0) ∨ (i < 9 ∧ (i = 0 ∨ 0 < d) ∧ d < 128) ∨ (i < 9 ∧ 128 ≤ d) by omega)
      with ⟨rfl, h1⟩ | ⟨rfl, rfl⟩ | ⟨rfl, rfl⟩ | ⟨h0, h9, rfl⟩ | ⟨h9, h0, h1⟩ | ⟨h9, h1⟩
    · have HV := Lib.hid (Num.readU_err hk (by rw [hsc.out]; exact Num.scan_big rfl (by rw [← HD.out]; exact h1)) (by omega))
      go_wp2_with fail
      try rw [Exit.noGoto_ret]
      go_ret3
      exact ⟨by rw [HV.out]; rfl, rfl⟩
    · have HV := Lib.hid (Num.readU_err hk (by rw [hsc.out]; exact Num.scan_last0 (by omega) HD.out.symm) (by omega))
      go_wp2_with fail
      try rw [Exit.noGoto_ret]
      go_ret3
      exact ⟨by rw [HV.out]; rfl, rfl⟩
    · have HV := Lib.hid (Num.readU_ok hk (by rw [hsc.out]; exact Num.scan_last (by rw [← HD.out]; omega) (by rw [← HD.out]; omega) (by rw [← HD.out]; omega)))
      go_wp2_with fail
      try rw [Exit.noGoto_ret]
      go_ret3
      refine ⟨?_, rfl⟩
      rw [HV.out, ← HD.out]
      have ho := Num.or_digit 9 acc 1 (by omega) hacc.out (by omega) (fun _ => by omega)
      rw [wrap_top] at ho
      exact retU_mk ho (by omega) rfl
    · have HV := Lib.hid (Num.readU_err hk (by rw [hsc.out]; exact Num.scan_last0 h0 HD.out.symm) (by omega))
      go_wp2_with fail
      all_goals first
        | (exfalso; omega)
        | (try rw [Exit.noGoto_ret]
           go_ret3
           exact ⟨by rw [HV.out]; rfl, rfl⟩)
    · have HV := Lib.hid (Num.readU_ok hk (by rw [hsc.out]; exact Num.scan_last (by rw [← HD.out]; omega) (by rw [← HD.out]; omega) (by rw [← HD.out]; omega)))
      go_wp2_with fail
      all_goals first
        | (exfalso; omega)
        | (try rw [Exit.noGoto_ret]
           go_ret3
           refine ⟨?_, rfl⟩
           rw [HV.out, ← HD.out]
           have ho := Num.or_digit i acc d (by omega) hacc.out (by omega) (fun h => by omega)
           have hm : (d : Int) % 128 = d := by omega
           rw [← hm] at ho
           exact retU_mk ho (by omega) rfl)
    · have ho := Num.or_digit i acc (d % 128) (by omega) hacc.out (by omega) (fun h => by omega)
      have hs2 : Num.scan 0 0 (l.drop k) = Num.scan (i + 1) (acc + d % 128 * 128 ^ i) (l.drop (k + (i + 1))) := by
        rw [hsc.out, Num.scan_more (by omega) (by rw [← HD.out]; exact h1), ← HD.out]
      have ha := Num.acc_step (d := d % 128) hacc.out (by omega)
      have HO := Lib.hid ho
      have HS := Lib.hid hs2
      have HA := Lib.hid ha
      clear ho hs2 ha
      go_wp2_with fail
      all_goals
        go_round
        case rel => exact ⟨i + 1, acc + d % 128 * 128 ^ i, by omega, by omega, congrArg (Value.int IntKind.u64) HO.out, by go_num, by go_num, HA, HS⟩
        case measure => simp [intOf]; omega

/-- As ReadS hands back: the value is the integer. -/
def retS (r : Nat × Nat × Nat) : Ending := .returned (.tuple #[.int .i64 (Num.zag r.1), .int .i64 r.2.1, .int .i64 r.2.2])
theorem retS_mk {x y z : Int} {n k e : Nat} (hx : x = Num.zag n) (hy : y = k) (hz : z = e) : Ending.returned (.tuple #[.int .i64 x, .int .i64 y, .int .i64 z]) = retS (n, k, e) := by
  subst hx hy hz
  rfl

theorem ReadS_any (A : Option Addr) (cap : Nat) (l : List UInt8) (a : Int) (w : World) (hs : Shows w w.heap.size A l) (hl : l.length ≤ 9223372036854775807) :
    Calls Try.prog 86 #[.slice A l.length cap, .int .i64 a] w fun e w' => e = retS (Num.readU l a) ∧ w = w' := by
  rcases Num.readU_cases l a with ⟨n, k, hv⟩ | hv | hv | hv
  · have hu := Num.readU_u64 hv
    have HV := Lib.hid hv
    have hn := hu.lt
    have hand : bits .and .u64 (n : Int) 1 = (n : Int) % 2 := u64_and1 n (by omega) (by omega)
    have hnot : bits .xor .i64 (-1) ((n : Int) / 2) = -((n : Int) / 2) - 1 := by
      have := i64_not (n / 2) (by omega)
      have e : ((n / 2 : Nat) : Int) = (n : Int) / 2 := by omega
      rw [e] at this
      exact this
    have hw : Hid (wrap64 ((n : Int) / 2) = ((n / 2 : Nat) : Int)) := by
      show _ = _
      rw [IntWalk.wrap64_in _ ⟨by omega, by omega⟩]
      omega
    have e2 : Hid (((n / 2 : Nat) : Int) = (n : Int) / 2) := by
      show _ = _
      omega
    clear hv hu hn
    by_cases hodd : (n : Int) % 2 = 1
    · go_enter Try.func86, Try.ntmps86
      go_wp2_with fail
      refine (ReadU_any A cap l a w hs hl).mono ?_
      rintro e w1 ⟨rfl, rfl⟩
      rw [HV.out]
      unfold retU
      go_wp2_with fail
      go_ret3
      refine ⟨?_, rfl⟩
      rw [HV.out]
      refine retS_mk ?_ rfl rfl
      unfold Num.zag
      rw [if_pos (by omega), hw.out, e2.out, hnot]
    · go_enter Try.func86, Try.ntmps86
      go_wp2_with fail
      refine (ReadU_any A cap l a w hs hl).mono ?_
      rintro e w1 ⟨rfl, rfl⟩
      rw [HV.out]
      unfold retU
      go_wp2_with fail
      go_ret3
      refine ⟨?_, rfl⟩
      rw [HV.out]
      refine retS_mk ?_ rfl rfl
      unfold Num.zag
      rw [if_neg (by omega), hw.out]
  all_goals
    have HV := Lib.hid hv
    clear hv
    go_enter Try.func86, Try.ntmps86
    go_wp2_with fail
    refine (ReadU_any A cap l a w hs hl).mono ?_
    rintro e w1 ⟨rfl, rfl⟩
    rw [HV.out]
    unfold retU
    go_wp2_with fail
    go_ret3
    exact ⟨by rw [HV.out]; rfl, rfl⟩

/-- Two offsets and an error, as span hands them back. -/
def retP (r : Nat × Nat × Nat) : Ending := .returned (.tuple #[.int .i64 r.1, .int .i64 r.2.1, .int .i64 r.2.2])
theorem retP_mk {x y z : Int} {n k e : Nat} (hx : x = n) (hy : y = k) (hz : z = e) : Ending.returned (.tuple #[.int .i64 x, .int .i64 y, .int .i64 z]) = retP (n, k, e) := by
  subst hx hy hz
  rfl

theorem span_any (A : Option Addr) (cap : Nat) (l : List UInt8) (a : Int) (w : World) (hs : Shows w w.heap.size A l) (hl : l.length ≤ 9223372036854775807) :
    Calls Try.prog 100 #[.slice A l.length cap, .int .i64 a] w fun e w' => e = retP (Num.span l a) ∧ w = w' := by
  rcases Num.readU_cases l a with ⟨n, k, hv⟩ | hv | hv | hv
  · have HV := Lib.hid hv
    have hk := Num.readU_le hv
    by_cases hbig : 1048576 < n
    · have HS := Lib.hid (Num.span_big hv hbig)
      clear hv
      go_enter Try.func100, Try.ntmps100
      go_wp2_with fail
      refine (ReadU_any A cap l a w hs hl).mono ?_
      rintro e w1 ⟨rfl, rfl⟩
      rw [HV.out]
      unfold retU
      go_wp2_with fail
      go_ret3
      exact ⟨by rw [HS.out]; rfl, rfl⟩
    by_cases hshort : l.length < k + n
    · have HS := Lib.hid (Num.span_short hv hbig hshort)
      clear hv
      go_enter Try.func100, Try.ntmps100
      go_wp2_with fail
      refine (ReadU_any A cap l a w hs hl).mono ?_
      rintro e w1 ⟨rfl, rfl⟩
      rw [HV.out]
      unfold retU
      go_wp2_with fail
      go_ret3
      exact ⟨by rw [HS.out]; rfl, rfl⟩
    · have HS := Lib.hid (Num.span_ok hv hbig hshort)
      clear hv
      go_enter Try.func100, Try.ntmps100
      go_wp2_with fail
      refine (ReadU_any A cap l a w hs hl).mono ?_
      rintro e w1 ⟨rfl, rfl⟩
      rw [HV.out]
      unfold retU
      go_wp2_with fail
      go_ret3
      exact ⟨by rw [HS.out]; exact retP_mk rfl (by omega) rfl, rfl⟩
  all_goals
    have HV := Lib.hid hv
    have HS := Lib.hid (Num.span_err hv (by omega))
    clear hv
    go_enter Try.func100, Try.ntmps100
    go_wp2_with fail
    refine (ReadU_any A cap l a w hs hl).mono ?_
    rintro e w1 ⟨rfl, rfl⟩
    rw [HV.out]
    unfold retU
    go_wp2_with fail
    go_ret3
    exact ⟨by rw [HS.out]; rfl, rfl⟩

end Go.Proofs.Ytkeneoinfegodaa
