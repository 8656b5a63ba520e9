/-
  The reference's reading functions, each by a contract: they hand back what the program's do.
-/
import Derived.Test.YteaaadccjnmacaaGreatDoorRef
import Derived.Test.YteaaadccjnmacaaGreatDoorReadB
namespace Go.Proofs.YteaaadccjnmacaaGreatDoor
open Go.RowKit Go.Lib

set_option maxRecDepth 20000 in
set_option maxHeartbeats 1000000 in
theorem RReadU_any (A : Option Addr) (cap : Nat) (l : List UInt8) (a : Int) (w : World) (hs : Shows w w.heap.size A l) (hl : l.length ≤ 9223372036854775807) :
    Calls Tryz.prog 57 #[.slice A l.length cap, .int .i64 a] w fun e w' => e = retU (Num.readU l a) ∧ w = w' := by
  by_cases hneg : a < 0
  · have hv := Lib.hid (Num.readU_out (l := l) (.inl hneg))
    go_enter Tryz.func57, Tryz.ntmps57
    go_wp2_with fail
    go_ret3
    exact ⟨by rw [hv.out]; rfl, rfl⟩
  by_cases hbig : (l.length : Int) < a
  · have hv := Lib.hid (Num.readU_out (l := l) (.inr hbig))
    go_enter Tryz.func57, Tryz.ntmps57
    go_wp2_with fail
    go_ret3
    exact ⟨by rw [hv.out]; rfl, rfl⟩
  obtain ⟨k, rfl⟩ := Int.eq_ofNat_of_zero_le (Int.not_lt.1 hneg)
  have hk : k ≤ l.length := by omega
  go_enter Tryz.func57, Tryz.ntmps57
  go_wp2_with fail
  go_loop [7, 8, 9] (fun n pl sh => ∃ i acc p : Nat, i ≤ 9 ∧ k + i ≤ l.length ∧ n = .int .u64 acc ∧ pl = .int .u64 p ∧ sh = .int .i64 (i : Nat) ∧ Hid (p = 128 ^ i) ∧ Hid (acc < 128 ^ i) ∧ Hid (Num.scan 0 0 (l.drop k) = Num.scan i acc (l.drop (k + i))))
    (fun _ _ sh => 10 - (RowKit.intOf sh).toNat)
  case atStart => exact ⟨0, 0, 1, by omega, by omega, rfl, rfl, rfl, show (1 : Nat) = 128 ^ 0 by decide, show (0 : Nat) < 128 ^ 0 by decide, rfl⟩
  case round =>
    obtain ⟨i, acc, p, hi, hki, rfl, rfl, rfl, hpp, hacc, hsc⟩ := hrel
    by_cases hend : k + i = l.length
    · have hv : Num.readU l k = (0, 0, 6) := Num.readU_err hk (by rw [hsc.out, List.drop_of_length_le (by omega), Num.scan_nil]) (by omega)
      have HV := Lib.hid hv
      have hend' : (l.length : Int) - k ≤ i := by omega
      clear hv hend
      go_wp2_with fail
      go_ret3
      exact ⟨by rw [HV.out]; rfl, rfl⟩
    have hlt : k + i < l.length := by omega
    have hlt' : (k : Int) + i < l.length := by omega
    obtain ⟨b, off, rfl, _, hcell⟩ := hs (by omega)
    obtain ⟨c, hc⟩ : ∃ c, l[k + i]? = some c := ⟨_, List.getElem?_eq_getElem hlt⟩
    have hd : l.drop (k + i) = c :: l.drop (k + (i + 1)) := by
      rw [List.drop_eq_getElem_cons hlt]
      congr 1
      rw [List.getElem?_eq_getElem hlt] at hc
      exact Option.some.inj hc
    have hcc := hcell _ _ hc
    have h256 := c.toNat_lt
    rw [hd] at hsc
    obtain ⟨d, hdc⟩ : ∃ d, d = c.toNat := ⟨_, rfl⟩
    rw [← hdc] at hcc h256
    have HD := Lib.hid hdc
    clear hd hc hcell hend hdc hs
    have h256' : d < 256 := h256
    clear h256
    rcases (show (i = 9 ∧ 1 < d) ∨ (i = 9 ∧ d = 0) ∨ (i = 9 ∧ d = 1) ∨ (0 < i ∧ i < 9 ∧ d = 0) ∨ (i < 9 ∧ (i = 0 ∨ 0 < d) ∧ d < 128) ∨ (i < 9 ∧ 128 ≤ d) by omega)
      with ⟨rfl, h1⟩ | ⟨rfl, rfl⟩ | ⟨rfl, rfl⟩ | ⟨h0, h9, rfl⟩ | ⟨h9, h0, h1⟩ | ⟨h9, h1⟩
    · have HV := Lib.hid (Num.readU_err hk (by rw [hsc.out]; exact Num.scan_big rfl (by rw [← HD.out]; exact h1)) (by omega))
      go_wp2_with fail
      go_ret3
      exact ⟨by rw [HV.out]; rfl, rfl⟩
    · have HV := Lib.hid (Num.readU_err hk (by rw [hsc.out]; exact Num.scan_last0 (by omega) HD.out.symm) (by omega))
      go_wp2_with fail
      go_ret3
      exact ⟨by rw [HV.out]; rfl, rfl⟩
    · have HV := Lib.hid (Num.readU_ok hk (by rw [hsc.out]; exact Num.scan_last (by rw [← HD.out]; omega) (by rw [← HD.out]; omega) (by rw [← HD.out]; omega)))
      have ho := Num.add_digit2 9 acc 1 p 1 (by omega) hacc.out (by omega) (fun _ => by omega) hpp.out rfl
      rw [Int.mul_one] at ho
      have HO := Lib.hid ho
      clear ho
      go_wp2_with fail
      go_ret3
      refine ⟨?_, rfl⟩
      rw [HV.out, ← HD.out]
      exact retU_mk HO.out (by omega) rfl
    · have HV := Lib.hid (Num.readU_err hk (by rw [hsc.out]; exact Num.scan_last0 h0 HD.out.symm) (by omega))
      go_wp2_with fail
      all_goals first
        | (exfalso; omega)
        | (go_ret3
           exact ⟨by rw [HV.out]; rfl, rfl⟩)
    · have HV := Lib.hid (Num.readU_ok hk (by rw [hsc.out]; exact Num.scan_last (by rw [← HD.out]; omega) (by rw [← HD.out]; omega) (by rw [← HD.out]; omega)))
      have ho := Num.add_digit2 i acc d p ((d : Int) % 128) (by omega) hacc.out (by omega) (fun _ => by omega) hpp.out (by omega)
      have HO := Lib.hid ho
      clear ho
      go_wp2_with fail
      all_goals first
        | (exfalso; omega)
        | (go_ret3
           refine ⟨?_, rfl⟩
           rw [HV.out, ← HD.out]
           refine retU_mk ?_ (by omega) rfl
           first
             | exact HO.out
             | (have h0 : d = 0 := by omega
                subst h0
                simpa using HO.out))
    · have ho := Num.add_digit2 i acc (d % 128) p ((d : Int) % 128) (by omega) hacc.out (by omega) (fun h => by omega) hpp.out (by omega)
      have hm := Num.mul_place i h9
      rw [← hpp.out] at hm
      have hs2 : Num.scan 0 0 (l.drop k) = Num.scan (i + 1) (acc + d % 128 * 128 ^ i) (l.drop (k + (i + 1))) := by
        rw [hsc.out, Num.scan_more (by omega) (by rw [← HD.out]; exact h1), ← HD.out]
      have ha := Num.acc_step (d := d % 128) hacc.out (by omega)
      have HO := Lib.hid ho
      have HM := Lib.hid hm
      have HS := Lib.hid hs2
      have HA := Lib.hid ha
      clear ho hs2 ha hm
      go_wp2_with fail
      all_goals
        go_round
        case rel => exact ⟨i + 1, acc + d % 128 * 128 ^ i, 128 ^ (i + 1), by omega, by omega, congrArg (Value.int IntKind.u64) HO.out, congrArg (Value.int IntKind.u64) HM.out, by go_num, rfl, HA, HS⟩
        case measure => simp [RowKit.intOf]; omega

end Go.Proofs.YteaaadccjnmacaaGreatDoor
