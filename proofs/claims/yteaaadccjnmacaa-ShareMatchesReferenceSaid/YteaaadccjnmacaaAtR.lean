/-
  The reference's At (the value of a polynomial), by a contract.
-/
import Derived.Test.YteaaadccjnmacaaMulR
import Derived.Test.YteaaadccjnmacaaPoly
import Derived.Test.YteaaadccjnmacaaShl
import Derived.Deep.QuietTactic
import Derived.BigQuiet
namespace Go.Proofs.Yteaaadccjnmacaa
open Go.RowKit

attribute [local go_sem] u8_xor
set_option maxHeartbeats 1000000 in
set_option maxRecDepth 20000 in
theorem AtR_any (A : Option Addr) (n cap B : Nat) (f : List UInt8) (x : UInt8) (w : World) (hn : n = f.length) (hs : Shows w B A f) (hl : n ≤ 1000000) :
    Calls Try.prog 21 #[.slice A n cap, .int .u8 (x.toNat : Int)] w fun e w' => e = .returned (.int .u8 ((ev f x).toNat : Int)) ∧ ∃ m, w' = w.drewN m := by
  have HS := Lib.hid hs
  have HN := Lib.hid hn
  clear hs hn
  go_enter Try.func21, Try.ntmps21
  go_wp2
  go_loopw [5, 6] (fun o i wr => ∃ (k m : Nat), k ≤ n ∧ o = .int .u8 ((ev (f.drop k) x).toNat : Int) ∧ i = .int .i64 ((k : Int) - 1) ∧ Hid (wr = w.drewN m)) (fun _ i _ => ((intOf i) + 1).toNat)
  case atStart => exact ⟨n, 0, Nat.le_refl _, by rw [HN.out, List.drop_length]; rfl, rfl, rfl⟩
  case round =>
    obtain ⟨k, m, hk, rfl, rfl, hw⟩ := hrel
    obtain ⟨wo, hwo⟩ : ∃ wo : World, wo = wr := ⟨_, rfl⟩
    subst hwo
    have hsr : Shows wo B A f := by rw [hw.out]; exact HS.out.below (below_drewN (Below.refl _ _) m)
    cases k with
    | zero =>
      have e : (((0 : Nat) : Int) - 1) = -1 := by omega
      rw [e]
      go_wp2_with fail
      go_ret
      exact ⟨by rw [List.drop_zero]; rfl, m, hw.out⟩
    | succ j =>
      have e : (((j + 1 : Nat) : Int) - 1) = (j : Int) := by omega
      rw [e]
      have i0 : (0 : Int) ≤ (j : Int) := by omega
      have i1 : (j : Int) < (n : Int) := by omega
      have hlt : j < f.length := by have := HN.out; omega
      obtain ⟨b, off, rfl, _, hcell⟩ := hsr (by omega)
      have c1 := hcell j _ (byte_get hlt)
      have HD : Hid (ev (f.drop j) x = gmul (ev (f.drop (j + 1)) x) x ^^^ byte f j) := by
        show _ = _
        rw [List.drop_eq_getElem_cons hlt, show f[j] = byte f j from (List.getElem_eq_iff hlt).2 (byte_get hlt)]
        rfl
      generalize ev (f.drop (j + 1)) x = o at *
      generalize byte f j = c at *
      clear hcell hlt e
      go_wp2_with fail
      go_quiet (first | (go_at_call 32; exact Calls.quiet_of_same (mulR_any o x _)))
      go_wp2_with fail
      go_roundw
      case rel => exact ⟨j, m + nq, by omega, by rw [HD.out, UInt8.toNat_xor], by go_num, (show _ = _ by rw [hw.out, World.drewN_drewN])⟩
      case measure => simp [intOf]
end Go.Proofs.Yteaaadccjnmacaa
