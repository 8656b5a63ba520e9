/-
  The reference's decimal, by a contract.
-/
import Derived.Test.YteaaadccjnmacaaGreatDoorDcmM
import Derived.Test.YteaaadccjnmacaaGreatDoorValR
import Derived.Test.YteaaadccjnmacaaGreatDoorGrowP
namespace Go.Proofs.YteaaadccjnmacaaGreatDoor
open Go.RowKit Go.Lib

def slLen : Value → Nat
  | .slice _ n _ => n
  | _ => 0
theorem padL_le (n j : Nat) (hn : Num.U64 n) (hj : j ≤ 1000) : (padL n j).length ≤ 1100 := by
  have h1 := dd_len 19 n (by have := hn.lt; omega)
  unfold padL
  rw [rep_one, List.length_append, List.length_replicate]
  omega
set_option maxHeartbeats 2000000 in
theorem Rdecimal_any (n j : Nat) (w : World) (hn : Num.U64 n) (hj : 1 ≤ j) (hj2 : j ≤ 1000) : Calls Tryz.prog 33 #[.int .u64 (n : Int), .int .i64 (j : Int)] w fun e w' => ∃ A c, e = .returned (.slice A (padL n j).length c) ∧ Owns w' w.heap.size (.slice A (padL n j).length c) (padL n j) ∧ Below w.heap.size w w' := by
  have hlen := padL_le n j hn hj2
  have hst := preL_start n j hj
  obtain ⟨P, hP⟩ : ∃ P, P = padL n j := ⟨_, rfl⟩
  rw [← hP] at hlen hst ⊢
  have HST := Lib.hid hst
  clear hst hP
  go_enter Tryz.func33, Tryz.ntmps33
  go_wp2
  go_loopw [0, 5, 6] (fun q v _ wr => ∃ (k : Nat) (xs : List UInt8) (A : Option Addr) (c : Nat), q = .int .u64 (k : Int) ∧ v = .slice A xs.length c ∧ Num.U64 k ∧ Hid (P = preL k (j - xs.length) ++ xs) ∧ Hid (Owns wr w.heap.size (.slice A xs.length c) xs) ∧ Hid (Below w.heap.size w wr))
    (fun q v _ _ => (intOf q).toNat + (j - slLen v))
  case atStart => exact ⟨n, [], _, _, rfl, rfl, hn, (by show _ = _; rw [← HST.out]; simp), owns_empty w #[] rfl, val_al w _⟩
  case round =>
    obtain ⟨k, xs, A, c, rfl, rfl, hk, he, ho, hb⟩ := hrel
    have hxl : xs.length ≤ 1100 := by
      have h := congrArg List.length he.out
      rw [List.length_append] at h
      omega
    by_cases hgo : 0 < k ∨ xs.length < j
    · have HX : Hid ((48 : Int) + (k : Int) % 10 = (((UInt8.ofNat (48 + k % 10)).toNat : Nat) : Int)) := by
        show _ = _
        rw [UInt8.toNat_ofNat']
        omega
      have HOL : Hid (∀ x : Int, x = (((UInt8.ofNat (48 + k % 10)).toNat : Nat) : Int) → Owns (wr.alloc (.cells #[.int .u8 x] 5)) wr.heap.size (.slice (some ⟨wr.heap.size, 0, none⟩) 1 1) [UInt8.ofNat (48 + k % 10)]) := fun x hx => by
        rw [hx]
        exact owns_lit wr _
      have HE : Hid (P = preL (k / 10) (j - (xs.length + 1)) ++ (UInt8.ofNat (48 + k % 10) :: xs)) := by
        show _ = _
        rw [he.out, preL_step k (j - xs.length) (by omega), show j - xs.length - 1 = j - (xs.length + 1) by omega]
        simp
      obtain ⟨dg, hdg⟩ : ∃ dg, UInt8.ofNat (48 + k % 10) = dg := ⟨_, rfl⟩
      rw [hdg] at HX HOL HE
      clear hdg
      have hk0 := hk.lt
      have hd0 : 0 ≤ (k : Int) % 10 := by omega
      have hd1 : (k : Int) % 10 < 10 := by omega
      by_cases hkp : 0 < k
      · go_wp2_with (at_builtin; refine wpList_growB rfl (.tmp 21) (.tmp 22) _ rfl Tryz.underlying22 info5 wr.heap.size (.slice (some ⟨wr.heap.size, 0, none⟩) 1 1) [dg] A xs c _ rfl rfl (HOL.out _ HX.out) (ho.out.shows.2.2.up (val_al wr _)) (by simp; omega) (by simp) ?_; intro A2 c2 w3 ho3 hg3; have HB := Lib.hid (show Below w.heap.size w w3 from hb.out.trans ((grown_owns (HOL.out _ HX.out) hg3 (val_al wr _) (by simp) (Nat.le_refl _)).mono hb.out.size)); have HO := Lib.hid (show Owns w3 w.heap.size (.slice A2 (xs.length + 1) c2) (dg :: xs) from by simpa using ho3.low hb.out.size); clear ho3 hg3)
        go_roundw
        case rel => exact ⟨k / 10, dg :: xs, A2, c2, by simp, rfl, hk.div 10, HE.out, HO, HB⟩
        case measure => simp [intOf, slLen]; omega
      · have hkz : k = 0 := by omega
        subst hkz
        have hxj : xs.length < j := by omega
        have hxj2 : (xs.length : Int) < (j : Int) := by omega
        simp only [Nat.zero_div, Nat.zero_mod] at HE
        have HX2 : Hid ((48 : Int) = ((dg.toNat : Nat) : Int)) := by show _ = _; have := HX.out; simpa using this
        go_wp2_with (at_builtin; refine wpList_growB rfl (.tmp 21) (.tmp 22) _ rfl Tryz.underlying22 info5 wr.heap.size (.slice (some ⟨wr.heap.size, 0, none⟩) 1 1) [dg] A xs c _ rfl rfl (HOL.out _ HX2.out) (ho.out.shows.2.2.up (val_al wr _)) (by simp; omega) (by simp) ?_; intro A2 c2 w3 ho3 hg3; have HB := Lib.hid (show Below w.heap.size w w3 from hb.out.trans ((grown_owns (HOL.out _ HX2.out) hg3 (val_al wr _) (by simp) (Nat.le_refl _)).mono hb.out.size)); have HO := Lib.hid (show Owns w3 w.heap.size (.slice A2 (xs.length + 1) c2) (dg :: xs) from by simpa using ho3.low hb.out.size); clear ho3 hg3)
        go_roundw
        case rel => exact ⟨0, dg :: xs, A2, c2, by simp, rfl, hk, HE.out, HO, HB⟩
        case measure => simp [intOf, slLen]; omega
    · have hk0 : k = 0 := by omega
      have hx0 : ¬ xs.length < j := by omega
      subst hk0
      go_wp2
      go_ret
      have e : P = xs := by
        have h := he.out
        rw [show j - xs.length = 0 by omega, preL_end] at h
        simpa using h
      rw [e]
      exact ⟨A, c, rfl, ho.out, hb.out⟩
end Go.Proofs.YteaaadccjnmacaaGreatDoor
