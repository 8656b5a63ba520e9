/-
  The reference's signed, by a contract.
-/
import Derived.Test.YteaaadccjnmacaaGreatDoorDcmR
namespace Go.Proofs.YteaaadccjnmacaaGreatDoor
open Go.RowKit Go.Lib

def sgnL (n : Int) (j : Nat) : List UInt8 := (if n < 0 then [45] else []) ++ padL n.natAbs j
set_option maxHeartbeats 2000000 in
theorem Rsigned_any (n : Int) (j : Nat) (w : World) (h0 : -9223372036854775808 ≤ n) (h1 : n ≤ 9223372036854775807) (hj : 1 ≤ j) (hj2 : j ≤ 1000) : Calls Tryz.prog 32 #[.int .i64 n, .int .i64 (j : Int)] w fun e w' => ∃ A c, e = .returned (.slice A (sgnL n j).length c) ∧ Owns w' w.heap.size (.slice A (sgnL n j).length c) (sgnL n j) ∧ Below w.heap.size w w' := by
  by_cases hneg : n < 0
  · obtain ⟨P, hP⟩ : ∃ P, P = padL n.natAbs j := ⟨_, rfl⟩
    have hlen := padL_le n.natAbs j (show n.natAbs < 18446744073709551616 by omega) hj2
    have hs : sgnL n j = 45 :: P := by unfold sgnL; rw [if_pos hneg, hP]; rfl
    rw [hs]
    have HC : Hid (∀ (x : Int) (w1 : World), x = -n → Calls Tryz.prog 33 #[.int .u64 x, .int .i64 (j : Int)] w1 fun e w' => ∃ A c, e = .returned (.slice A P.length c) ∧ Owns w' w1.heap.size (.slice A P.length c) P ∧ Below w1.heap.size w1 w') := fun x w1 hx => by
      obtain rfl : x = ((n.natAbs : Nat) : Int) := by omega
      rw [hP]
      exact Rdecimal_any n.natAbs j w1 (show n.natAbs < 18446744073709551616 by omega) hj hj2
    rw [← hP] at hlen
    clear hP hs
    go_enter Tryz.func32, Tryz.ntmps32
    go_wp2_with (first
      | go_loud (go_at_call 33; refine (HC.out _ _ ?_).mono ?_; (omega); rintro e w2 ⟨A1, c1, rfl, ho1, hb1⟩; have HO1 := Lib.hid ho1; have HB1 := Lib.hid (show Below w.heap.size w w2 from (val_al w _).trans (hb1.mono (by simp))); have HL := Lib.hid ((owns_lit w 45).up hb1); have hsz : w.heap.size < w2.heap.size := (by have := hb1.size; simp at this; omega); clear ho1 hb1)
      | (at_builtin; refine wpList_growB rfl (.tmp 13) (.tmp 20) _ rfl Tryz.underlying22 info5 w.heap.size (.slice (some ⟨w.heap.size, 0, none⟩) 1 1) [45] A1 P c1 _ rfl rfl HL.out HO1.out.shows.2.2 (by simp; omega) (by omega) ?_; intro A2 c2 w3 ho3 hg3; have HB := Lib.hid (show Below w.heap.size w w3 from grown_owns HL.out hg3 HB1.out (by omega) (Nat.le_refl _)); have HO := Lib.hid (show Owns w3 w.heap.size (.slice A2 (P.length + 1) c2) (45 :: P) from by simpa using ho3); clear ho3 hg3))
    go_ret
    exact ⟨A2, c2, by simp, by simpa using HO.out, HB.out⟩
  · have hs : sgnL n j = padL n.toNat j := by unfold sgnL; rw [if_neg hneg, show n.natAbs = n.toNat by omega]; rfl
    rw [hs]
    have HC : Hid (∀ (x : Int) (w1 : World), x = n → Calls Tryz.prog 33 #[.int .u64 x, .int .i64 (j : Int)] w1 fun e w' => ∃ A c, e = .returned (.slice A (padL n.toNat j).length c) ∧ Owns w' w1.heap.size (.slice A (padL n.toNat j).length c) (padL n.toNat j) ∧ Below w1.heap.size w1 w') := fun x w1 hx => by
      obtain rfl : x = ((n.toNat : Nat) : Int) := by omega
      exact Rdecimal_any n.toNat j w1 (show n.toNat < 18446744073709551616 by omega) hj hj2
    clear hs
    go_enter Tryz.func32, Tryz.ntmps32
    go_wp2_with (go_at_call 33; refine (HC.out _ _ ?_).mono ?_; (first | rfl | omega); rintro e w2 ⟨A1, c1, rfl, ho1, hb1⟩; have HO1 := Lib.hid ho1; have HB1 := Lib.hid hb1; clear ho1 hb1)
    go_ret
    exact ⟨A1, c1, rfl, HO1.out, HB1.out⟩
end Go.Proofs.YteaaadccjnmacaaGreatDoor
