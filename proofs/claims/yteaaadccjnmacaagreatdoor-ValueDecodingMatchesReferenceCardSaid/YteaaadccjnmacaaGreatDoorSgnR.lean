/-
  The reference's decimal and signed numbers, by contracts.
-/
import Derived.Test.YteaaadccjnmacaaGreatDoorDateP
import Derived.Test.YteaaadccjnmacaaGreatDoorValR
import Derived.Test.YteaaadccjnmacaaGreatDoorGrowP
namespace Go.Proofs.YteaaadccjnmacaaGreatDoor

/-- what still stands in front of the digits that are written: n is left, j places are asked -/
def preL (n j : Nat) : List UInt8 := if n = 0 then List.replicate j 48 else padL n j
theorem rep_one (k : Nat) : Lib.repeatL [(48 : UInt8)] k = List.replicate k 48 := by
  induction k with
  | zero => rfl
  | succ k ih => rw [List.replicate_succ, ← ih]; rfl
theorem preL_step (n j : Nat) (h : 0 < n ∨ 0 < j) : preL n j = preL (n / 10) (j - 1) ++ [UInt8.ofNat (48 + n % 10)] := by
  unfold preL padL
  rw [rep_one, rep_one]
  by_cases h0 : n = 0
  · subst h0
    obtain ⟨i, rfl⟩ : ∃ i, j = i + 1 := ⟨j - 1, by omega⟩
    simp [List.replicate_succ']
  · by_cases h10 : n < 10
    · have e : n / 10 = 0 := by omega
      have e2 : n % 10 = n := by omega
      rw [Lib.decDigits_one h10, e, e2]
      simp [h0]
    · have e : ¬ n / 10 = 0 := by omega
      rw [if_neg h0, if_neg e, Lib.decDigits, dif_neg h10]
      simp only [List.length_append, List.length_cons, List.length_nil]
      rw [show j - ((Lib.decDigits (n / 10)).length + (0 + 1)) = j - 1 - (Lib.decDigits (n / 10)).length by omega, List.append_assoc]
theorem preL_end : preL 0 0 = [] := rfl
theorem preL_start (n j : Nat) (hj : 1 ≤ j) : preL n j = padL n j := by
  unfold preL
  split
  · rename_i h
    subst h
    unfold padL
    rw [rep_one, Lib.decDigits_one (by omega)]
    obtain ⟨i, rfl⟩ : ∃ i, j = i + 1 := ⟨j - 1, by omega⟩
    simp [List.replicate_succ']
  · rfl
end Go.Proofs.YteaaadccjnmacaaGreatDoor
namespace Go.Proofs.YteaaadccjnmacaaGreatDoor
open Go.RowKit Go.Lib

def slLen : Value → Nat
  | .slice _ n _ => n
  | _ => 0
theorem padL_le (n j : Nat) (hn : Num.U64 n) (hj : j ≤ 1000) : (padL n j).length ≤ 1100 := by
  have h1 := dd_len 19 n (by have := hn.lt; omega)
  unfold padL
  rw [rep_one, List.length_append, List.length_replicate]
  omega
set_option maxHeartbeats 2000000 in
theorem Rdecimal_any (n j : Nat) (w : World) (hn : Num.U64 n) (hj : 1 ≤ j) (hj2 : j ≤ 1000) : Calls Tryz.prog 33 #[.int .u64 (n : Int), .int .i64 (j : Int)] w fun e w' => ∃ A c, e = .returned (.slice A (padL n j).length c) ∧ Owns w' w.heap.size (.slice A (padL n j).length c) (padL n j) ∧ Below w.heap.size w w' := by
  have hlen := padL_le n j hn hj2
  have hst := preL_start n j hj
  obtain ⟨P, hP⟩ : ∃ P, P = padL n j := ⟨_, rfl⟩
  rw [← hP] at hlen hst ⊢
  have HST := Lib.hid hst
  clear hst hP
  go_enter Tryz.func33, Tryz.ntmps33
  go_wp2
  go_loopw [0, 5, 6] (fun q v _ wr => ∃ (k : Nat) (xs : List UInt8) (A : Option Addr) (c : Nat), q = .int .u64 (k : Int) ∧ v = .slice A xs.length c ∧ Num.U64 k ∧ Hid (P = preL k (j - xs.length) ++ xs) ∧ Hid (Owns wr w.heap.size (.slice A xs.length c) xs) ∧ Hid (Below w.heap.size w wr))
    (fun q v _ _ => (intOf q).toNat + (j - slLen v))
  case atStart => exact ⟨n, [], _, _, rfl, rfl, hn, (by show _ = _; rw [← HST.out]; simp), owns_empty w #[] rfl, val_al w _⟩
  case round =>
    obtain ⟨k, xs, A, c, rfl, rfl, hk, he, ho, hb⟩ := hrel
    have hxl : xs.length ≤ 1100 := by
      have h := congrArg List.length he.out
      rw [List.length_append] at h
      omega
    by_cases hgo : 0 < k ∨ xs.length < j
    · have HX : Hid ((48 : Int) + (k : Int) % 10 = (((UInt8.ofNat (48 + k % 10)).toNat : Nat) : Int)) := by
        show _ = _
        rw [UInt8.toNat_ofNat']
        omega
      have HOL : Hid (∀ x : Int, x = (((UInt8.ofNat (48 + k % 10)).toNat : Nat) : Int) → Owns (wr.alloc (.cells #[.int .u8 x] 5)) wr.heap.size (.slice (some ⟨wr.heap.size, 0, none⟩) 1 1) [UInt8.ofNat (48 + k % 10)]) := fun x hx => by
        rw [hx]
        exact owns_lit wr _
      have HE : Hid (P = preL (k / 10) (j - (xs.length + 1)) ++ (UInt8.ofNat (48 + k % 10) :: xs)) := by
        show _ = _
        rw [he.out, preL_step k (j - xs.length) (by omega), show j - xs.length - 1 = j - (xs.length + 1) by omega]
        simp
      obtain ⟨dg, hdg⟩ : ∃ dg, UInt8.ofNat (48 + k % 10) = dg := ⟨_, rfl⟩
      rw [hdg] at HX HOL HE
      clear hdg
      have hk0 := hk.lt
      have hd0 : 0 ≤ (k : Int) % 10 := by omega
      have hd1 : (k : Int) % 10 < 10 := by omega
      by_cases hkp : 0 < k
      · go_wp2_with (at_builtin; refine wpList_growB rfl (.tmp 21) (.tmp 22) _ rfl Tryz.underlying22 info5 wr.heap.size (.slice (some ⟨wr.heap.size, 0, none⟩) 1 1) [dg] A xs c _ rfl rfl (HOL.out _ HX.out) (ho.out.shows.2.2.up (val_al wr _)) (by simp; omega) (by simp) ?_; intro A2 c2 w3 ho3 hg3; have HB := Lib.hid (show Below w.heap.size w w3 from hb.out.trans ((grown_owns (HOL.out _ HX.out) hg3 (val_al wr _) (by simp) (Nat.le_refl _)).mono hb.out.size)); have HO := Lib.hid (show Owns w3 w.heap.size (.slice A2 (xs.length + 1) c2) (dg :: xs) from by simpa using ho3.low hb.out.size); clear ho3 hg3)
        go_roundw
        case rel => exact ⟨k / 10, dg :: xs, A2, c2, by simp, rfl, hk.div 10, HE.out, HO, HB⟩
        case measure => simp [intOf, slLen]; omega
      · have hkz : k = 0 := by omega
        subst hkz
        have hxj : xs.length < j := by omega
        have hxj2 : (xs.length : Int) < (j : Int) := by omega
        simp only [Nat.zero_div, Nat.zero_mod] at HE
        have HX2 : Hid ((48 : Int) = ((dg.toNat : Nat) : Int)) := by show _ = _; have := HX.out; simpa using this
        go_wp2_with (at_builtin; refine wpList_growB rfl (.tmp 21) (.tmp 22) _ rfl Tryz.underlying22 info5 wr.heap.size (.slice (some ⟨wr.heap.size, 0, none⟩) 1 1) [dg] A xs c _ rfl rfl (HOL.out _ HX2.out) (ho.out.shows.2.2.up (val_al wr _)) (by simp; omega) (by simp) ?_; intro A2 c2 w3 ho3 hg3; have HB := Lib.hid (show Below w.heap.size w w3 from hb.out.trans ((grown_owns (HOL.out _ HX2.out) hg3 (val_al wr _) (by simp) (Nat.le_refl _)).mono hb.out.size)); have HO := Lib.hid (show Owns w3 w.heap.size (.slice A2 (xs.length + 1) c2) (dg :: xs) from by simpa using ho3.low hb.out.size); clear ho3 hg3)
        go_roundw
        case rel => exact ⟨0, dg :: xs, A2, c2, by simp, rfl, hk, HE.out, HO, HB⟩
        case measure => simp [intOf, slLen]; omega
    · have hk0 : k = 0 := by omega
      have hx0 : ¬ xs.length < j := by omega
      subst hk0
      go_wp2
      go_ret
      have e : P = xs := by
        have h := he.out
        rw [show j - xs.length = 0 by omega, preL_end] at h
        simpa using h
      rw [e]
      exact ⟨A, c, rfl, ho.out, hb.out⟩
end Go.Proofs.YteaaadccjnmacaaGreatDoor
namespace Go.Proofs.YteaaadccjnmacaaGreatDoor
open Go.RowKit Go.Lib

def sgnL (n : Int) (j : Nat) : List UInt8 := (if n < 0 then [45] else []) ++ padL n.natAbs j
set_option maxHeartbeats 2000000 in
theorem Rsigned_any (n : Int) (j : Nat) (w : World) (h0 : -9223372036854775808 ≤ n) (h1 : n ≤ 9223372036854775807) (hj : 1 ≤ j) (hj2 : j ≤ 1000) : Calls Tryz.prog 32 #[.int .i64 n, .int .i64 (j : Int)] w fun e w' => ∃ A c, e = .returned (.slice A (sgnL n j).length c) ∧ Owns w' w.heap.size (.slice A (sgnL n j).length c) (sgnL n j) ∧ Below w.heap.size w w' := by
  by_cases hneg : n < 0
  · obtain ⟨P, hP⟩ : ∃ P, P = padL n.natAbs j := ⟨_, rfl⟩
    have hlen := padL_le n.natAbs j (show n.natAbs < 18446744073709551616 by omega) hj2
    have hs : sgnL n j = 45 :: P := by unfold sgnL; rw [if_pos hneg, hP]; rfl
    rw [hs]
    have HC : Hid (∀ (x : Int) (w1 : World), x = -n → Calls Tryz.prog 33 #[.int .u64 x, .int .i64 (j : Int)] w1 fun e w' => ∃ A c, e = .returned (.slice A P.length c) ∧ Owns w' w1.heap.size (.slice A P.length c) P ∧ Below w1.heap.size w1 w') := fun x w1 hx => by
      obtain rfl : x = ((n.natAbs : Nat) : Int) := by omega
      rw [hP]
      exact Rdecimal_any n.natAbs j w1 (show n.natAbs < 18446744073709551616 by omega) hj hj2
    rw [← hP] at hlen
    clear hP hs
    go_enter Tryz.func32, Tryz.ntmps32
    go_wp2_with (first
      | go_loud (go_at_call 33; refine (HC.out _ _ ?_).mono ?_; (omega); rintro e w2 ⟨A1, c1, rfl, ho1, hb1⟩; have HO1 := Lib.hid ho1; have HB1 := Lib.hid (show Below w.heap.size w w2 from (val_al w _).trans (hb1.mono (by simp))); have HL := Lib.hid ((owns_lit w 45).up hb1); have hsz : w.heap.size < w2.heap.size := (by have := hb1.size; simp at this; omega); clear ho1 hb1)
      | (at_builtin; refine wpList_growB rfl (.tmp 13) (.tmp 20) _ rfl Tryz.underlying22 info5 w.heap.size (.slice (some ⟨w.heap.size, 0, none⟩) 1 1) [45] A1 P c1 _ rfl rfl HL.out HO1.out.shows.2.2 (by simp; omega) (by omega) ?_; intro A2 c2 w3 ho3 hg3; have HB := Lib.hid (show Below w.heap.size w w3 from grown_owns HL.out hg3 HB1.out (by omega) (Nat.le_refl _)); have HO := Lib.hid (show Owns w3 w.heap.size (.slice A2 (P.length + 1) c2) (45 :: P) from by simpa using ho3); clear ho3 hg3))
    go_ret
    exact ⟨A2, c2, by simp, by simpa using HO.out, HB.out⟩
  · have hs : sgnL n j = padL n.toNat j := by unfold sgnL; rw [if_neg hneg, show n.natAbs = n.toNat by omega]; rfl
    rw [hs]
    have HC : Hid (∀ (x : Int) (w1 : World), x = n → Calls Tryz.prog 33 #[.int .u64 x, .int .i64 (j : Int)] w1 fun e w' => ∃ A c, e = .returned (.slice A (padL n.toNat j).length c) ∧ Owns w' w1.heap.size (.slice A (padL n.toNat j).length c) (padL n.toNat j) ∧ Below w1.heap.size w1 w') := fun x w1 hx => by
      obtain rfl : x = ((n.toNat : Nat) : Int) := by omega
      exact Rdecimal_any n.toNat j w1 (show n.toNat < 18446744073709551616 by omega) hj hj2
    clear hs
    go_enter Tryz.func32, Tryz.ntmps32
    go_wp2_with (go_at_call 33; refine (HC.out _ _ ?_).mono ?_; (first | rfl | omega); rintro e w2 ⟨A1, c1, rfl, ho1, hb1⟩; have HO1 := Lib.hid ho1; have HB1 := Lib.hid hb1; clear ho1 hb1)
    go_ret
    exact ⟨A1, c1, rfl, HO1.out, HB1.out⟩
end Go.Proofs.YteaaadccjnmacaaGreatDoor
