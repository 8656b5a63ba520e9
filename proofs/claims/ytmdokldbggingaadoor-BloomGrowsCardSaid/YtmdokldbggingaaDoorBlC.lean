/-
  The reference's bit and Ones: by contracts.
-/
import Derived.Test.YtmdokldbggingaaDoorBlB
namespace Go.Proofs.YtmdokldbggingaaDoor
open Go.RowKit

theorem bit_mod (c : UInt8) (v : Nat) : ((c.toNat : Int) / 2 ^ v).tmod 2 = ((c.toNat.testBit v).toNat : Int) := by
  have e1 : (c.toNat : Int) / 2 ^ v = ((c.toNat / 2 ^ v : Nat) : Int) := by push_cast; rfl
  rw [e1, Nat.toNat_testBit, Int.tmod_eq_emod_of_nonneg (Int.natCast_nonneg _)]
  push_cast
  rfl
theorem bit_any (A : Option Addr) (n c : Nat) (l : List UInt8) (j : Nat) (w : World) (hn : n = l.length) (hl : n ≤ 140737488351232) (hj : j < 8 * n) (hs : Shows w w.heap.size A l) :
    Calls Tryd.prog 37 #[.slice A n c, .int .i64 j] w fun e w' => e = .returned (.bool (tb l j)) ∧ w' = w := by
  obtain ⟨u, hu⟩ : ∃ u, j / 8 = u := ⟨_, rfl⟩
  obtain ⟨v, hv⟩ : ∃ v, j % 8 = v := ⟨_, rfl⟩
  have hum : u < n := by omega
  have hv8 : v < 8 := by omega
  have q1 : (j : Int) / 8 = (u : Int) := by omega
  have q2 : (j : Int) % 8 = (v : Int) := by omega
  have q3 : (j : Int) ≤ 1125899906809856 := by omega
  obtain ⟨x, hx⟩ := getL_of (l := l) (k := u) (by rw [← hn]; exact hum)
  obtain ⟨b, off, rfl, hb, hc⟩ := hs (by omega)
  have c1 := hc u x hx
  have HT := Li (show tb l j = x.toNat.testBit v by unfold tb; rw [hu, hv, List.getD_eq_getElem?_getD, hx]; rfl)
  have hbit := bit_mod x v
  have i1 : (u : Int) < (n : Int) := by omega
  clear hu hv hc hx hn hs
  cases ht : x.toNat.testBit v with
  | false =>
    rw [ht] at hbit
    have hbit2 : ((x.toNat : Int) / 2 ^ v).tmod 2 = 0 := hbit
    clear hbit
    have HT2 := Li (show tb l j = false by rw [HT.out, ht])
    clear ht
    go_enter Tryd.func37, Tryd.ntmps37
    go_wp2
    go_ret
    exact ⟨by rw [HT2.out]; rfl, rfl⟩
  | true =>
    rw [ht] at hbit
    have hbit2 : ((x.toNat : Int) / 2 ^ v).tmod 2 = 1 := hbit
    clear hbit
    have HT2 := Li (show tb l j = true by rw [HT.out, ht])
    clear ht
    go_enter Tryd.func37, Tryd.ntmps37
    go_wp2
    go_ret
    exact ⟨by rw [HT2.out]; rfl, rfl⟩
theorem onesN_le (l : List UInt8) : ∀ n, onesN l n ≤ n
  | 0 => Nat.le_refl _
  | n + 1 => by
    rw [onesN_succ]
    have := onesN_le l n
    split <;> omega
set_option maxHeartbeats 1000000 in
theorem Ones_any (A : Option Addr) (n c : Nat) (l : List UInt8) (w : World) (hn : n = l.length) (hl : n ≤ 1000000) (hs : Shows w w.heap.size A l) :
    Calls Tryd.prog 24 #[.slice A n c] w fun e w' => e = .returned (.int .i64 (ones l : Nat)) ∧ w' = w := by
  have HN := Li hn
  have HS := Li hs
  have i0 : (n : Int) ≤ 1000000 := by omega
  have HO := Li (onesN_le l)
  clear hn hs
  go_enter Tryd.func24, Tryd.ntmps24
  go_wp2
  go_loop [3, 4] (fun s i => ∃ j : Nat, j ≤ 8 * n ∧ i = .int .i64 j ∧ s = .int .i64 (onesN l j : Nat)) (fun _ i => 8 * n - (intOf i).toNat)
  case atStart => exact ⟨0, by omega, rfl, rfl⟩
  case round =>
    obtain ⟨j, hj, rfl, rfl⟩ := hrel
    have ho := HO.out j
    by_cases hlt : j < 8 * n
    · have j1 : (j : Int) < 8 * (n : Int) := by omega
      have j2 : (j : Int) ≤ 8000000 := by omega
      have hsu := onesN_succ l j
      obtain ⟨z, hz⟩ : ∃ z, onesN l j = z := ⟨_, rfl⟩
      have HZ := Li hz
      rw [hz] at ho hsu ⊢
      have j3 : (z : Int) ≤ 8000000 := by omega
      clear hz
      obtain ⟨b, hb⟩ : ∃ b, tb l j = b := ⟨_, rfl⟩
      have HB := Li hb
      rw [hb] at hsu
      clear hb
      cases b with
      | true =>
        have HZ2 := Li (show onesN l (j + 1) = z + 1 from hsu)
        clear hsu
        go_wp2_with (go_at_call 37; refine (bit_any A n c l j _ HN.out (by omega) hlt HS.out).mono ?_; rintro e w' ⟨rfl, rfl⟩; rw [HB.out])
        go_round
        case rel => exact ⟨j + 1, by omega, by go_num, by rw [HZ2.out]; go_num⟩
        case measure => simp [intOf]; omega
      | false =>
        have HZ2 := Li (show onesN l (j + 1) = z from hsu)
        clear hsu
        go_wp2_with (go_at_call 37; refine (bit_any A n c l j _ HN.out (by omega) hlt HS.out).mono ?_; rintro e w' ⟨rfl, rfl⟩; rw [HB.out])
        go_round
        case rel => exact ⟨j + 1, by omega, by go_num, by rw [HZ2.out]⟩
        case measure => simp [intOf]; omega
    · have j1 : ¬ (j : Int) < 8 * (n : Int) := by omega
      have HE := Li (show j = 8 * l.length by rw [← HN.out]; omega)
      go_wp2
      go_ret
      exact ⟨by rw [HE.out]; rfl, rfl⟩
end Go.Proofs.YtmdokldbggingaaDoor
