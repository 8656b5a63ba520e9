/-
  The reference's number and guessInt, by contracts.
-/
import Derived.Test.YteaaadccjnmacaaGreatDoorDigR
import Derived.Test.YteaaadccjnmacaaGreatDoorQuoteP
import Derived.Test.YteaaadccjnmacaaGreatDoorGueM
namespace Go.Proofs.YteaaadccjnmacaaGreatDoor
open Go.RowKit Go.Lib

set_option maxHeartbeats 2000000 in
theorem Rnumber_any (s : ByteArray) (w : World) (hs : s.size ≤ 1000000) : Calls Tryz.prog 62 #[.string s] w fun e w' => e = .returned (.int .u64 (numW s.data.toList)) ∧ w' = w := by
  obtain ⟨n, hn⟩ : ∃ n, n = s.size := ⟨_, rfl⟩
  obtain ⟨l, hl⟩ : ∃ l, l = s.data.toList := ⟨_, rfl⟩
  have HLN : Hid (l.length = n) := by show _ = _; rw [hl, hn]; rfl
  have HBY : Hid (∀ k c, l[k]? = some c → ∀ h' : k < s.size, (s[k]'h').toNat = c.toNat) := fun k c h => byte_at s k c (by rw [← hl]; exact h)
  have hsz : (s.size : Int) = (n : Int) := by rw [hn]
  rw [← hl]
  clear hl
  go_enter Tryz.func62, Tryz.ntmps62
  go_wp2
  go_loop [3, 4] (fun v i => ∃ k : Nat, k ≤ n ∧ i = .int .i64 k ∧ v = .int .u64 (numW (l.take k))) (fun _ i => n - (intOf i).toNat)
  case atStart => exact ⟨0, Nat.zero_le _, rfl, rfl⟩
  case round =>
    obtain ⟨k, hk, rfl, rfl⟩ := hrel
    by_cases hlt : k < n
    · obtain ⟨c, hc⟩ : ∃ c, l[k]? = some c := ⟨_, List.getElem?_eq_getElem (by rw [HLN.out]; exact hlt)⟩
      have hby := HBY.out k c hc
      have j1 : (k : Int) < (n : Int) := by omega
      obtain ⟨x, hx⟩ : ∃ x, x = numW (l.take k) := ⟨_, rfl⟩
      have HST : Hid (numW (l.take (k + 1)) = numStep x c) := by show _ = _; rw [take_snoc5 l k c hc, numW_snoc, hx]
      have hc8 := c.toNat_lt
      rw [← hx]
      clear hc hx
      go_wp2
      go_round
      case rel => exact ⟨k + 1, by omega, by go_num, by rw [HST.out]; rfl⟩
      case measure => simp [intOf]; omega
    · have hkn : k = n := by omega
      subst hkn
      have j1 : ¬ (k : Int) < (k : Int) := by omega
      obtain ⟨x, hx⟩ : ∃ x, x = numW (l.take k) := ⟨_, rfl⟩
      have HE : Hid (x = numW l) := by show _ = _; rw [hx, ← HLN.out, List.take_length]
      rw [← hx]
      clear hlt hx hn
      go_wp2
      go_ret
      exact ⟨by rw [← HE.out]; rfl, rfl⟩
set_option maxHeartbeats 2000000 in
theorem RguessInt_any (s : ByteArray) (w : World) (hs : s.size ≤ 1000000) : Calls Tryz.prog 40 #[.string s] w fun e w' => e = .returned (.int .i64 (gInt s.data.toList)) ∧ w' = w := by
  obtain ⟨l, hl⟩ : ∃ l, l = s.data.toList := ⟨_, rfl⟩
  have hsl : l.length = s.size := by rw [hl]; rfl
  cases l with
  | nil =>
    have hz : s.size = 0 := by rw [← hsl]; rfl
    rw [← hl]
    have HC := Lib.hid (Rnumber_any s w hs)
    rw [← hl] at HC
    have j1 : ¬ (s.size : Int) > 0 := by omega
    have HG : Hid (gInt [] = wrap64 (numW [])) := rfl
    clear hl hsl hz
    go_enter Tryz.func40, Tryz.ntmps40
    go_wp2_with (go_at_call 62; refine HC.out.mono ?_; rintro e w' ⟨rfl, rfl⟩)
    go_ret
    exact ⟨by rw [HG.out]; rfl, rfl⟩
  | cons c r =>
    have hz : 0 < s.size := by rw [← hsl]; simp
    have j1 : (s.size : Int) > 0 := by omega
    have hb0 := byte_at s 0 c (by rw [← hl]; rfl)
    have j2 : 0 < s.size := hz
    rw [← hl]
    by_cases h45 : c.toNat = 45
    · have HG : Hid (gInt (c :: r) = wrap64 (-(wrap64 (numW r)))) := by show _ = _; rw [gInt_cons, if_pos h45]
      have HC : Hid (Calls Tryz.prog 62 #[.string (s.extract 1 s.size)] w fun e w' => e = .returned (.int .u64 (numW r)) ∧ w' = w) := by
        have h := Rnumber_any (s.extract 1 s.size) w (by rw [ByteArray.size_extract]; omega)
        have e : (s.extract 1 s.size).data.toList = r := by
          rw [Lib.extract_data, ← hl, List.drop_succ_cons, List.drop_zero, List.take_of_length_le]
          simp at hsl
          omega
        rwa [e] at h
      rw [h45] at hb0
      generalize numW r = x at *
      clear hl hsl h45
      go_enter Tryz.func40, Tryz.ntmps40
      go_wp2_with (go_at_call 62; refine HC.out.mono ?_; rintro e w' ⟨rfl, rfl⟩)
      go_ret
      exact ⟨by rw [HG.out]; rfl, rfl⟩
    · have HG : Hid (gInt (c :: r) = wrap64 (numW (c :: r))) := by show _ = _; rw [gInt_cons, if_neg h45]
      have HC := Lib.hid (Rnumber_any s w hs)
      rw [← hl] at HC
      obtain ⟨x, hx⟩ : ∃ x, x = c.toNat := ⟨_, rfl⟩
      rw [← hx] at hb0 h45
      have j3 : ((x : Int) == 45) = false := by simp; omega
      generalize numW (c :: r) = y at *
      clear hl hsl h45 hx
      go_enter Tryz.func40, Tryz.ntmps40
      go_wp2_with (go_at_call 62; refine HC.out.mono ?_; rintro e w' ⟨rfl, rfl⟩)
      go_ret
      exact ⟨by rw [HG.out]; rfl, rfl⟩
end Go.Proofs.YteaaadccjnmacaaGreatDoor
