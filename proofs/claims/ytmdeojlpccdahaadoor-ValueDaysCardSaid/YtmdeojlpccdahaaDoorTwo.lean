/-
  The law's own function two: the number that two digits denote.
-/
import Derived.Test.YtmdeojlpccdahaaDoorDaysM
import Derived.Test.YtmdeojlpccdahaaDoorQuoteP
namespace Go.Proofs.YtmdeojlpccdahaaDoor
open Go.RowKit

set_option maxHeartbeats 1000000 in
theorem two_any (s : ByteArray) (k : Nat) (w : World) (hk : k < 100) (hs : s = str (padL k 2)) : Calls Tryd.prog 19 #[.string s] w fun e w' => e = .returned (.int .i64 (k : Int)) ∧ ∃ q, w' = w.drewN q := by
  have hp := pad2 k hk
  have hl : s.data.toList = [UInt8.ofNat (48 + k / 10), UInt8.ofNat (48 + k % 10)] := by rw [hs, str_data, hp]
  have hsz : (s.size : Int) = 2 := by
    have : s.data.toList.length = s.size := rfl
    rw [hl] at this
    simp at this
    omega
  obtain ⟨X, hX⟩ : ∃ X, X = 48 + k / 10 := ⟨_, rfl⟩
  obtain ⟨Y, hY⟩ : ∃ Y, Y = 48 + k % 10 := ⟨_, rfl⟩
  have e0 : ∀ h' : 0 < s.size, (s[0]'h').toNat = X := fun h' => by
    rw [byte_at s 0 _ (by rw [hl]; rfl) h', dig8 _ (by omega), hX]
  have e1 : ∀ h' : 1 < s.size, (s[1]'h').toNat = Y := fun h' => by
    rw [byte_at s 1 _ (by rw [hl]; rfl) h', dig8 _ (by omega), hY]
  have q1 : ¬ (X : Int) < 48 := by omega
  have q2 : ¬ 57 < (X : Int) := by omega
  have q3 : ¬ (Y : Int) < 48 := by omega
  have q4 : ¬ 57 < (Y : Int) := by omega
  have w1 : IntKind.u8.wrap ((X : Int) - 48) = (X : Int) - 48 := by rw [IntKind.wrap_u8]; omega
  have w2 : IntKind.u8.wrap ((Y : Int) - 48) = (Y : Int) - 48 := by rw [IntKind.wrap_u8]; omega
  have HK : Hid (10 * ((X : Int) - 48) + ((Y : Int) - 48) = (k : Int)) := by show _ = _; omega
  have b1 : (X : Int) ≤ 57 := by omega
  have b2 : (Y : Int) ≤ 57 := by omega
  clear hX hY hl hp hs hk
  go_enter Tryd.func19, Tryd.ntmps19
  go_wp2
  go_quiet (fail)
  go_wp2
  go_ret
  exact ⟨by rw [HK.out]; rfl, nq, rfl⟩
end Go.Proofs.YtmdeojlpccdahaaDoor
