/-
  The reference's New, mod, name, by contracts.
-/
import Derived.Test.YtpgbpfdedpppeaaRFld
import Derived.Test.YtpgbpfdedpppeaaPln3
namespace Go.Proofs.Ytpgbpfdedpppeaa
open Go.RowKit

theorem w64_in (n : Int) (h : -9223372036854775808 ≤ n ∧ n ≤ 9223372036854775807) : wrap64 n = n := by unfold wrap64; omega
theorem RNew_any (w : World) : Calls Try.prog 31 #[] w fun e w' => e = .returned (.agg #[.slice none 0 0, .int .i64 1]) ∧ Below w.heap.size w w' := by
  have R0 := Lib.hid (CB.new w 30 [.slice none 0 0, .int .i64 0])
  have B0 := Lib.hid (al1 w (.cells #[.slice none 0 0, .int .i64 0] 30))
  go_enter Try.func31, Try.ntmps31
  go_wp2_with ((with_reducible show wpList _ _ _ (Oper.mk none (.store _ _ _) _ _ _ _ :: _) _ _); refine wpList_store_cb rfl 30 (.tmp 0) (.tmp 1) rfl (w.heap.size) [.slice none 0 0, .int .i64 1] rfl rfl 30 [.slice none 0 0, .int .i64 0] 2 R0.out sizeS rfl rfl (one_s _ _ _ _) ?_; intro wz hcz hgz hzz)
  refine bodyPost_ret (res_cell1 Try.results31 rfl hcz Try.underlying30 sizeS rfl) rfl ⟨rfl, below_grown B0.out hgz B0.out.size (by omega)⟩
theorem Rmod_any (x n : Int) (w : World) (_hx : (Lit.int .i64 x).wf = true) (hn : n ≤ 1073741824) :
    Calls Try.prog 40 #[.int .i64 x, .int .i64 n] w fun e w' => e = .returned (.int .i64 (modR x n)) ∧ w' = w := by
  unfold modR
  by_cases h : n ≤ 0
  · rw [if_pos h]
    go_enter Try.func40, Try.ntmps40
    go_wp2
    go_ret
    exact ⟨rfl, rfl⟩
  · rw [if_neg h]
    have h0 : 0 < n := by omega
    have h1 := Int.tmod_lt_of_pos x h0
    have h2 := Int.lt_tmod_of_pos x h0
    have hw := Lib.hid (w64_in (x.tmod n + n) (by omega))
    clear h1 h2
    go_enter Try.func40, Try.ntmps40
    go_wp2
    go_ret
    rw [hw.out]
    exact ⟨rfl, rfl⟩
theorem tm6 (n : Nat) : Int.tmod (n : Int) 6 = ((n % 6 : Nat) : Int) := by rw [Int.tmod_eq_emod_of_nonneg (by omega)]; omega
set_option maxHeartbeats 1000000 in
theorem Rname_any (s : ByteArray) (w : World) (hs : s.size ≤ 9223372036854775807) :
    Calls Try.prog 41 #[.string s] w fun e w' => e = .returned (.string (nameR s)) ∧ Below w.heap.size w w' := by
  unfold nameR
  obtain ⟨b, hb⟩ : ∃ b, namB s = b := ⟨_, rfl⟩
  have HB := Lib.hid hb
  rw [hb]
  clear hb
  by_cases hz : b = true ∧ s.size ≤ 4
  · rw [if_pos hz]
    obtain ⟨rfl, hz⟩ := hz
    have hz' : (s.size : Int) ≤ 4 := by omega
    go_enter Try.func41, Try.ntmps41
    go_wp2_with (go_at_call 47; refine (RName_any _ _ hs).mono ?_; rintro e w7 ⟨rfl, rfl⟩; rw [HB.out])
    go_ret
    exact ⟨rfl, Below.refl _ _⟩
  · rw [if_neg hz]
    have hz' : b = false ∨ (b = true ∧ ¬ (s.size : Int) ≤ 4) := by
      cases b
      · exact .inl rfl
      · exact .inr ⟨rfl, fun h => hz ⟨rfl, by omega⟩⟩
    clear hz
    have h6 : s.size % 6 = 0 ∨ s.size % 6 = 1 ∨ s.size % 6 = 2 ∨ s.size % 6 = 3 ∨ s.size % 6 = 4 ∨ s.size % 6 = 5 := by omega
    have e6 := tm6 s.size
    rcases h6 with h | h | h | h | h | h <;> rw [h] at e6 ⊢ <;> clear h <;> rcases hz' with rfl | ⟨rfl, hz'⟩
    all_goals
      go_enter Try.func41, Try.ntmps41
      go_wp2_with (go_at_call 47; refine (RName_any _ _ hs).mono ?_; rintro e w7 ⟨rfl, rfl⟩; rw [HB.out])
      go_ret
      exact ⟨rfl, al1 _ _⟩
end Go.Proofs.Ytpgbpfdedpppeaa
