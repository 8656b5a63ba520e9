/-
  The reference's Type and Valid, by contracts.
-/
import Derived.Test.YtpgbpfdedpppeaaValP
namespace Go.Proofs.Ytpgbpfdedpppeaa
open Go.RowKit

theorem RType_any (t : Int) (z : Bool) (w : World) (hz : decide (1 ≤ t ∧ t ≤ 5) = z) : Calls Try.prog 71 #[.int .i64 t] w fun e w' => e = .returned (.bool z) ∧ w' = w := by
  subst hz
  by_cases h1 : 1 ≤ t
  · by_cases h2 : t ≤ 5
    · have e : decide (1 ≤ t ∧ t ≤ 5) = true := by simp [h1, h2]
      rw [e]
      clear e
      go_enter Try.func71, Try.ntmps71
      go_wp2
      go_ret
      exact ⟨by simp [h2], rfl⟩
    · have e : decide (1 ≤ t ∧ t ≤ 5) = false := by simp [h2]
      rw [e]
      clear e
      go_enter Try.func71, Try.ntmps71
      go_wp2
      go_ret
      exact ⟨by simp <;> omega, rfl⟩
  · have e : decide (1 ≤ t ∧ t ≤ 5) = false := by simp [h1]
    rw [e]
    clear e
    go_enter Try.func71, Try.ntmps71
    go_wp2
    go_ret
    exact ⟨by simp, rfl⟩
theorem empS_eq (s : ByteArray) (q : Bool) (h : empS s = q) : (s.toList == []) = q := by
  rw [← h]
  unfold empS
  cases s.toList <;> rfl
theorem RValid_bool (n : Int) (s : ByteArray) (w : World) : Calls Try.prog 51 #[.agg #[.bool false, .int .i64 n, .string s], .int .i64 1] w fun e w' => e = .returned (.bool (decide (0 ≤ n ∧ n ≤ 1) && empS s)) ∧ Below w.heap.size w w' := by
  have hz : decide (1 ≤ (1 : Int) ∧ (1 : Int) ≤ 5) = true := by decide
  obtain ⟨q, hq⟩ : ∃ q, empS s = q := ⟨_, rfl⟩
  have he := empS_eq s q hq
  rw [hq]
  clear hq
  cases q
  · rw [Bool.and_false]
    go_enter Try.func51, Try.ntmps51
    go_wp2_with (go_at_call 71; refine (RType_any _ true _ hz).mono ?_; rintro e w' ⟨rfl, rfl⟩)
    go_ret
    exact ⟨by simp, val_al _ _⟩
  · rw [Bool.and_true]
    by_cases h1 : 0 ≤ n
    · by_cases h2 : n ≤ 1
      · rw [decide_eq_true (show 0 ≤ n ∧ n ≤ 1 from ⟨h1, h2⟩)]
        go_enter Try.func51, Try.ntmps51
        go_wp2_with (go_at_call 71; refine (RType_any _ true _ hz).mono ?_; rintro e w' ⟨rfl, rfl⟩)
        go_ret
        exact ⟨by simp [h2], val_al _ _⟩
      · rw [decide_eq_false (show ¬ (0 ≤ n ∧ n ≤ 1) from fun h => h2 h.2)]
        go_enter Try.func51, Try.ntmps51
        go_wp2_with (go_at_call 71; refine (RType_any _ true _ hz).mono ?_; rintro e w' ⟨rfl, rfl⟩)
        go_ret
        exact ⟨by simp <;> omega, val_al _ _⟩
    · rw [decide_eq_false (show ¬ (0 ≤ n ∧ n ≤ 1) from fun h => h1 h.1)]
      have k1 : decide (0 ≤ n) = false := decide_eq_false h1
      have k2 : n < 0 := by omega
      go_enter Try.func51, Try.ntmps51
      go_wp2_with (go_at_call 71; refine (RType_any _ true _ hz).mono ?_; rintro e w' ⟨rfl, rfl⟩)
      go_ret
      exact ⟨by simp <;> omega, val_al _ _⟩
theorem RValid_small (n : Int) (s : ByteArray) (w : World) : Calls Try.prog 51 #[.agg #[.bool false, .int .i64 n, .string s], .int .i64 2] w fun e w' => e = .returned (.bool (decide (-2147483648 ≤ n ∧ n ≤ 2147483647) && empS s)) ∧ Below w.heap.size w w' := by
  have hz : decide (1 ≤ (2 : Int) ∧ (2 : Int) ≤ 5) = true := by decide
  obtain ⟨q, hq⟩ : ∃ q, empS s = q := ⟨_, rfl⟩
  have he := empS_eq s q hq
  rw [hq]
  clear hq
  cases q
  · rw [Bool.and_false]
    go_enter Try.func51, Try.ntmps51
    go_wp2_with (go_at_call 71; refine (RType_any _ true _ hz).mono ?_; rintro e w' ⟨rfl, rfl⟩)
    go_ret
    exact ⟨by simp, val_al _ _⟩
  · rw [Bool.and_true]
    by_cases h1 : -2147483648 ≤ n
    · by_cases h2 : n ≤ 2147483647
      · rw [decide_eq_true (show -2147483648 ≤ n ∧ n ≤ 2147483647 from ⟨h1, h2⟩)]
        go_enter Try.func51, Try.ntmps51
        go_wp2_with (go_at_call 71; refine (RType_any _ true _ hz).mono ?_; rintro e w' ⟨rfl, rfl⟩)
        go_ret
        exact ⟨by simp [h2], val_al _ _⟩
      · rw [decide_eq_false (show ¬ (-2147483648 ≤ n ∧ n ≤ 2147483647) from fun h => h2 h.2)]
        go_enter Try.func51, Try.ntmps51
        go_wp2_with (go_at_call 71; refine (RType_any _ true _ hz).mono ?_; rintro e w' ⟨rfl, rfl⟩)
        go_ret
        exact ⟨by simp <;> omega, val_al _ _⟩
    · rw [decide_eq_false (show ¬ (-2147483648 ≤ n ∧ n ≤ 2147483647) from fun h => h1 h.1)]
      have k1 : decide (-2147483648 ≤ n) = false := decide_eq_false h1
      have k2 : n < -2147483648 := by omega
      go_enter Try.func51, Try.ntmps51
      go_wp2_with (go_at_call 71; refine (RType_any _ true _ hz).mono ?_; rintro e w' ⟨rfl, rfl⟩)
      go_ret
      exact ⟨by simp <;> omega, val_al _ _⟩
theorem RValid_day (n : Int) (s : ByteArray) (w : World) : Calls Try.prog 51 #[.agg #[.bool false, .int .i64 n, .string s], .int .i64 5] w fun e w' => e = .returned (.bool (decide (-1000000 ≤ n ∧ n ≤ 1000000) && empS s)) ∧ Below w.heap.size w w' := by
  have hz : decide (1 ≤ (5 : Int) ∧ (5 : Int) ≤ 5) = true := by decide
  obtain ⟨q, hq⟩ : ∃ q, empS s = q := ⟨_, rfl⟩
  have he := empS_eq s q hq
  rw [hq]
  clear hq
  cases q
  · rw [Bool.and_false]
    go_enter Try.func51, Try.ntmps51
    go_wp2_with (go_at_call 71; refine (RType_any _ true _ hz).mono ?_; rintro e w' ⟨rfl, rfl⟩)
    go_ret
    exact ⟨by simp, val_al _ _⟩
  · rw [Bool.and_true]
    by_cases h1 : -1000000 ≤ n
    · by_cases h2 : n ≤ 1000000
      · rw [decide_eq_true (show -1000000 ≤ n ∧ n ≤ 1000000 from ⟨h1, h2⟩)]
        go_enter Try.func51, Try.ntmps51
        go_wp2_with (go_at_call 71; refine (RType_any _ true _ hz).mono ?_; rintro e w' ⟨rfl, rfl⟩)
        go_ret
        exact ⟨by simp [h2], val_al _ _⟩
      · rw [decide_eq_false (show ¬ (-1000000 ≤ n ∧ n ≤ 1000000) from fun h => h2 h.2)]
        go_enter Try.func51, Try.ntmps51
        go_wp2_with (go_at_call 71; refine (RType_any _ true _ hz).mono ?_; rintro e w' ⟨rfl, rfl⟩)
        go_ret
        exact ⟨by simp <;> omega, val_al _ _⟩
    · rw [decide_eq_false (show ¬ (-1000000 ≤ n ∧ n ≤ 1000000) from fun h => h1 h.1)]
      have k1 : decide (-1000000 ≤ n) = false := decide_eq_false h1
      have k2 : n < -1000000 := by omega
      go_enter Try.func51, Try.ntmps51
      go_wp2_with (go_at_call 71; refine (RType_any _ true _ hz).mono ?_; rintro e w' ⟨rfl, rfl⟩)
      go_ret
      exact ⟨by simp <;> omega, val_al _ _⟩
theorem RValid_null (n : Int) (s : ByteArray) (t : Int) (w : World) (hz : decide (1 ≤ t ∧ t ≤ 5) = true) : Calls Try.prog 51 #[.agg #[.bool true, .int .i64 n, .string s], .int .i64 t] w fun e w' => e = .returned (.bool (decide (n = 0) && empS s)) ∧ Below w.heap.size w w' := by
  obtain ⟨q, hq⟩ : ∃ q, empS s = q := ⟨_, rfl⟩
  have he := empS_eq s q hq
  rw [hq]
  clear hq
  by_cases hn : n = 0
  · subst hn
    go_enter Try.func51, Try.ntmps51
    go_wp2_with (go_at_call 71; refine (RType_any _ true _ hz).mono ?_; rintro e w' ⟨rfl, rfl⟩)
    go_ret
    exact ⟨by simp [he], val_al _ _⟩
  · go_enter Try.func51, Try.ntmps51
    go_wp2_with (go_at_call 71; refine (RType_any _ true _ hz).mono ?_; rintro e w' ⟨rfl, rfl⟩)
    go_ret
    exact ⟨by simp [hn], val_al _ _⟩
theorem RValid_out (b : Bool) (n : Int) (s : ByteArray) (t : Int) (w : World) (hz : decide (1 ≤ t ∧ t ≤ 5) = false) : Calls Try.prog 51 #[.agg #[.bool b, .int .i64 n, .string s], .int .i64 t] w fun e w' => e = .returned (.bool false) ∧ Below w.heap.size w w' := by
  go_enter Try.func51, Try.ntmps51
  go_wp2_with (go_at_call 71; refine (RType_any _ false _ hz).mono ?_; rintro e w' ⟨rfl, rfl⟩)
  go_ret
  exact ⟨by simp, val_al _ _⟩
theorem RValid_int (n : Int) (s : ByteArray) (w : World) : Calls Try.prog 51 #[.agg #[.bool false, .int .i64 n, .string s], .int .i64 3] w fun e w' => e = .returned (.bool (empS s)) ∧ Below w.heap.size w w' := by
  have hz : decide (1 ≤ (3 : Int) ∧ (3 : Int) ≤ 5) = true := by decide
  obtain ⟨q, hq⟩ : ∃ q, empS s = q := ⟨_, rfl⟩
  have he := empS_eq s q hq
  rw [hq]
  clear hq
  go_enter Try.func51, Try.ntmps51
  go_wp2_with (go_at_call 71; refine (RType_any _ true _ hz).mono ?_; rintro e w' ⟨rfl, rfl⟩)
  go_ret
  exact ⟨by simp [he], val_al _ _⟩
theorem RValid_text (n : Int) (s : ByteArray) (w : World) (hs : s.size ≤ 9223372036854775807) : Calls Try.prog 51 #[.agg #[.bool false, .int .i64 n, .string s], .int .i64 4] w fun e w' => e = .returned (.bool (decide (n = 0) && decide (s.size ≤ 200))) ∧ Below w.heap.size w w' := by
  have hz : decide (1 ≤ (4 : Int) ∧ (4 : Int) ≤ 5) = true := by decide
  by_cases hn : n = 0
  · subst hn
    go_enter Try.func51, Try.ntmps51
    go_wp2_with (go_at_call 71; refine (RType_any _ true _ hz).mono ?_; rintro e w' ⟨rfl, rfl⟩)
    go_ret
    exact ⟨by simp; try omega, val_al _ _⟩
  · go_enter Try.func51, Try.ntmps51
    go_wp2_with (go_at_call 71; refine (RType_any _ true _ hz).mono ?_; rintro e w' ⟨rfl, rfl⟩)
    go_ret
    exact ⟨by simp [hn], val_al _ _⟩
/-- the reference's Valid -/
theorem RValid_any (b : Bool) (n : Int) (s : ByteArray) (t : Int) (w : World) (hs : s.size ≤ 9223372036854775807) : Calls Try.prog 51 #[.agg #[.bool b, .int .i64 n, .string s], .int .i64 t] w fun e w' => e = .returned (.bool (okV ⟨b, n, s⟩ t)) ∧ Below w.heap.size w w' := by
  by_cases ht : 1 ≤ t ∧ t ≤ 5
  · unfold okV
    cases b with
    | true => simpa [ht] using RValid_null n s t w (decide_eq_true ht)
    | false =>
      rcases (by omega : t = 1 ∨ t = 2 ∨ t = 3 ∨ t = 4 ∨ t = 5) with rfl | rfl | rfl | rfl | rfl
      · simpa using RValid_bool n s w
      · simpa using RValid_small n s w
      · simpa using RValid_int n s w
      · simpa using RValid_text n s w hs
      · simpa using RValid_day n s w
  · have e : okV ⟨b, n, s⟩ t = false := by
      rw [Bool.eq_false_iff]
      intro h
      unfold okV at h
      cases b <;> simp at h
      · repeat' split at h
        all_goals first | omega | (simp at h; omega) | simp at h
      · exact ht h.1
    rw [e]
    exact RValid_out b n s t w (decide_eq_false ht)
end Go.Proofs.Ytpgbpfdedpppeaa
