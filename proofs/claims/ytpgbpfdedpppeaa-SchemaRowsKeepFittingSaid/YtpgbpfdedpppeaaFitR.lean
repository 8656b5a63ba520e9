/-
  The reference's Fit, by a contract: a value that is valid for the type.
-/
import Derived.Test.YtpgbpfdedpppeaaValR
import Derived.Lib.MinMax
namespace Go.Proofs.Ytpgbpfdedpppeaa
open Go.RowKit

theorem ok1 (n : Int) : okV ⟨false, n, ⟨#[]⟩⟩ 1 = decide (0 ≤ n ∧ n ≤ 1) := by unfold okV; simp [empS_mt]
theorem ok3 (n : Int) : okV ⟨false, n, ⟨#[]⟩⟩ 3 = true := by unfold okV; simp [empS_mt]
theorem okn (t : Int) : okV ⟨true, 0, ⟨#[]⟩⟩ t = decide (1 ≤ t ∧ t ≤ 5) := by unfold okV; simp [empS_mt]
theorem and1_i64 (n : Int) : bits .and .i64 n 1 = 0 ∨ bits .and .i64 n 1 = 1 := by
  show IntKind.i64.wrap ((BitVec.ofInt 64 n &&& BitVec.ofInt 64 1).toNat : Int) = 0 ∨ IntKind.i64.wrap ((BitVec.ofInt 64 n &&& BitVec.ofInt 64 1).toNat : Int) = 1
  have h : ((BitVec.ofInt 64 n) &&& BitVec.ofInt 64 1).toNat < 2 := by
    rw [BitVec.toNat_and]
    exact Nat.lt_of_le_of_lt Nat.and_le_right (by decide)
  rw [IntKind.wrap_i64]
  omega
theorem ok_fitB (z : Int) (h : z = 0 ∨ z = 1) : okV ⟨false, z, ⟨#[]⟩⟩ 1 = true := by rw [ok1]; rcases h with rfl | rfl <;> rfl
theorem ok_fit2 (z : Int) (h : -2147483648 ≤ z ∧ z ≤ 2147483647) : okV ⟨false, z, ⟨#[]⟩⟩ 2 = true := by unfold okV; simp [empS_mt, h.1, h.2]
theorem ok_fit5 (z : Int) (h : -1000000 ≤ z ∧ z ≤ 1000000) : okV ⟨false, z, ⟨#[]⟩⟩ 5 = true := by unfold okV; simp [empS_mt, h.1, h.2]
theorem ok_fit4 (s : ByteArray) (h : s.size ≤ 200) : okV ⟨false, 0, s⟩ 4 = true := by unfold okV; simp [h]
theorem fit_ret {w w' : World} {b : Bool} {n : Int} {s : ByteArray} {t : Int} (hk : okV ⟨b, n, s⟩ t = true) (h0 : -9223372036854775808 ≤ n) (h1 : n ≤ 9223372036854775807) (h2 : s.size ≤ 200) (hb : ∃ o o', w' = (w.alloc o).alloc o') :
    (∃ u : Va, Ending.returned (.agg #[.bool b, .int .i64 n, .string s]) = Ending.returned u.val ∧ okV u t = true ∧ u.Fine ∧ u.s.size ≤ 200) ∧ ∃ o o', w' = (w.alloc o).alloc o' :=
  ⟨⟨⟨b, n, s⟩, rfl, hk, ⟨h0, h1, by show s.size ≤ _; omega⟩, h2⟩, hb⟩
set_option maxHeartbeats 1000000 in
theorem Fit_w (b : Bool) (n : Int) (s : ByteArray) (t : Int) (w : World) (hv : Va.Fine ⟨b, n, s⟩) (hs : s.size ≤ 9223372036854775807) (ht : 1 ≤ t ∧ t ≤ 5) : Calls Try.prog 72 #[.agg #[.bool b, .int .i64 n, .string s], .int .i64 t] w fun e w' =>
    (∃ u : Va, e = .returned u.val ∧ okV u t = true ∧ u.Fine ∧ u.s.size ≤ 200) ∧ ∃ o o', w' = (w.alloc o).alloc o' := by
  have hlo := hv.lo
  have hhi := hv.hi
  simp only at hlo hhi
  clear hv
  cases b
  · rcases (by omega : t = 1 ∨ t = 2 ∨ t = 5 ∨ t = 4 ∨ t = 3) with rfl | rfl | rfl | rfl | rfl
    · have ha := and1_i64 n
      obtain ⟨z, hz⟩ : ∃ z, bits .and .i64 n 1 = z := ⟨_, rfl⟩
      rw [hz] at ha
      clear ht hlo hhi hs
      go_enter Try.func72, Try.ntmps72
      go_wp2
      refine bodyPost_ret (v := .agg #[.bool false, .int .i64 z, .string ⟨#[]⟩]) (by simp [results, Try.results72, go_sem, hz]) rfl (fit_ret (ok_fitB z ha) (by omega) (by omega) (by decide) ?_)
      exact ⟨_, _, rfl⟩
    · obtain ⟨z, hz, hz2⟩ : ∃ z, IntKind.i32.wrap n = z ∧ -2147483648 ≤ z ∧ z ≤ 2147483647 := ⟨_, rfl, by rw [IntKind.wrap_i32]; omega⟩
      have hw : IntKind.i64.wrap z = z := by rw [IntKind.wrap_i64]; omega
      clear ht hlo hhi hs
      go_enter Try.func72, Try.ntmps72
      go_wp2
      refine bodyPost_ret (v := .agg #[.bool false, .int .i64 z, .string ⟨#[]⟩]) (by simp [results, Try.results72, go_sem, hz, hw]) rfl (fit_ret (ok_fit2 z hz2) (by omega) (by omega) (by decide) ?_)
      exact ⟨_, _, rfl⟩
    · obtain ⟨z, hz, hz2⟩ : ∃ z, n.tmod 1000001 = z ∧ -1000000 ≤ z ∧ z ≤ 1000000 := by
        refine ⟨_, rfl, ?_⟩
        have h1 := Int.tmod_lt_of_pos n (by decide : (0 : Int) < 1000001)
        have h2 := Int.lt_tmod_of_pos n (by decide : (0 : Int) < 1000001)
        omega
      clear ht hlo hhi hs
      go_enter Try.func72, Try.ntmps72
      go_wp2
      refine bodyPost_ret (v := .agg #[.bool false, .int .i64 z, .string ⟨#[]⟩]) (by simp [results, Try.results72, go_sem, hz]) rfl (fit_ret (ok_fit5 z hz2) (by omega) (by omega) (by decide) ?_)
      exact ⟨_, _, rfl⟩
    · have hx : (s.extract 0 (min (s.size : Int) 200).toNat).size ≤ 200 := by simp [ByteArray.size_extract]; omega
      clear ht hlo hhi
      go_enter Try.func72, Try.ntmps72
      go_wp2
      refine bodyPost_ret (v := .agg #[.bool false, .int .i64 0, .string (s.extract 0 (min (s.size : Int) 200).toNat)]) (by simp [results, Try.results72, go_sem]) rfl (fit_ret (ok_fit4 _ hx) (by decide) (by decide) (by omega) ?_)
      exact ⟨_, _, rfl⟩
    · clear ht hs
      go_enter Try.func72, Try.ntmps72
      go_wp2
      refine bodyPost_ret (v := .agg #[.bool false, .int .i64 n, .string ⟨#[]⟩]) (by simp [results, Try.results72, go_sem]) rfl (fit_ret (ok3 n) hlo hhi (by decide) ?_)
      exact ⟨_, _, rfl⟩
  · have hk : okV ⟨true, 0, ⟨#[]⟩⟩ t = true := by rw [okn]; simpa using ht
    clear ht hlo hhi hs
    go_enter Try.func72, Try.ntmps72
    go_wp2
    refine bodyPost_ret (v := .agg #[.bool true, .int .i64 0, .string ⟨#[]⟩]) (by simp [results, Try.results72, go_sem]) rfl (fit_ret hk (by decide) (by decide) (by decide) ?_)
    exact ⟨_, _, rfl⟩
theorem Fit_b (b : Bool) (n : Int) (s : ByteArray) (t : Int) (w : World) (hv : Va.Fine ⟨b, n, s⟩) (hs : s.size ≤ 9223372036854775807) (ht : 1 ≤ t ∧ t ≤ 5) : Calls Try.prog 72 #[.agg #[.bool b, .int .i64 n, .string s], .int .i64 t] w fun e w' =>
    (∃ u : Va, e = .returned u.val ∧ okV u t = true ∧ u.Fine ∧ u.s.size ≤ 200) ∧ Below w.heap.size w w' := by
  refine (Fit_w b n s t w hv hs ht).mono ?_
  rintro e w' ⟨h, o, o', rfl⟩
  exact ⟨h, al2 _ _ _⟩
/-- a value that fits the type, or null -/
def MadeV (t : Int) (e : Ending) : Prop := ∃ (ub : Bool) (un : Int) (us : ByteArray), e = .returned (.agg #[.bool ub, .int .i64 un, .string us]) ∧ (ub = true ∨ okV ⟨ub, un, us⟩ t = true) ∧ Va.Fine ⟨ub, un, us⟩ ∧ us.size ≤ 200
/-- The reference's Made: a value that is valid for the type; null if it is no type. -/
theorem VMade_any (b : Bool) (n : Int) (s : ByteArray) (t : Int) (w : World) (hv : Va.Fine ⟨b, n, s⟩) (hs : s.size ≤ 9223372036854775807) : Calls Try.prog 49 #[.agg #[.bool b, .int .i64 n, .string s], .int .i64 t] w fun e w' =>
    MadeV t e ∧ Below w.heap.size w w' := by
  by_cases ht : 1 ≤ t ∧ t ≤ 5
  · have hz : decide (1 ≤ t ∧ t ≤ 5) = true := decide_eq_true ht
    have HT := Lib.hid ht
    have HV := Lib.hid hv
    clear ht hv
    go_enter Try.func49, Try.ntmps49
    go_wp2_with (first | (go_at_call 71; refine (RType_any _ true _ hz).mono ?_; rintro e w' ⟨rfl, rfl⟩) | (go_at_call 72; refine (Fit_w b n s t _ HV.out hs HT.out).mono ?_; rintro e w' ⟨⟨⟨ub, un, us⟩, rfl, h1, h2, h3⟩, o, o', rfl⟩; simp only [Va.val]; have H1 := Lib.hid h1; have H2 := Lib.hid h2; have H3 := Lib.hid h3; clear h1 h2 h3))
    refine bodyPost_ret (v := .agg #[.bool ub, .int .i64 un, .string us]) (by simp [results, Try.results49, go_sem]) rfl ⟨⟨ub, un, us, rfl, .inr H1.out, H2.out, H3.out⟩, ?_⟩
    exact al4 _ _ _ _ _
  · have hz : decide (1 ≤ t ∧ t ≤ 5) = false := decide_eq_false ht
    have HT := Lib.hid ht
    have HV := Lib.hid hv
    clear ht hv
    go_enter Try.func49, Try.ntmps49
    go_wp2_with (go_at_call 71; refine (RType_any _ false _ hz).mono ?_; rintro e w' ⟨rfl, rfl⟩)
    refine bodyPost_ret (v := .agg #[.bool true, .int .i64 0, .string ⟨#[]⟩]) (by simp [results, Try.results49, go_sem]) rfl ⟨⟨true, 0, ⟨#[]⟩, rfl, .inl rfl, ⟨by decide, by decide, by decide⟩, by decide⟩, al2 _ _ _⟩
end Go.Proofs.Ytpgbpfdedpppeaa
