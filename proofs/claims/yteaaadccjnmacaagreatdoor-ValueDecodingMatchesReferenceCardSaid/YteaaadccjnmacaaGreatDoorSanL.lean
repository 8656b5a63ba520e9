/-
  The examples of the law's sanity, by plain functions. Nothing of the program's text.
-/
import Derived.Test.YteaaadccjnmacaaGreatDoorNumM
import Derived.Test.YteaaadccjnmacaaGreatDoorDecP
import Derived.Test.YteaaadccjnmacaaGreatDoorCmpP
namespace Go.Proofs.YteaaadccjnmacaaGreatDoor
open Go.Lib

theorem date_at (d : Int) (m : Nat) (h0 : -1000000 ≤ d) (h1 : d ≤ 1000000) (ha : mStart m ≤ d) (hb : d < mStart (m + 1)) (Y M D : Nat) (neg : Bool) (hY : (((m / 12 : Nat) : Int) - 799).natAbs = Y) (hM : m % 12 + 1 = M) (hD : (d - mStart m + 1).toNat = D) (hn : decide (((m / 12 : Nat) : Int) - 799 < 0) = neg) :
    dateL d = (if neg = true then [45] else []) ++ padL Y 4 ++ [45] ++ padL M 2 ++ [45] ++ padL D 2 := by
  subst hY hM hD hn
  unfold dateL
  rw [monOf_eq h0 h1 ha hb]
  simp only [decide_eq_true_eq]
theorem dd2 (n : Nat) (h : n < 100) (h1 : ¬ n < 10) : decDigits n = [UInt8.ofNat (48 + n / 10), UInt8.ofNat (48 + n % 10)] := Lib.decDigits_two h1 h
theorem pad2 (n : Nat) (h : n < 100) : padL n 2 = [UInt8.ofNat (48 + n / 10), UInt8.ofNat (48 + n % 10)] := by
  unfold padL
  by_cases h1 : n < 10
  · rw [Lib.decDigits_one h1, Nat.div_eq_of_lt h1, Nat.mod_eq_of_lt h1]
    rfl
  · rw [dd2 n h h1]
    rfl
theorem dd4 (n : Nat) (h : n < 10000) (h1 : ¬ n < 1000) : decDigits n = [UInt8.ofNat (48 + n / 1000), UInt8.ofNat (48 + n / 100 % 10), UInt8.ofNat (48 + n / 10 % 10), UInt8.ofNat (48 + n % 10)] := by
  rw [decDigits, dif_neg (by omega), decDigits, dif_neg (by omega), dd2 (n / 10 / 10) (by omega) (by omega), show n / 10 / 10 / 10 = n / 1000 by omega, show n / 10 / 10 % 10 = n / 100 % 10 by omega]
  rfl
theorem pad4 (n : Nat) (h : n < 10000) (h1 : ¬ n < 1000) : padL n 4 = [UInt8.ofNat (48 + n / 1000), UInt8.ofNat (48 + n / 100 % 10), UInt8.ofNat (48 + n / 10 % 10), UInt8.ofNat (48 + n % 10)] := by
  unfold padL
  rw [dd4 n h h1]
  rfl
theorem pad4one (n : Nat) (h : n < 10) : padL n 4 = [48, 48, 48, UInt8.ofNat (48 + n)] := by
  unfold padL
  rw [Lib.decDigits_one h]
  rfl
theorem mS (m : Nat) (q k : Nat) (hq : m / 12 = q) (hk : m % 12 = k) : mStart m = 365 * (q : Int) + lpY ((q : Int) + (if 1 < k then 1 else 0)) + bef k - 1011356 := by unfold mStart; rw [hq, hk]
theorem date_0 : dateL 0 = [49, 57, 55, 48, 45, 48, 49, 45, 48, 49] := by
  rw [date_at 0 33228 (by decide) (by decide) (by decide) (by decide) 1970 1 1 false (by decide) (by decide) (by decide) (by decide), pad4 _ (by decide) (by decide), pad2 _ (by decide)]
  rfl
theorem date_1 : dateL 11016 = [50, 48, 48, 48, 45, 48, 50, 45, 50, 57] := by
  rw [date_at 11016 33589 (by decide) (by decide) (by decide) (by decide) 2000 2 29 false (by decide) (by decide) (by decide) (by decide), pad4 _ (by decide) (by decide), pad2 _ (by decide), pad2 _ (by decide)]
  rfl
theorem date_2 : dateL (-1) = [49, 57, 54, 57, 45, 49, 50, 45, 51, 49] := by
  rw [date_at (-1) 33227 (by decide) (by decide) (by decide) (by decide) 1969 12 31 false (by decide) (by decide) (by decide) (by decide), pad4 _ (by decide) (by decide), pad2 _ (by decide), pad2 _ (by decide)]
  rfl
theorem date_3 : dateL (-719529) = [45, 48, 48, 48, 49, 45, 49, 50, 45, 51, 49] := by
  rw [date_at (-719529) 9587 (by decide) (by decide) (by decide) (by decide) 1 12 31 true (by decide) (by decide) (by decide) (by decide), pad4one _ (by decide), pad2 _ (by decide), pad2 _ (by decide)]
  rfl
theorem date_4 : dateL 11382 = [50, 48, 48, 49, 45, 48, 51, 45, 48, 49] := by
  rw [date_at 11382 33602 (by decide) (by decide) (by decide) (by decide) 2001 3 1 false (by decide) (by decide) (by decide) (by decide), pad4 _ (by decide) (by decide), pad2 _ (by decide), pad2 _ (by decide)]
  rfl
def mt : ByteArray := ⟨#[]⟩
theorem show_d (d : Int) (h0 : -1000000 ≤ d) (h1 : d ≤ 1000000) : showL ⟨false, d, ⟨#[]⟩⟩ 5 = dateL d := by
  have hk : okV ⟨false, d, ⟨#[]⟩⟩ 5 = true := by unfold okV; simp [h0, h1, empS_mt]
  unfold showL
  rw [if_pos hk]
  simp
set_option maxRecDepth 100000 in
theorem show_text : showL ⟨false, 0, ⟨#[97, 34, 0]⟩⟩ 4 = [34, 97, 92, 120, 50, 50, 92, 120, 48, 48, 34] := by
  have hk : okV ⟨false, 0, ⟨#[97, 34, 0]⟩⟩ 4 = true := by decide
  unfold showL
  rw [if_pos hk]
  decide
theorem ok1 (n : Int) : okV ⟨false, n, ⟨#[]⟩⟩ 1 = decide (0 ≤ n ∧ n ≤ 1) := by unfold okV; simp [empS_mt]
theorem ok3 (n : Int) : okV ⟨false, n, ⟨#[]⟩⟩ 3 = true := by unfold okV; simp [empS_mt]
theorem okn (t : Int) : okV ⟨true, 0, ⟨#[]⟩⟩ t = decide (1 ≤ t ∧ t ≤ 5) := by unfold okV; simp [empS_mt]
theorem show_b1 : showL ⟨false, 1, ⟨#[]⟩⟩ 1 = trueB := by unfold showL; rw [ok1]; rfl
theorem show_b2 : showL ⟨false, 2, ⟨#[]⟩⟩ 1 = [] := by unfold showL; rw [ok1]; rfl
theorem itoa0 : itoa 0 = [48] := by unfold itoa; rw [if_neg (by decide)]; exact Lib.decDigits_one (by decide)
theorem par_1 : parV [45, 48] 3 = (⟨false, 0, ⟨#[]⟩⟩, 5) := by
  have hc : candV [45, 48] 3 = ⟨false, 0, ⟨#[]⟩⟩ := rfl
  unfold parV
  rw [if_neg (by decide), hc, if_neg]
  intro h
  have h2 := h.2
  unfold showL at h2
  rw [if_pos h.1, if_neg (by decide), if_neg (by decide), if_neg (by decide), if_neg (by decide), itoa0] at h2
  exact absurd h2 (by decide)
theorem par_2 : parV [110, 117, 108, 108] 1 = (⟨true, 0, ⟨#[]⟩⟩, 0) := by
  have hc : candV [110, 117, 108, 108] 1 = ⟨true, 0, ⟨#[]⟩⟩ := rfl
  have hk : okV ⟨true, 0, ⟨#[]⟩⟩ 1 = true := by rw [okn]; rfl
  unfold parV
  rw [if_neg (by decide), hc, if_pos ⟨hk, by unfold showL; rw [if_pos hk]; rfl⟩]
theorem par_3 : parV [50, 48, 48, 49, 45, 48, 50, 45, 50, 57] 5 = (⟨false, 0, ⟨#[]⟩⟩, 5) := by
  have hc : candV [50, 48, 48, 49, 45, 48, 50, 45, 50, 57] 5 = ⟨false, 11382, ⟨#[]⟩⟩ := by unfold candV; rw [if_neg (by decide), if_neg (by decide), if_pos rfl]; congr 1
  unfold parV
  rw [if_neg (by decide), hc, if_neg]
  intro h
  have h2 := h.2
  rw [show_d _ (by decide) (by decide), date_4] at h2
  exact absurd h2 (by decide)
theorem par_4 : parV [110, 117, 108, 108] 6 = (⟨false, 0, ⟨#[]⟩⟩, 7) := by unfold parV; rw [if_pos (by decide)]
theorem dec_1 : decL [1, 4] 0 1 = (va0, 0, 7) := by
  have hb : bodyL [1, 4] 1 1 = (⟨false, 2, ⟨#[]⟩⟩, 2, 0) := rfl
  have hd : decL [1, 4] 0 1 = decB [1, 4] 1 1 := rfl
  rw [hd]
  unfold decB
  rw [hb, if_neg (by decide), ok1, if_neg (by decide)]
theorem dec_2 : decL [2] 0 3 = (va0, 0, 5) := rfl
theorem uv1 : uvarint 1 = [1] := by rw [Lib.uvarint_small (by decide)]; rfl
theorem uv2 : uvarint 2 = [2] := by rw [Lib.uvarint_small (by decide)]; rfl
theorem encL_1 : [] ++ encL ⟨true, 0, ⟨#[]⟩⟩ 5 = [0] := by unfold encL; rw [okn]; rfl
theorem encL_2 : [] ++ encL ⟨false, -1, ⟨#[]⟩⟩ 3 = [1, 1] := by
  have h : zigzag (-1) = 1 := by decide
  unfold encL
  rw [ok3, if_pos rfl, if_neg (by decide), if_neg (by decide)]
  simp only
  rw [h, uv1]
  rfl
theorem encL_3 : [7] ++ encL ⟨false, 0, ⟨#[97, 98]⟩⟩ 4 = [7, 1, 2, 97, 98] := by
  unfold encL
  rw [if_pos (by decide), if_neg (by decide), if_pos rfl]
  unfold counted
  show [7] ++ ([1] ++ (uvarint 2 ++ _)) = _
  rw [uv2]
  rfl
theorem encL_4 : [7] ++ encL ⟨false, 2, ⟨#[]⟩⟩ 1 = [7] := by
  unfold encL
  rw [ok1]
  rfl
theorem cmp_1 : cmpV ⟨true, 0, ⟨#[]⟩⟩ ⟨false, -5, ⟨#[]⟩⟩ = -1 := rfl
theorem cmp_2 : cmpV ⟨false, 0, ⟨#[97, 98]⟩⟩ ⟨false, 0, ⟨#[97]⟩⟩ = 1 := rfl
theorem val_1 : okV ⟨true, 0, ⟨#[]⟩⟩ 6 = false := by rw [okn]; rfl
theorem val_2 : okV ⟨false, 1000000, ⟨#[]⟩⟩ 5 = true := by unfold okV; rw [empS_mt]; rfl
theorem val_3 : okV ⟨false, 1000001, ⟨#[]⟩⟩ 5 = false := by unfold okV; rw [empS_mt]; rfl
end Go.Proofs.YteaaadccjnmacaaGreatDoor
