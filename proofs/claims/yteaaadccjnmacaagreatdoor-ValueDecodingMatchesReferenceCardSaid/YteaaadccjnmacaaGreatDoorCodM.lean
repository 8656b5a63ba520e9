/-
  Encodings of values, plain: what was encoded is decoded, what is decoded is the encoding. Nothing of the program's text.
-/
import Derived.Test.YteaaadccjnmacaaGreatDoorNumM
import Derived.Test.YteaaadccjnmacaaGreatDoorDecP
import Derived.Test.YteaaadccjnmacaaGreatDoorMath2
namespace Go.Proofs.YteaaadccjnmacaaGreatDoor
open Go.Lib

theorem encL_pos {v : Va} {t : Int} (h : okV v t = true) : 0 < (encL v t).length := by
  unfold encL
  rw [if_pos h]
  split
  · decide
  · split <;> simp
theorem okN (t : Int) : okV ⟨true, 0, ⟨#[]⟩⟩ t = decide (1 ≤ t ∧ t ≤ 5) := by unfold okV; simp [empS_mt]
theorem getD_at (p q : List UInt8) (c : UInt8) : (p ++ c :: q).getD p.length 0 = c := by simp [List.getD]
/-- what was encoded behind any bytes and before any others is decoded -/
theorem dec_enc (p q : List UInt8) {v : Va} {t : Int} (h : okV v t = true) (hv : v.Fine) :
    decL (p ++ encL v t ++ q) (p.length : Nat) t = (v, (p ++ encL v t).length, 0) := by
  have hty := ok_ty h
  have hnull := ok_null h
  have htext : v.b = false → t = 4 → v.n = 0 ∧ v.s.size ≤ 200 := fun hb ht => ok_text (ht ▸ h) hb
  have hnum : v.b = false → t ≠ 4 → v.s = ⟨#[]⟩ := fun hb ht => by
    rcases (by omega : t = 1 ∨ t = 5 ∨ t = 2 ∨ t = 3) with rfl | rfl | ht | ht
    · exact (ok_bool h hb).2.2
    · exact (ok_day h hb).2.2
    · exact ok_num h hb (.inl ht)
    · exact ok_num h hb (.inr ht)
  have hp := encL_pos h
  obtain ⟨c, e, hce⟩ : ∃ c e, encL v t = c :: e := by
    cases he : encL v t with
    | nil => rw [he] at hp; cases hp
    | cons c e => exact ⟨c, e, rfl⟩
  have hl : p ++ encL v t ++ q = p ++ c :: (e ++ q) := by rw [hce]; simp
  unfold decL
  rw [if_neg (by simp; omega), if_neg (by omega), if_neg (by rw [hce]; simp; omega), Int.toNat_natCast, hl, getD_at]
  have hE : encL v t = (if v.b = true then [0] else if t = 4 then [1] ++ counted v.s.data.toList else [1] ++ uvarint (zigzag v.n)) := by unfold encL; rw [if_pos h]
  by_cases hb : v.b = true
  · rw [if_pos hb] at hE
    rw [hE] at hce
    injection hce with e1 e2
    rw [if_pos e1.symm, hE, hnull hb]
    simp
  · rw [if_neg hb] at hE
    have hb : v.b = false := by simpa using hb
    obtain ⟨b, n, s⟩ := v
    simp only at hb hE hnum htext hv
    subst hb
    have e1 : c = 1 := by
      rw [hE] at hce
      split at hce <;> · injection hce with e1 e2; exact e1.symm
    subst e1
    rw [if_neg (by decide), if_neg (by simp), ← hl]
    unfold decB
    by_cases h4 : t = 4
    · rw [if_pos h4] at hE
      obtain ⟨k1, k2⟩ := htext rfl h4
      have hs := span_written (p ++ [1]) q s.data.toList (by have : s.data.toList.length = s.size := rfl; omega)
      have hlen : ((p ++ [1]).length : Nat) = p.length + 1 := by simp
      have hB : bodyL (p ++ encL ⟨false, n, s⟩ t ++ q) (p.length + 1) t = (⟨false, 0, s⟩, (p ++ encL ⟨false, n, s⟩ t).length, 0) := by
        unfold bodyL
        rw [if_pos h4, hE, ← List.append_assoc, ← hlen, hs.1, hs.2, bytes_eq]
      rw [hB, if_neg (by simp), if_pos (by rw [← k1]; exact h), k1]
    · rw [if_neg h4] at hE
      have hn := hnum rfl h4
      have hr := read_written (p ++ [1]) q (Num.zigzag_u64 n hv.lo hv.hi)
      have hlen : ((p ++ [1]).length : Nat) = p.length + 1 := by simp
      have hB : bodyL (p ++ encL ⟨false, n, s⟩ t ++ q) (p.length + 1) t = (⟨false, n, s⟩, (p ++ encL ⟨false, n, s⟩ t).length, 0) := by
        unfold bodyL
        rw [if_neg h4, hE, ← List.append_assoc, ← hlen, hr, Num.zag_zigzag, hn]
      rw [hB, if_neg (by simp), if_pos h]
/-- what is decoded is the encoding of the value -/
theorem dec_good {l : List UInt8} {a t : Int} {v : Va} {i : Nat} (h : decL l a t = (v, i, 0)) :
    ∃ k : Nat, a = (k : Int) ∧ k < i ∧ i ≤ l.length ∧ okV v t = true ∧ encL v t = (l.drop k).take (i - k) := by
  unfold decL at h
  by_cases h1 : a < 0 ∨ (l.length : Int) < a
  · rw [if_pos h1] at h; simp at h
  rw [if_neg h1] at h
  by_cases h2 : ¬ (1 ≤ t ∧ t ≤ 5)
  · rw [if_pos h2] at h; simp at h
  rw [if_neg h2] at h
  by_cases h3 : (l.length : Int) = a
  · rw [if_pos h3] at h; simp at h
  rw [if_neg h3] at h
  obtain ⟨k, rfl⟩ := Int.eq_ofNat_of_zero_le (by omega : 0 ≤ a)
  have hk : k < l.length := by omega
  rw [Int.toNat_natCast] at h
  have hd : l.drop k = l.getD k 0 :: l.drop (k + 1) := by
    rw [List.drop_eq_getElem_cons hk]
    simp [List.getD, hk]
  refine ⟨k, rfl, ?_⟩
  by_cases h4 : l.getD k 0 = 0
  · rw [if_pos h4] at h
    simp only [Prod.mk.injEq] at h
    obtain ⟨rfl, rfl, _⟩ := h
    have hok : okV ⟨true, 0, ⟨#[]⟩⟩ t = true := by rw [okN]; simpa using h2
    refine ⟨by omega, by omega, hok, ?_⟩
    rw [hd, h4]
    unfold encL
    rw [if_pos hok, if_pos rfl, show k + 1 - k = 1 by omega]
    rfl
  rw [if_neg h4] at h
  by_cases h5 : l.getD k 0 ≠ 1
  · rw [if_pos h5] at h; simp at h
  rw [if_neg h5] at h
  have h5 : l.getD k 0 = 1 := Decidable.not_not.1 h5
  unfold decB at h
  by_cases h6 : (bodyL l (k + 1) t).2.2 ≠ 0
  · rw [if_pos h6] at h
    simp only [Prod.mk.injEq] at h
    exact absurd h.2.2 h6
  rw [if_neg h6] at h
  have h6 : (bodyL l (k + 1) t).2.2 = 0 := Decidable.not_not.1 h6
  by_cases h7 : okV (bodyL l (k + 1) t).1 t = true
  · rw [if_pos h7] at h
    simp only [Prod.mk.injEq, and_true] at h
    obtain ⟨rfl, rfl⟩ := h
    by_cases ht : t = 4
    · have hb : bodyL l (k + 1) t = (⟨false, 0, ⟨(Num.taken l ((k + 1 : Nat) : Int)).toArray⟩⟩, (Num.span l ((k + 1 : Nat) : Int)).2.1, (Num.span l ((k + 1 : Nat) : Int)).2.2) := by unfold bodyL; rw [if_pos ht]
      rw [hb] at h6 h7 ⊢
      simp only at h6 h7 ⊢
      rcases Num.span_cases l ((k + 1 : Nat) : Int) with ⟨s, n, hs, hle, hm, hr⟩ | hs | hs | hs | hs
      · obtain ⟨b, j, e1, hbl, hj, ej, _, ht2, _⟩ := Num.readU_good hr
        obtain rfl : k + 1 = b := by omega
        have htk := Num.taken_ok hs
        rw [hs]
        simp only
        refine ⟨by omega, hle, h7, ?_⟩
        unfold encL
        rw [if_pos h7, if_neg (by simp), if_pos ht, htk]
        have hlen : ((l.drop s).take n).length = n := by simp; omega
        unfold counted
        simp only
        rw [hlen, hd, h5, show s + n - k = 1 + (j + n) by omega, ← ht2]
        rw [show 1 + (j + n) = (j + n) + 1 by omega, List.take_succ_cons]
        show _ :: _ = _
        congr 1
        rw [List.take_add, List.drop_drop]
        subst ej
        rfl
      all_goals rw [hs] at h6; simp at h6
    · have hb : bodyL l (k + 1) t = (⟨false, Num.zag (Num.readU l ((k + 1 : Nat) : Int)).1, ⟨#[]⟩⟩, (Num.readU l ((k + 1 : Nat) : Int)).2.1, (Num.readU l ((k + 1 : Nat) : Int)).2.2) := by unfold bodyL; rw [if_neg ht]
      rw [hb] at h6 h7 ⊢
      simp only at h6 h7 ⊢
      rcases Num.readU_cases l ((k + 1 : Nat) : Int) with ⟨n, m, hr⟩ | hs | hs | hs
      · obtain ⟨b, j, e1, hbl, hj, ej, hle, ht2, _⟩ := Num.readU_good hr
        obtain rfl : k + 1 = b := by omega
        rw [hr] at h7 ⊢
        simp only at h7 ⊢
        refine ⟨by omega, hle, h7, ?_⟩
        unfold encL
        rw [if_pos h7, if_neg (by simp), if_neg ht]
        simp only
        rw [Num.zigzag_zag, hd, h5, show m - k = j + 1 by omega, List.take_succ_cons, ht2]
        rfl
      all_goals rw [hs] at h6; simp at h6
  · rw [if_neg h7] at h
    simp at h
theorem dec_bad {l : List UInt8} {a t : Int} (h : (decL l a t).2.2 ≠ 0) : (decL l a t).1 = va0 ∧ (decL l a t).2.1 = 0 := by
  revert h
  unfold decL decB
  repeat' split
  all_goals first | (intro h; exact ⟨rfl, rfl⟩) | (intro h; exact absurd rfl h)
/-- encodings are no prefixes of one another -/
theorem enc_pre {v u : Va} {t : Int} (h : okV v t = true) (hv : v.Fine) (k : okV u t = true) (hu : u.Fine) (r : List UInt8) (e : encL v t = encL u t ++ r) : v = u := by
  have h1 := dec_enc [] [] h hv
  have h2 := dec_enc [] r k hu
  rw [List.nil_append, List.append_nil] at h1
  rw [List.nil_append, ← e, h1] at h2
  exact congrArg Prod.fst h2
theorem enc_take {v u : Va} {t : Int} (h : okV v t = true) (hv : v.Fine) (k : okV u t = true) (hu : u.Fine) (n : Nat) (hn : n = min (encL v t).length (encL u t).length) :
    (encL v t).take n = (encL u t).take n ↔ v = u := by
  constructor
  · intro e
    rcases Nat.le_total (encL v t).length (encL u t).length with hl | hl
    · rw [Nat.min_eq_left hl] at hn
      rw [hn, List.take_length] at e
      exact (enc_pre k hu h hv ((encL u t).drop (encL v t).length) (by conv => lhs; rw [← List.take_append_drop (encL v t).length (encL u t)]; rw [← e])).symm
    · rw [Nat.min_eq_right hl] at hn
      rw [hn, List.take_length] at e
      exact enc_pre h hv k hu ((encL v t).drop (encL u t).length) (by conv => lhs; rw [← List.take_append_drop (encL u t).length (encL v t)]; rw [e])
  · rintro rfl; rfl
theorem show_iff {v u : Va} {t : Int} (h : okV v t = true) (hv : v.Fine) (k : okV u t = true) (hu : u.Fine) : showL v t = showL u t ↔ v = u :=
  ⟨show_inj h hv k hu, fun e => by rw [e]⟩
end Go.Proofs.YteaaadccjnmacaaGreatDoor
