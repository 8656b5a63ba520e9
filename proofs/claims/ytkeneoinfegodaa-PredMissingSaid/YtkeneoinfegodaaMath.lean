/-
  Plain facts on the number encoding, without any program: reading ('scan'), writing (the library's 'uvarint'), lengths. Nothing of the dump is imported here.
-/
import Derived.Lib.Varint
namespace Go.Proofs.Ytkeneoinfegodaa.Num
open Go.Lib

/-- k is a uint64. (Behind a name: the walk does not bear the bare numeral among its hypotheses.) -/
def U64 (k : Nat) : Prop := k < 18446744073709551616
theorem U64.lt {k : Nat} (h : U64 k) : k < 18446744073709551616 := h
theorem U64.div {k : Nat} (h : U64 k) (n : Nat) : U64 (k / n) := Nat.lt_of_le_of_lt (Nat.div_le_self k n) h.lt

theorem u8_of_nat {a : Nat} (h : a < 256) : (a.toUInt8).toNat = a := by
  simp only [Nat.toUInt8, UInt8.toNat_ofNat']
  omega

/-- Reading a number whose i first bytes are known to spell acc: the value, the number of bytes, the error (0: none, 5: form, 6: short). -/
def scan : Nat → Nat → List UInt8 → Nat × Nat × Nat
  | _, _, [] => (0, 0, 6)
  | i, acc, c :: r =>
    if i = 9 ∧ 1 < c.toNat then (0, 0, 5)
    else if 0 < i ∧ c.toNat = 0 then (0, 0, 5)
    else if c.toNat < 128 then (acc + c.toNat * 128 ^ i, i + 1, 0)
    else scan (i + 1) (acc + c.toNat % 128 * 128 ^ i) r

theorem split_pow (m p : Nat) : m % 128 * p + m / 128 * (p * 128) = m * p := by
  have h : m / 128 * (p * 128) = (128 * (m / 128)) * p := by
    rw [Nat.mul_comm p 128, ← Nat.mul_assoc, Nat.mul_comm (m / 128) 128]
  rw [h, ← Nat.add_mul]
  congr 1
  omega

theorem pow9 : (128 : Nat) ^ 9 = 9223372036854775808 := by decide

theorem pow_le9 {i : Nat} (h : i ≤ 9) : (128 : Nat) ^ i ≤ 9223372036854775808 := by
  have := Nat.pow_le_pow_right (n := 128) (by omega) h
  rw [pow9] at this
  exact this

theorem pow_pos' (i : Nat) : 0 < (128 : Nat) ^ i := Nat.pow_pos (by omega)

/-- What was written is read. -/
theorem scan_enc (m : Nat) : ∀ (i acc : Nat) (rest : List UInt8), m * 128 ^ i < 18446744073709551616 → (0 < i → 0 < m) → i ≤ 9 →
    scan i acc (uvarint m ++ rest) = (acc + m * 128 ^ i, i + (uvarint m).length, 0) := by
  induction m using Nat.strongRecOn with
  | _ m ih =>
    intro i acc rest hm hi h9
    have hp := pow_pos' i
    by_cases h : m < 128
    · rw [uvarint_small h]
      have e : (m.toUInt8).toNat = m := u8_of_nat (by omega)
      simp only [List.cons_append, List.nil_append, scan, e]
      have h1 : ¬ (i = 9 ∧ 1 < m) := by
        rintro ⟨rfl, h1⟩
        rw [pow9] at hm
        omega
      have h2 : ¬ (0 < i ∧ m = 0) := by
        rintro ⟨h1, h2⟩
        have := hi h1
        omega
      rw [if_neg h1, if_neg h2, if_pos h]
      simp
    · rw [uvarint_big (by omega)]
      have e : ((m % 128 + 128).toUInt8).toNat = m % 128 + 128 := u8_of_nat (by omega)
      have h9' : i < 9 := by
        rcases Nat.lt_or_ge i 9 with h | h
        · exact h
        · obtain rfl : i = 9 := by omega
          rw [pow9] at hm
          omega
      simp only [List.cons_append, scan, e]
      rw [if_neg (by omega), if_neg (by omega), if_neg (by omega)]
      have e2 : (m % 128 + 128) % 128 = m % 128 := by omega
      have e3 := split_pow m (128 ^ i)
      have hq : m / 128 * 128 ^ (i + 1) < 18446744073709551616 := by
        rw [Nat.pow_succ]
        omega
      rw [e2, ih (m / 128) (by omega) (i + 1) _ rest hq (fun _ => by omega) (by omega), Nat.pow_succ]
      simp only [List.length_cons, Prod.mk.injEq, and_true]
      omega

/-- What is read was written: nothing else is accepted. -/
theorem scan_sound : ∀ (l : List UInt8) (i acc n k : Nat), scan i acc l = (n, k, 0) → i ≤ 9 → acc < 128 ^ i →
    ∃ m j, k = i + j ∧ 1 ≤ j ∧ j ≤ l.length ∧ l.take j = uvarint m ∧ n = acc + m * 128 ^ i ∧ n < 18446744073709551616 ∧ (0 < i → 0 < m)
  | [], i, acc, n, k, h, _, _ => by simp [scan] at h
  | c :: r, i, acc, n, k, h, h9, ha => by
    have hp := pow_le9 h9
    have hp0 := pow_pos' i
    have hc := c.toNat_lt
    have ec : c = (c.toNat).toUInt8 := by
      apply UInt8.toNat_inj.1
      rw [u8_of_nat (by omega)]
    simp only [scan] at h
    by_cases h1 : i = 9 ∧ 1 < c.toNat
    · rw [if_pos h1] at h; simp at h
    rw [if_neg h1] at h
    by_cases h2 : 0 < i ∧ c.toNat = 0
    · rw [if_pos h2] at h; simp at h
    rw [if_neg h2] at h
    by_cases h3 : c.toNat < 128
    · rw [if_pos h3] at h
      simp only [Prod.mk.injEq, and_true] at h
      obtain ⟨rfl, rfl⟩ := h
      refine ⟨c.toNat, 1, rfl, by omega, by simp, ?_, rfl, ?_, fun h0 => by omega⟩
      · rw [uvarint_small h3, ← ec]
        simp
      · by_cases e9 : i = 9
        · subst e9
          rw [pow9] at ha ⊢
          have : c.toNat ≤ 1 := by omega
          have : c.toNat * 9223372036854775808 ≤ 1 * 9223372036854775808 := Nat.mul_le_mul_right _ this
          omega
        · have hq : 128 ^ (i + 1) ≤ 9223372036854775808 := pow_le9 (by omega)
          rw [Nat.pow_succ] at hq
          have : c.toNat * 128 ^ i ≤ 127 * 128 ^ i := Nat.mul_le_mul_right _ (by omega)
          omega
    · rw [if_neg h3] at h
      have h9' : i < 9 := by omega
      have hq : acc + c.toNat % 128 * 128 ^ i < 128 ^ (i + 1) := by
        rw [Nat.pow_succ]
        have : c.toNat % 128 * 128 ^ i ≤ 127 * 128 ^ i := Nat.mul_le_mul_right _ (by omega)
        omega
      obtain ⟨m, j, rfl, hj1, hj2, ht, hn, hlt, hm⟩ := scan_sound r (i + 1) _ n k h (by omega) hq
      have hm' := hm (by omega)
      have hb : 128 ≤ m * 128 + c.toNat % 128 := by omega
      refine ⟨m * 128 + c.toNat % 128, j + 1, by omega, by omega, by simp; omega, ?_, ?_, hlt, fun _ => by omega⟩
      · rw [uvarint_big hb]
        have e1 : (m * 128 + c.toNat % 128) % 128 + 128 = c.toNat := by omega
        have e2 : (m * 128 + c.toNat % 128) / 128 = m := by omega
        rw [e1, e2, ← ec, List.take_succ_cons, ht]
      · rw [hn, Nat.pow_succ, Nat.add_mul]
        have : m * 128 * 128 ^ i = m * (128 ^ i * 128) := by rw [Nat.mul_assoc, Nat.mul_comm 128]
        omega

/-- A part of a number is too short. -/
theorem scan_part (m : Nat) : ∀ (i acc j : Nat), m * 128 ^ i < 18446744073709551616 → i ≤ 9 → j < (uvarint m).length → scan i acc ((uvarint m).take j) = (0, 0, 6) := by
  induction m using Nat.strongRecOn with
  | _ m ih =>
    intro i acc j hm h9 hj
    have hp := pow_pos' i
    cases j with
    | zero => simp [scan]
    | succ j =>
      by_cases h : m < 128
      · rw [uvarint_small h] at hj
        simp at hj
      · rw [uvarint_big (by omega)] at hj ⊢
        have e : ((m % 128 + 128).toUInt8).toNat = m % 128 + 128 := u8_of_nat (by omega)
        have h9' : i < 9 := by
          rcases Nat.lt_or_ge i 9 with h | h
          · exact h
          · obtain rfl : i = 9 := by omega
            rw [pow9] at hm
            omega
        simp only [List.take_succ_cons, scan, e]
        rw [if_neg (by omega), if_neg (by omega), if_neg (by omega)]
        have e3 := split_pow m (128 ^ i)
        simp only [List.length_cons] at hj
        exact ih (m / 128) (by omega) (i + 1) _ j (by rw [Nat.pow_succ]; omega) (by omega) (by omega)

/-- An error has no value. -/
theorem scan_err : ∀ (l : List UInt8) (i acc : Nat), (scan i acc l).2.2 = 0 ∨ scan i acc l = (0, 0, 5) ∨ scan i acc l = (0, 0, 6)
  | [], _, _ => by simp [scan]
  | c :: r, i, acc => by
    simp only [scan]
    split
    · simp
    · split
      · simp
      · split
        · simp
        · exact scan_err r _ _

theorem scan_nil (i acc : Nat) : scan i acc [] = (0, 0, 6) := by simp [scan]
theorem scan_big {i acc : Nat} {c : UInt8} {r : List UInt8} (h : i = 9) (h1 : 1 < c.toNat) : scan i acc (c :: r) = (0, 0, 5) := by
  rw [scan, if_pos ⟨h, h1⟩]
theorem scan_last0 {i acc : Nat} {c : UInt8} {r : List UInt8} (h : 0 < i) (h1 : c.toNat = 0) : scan i acc (c :: r) = (0, 0, 5) := by
  rw [scan, if_neg (by omega), if_pos ⟨h, h1⟩]
theorem scan_last {i acc : Nat} {c : UInt8} {r : List UInt8} (h9 : ¬ (i = 9 ∧ 1 < c.toNat)) (h0 : ¬ (0 < i ∧ c.toNat = 0)) (h : c.toNat < 128) : scan i acc (c :: r) = (acc + c.toNat * 128 ^ i, i + 1, 0) := by
  rw [scan, if_neg h9, if_neg h0, if_pos h]
theorem scan_more {i acc : Nat} {c : UInt8} {r : List UInt8} (h9 : i ≠ 9) (h : 128 ≤ c.toNat) : scan i acc (c :: r) = scan (i + 1) (acc + c.toNat % 128 * 128 ^ i) r := by
  rw [scan, if_neg (by omega), if_neg (by omega), if_neg (by omega)]
theorem acc_step {i acc d : Nat} (h : acc < 128 ^ i) (hd : d < 128) : acc + d * 128 ^ i < 128 ^ (i + 1) := by
  rw [Nat.pow_succ]
  have : d * 128 ^ i ≤ 127 * 128 ^ i := Nat.mul_le_mul_right _ (by omega)
  omega

/-- What ReadU hands back for the bytes l and the offset a: the value, the next offset, the error (1: argument). -/
def readU (l : List UInt8) (a : Int) : Nat × Nat × Nat :=
  if a < 0 ∨ (l.length : Int) < a then (0, 0, 1)
  else if (scan 0 0 (l.drop a.toNat)).2.2 = 0 then ((scan 0 0 (l.drop a.toNat)).1, a.toNat + (scan 0 0 (l.drop a.toNat)).2.1, 0)
  else (0, 0, (scan 0 0 (l.drop a.toNat)).2.2)

theorem readU_out {l : List UInt8} {a : Int} (h : a < 0 ∨ (l.length : Int) < a) : readU l a = (0, 0, 1) := by rw [readU, if_pos h]
theorem readU_ok {l : List UInt8} {a n k : Nat} (h : a ≤ l.length) (hs : scan 0 0 (l.drop a) = (n, k, 0)) : readU l a = (n, a + k, 0) := by
  rw [readU, if_neg (by omega), Int.toNat_natCast, hs]
  simp
theorem readU_err {l : List UInt8} {a e : Nat} (h : a ≤ l.length) (hs : scan 0 0 (l.drop a) = (0, 0, e)) (he : e ≠ 0) : readU l a = (0, 0, e) := by
  rw [readU, if_neg (by omega), Int.toNat_natCast, hs]
  simp [he]

/-- What is accepted: it lies between the offset and the end, and it is the encoding of the value. -/
theorem readU_good {l : List UInt8} {a : Int} {n k : Nat} (h : readU l a = (n, k, 0)) :
    ∃ b j, a = ((b : Nat) : Int) ∧ b ≤ l.length ∧ 1 ≤ j ∧ k = b + j ∧ k ≤ l.length ∧ (l.drop b).take j = uvarint n ∧ U64 n := by
  unfold readU at h
  by_cases h1 : a < 0 ∨ (l.length : Int) < a
  · rw [if_pos h1] at h; simp at h
  rw [if_neg h1] at h
  obtain ⟨b, rfl⟩ := Int.eq_ofNat_of_zero_le (show 0 ≤ a by omega)
  rw [Int.toNat_natCast] at h
  by_cases h2 : (scan 0 0 (l.drop b)).2.2 = 0
  · rw [if_pos h2] at h
    simp only [Prod.mk.injEq, and_true] at h
    obtain ⟨e1, e2⟩ := h
    have hs : scan 0 0 (l.drop b) = (n, (scan 0 0 (l.drop b)).2.1, 0) := Prod.ext e1 (Prod.ext rfl h2)
    obtain ⟨m, j, hj, hj1, hj2, ht, hn, hlt, _⟩ := scan_sound (l.drop b) 0 0 n _ hs (by omega) (by decide)
    have hnm : n = m := by simpa using hn
    subst hnm
    refine ⟨b, j, rfl, by omega, hj1, by omega, ?_, ht, hlt⟩
    rw [List.length_drop] at hj2
    omega
  · rw [if_neg h2] at h
    simp only [Prod.mk.injEq] at h
    exact absurd h.2.2 h2

theorem readU_u64 {l : List UInt8} {a : Int} {n k : Nat} (h : readU l a = (n, k, 0)) : U64 n := by
  obtain ⟨_, _, _, _, _, _, _, _, hu⟩ := readU_good h
  exact hu
theorem readU_le {l : List UInt8} {a : Int} {n k : Nat} (h : readU l a = (n, k, 0)) : k ≤ l.length := by
  obtain ⟨_, _, _, _, _, _, hk, _, _⟩ := readU_good h
  exact hk

theorem readU_cases (l : List UInt8) (a : Int) : (∃ n k, readU l a = (n, k, 0)) ∨ readU l a = (0, 0, 1) ∨ readU l a = (0, 0, 5) ∨ readU l a = (0, 0, 6) := by
  unfold readU
  by_cases h1 : a < 0 ∨ (l.length : Int) < a
  · rw [if_pos h1]; exact .inr (.inl rfl)
  rw [if_neg h1]
  rcases scan_err (l.drop a.toNat) 0 0 with h | h | h
  · rw [if_pos h]; exact .inl ⟨_, _, rfl⟩
  · rw [h]; exact .inr (.inr (.inl rfl))
  · rw [h]; exact .inr (.inr (.inr rfl))

/-- Where counted bytes begin and end. -/
def span (l : List UInt8) (a : Int) : Nat × Nat × Nat :=
  if (readU l a).2.2 ≠ 0 then (0, 0, (readU l a).2.2)
  else if 1048576 < (readU l a).1 then (0, 0, 2)
  else if l.length < (readU l a).2.1 + (readU l a).1 then (0, 0, 6)
  else ((readU l a).2.1, (readU l a).2.1 + (readU l a).1, 0)
/-- The bytes that were counted (none where there is an error). -/
def taken (l : List UInt8) (a : Int) : List UInt8 := (l.drop (span l a).1).take ((span l a).2.1 - (span l a).1)

theorem span_err {l : List UInt8} {a : Int} {e : Nat} (h : readU l a = (0, 0, e)) (he : e ≠ 0) : span l a = (0, 0, e) := by
  unfold span
  rw [h, if_pos he]
theorem span_big {l : List UInt8} {a : Int} {n k : Nat} (h : readU l a = (n, k, 0)) (hn : 1048576 < n) : span l a = (0, 0, 2) := by
  unfold span
  rw [h, if_neg (by simp), if_pos hn]
theorem span_short {l : List UInt8} {a : Int} {n k : Nat} (h : readU l a = (n, k, 0)) (hn : ¬ 1048576 < n) (hl : l.length < k + n) : span l a = (0, 0, 6) := by
  unfold span
  rw [h, if_neg (by simp), if_neg hn, if_pos hl]
theorem span_ok {l : List UInt8} {a : Int} {n k : Nat} (h : readU l a = (n, k, 0)) (hn : ¬ 1048576 < n) (hl : ¬ l.length < k + n) : span l a = (k, k + n, 0) := by
  unfold span
  rw [h, if_neg (by simp), if_neg hn, if_neg hl]
theorem span_cases (l : List UInt8) (a : Int) : (∃ s n, span l a = (s, s + n, 0) ∧ s + n ≤ l.length ∧ n ≤ 1048576 ∧ readU l a = (n, s, 0)) ∨ span l a = (0, 0, 1) ∨ span l a = (0, 0, 2) ∨ span l a = (0, 0, 5) ∨ span l a = (0, 0, 6) := by
  rcases readU_cases l a with ⟨n, k, h⟩ | h | h | h
  · by_cases h1 : 1048576 < n
    · exact .inr (.inr (.inl (span_big h h1)))
    · by_cases h2 : l.length < k + n
      · exact .inr (.inr (.inr (.inr (span_short h h1 h2))))
      · exact .inl ⟨k, n, span_ok h h1 h2, by omega, by omega, h⟩
  · exact .inr (.inl (span_err h (by omega)))
  · exact .inr (.inr (.inr (.inl (span_err h (by omega)))))
  · exact .inr (.inr (.inr (.inr (span_err h (by omega)))))
theorem taken_err {l : List UInt8} {a : Int} {e : Nat} (h : span l a = (0, 0, e)) : taken l a = [] := by
  unfold taken
  rw [h]
  simp
theorem taken_ok {l : List UInt8} {a : Int} {n k : Nat} (h : span l a = (k, k + n, 0)) : taken l a = (l.drop k).take n := by
  unfold taken
  rw [h]
  congr 1
  simp

/-- The number of significant bits. -/
def nbits (n : Nat) : Nat := if h : n = 0 then 0 else nbits (n / 2) + 1
termination_by n
decreasing_by omega

theorem nbits_zero : nbits 0 = 0 := by rw [nbits]; simp
theorem nbits_pos {n : Nat} (h : 0 < n) : nbits n = nbits (n / 2) + 1 := by rw [nbits, dif_neg (by omega)]
theorem nbits_le : ∀ (k n : Nat), n < 2 ^ k → nbits n ≤ k
  | 0, n, h => by
    obtain rfl : n = 0 := by simpa using h
    rw [nbits_zero]; omega
  | k + 1, n, h => by
    by_cases h0 : n = 0
    · subst h0; rw [nbits_zero]; omega
    · rw [nbits_pos (by omega)]
      have := nbits_le k (n / 2) (by rw [Nat.pow_succ] at h; omega)
      omega
theorem nbits_128 {n : Nat} (h : 128 ≤ n) : nbits n = nbits (n / 128) + 7 := by
  rw [nbits_pos (by omega), nbits_pos (n := n / 2) (by omega), nbits_pos (n := n / 2 / 2) (by omega), nbits_pos (n := n / 2 / 2 / 2) (by omega),
    nbits_pos (n := n / 2 / 2 / 2 / 2) (by omega), nbits_pos (n := n / 2 / 2 / 2 / 2 / 2) (by omega), nbits_pos (n := n / 2 / 2 / 2 / 2 / 2 / 2) (by omega)]
  have : n / 2 / 2 / 2 / 2 / 2 / 2 / 2 = n / 128 := by omega
  rw [this]
theorem nbits_double {n : Nat} (h : 0 < n) : nbits (2 * n) = nbits n + 1 := by
  rw [nbits_pos (by omega)]
  have : 2 * n / 2 = n := by omega
  rw [this]
theorem nbits_double1 (n : Nat) : nbits (2 * n + 1) = nbits n + 1 := by
  rw [nbits_pos (by omega)]
  have : (2 * n + 1) / 2 = n := by omega
  rw [this]

/-- P1.4. -/
theorem length_enc (n : Nat) : (uvarint n).length = max 1 ((nbits n + 6) / 7) := by
  induction n using Nat.strongRecOn with
  | _ n ih =>
    by_cases h : n < 128
    · rw [uvarint_small h]
      have := nbits_le 7 n (by omega)
      simp only [List.length_cons, List.length_nil]
      omega
    · have h1 : 1 ≤ nbits (n / 128) := by rw [nbits_pos (n := n / 128) (by omega)]; omega
      have h2 := nbits_128 (n := n) (by omega)
      rw [uvarint_big (by omega), List.length_cons, ih (n / 128) (by omega)]
      omega

theorem taken_le (l : List UInt8) (a : Int) : (taken l a).length ≤ 1048576 := by
  rcases span_cases l a with ⟨s, n, h, _, hn, _⟩ | h | h | h | h
  · rw [taken_ok h]
    simp
    omega
  all_goals
    rw [taken_err h]
    simp

theorem nbits_64 {n : Nat} (h : U64 n) : nbits n ≤ 64 := nbits_le 64 n h.lt
/-- The first half of P1.4, as the law reckons it. -/
theorem len_u (n : Nat) : (((uvarint n).length : Nat) : Int) = max 1 ((((nbits n : Nat) : Int) + 6) / 7) := by
  rw [length_enc]
  omega
/-- The second half: n is not negative, or is -n - 1. -/
theorem len_pos (n : Nat) : (((uvarint (2 * n)).length : Nat) : Int) = (((nbits n : Nat) : Int) + 1 + 6) / 7 := by
  rw [length_enc]
  rcases Nat.eq_zero_or_pos n with h | h
  · subst h
    rw [nbits_zero]
    rfl
  · rw [nbits_double h]
    omega
theorem len_neg (n : Nat) : (((uvarint (2 * n + 1)).length : Nat) : Int) = (((nbits n : Nat) : Int) + 1 + 6) / 7 := by
  rw [length_enc, nbits_double1]
  omega

end Go.Proofs.Ytkeneoinfegodaa.Num
