/-
  The quarter rounds reversed. Plain.
-/
import Derived.Test.YtbpphdmkfjdhnaaDoorQuartR
namespace Go.Proofs.YtbpphdmkfjdhnaaDoor

theorem q_or_add (a b n : Nat) (h : a < 2 ^ n) : a ||| b * 2 ^ n = a + b * 2 ^ n := by
  rw [Nat.or_comm, ← Nat.shiftLeft_eq, ← Nat.shiftLeft_add_eq_or_of_lt h, Nat.shiftLeft_eq, Nat.add_comm]
theorem rotr_nat (n : Nat) (hn : n ≤ 32) (x : UInt32) : (rotr n x).toNat = x.toNat / 2 ^ n + (x.toNat % 2 ^ n) * 2 ^ (32 - n) := by
  have hx := x.toNat_lt
  have e : 4294967296 = 2 ^ n * 2 ^ (32 - n) := by rw [← Nat.pow_add, show n + (32 - n) = 32 by omega]
  have hp : 0 < 2 ^ n := Nat.two_pow_pos n
  have h1 : x.toNat / 2 ^ n < 2 ^ (32 - n) := by
    rw [Nat.div_lt_iff_lt_mul hp, Nat.mul_comm, ← e]
    exact hx
  have h2 : 2 ^ (32 - n) ≤ 4294967296 := by
    have : 2 ^ (32 - n) ≤ 2 ^ 32 := Nat.pow_le_pow_right (by decide) (by omega)
    exact this
  unfold rotr
  have e2 : x.toNat * 2 ^ (32 - n) % 4294967296 = (x.toNat % 2 ^ n) * 2 ^ (32 - n) := by
    rw [e, Nat.mul_mod_mul_right]
  rw [UInt32.toNat_or, e2, UInt32.toNat_ofNat', UInt32.toNat_ofNat', Nat.mod_eq_of_lt (by show _ < 4294967296; omega)]
  have h3 : (x.toNat % 2 ^ n) * 2 ^ (32 - n) < 4294967296 := by
    rw [← e2]
    exact Nat.mod_lt _ (by decide)
  rw [Nat.mod_eq_of_lt (by exact h3), q_or_add _ _ _ h1]
theorem rot_back (n m : Nat) (x : UInt32) (h : (n = 25 ∧ m = 7) ∨ (n = 24 ∧ m = 8) ∨ (n = 20 ∧ m = 12) ∨ (n = 16 ∧ m = 16)) : rotr m (rotr n x) = x := by
  apply UInt32.toNat_inj.1
  have hx := x.toNat_lt
  rcases h with ⟨rfl, rfl⟩ | ⟨rfl, rfl⟩ | ⟨rfl, rfl⟩ | ⟨rfl, rfl⟩ <;>
    (rw [rotr_nat _ (by decide), rotr_nat _ (by decide)]; simp only [Nat.reduceSub, Nat.reducePow]; omega)

theorem at_setQ {v : List UInt32} {j : Nat} (x : UInt32) (h : j < v.length) : at_ (v.set j x) j = x := by simp [at_, h]
theorem at_setN {v : List UInt32} {j k : Nat} (x : UInt32) (h : j ≠ k) : at_ (v.set j x) k = at_ v k := by simp [at_, h]
theorem set_at {v : List UInt32} {j : Nat} (h : j < v.length) : v.set j (at_ v j) = v := by
  apply List.ext_getElem?
  intro i
  rw [List.getElem?_set]
  by_cases e : j = i
  · subst e
    simp [at_, h]
  · simp [e]
theorem back_rot (n m : Nat) (v : List UInt32) (d a : Nat) (h : (n = 25 ∧ m = 7) ∨ (n = 24 ∧ m = 8) ∨ (n = 20 ∧ m = 12) ∨ (n = 16 ∧ m = 16)) (hd : d < v.length) (hne : d ≠ a) : backAt m (rotAt n v d a) d a = v := by
  unfold backAt rotAt
  rw [at_setQ _ hd, at_setN _ hne, rot_back n m _ h, List.set_set, UInt32.xor_assoc, UInt32.xor_self, UInt32.xor_zero, set_at hd]
theorem sub_add (v : List UInt32) (c d : Nat) (hc : c < v.length) (hne : c ≠ d) : subAt (addAt v c d) c d = v := by
  unfold subAt addAt
  rw [at_setQ _ hc, at_setN _ hne, List.set_set, UInt32.add_sub_cancel, set_at hc]
/-- P3.4: a quarter round, reversed -/
theorem back_quarter (v : List UInt32) (a b c d : Nat) (ha : a < v.length) (hb : b < v.length) (hc : c < v.length) (hd : d < v.length) (hab : a ≠ b) (hcd : c ≠ d) (hda : d ≠ a) (hbc : b ≠ c) : backed (quarter v a b c d) a b c d = v := by
  unfold backed quarter
  rw [back_rot 25 7 _ _ _ (by decide) (by simpa [rotAt_len, addAt_len] using hb) hbc, sub_add _ _ _ (by simpa [rotAt_len, addAt_len] using hc) hcd, back_rot 24 8 _ _ _ (by decide) (by simpa [rotAt_len, addAt_len] using hd) hda,
    sub_add _ _ _ (by simpa [rotAt_len, addAt_len] using ha) hab, back_rot 20 12 _ _ _ (by decide) (by simpa [rotAt_len, addAt_len] using hb) hbc, sub_add _ _ _ (by simpa [rotAt_len, addAt_len] using hc) hcd,
    back_rot 16 16 _ _ _ (by decide) (by simpa [rotAt_len, addAt_len] using hd) hda, sub_add _ _ _ ha hab]
theorem back_step (v : List UInt32) (k : Nat) (hl : v.length = 16) (hk : k < 8) : backed (quarters v (k + 1)) (pick (q4 k) 0) (pick (q4 k) 1) (pick (q4 k) 2) (pick (q4 k) 3) = quarters v k := by
  rw [quarters, qstep]
  have o := (q4_ok k hk).2
  have n := q4_ne k hk
  have l : (quarters v k).length = 16 := by rw [quarters_len, hl]
  exact back_quarter _ _ _ _ _ (by rw [l]; exact o 0 (by decide)) (by rw [l]; exact o 1 (by decide)) (by rw [l]; exact o 2 (by decide)) (by rw [l]; exact o 3 (by decide)) (n 0 (by decide) 1 (by decide) (by decide)) (n 2 (by decide) 3 (by decide) (by decide)) (n 3 (by decide) 0 (by decide) (by decide)) (n 1 (by decide) 2 (by decide) (by decide))

/-- the bytes of a word, the last one first -/
theorem byte_sum (s t : List UInt32) (i j : Nat) (hi : i < 16) (hj : j < 4) : byte (sumBytes s t) (4 * i + j) = low8 (8 * j) (at_ t i + at_ s i) := by
  have h : 4 * i + j < 64 := by omega
  unfold byte sumBytes
  rw [List.getD_eq_getElem?_getD, List.getElem?_map, List.getElem?_range h]
  simp only [Option.map_some, Option.getD_some]
  rw [show (4 * i + j) % 4 = j by omega, show (4 * i + j) / 4 = i by omega]
/-- what is gathered of the word X after t bytes -/
def part4 (X : UInt32) (t : Nat) : UInt32 := UInt32.ofNat (X.toNat / 2 ^ (32 - 8 * t))
theorem part4_0 (X : UInt32) : part4 X 0 = 0 := by
  have := X.toNat_lt
  unfold part4
  rw [show 32 - 8 * 0 = 32 by decide, Nat.div_eq_of_lt (by simpa using this)]
  rfl
theorem part4_4 (X : UInt32) : part4 X 4 = X := by
  unfold part4
  simp
theorem or_hi (a H : Nat) (ha : a < 256) (hH : H % 256 = 0) : a ||| H = a + H := by
  have e : H = H / 256 * 2 ^ 8 := by omega
  rw [e, q_or_add _ _ 8 (by omega)]
theorem part4_step (X : UInt32) (t : Nat) (ht : t < 4) : shl 8 (part4 X t) ||| u8w (low8 (8 * (3 - t)) X) = part4 X (t + 1) := by
  apply UInt32.toNat_inj.1
  have hx := X.toNat_lt
  have hl : (u8w (low8 (8 * (3 - t)) X)).toNat = X.toNat / 2 ^ (8 * (3 - t)) % 256 := by
    unfold u8w low8
    rw [UInt8.toNat_ofNat_of_lt' (by simpa using Nat.mod_lt _ (by decide)), UInt32.toNat_ofNat', Nat.mod_eq_of_lt (by show _ < 4294967296; omega)]
  unfold part4 shl
  rw [UInt32.toNat_or, hl, UInt32.toNat_ofNat', UInt32.toNat_ofNat', UInt32.toNat_ofNat', Nat.or_comm]
  obtain rfl | rfl | rfl | rfl : t = 0 ∨ t = 1 ∨ t = 2 ∨ t = 3 := by omega
  all_goals
    simp only [Nat.reduceMul, Nat.reduceSub, Nat.reducePow, Nat.reduceAdd, Nat.div_one]
    rw [or_hi _ _ (by omega) (by omega)]
    omega
end Go.Proofs.YtbpphdmkfjdhnaaDoor
