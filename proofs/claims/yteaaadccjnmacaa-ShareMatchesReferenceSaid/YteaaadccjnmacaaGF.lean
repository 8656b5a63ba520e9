/-
  The field GF(2^8) by powers of a generator. Plain theorems; no function of the dump.
-/
import Derived.Test.YteaaadccjnmacaaProg
namespace Go.Proofs.Yteaaadccjnmacaa

/-- twice and thrice a byte -/
def dbl (x : UInt8) : UInt8 := if x < 128 then x <<< 1 else x <<< 1 ^^^ 27
def tri (x : UInt8) : UInt8 := x ^^^ dbl x
/-- the powers of 3, and the logarithms to it -/
def expT : List UInt8 := [1, 3, 5, 15, 17, 51, 85, 255, 26, 46, 114, 150, 161, 248, 19, 53, 95, 225, 56, 72, 216, 115, 149, 164, 247, 2, 6, 10, 30, 34, 102, 170, 229, 52, 92, 228, 55, 89, 235, 38, 106, 190, 217, 112, 144, 171, 230, 49, 83, 245, 4, 12, 20, 60, 68, 204, 79, 209, 104, 184, 211, 110, 178, 205, 76, 212, 103, 169, 224, 59, 77, 215, 98, 166, 241, 8, 24, 40, 120, 136, 131, 158, 185, 208, 107, 189, 220, 127, 129, 152, 179, 206, 73, 219, 118, 154, 181, 196, 87, 249, 16, 48, 80, 240, 11, 29, 39, 105, 187, 214, 97, 163, 254, 25, 43, 125, 135, 146, 173, 236, 47, 113, 147, 174, 233, 32, 96, 160, 251, 22, 58, 78, 210, 109, 183, 194, 93, 231, 50, 86, 250, 21, 63, 65, 195, 94, 226, 61, 71, 201, 64, 192, 91, 237, 44, 116, 156, 191, 218, 117, 159, 186, 213, 100, 172, 239, 42, 126, 130, 157, 188, 223, 122, 142, 137, 128, 155, 182, 193, 88, 232, 35, 101, 175, 234, 37, 111, 177, 200, 67, 197, 84, 252, 31, 33, 99, 165, 244, 7, 9, 27, 45, 119, 153, 176, 203, 70, 202, 69, 207, 74, 222, 121, 139, 134, 145, 168, 227, 62, 66, 198, 81, 243, 14, 18, 54, 90, 238, 41, 123, 141, 140, 143, 138, 133, 148, 167, 242, 13, 23, 57, 75, 221, 124, 132, 151, 162, 253, 28, 36, 108, 180, 199, 82, 246]
def logT : List UInt8 := [0, 0, 25, 1, 50, 2, 26, 198, 75, 199, 27, 104, 51, 238, 223, 3, 100, 4, 224, 14, 52, 141, 129, 239, 76, 113, 8, 200, 248, 105, 28, 193, 125, 194, 29, 181, 249, 185, 39, 106, 77, 228, 166, 114, 154, 201, 9, 120, 101, 47, 138, 5, 33, 15, 225, 36, 18, 240, 130, 69, 53, 147, 218, 142, 150, 143, 219, 189, 54, 208, 206, 148, 19, 92, 210, 241, 64, 70, 131, 56, 102, 221, 253, 48, 191, 6, 139, 98, 179, 37, 226, 152, 34, 136, 145, 16, 126, 110, 72, 195, 163, 182, 30, 66, 58, 107, 40, 84, 250, 133, 61, 186, 43, 121, 10, 21, 155, 159, 94, 202, 78, 212, 172, 229, 243, 115, 167, 87, 175, 88, 168, 80, 244, 234, 214, 116, 79, 174, 233, 213, 231, 230, 173, 232, 44, 215, 117, 122, 235, 22, 11, 245, 89, 203, 95, 176, 156, 169, 81, 160, 127, 12, 246, 111, 23, 196, 73, 236, 216, 67, 31, 45, 164, 118, 123, 183, 204, 187, 62, 90, 251, 96, 177, 134, 59, 82, 161, 108, 170, 85, 41, 157, 151, 178, 135, 144, 97, 190, 220, 252, 188, 149, 207, 205, 55, 63, 91, 209, 83, 57, 132, 60, 65, 162, 109, 71, 20, 42, 158, 93, 86, 242, 211, 171, 68, 17, 146, 217, 35, 32, 46, 137, 180, 124, 184, 38, 119, 153, 227, 165, 103, 74, 237, 222, 197, 49, 254, 24, 13, 99, 140, 128, 192, 247, 112, 7]
def ex (n : Nat) : UInt8 := expT.getD n 0
def lg (a : UInt8) : Nat := (logT.getD a.toNat 0).toNat
def gmul (a b : UInt8) : UInt8 := if a = 0 ∨ b = 0 then 0 else ex ((lg a + lg b) % 255)
def ginv (a : UInt8) : UInt8 := if a = 0 then 0 else ex ((255 - lg a) % 255)

theorem of_all {p : UInt8 → Bool} (h : ((List.range 256).all fun n => p (UInt8.ofNat n)) = true) (a : UInt8) : p a = true := by
  have := List.all_eq_true.1 h a.toNat (by have := a.toNat_lt; simp; omega)
  simpa using this
theorem of_all2 {p : UInt8 → UInt8 → Bool} (h : ((List.range 256).all fun n => (List.range 256).all fun m => p (UInt8.ofNat n) (UInt8.ofNat m)) = true) (a b : UInt8) : p a b = true :=
  of_all (p := p a) (of_all (p := fun a => (List.range 256).all fun m => p a (UInt8.ofNat m)) h a) b
theorem of_lt {p : Nat → Bool} {k : Nat} (h : ((List.range k).all p) = true) (n : Nat) (hn : n < k) : p n = true :=
  List.all_eq_true.1 h n (by simp; omega)

theorem expT_len : expT.length = 255 := by decide +kernel
theorem logT_len : logT.length = 256 := by decide +kernel
theorem lg_ex (n : Nat) (h : n < 255) : lg (ex n) = n := by
  have := of_lt (p := fun n => lg (ex n) == n) (k := 255) (by decide +kernel) n h
  simpa using this
theorem ex_ne (n : Nat) (h : n < 255) : ex n ≠ 0 := by
  have := of_lt (p := fun n => ex n != 0) (k := 255) (by decide +kernel) n h
  simpa using this
theorem ex_lg (a : UInt8) (h : a ≠ 0) : ex (lg a) = a := by
  have := of_all (p := fun a => a == 0 || ex (lg a) == a) (by decide +kernel) a
  simpa [h] using this
theorem lg_lt (a : UInt8) : lg a < 255 := by
  have := of_all (p := fun a => decide (lg a < 255)) (by decide +kernel) a
  simpa using this
theorem ex_succ (n : Nat) (h : n < 255) : ex ((n + 1) % 255) = tri (ex n) := by
  have := of_lt (p := fun n => ex ((n + 1) % 255) == tri (ex n)) (k := 255) (by decide +kernel) n h
  simpa using this
theorem ex_zero : ex 0 = 1 := by decide +kernel
theorem dbl_xor (a b : UInt8) : dbl (a ^^^ b) = dbl a ^^^ dbl b := by
  have := of_all2 (p := fun a b => dbl (a ^^^ b) == (dbl a ^^^ dbl b)) (by decide +kernel) a b
  simpa using this
theorem xor4 (a b c d : UInt8) : a ^^^ b ^^^ (c ^^^ d) = a ^^^ c ^^^ (b ^^^ d) := by
  rw [UInt8.xor_assoc, UInt8.xor_assoc, ← UInt8.xor_assoc b, UInt8.xor_comm b c, UInt8.xor_assoc c]
theorem tri_xor (a b : UInt8) : tri (a ^^^ b) = tri a ^^^ tri b := by
  unfold tri
  rw [dbl_xor, xor4]
theorem tri_zero : tri 0 = 0 := by decide +kernel

/-- n times thrice -/
def triN : Nat → UInt8 → UInt8
  | 0, x => x
  | n + 1, x => tri (triN n x)
theorem triN_xor (n : Nat) (a b : UInt8) : triN n (a ^^^ b) = triN n a ^^^ triN n b := by
  induction n with
  | zero => rfl
  | succ n ih => simp only [triN, ih, tri_xor]
theorem triN_zero (n : Nat) : triN n 0 = 0 := by
  induction n with
  | zero => rfl
  | succ n ih => simp only [triN, ih, tri_zero]
theorem triN_ex (n m : Nat) (h : m < 255) : triN n (ex m) = ex ((n + m) % 255) := by
  induction n with
  | zero => simp only [triN, Nat.zero_add, Nat.mod_eq_of_lt h]
  | succ n ih =>
    simp only [triN, ih]
    rw [← ex_succ _ (Nat.mod_lt _ (by decide))]
    congr 1
    omega
theorem gmul_triN (a b : UInt8) (h : a ≠ 0) : gmul a b = triN (lg a) b := by
  unfold gmul
  by_cases hb : b = 0
  · simp [hb, triN_zero]
  · rw [if_neg (by simp [h, hb]), ← triN_ex _ _ (lg_lt b), ex_lg b hb]

theorem gmul_zero (a : UInt8) : gmul a 0 = 0 := by simp [gmul]
theorem zero_gmul (a : UInt8) : gmul 0 a = 0 := by simp [gmul]
theorem gmul_comm (a b : UInt8) : gmul a b = gmul b a := by
  unfold gmul
  rw [Nat.add_comm]
  by_cases ha : a = 0 <;> by_cases hb : b = 0 <;> simp [ha, hb]
theorem gmul_ne {a b : UInt8} (ha : a ≠ 0) (hb : b ≠ 0) : gmul a b ≠ 0 := by
  unfold gmul
  rw [if_neg (by simp [ha, hb])]
  exact ex_ne _ (Nat.mod_lt _ (by decide))
theorem gmul_eq_zero {a b : UInt8} (h : gmul a b = 0) : a = 0 ∨ b = 0 := by
  by_cases ha : a = 0
  · exact .inl ha
  · by_cases hb : b = 0
    · exact .inr hb
    · exact absurd h (gmul_ne ha hb)
theorem lg_gmul {a b : UInt8} (ha : a ≠ 0) (hb : b ≠ 0) : lg (gmul a b) = (lg a + lg b) % 255 := by
  unfold gmul
  rw [if_neg (by simp [ha, hb]), lg_ex _ (Nat.mod_lt _ (by decide))]
theorem gmul_assoc (a b c : UInt8) : gmul (gmul a b) c = gmul a (gmul b c) := by
  by_cases ha : a = 0
  · simp [ha, zero_gmul]
  by_cases hb : b = 0
  · simp [hb, zero_gmul, gmul_zero]
  by_cases hc : c = 0
  · simp [hc, gmul_zero]
  have h1 := gmul_ne ha hb
  have h2 := gmul_ne hb hc
  rw [gmul.eq_def (gmul a b) c, gmul.eq_def a (gmul b c), if_neg (by simp [h1, hc]), if_neg (by simp [ha, h2]), lg_gmul ha hb, lg_gmul hb hc]
  congr 1
  omega
theorem gmul_xor (a b c : UInt8) : gmul a (b ^^^ c) = gmul a b ^^^ gmul a c := by
  by_cases ha : a = 0
  · simp [ha, zero_gmul]
  · rw [gmul_triN a _ ha, gmul_triN a _ ha, gmul_triN a _ ha, triN_xor]
theorem xor_gmul (a b c : UInt8) : gmul (b ^^^ c) a = gmul b a ^^^ gmul c a := by
  rw [gmul_comm, gmul_xor, gmul_comm a b, gmul_comm a c]
theorem lg_one : lg 1 = 0 := by decide +kernel
theorem gmul_one (a : UInt8) : gmul a 1 = a := by
  by_cases ha : a = 0
  · simp [ha, zero_gmul]
  · unfold gmul
    rw [if_neg (by simp [ha]), lg_one, Nat.add_zero, Nat.mod_eq_of_lt (lg_lt a), ex_lg a ha]
theorem one_gmul (a : UInt8) : gmul 1 a = a := by rw [gmul_comm, gmul_one]
theorem ginv_zero : ginv 0 = 0 := by simp [ginv]
theorem ginv_ne {a : UInt8} (h : a ≠ 0) : ginv a ≠ 0 := by
  unfold ginv
  rw [if_neg h]
  exact ex_ne _ (Nat.mod_lt _ (by decide))
theorem gmul_ginv {a : UInt8} (h : a ≠ 0) : gmul a (ginv a) = 1 := by
  have h2 := ginv_ne h
  unfold gmul
  rw [if_neg (by simp [h, h2])]
  unfold ginv
  rw [if_neg h, lg_ex _ (Nat.mod_lt _ (by decide))]
  have := lg_lt a
  have e : (lg a + (255 - lg a) % 255) % 255 = 0 := by omega
  rw [e, ex_zero]
theorem ginv_ginv (a : UInt8) : ginv (ginv a) = a := by
  by_cases h : a = 0
  · simp [h, ginv_zero]
  · have h2 := ginv_ne h
    have := lg_lt a
    rw [ginv.eq_def (ginv a), if_neg h2, ginv.eq_def a, if_neg h, lg_ex _ (Nat.mod_lt _ (by decide))]
    have e : (255 - (255 - lg a) % 255) % 255 = lg a := by omega
    rw [e, ex_lg a h]
theorem dbl_gmul (a : UInt8) : dbl a = gmul 2 a := by
  have := of_all (p := fun a => dbl a == gmul 2 a) (by decide +kernel) a
  simpa using this
theorem gmul_dbl (a b : UInt8) : gmul a (dbl b) = gmul (dbl a) b := by
  rw [dbl_gmul, dbl_gmul, ← gmul_assoc, gmul_comm a 2]

theorem xor_cancel (a b : UInt8) : a ^^^ b ^^^ b = a := by rw [UInt8.xor_assoc, UInt8.xor_self, UInt8.xor_zero]
theorem xor_cancel' (a b : UInt8) : b ^^^ (b ^^^ a) = a := by rw [← UInt8.xor_assoc, UInt8.xor_self, UInt8.zero_xor]
theorem eq_of_xor {a b : UInt8} (h : a ^^^ b = 0) : a = b := by
  have := congrArg (· ^^^ b) h
  simpa [xor_cancel, UInt8.zero_xor] using this
theorem xor_ne {a b : UInt8} (h : a ≠ b) : a ^^^ b ≠ 0 := fun e => h (eq_of_xor e)

/-- a number that is shifted and added -/
theorem bit_step (y : Nat) (h : y < 256) : UInt8.ofNat y = (if y % 2 = 1 then 1 else 0) ^^^ dbl (UInt8.ofNat (y / 2)) := by
  have := of_lt (p := fun y => UInt8.ofNat y == ((if y % 2 = 1 then 1 else 0) ^^^ dbl (UInt8.ofNat (y / 2)))) (k := 256) (by decide +kernel) y h
  simpa using this
theorem gmul_step (x : UInt8) (y : Nat) (h : y < 256) : gmul x (UInt8.ofNat y) = (if y % 2 = 1 then x else 0) ^^^ gmul (dbl x) (UInt8.ofNat (y / 2)) := by
  rw [bit_step y h, gmul_xor, gmul_dbl]
  congr 1
  split
  · exact gmul_one x
  · exact gmul_zero x
theorem dbl_nat (x : UInt8) : (dbl x).toNat = if 2 * x.toNat > 255 then (2 * x.toNat) ^^^ 283 else 2 * x.toNat := by
  have := of_all (p := fun x => (dbl x).toNat == (if 2 * x.toNat > 255 then (2 * x.toNat) ^^^ 283 else 2 * x.toNat)) (by decide +kernel) x
  simpa using this

/-- the power with the exponent 254 -/
def powers : Nat → UInt8 × UInt8 → UInt8 × UInt8
  | 0, s => s
  | n + 1, s => powers n (gmul s.1 (gmul s.2 s.2), gmul s.2 s.2)
theorem powers_inv (a : UInt8) : (powers 7 (1, a)).1 = ginv a := by
  have := of_all (p := fun a => (powers 7 (1, a)).1 == ginv a) (by decide +kernel) a
  simpa using this
end Go.Proofs.Yteaaadccjnmacaa
