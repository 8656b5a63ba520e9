/-
  ChaCha20 as functions on lists of words and bytes. Plain.
-/
import Derived.Test.YtbpphdmkfjdhnaaDoorBytes
namespace Go.Proofs.YtbpphdmkfjdhnaaDoor

/-- a quarter round -/
def quarter (v : List UInt32) (a b c d : Nat) : List UInt32 :=
  rotAt 25 (addAt (rotAt 24 (addAt (rotAt 20 (addAt (rotAt 16 (addAt v a b) d a) c d) b c) a b) d a) c d) b c
theorem quarter_len (v : List UInt32) (a b c d : Nat) : (quarter v a b c d).length = v.length := by simp [quarter, rotAt_len, addAt_len]
def QS : List (List Nat) := [[0, 4, 8, 12], [1, 5, 9, 13], [2, 6, 10, 14], [3, 7, 11, 15], [0, 5, 10, 15], [1, 6, 11, 12], [2, 7, 8, 13], [3, 4, 9, 14]]
def q4 (k : Nat) : List Nat := QS.getD k []
theorem q4_ok : ∀ k, k < 8 → (q4 k).length = 4 ∧ ∀ i, i < 4 → pick (q4 k) i < 16 := by decide
theorem q4_ne : ∀ k, k < 8 → ∀ i, i < 4 → ∀ j, j < 4 → i ≠ j → pick (q4 k) i ≠ pick (q4 k) j := by decide
def qstep (v : List UInt32) (s : List Nat) : List UInt32 := quarter v (pick s 0) (pick s 1) (pick s 2) (pick s 3)
def quarters (v : List UInt32) : Nat → List UInt32
  | 0 => v
  | k + 1 => qstep (quarters v k) (q4 k)
theorem quarters_len (v : List UInt32) (k : Nat) : (quarters v k).length = v.length := by
  induction k with
  | zero => rfl
  | succ k ih => rw [quarters, qstep, quarter_len, ih]
def rounds (v : List UInt32) : Nat → List UInt32
  | 0 => v
  | k + 1 => quarters (rounds v k) 8
theorem rounds_len (v : List UInt32) (k : Nat) : (rounds v k).length = v.length := by
  induction k with
  | zero => rfl
  | succ k ih => rw [rounds, quarters_len, ih]
def sumBytes (s t : List UInt32) : List UInt8 := (List.range 64).map fun i => low8 (8 * (i % 4)) (at_ t (i / 4) + at_ s (i / 4))
theorem sumBytes_len (s t : List UInt32) : (sumBytes s t).length = 64 := by simp [sumBytes]
def blockOf (s : List UInt32) : List UInt8 := sumBytes s (rounds s 10)
theorem blockOf_len (s : List UInt32) : (blockOf s).length = 64 := sumBytes_len _ _
def C4 : List UInt32 := [0x61707865, 0x3320646e, 0x79622d32, 0x6b206574]
def wordsN (bs : List UInt8) (n : Nat) : List UInt32 := (List.range n).map fun j => word4 bs (j * 4)
theorem wordsN_len (bs : List UInt8) (n : Nat) : (wordsN bs n).length = n := by simp [wordsN]
theorem wordsN_succ (bs : List UInt8) (n : Nat) : wordsN bs (n + 1) = wordsN bs n ++ [word4 bs (n * 4)] := by simp [wordsN, List.range_succ]
def initS (key nonce : List UInt8) (n : UInt32) : List UInt32 := C4 ++ wordsN key 8 ++ [n] ++ wordsN nonce 3
theorem initS_len (key nonce : List UInt8) (n : UInt32) : (initS key nonce n).length = 16 := by simp [initS, wordsN_len, C4]
/-- the key stream -/
def ctr (key nonce : List UInt8) (k : Nat) : List UInt8 := blockOf (initS key nonce (UInt32.ofNat k))
def keyAt (key nonce : List UInt8) (i : Nat) : UInt8 := byte (ctr key nonce (i / 64)) (i % 64)
def xorFrom (key nonce : List UInt8) : Nat → List UInt8 → List UInt8
  | _, [] => []
  | i, x :: r => (x ^^^ keyAt key nonce i) :: xorFrom key nonce (i + 1) r
def xorOf (key nonce b : List UInt8) : List UInt8 := xorFrom key nonce 0 b
theorem xorFrom_len (key nonce : List UInt8) : ∀ (b : List UInt8) (i : Nat), (xorFrom key nonce i b).length = b.length
  | [], _ => rfl
  | x :: r, i => by simp [xorFrom, xorFrom_len key nonce r]
theorem xorOf_len (key nonce b : List UInt8) : (xorOf key nonce b).length = b.length := xorFrom_len _ _ _ _
theorem xorFrom_get (key nonce : List UInt8) : ∀ (b : List UInt8) (i j : Nat), (xorFrom key nonce i b)[j]? = b[j]?.map fun x => x ^^^ keyAt key nonce (i + j)
  | [], _, _ => by simp [xorFrom]
  | x :: r, i, 0 => by simp [xorFrom]
  | x :: r, i, j + 1 => by
    simp only [xorFrom, List.getElem?_cons_succ]
    rw [xorFrom_get key nonce r (i + 1) j, show i + 1 + j = i + (j + 1) by omega]
theorem xorOf_get (key nonce b : List UInt8) (j : Nat) : (xorOf key nonce b)[j]? = b[j]?.map fun x => x ^^^ keyAt key nonce j := by
  rw [xorOf, xorFrom_get, Nat.zero_add]
/-- P3.2 -/
theorem xorOf_twice (key nonce b : List UInt8) : xorOf key nonce (xorOf key nonce b) = b := by
  apply List.ext_getElem?
  intro j
  rw [xorOf_get, xorOf_get]
  cases b[j]? with
  | none => rfl
  | some x => simp [UInt8.xor_assoc]
/-- P3.3 -/
theorem xorOf_take (key nonce b : List UInt8) (n : Nat) : xorOf key nonce (b.take n) = (xorOf key nonce b).take n := by
  apply List.ext_getElem?
  intro j
  rw [xorOf_get, List.getElem?_take, List.getElem?_take]
  split
  · rw [xorOf_get]
  · rfl
theorem xorOf_app (key nonce b : List UInt8) (x : UInt8) : xorOf key nonce (b ++ [x]) = xorOf key nonce b ++ [x ^^^ keyAt key nonce b.length] := by
  apply List.ext_getElem?
  intro j
  rw [xorOf_get, List.getElem?_append, List.getElem?_append, xorOf_len]
  split
  · rw [xorOf_get]
  · rename_i h
    by_cases e : j = b.length
    · subst e; simp
    · have : j - b.length ≠ 0 := by omega
      rw [List.getElem?_eq_none (by simp; omega), List.getElem?_eq_none (by simp; omega)]
      rfl
theorem xorOf_zeros (key nonce : List UInt8) (n j : Nat) (h : j < n) : (xorOf key nonce (List.replicate n 0))[j]? = some (keyAt key nonce j) := by
  rw [xorOf_get, List.getElem?_replicate, if_pos h]
  simp
theorem xorOf_linear (key nonce a b : List UInt8) (j : Nat) (x y : UInt8) (hx : a[j]? = some x) (hy : b[j]? = some y) :
    ∃ p q, (xorOf key nonce a)[j]? = some p ∧ (xorOf key nonce b)[j]? = some q ∧ p ^^^ q = x ^^^ y := by
  refine ⟨_, _, by rw [xorOf_get, hx]; rfl, by rw [xorOf_get, hy]; rfl, ?_⟩
  generalize keyAt key nonce j = k
  rw [show x ^^^ k ^^^ (y ^^^ k) = x ^^^ y ^^^ (k ^^^ k) by rw [UInt8.xor_assoc, UInt8.xor_assoc, ← UInt8.xor_assoc k, UInt8.xor_comm k, UInt8.xor_assoc], UInt8.xor_self, UInt8.xor_zero]
end Go.Proofs.YtbpphdmkfjdhnaaDoor
