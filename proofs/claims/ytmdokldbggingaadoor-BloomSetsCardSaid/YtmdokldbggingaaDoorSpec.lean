/-
  BLAKE2s' compression as a function on lists of words. Plain.
-/
import Derived.Test.YtmdokldbggingaaDoorWord
namespace Go.Proofs.YtmdokldbggingaaDoor

def IV : List UInt32 := [0x6a09e667, 0xbb67ae85, 0x3c6ef372, 0xa54ff53a, 0x510e527f, 0x9b05688c, 0x1f83d9ab, 0x5be0cd19]
theorem IV_len : IV.length = 8 := rfl
def ROWS : List (List Nat) := [
  [0, 1, 2, 3, 4, 5, 6, 7, 8, 9, 10, 11, 12, 13, 14, 15],
  [14, 10, 4, 8, 9, 15, 13, 6, 1, 12, 0, 2, 11, 7, 5, 3],
  [11, 8, 12, 0, 5, 2, 15, 13, 10, 14, 3, 6, 7, 1, 9, 4],
  [7, 9, 3, 1, 13, 12, 11, 14, 2, 6, 5, 10, 4, 0, 15, 8],
  [9, 0, 5, 7, 2, 4, 10, 15, 14, 1, 11, 12, 6, 8, 3, 13],
  [2, 12, 6, 10, 0, 11, 8, 3, 4, 13, 7, 5, 15, 14, 1, 9],
  [12, 5, 1, 15, 14, 13, 4, 10, 0, 7, 6, 3, 9, 2, 8, 11],
  [13, 11, 7, 14, 12, 1, 3, 9, 5, 0, 15, 4, 8, 6, 2, 10],
  [6, 15, 14, 9, 11, 3, 0, 8, 12, 2, 13, 7, 1, 4, 10, 5],
  [10, 2, 8, 4, 7, 6, 1, 5, 15, 11, 9, 14, 3, 12, 13, 0]]
def row (r : Nat) : List Nat := ROWS.getD r []
def pick (s : List Nat) (i : Nat) : Nat := s.getD i 0
theorem row_ok : ∀ r, r < 10 → (row r).length = 16 ∧ ∀ i, i < 16 → pick (row r) i < 16 := by decide

/-- the first words: h, then IV, laid two at a time -/
def laidV (h : List UInt32) : Nat → List UInt32
  | 0 => List.replicate 16 0
  | k + 1 => ((laidV h k).set k (at_ h k)).set (8 + k) (at_ IV k)
theorem laidV_len (h : List UInt32) (k : Nat) : (laidV h k).length = 16 := by
  induction k with
  | zero => simp [laidV]
  | succ k ih => simp [laidV, ih]
theorem list8 {α : Type} {h : List α} (hh : h.length = 8) : ∃ a b c d e f g i, h = [a, b, c, d, e, f, g, i] := by
  match h, hh with
  | [a, b, c, d, e, f, g, i], _ => exact ⟨a, b, c, d, e, f, g, i, rfl⟩
theorem laidV_8 {h : List UInt32} (hh : h.length = 8) : laidV h 8 = h ++ IV := by
  obtain ⟨a, b, c, d, e, f, g, i, rfl⟩ := list8 hh
  rfl

def lo32 (t : Nat) : UInt32 := UInt32.ofNat (t % 4294967296)
def hi32 (t : Nat) : UInt32 := UInt32.ofNat (t / 4294967296 % 4294967296)
theorem wd_lo (t : Nat) : wd (lo32 t) = (t : Int) % 4294967296 := by
  unfold lo32
  rw [wd_of _ (Nat.mod_lt _ (by decide))]
  omega
theorem wd_hi (t : Nat) : wd (hi32 t) = (t : Int) / 4294967296 % 4294967296 := by
  unfold hi32
  rw [wd_of _ (Nat.mod_lt _ (by decide))]
  omega
def tick1 (v : List UInt32) (t : Nat) : List UInt32 := v.set 12 (at_ v 12 ^^^ lo32 t)
def tick2 (v : List UInt32) (t : Nat) : List UInt32 := v.set 13 (at_ v 13 ^^^ hi32 t)
def flag (v : List UInt32) (last : Bool) : List UInt32 := if last then v.set 14 (~~~ (at_ v 14)) else v
def ticked (v : List UInt32) (t : Nat) (last : Bool) : List UInt32 := flag (tick2 (tick1 v t) t) last
theorem ticked_yes (v : List UInt32) (t : Nat) : ticked v t true = ((v.set 12 (at_ v 12 ^^^ lo32 t)).set 13 (at_ v 13 ^^^ hi32 t)).set 14 (~~~ (at_ v 14)) := by
  simp [ticked, flag, tick1, tick2, at_]
theorem ticked_no (v : List UInt32) (t : Nat) : ticked v t false = (v.set 12 (at_ v 12 ^^^ lo32 t)).set 13 (at_ v 13 ^^^ hi32 t) := by
  simp [ticked, flag, tick1, tick2, at_]
theorem ticked_len (v : List UInt32) (t : Nat) (last : Bool) : (ticked v t last).length = v.length := by
  unfold ticked flag
  split <;> simp [tick1, tick2]

def colMix (m : List UInt32) (s : List Nat) (v : List UInt32) (i : Nat) : List UInt32 :=
  mixed v i (4 + i) (8 + i) (12 + i) (at_ m (pick s (2 * i))) (at_ m (pick s (2 * i + 1)))
def diaMix (m : List UInt32) (s : List Nat) (v : List UInt32) (i : Nat) : List UInt32 :=
  mixed v i (4 + (i + 1) % 4) (8 + (i + 2) % 4) (12 + (i + 3) % 4) (at_ m (pick s (8 + 2 * i))) (at_ m (pick s (9 + 2 * i)))
def cols (m : List UInt32) (s : List Nat) (v : List UInt32) : Nat → List UInt32
  | 0 => v
  | k + 1 => colMix m s (cols m s v k) k
def dias (m : List UInt32) (s : List Nat) (v : List UInt32) : Nat → List UInt32
  | 0 => v
  | k + 1 => diaMix m s (dias m s v k) k
def rnds (m v : List UInt32) : Nat → List UInt32
  | 0 => v
  | k + 1 => dias m (row k) (cols m (row k) (rnds m v k) 4) 4
theorem cols_len (m : List UInt32) (s : List Nat) (v : List UInt32) (k : Nat) : (cols m s v k).length = v.length := by
  induction k with
  | zero => rfl
  | succ k ih => simp [cols, colMix, mixed_len, ih]
theorem dias_len (m : List UInt32) (s : List Nat) (v : List UInt32) (k : Nat) : (dias m s v k).length = v.length := by
  induction k with
  | zero => rfl
  | succ k ih => simp [dias, diaMix, mixed_len, ih]
theorem rnds_len (m v : List UInt32) (k : Nat) : (rnds m v k).length = v.length := by
  induction k with
  | zero => rfl
  | succ k ih => simp [rnds, dias_len, cols_len, ih]

/-- what the compression hands back -/
def folded (h v : List UInt32) : List UInt32 := (List.range 8).map fun i => at_ h i ^^^ (at_ v i ^^^ at_ v (8 + i))
def foldP (h v : List UInt32) : Nat → List UInt32
  | 0 => h
  | k + 1 => (foldP h v k).set k (at_ (foldP h v k) k ^^^ (at_ v k ^^^ at_ v (8 + k)))
def foldR (h v : List UInt32) : Nat → List UInt32
  | 0 => List.replicate 8 0
  | k + 1 => (foldR h v k).set k (at_ h k ^^^ at_ v k ^^^ at_ v (k + 8))
theorem foldP_len (h v : List UInt32) (k : Nat) : (foldP h v k).length = h.length := by
  induction k with
  | zero => rfl
  | succ k ih => simp [foldP, ih]
theorem foldR_len (h v : List UInt32) (k : Nat) : (foldR h v k).length = 8 := by
  induction k with
  | zero => rfl
  | succ k ih => simp [foldR, ih]
theorem foldP_8 {h : List UInt32} (hh : h.length = 8) (v : List UInt32) : foldP h v 8 = folded h v := by
  obtain ⟨a, b, c, d, e, f, g, i, rfl⟩ := list8 hh
  rfl
theorem foldR_8 {h : List UInt32} (hh : h.length = 8) (v : List UInt32) : foldR h v 8 = folded h v := by
  obtain ⟨a, b, c, d, e, f, g, i, rfl⟩ := list8 hh
  simp [foldR, folded, at_, List.range, List.range.loop, UInt32.xor_assoc]
theorem folded_len (h v : List UInt32) : (folded h v).length = 8 := by simp [folded]
def compressed (h m : List UInt32) (t : Nat) (last : Bool) : List UInt32 := folded h (rnds m (ticked (h ++ IV) t last) 10)
theorem compressed_len (h m : List UInt32) (t : Nat) (last : Bool) : (compressed h m t last).length = 8 := folded_len _ _

end Go.Proofs.YtmdokldbggingaaDoor
