/-
  The words of a block of bytes, and the bytes of a state. Plain.
-/
import Derived.Test.YtmdokldbggingaaDoorSpec
namespace Go.Proofs.YtmdokldbggingaaDoor

def u8w (c : UInt8) : UInt32 := UInt32.ofNat c.toNat
theorem wd_u8w (c : UInt8) : wd (u8w c) = (c.toNat : Int) := by
  have := c.toNat_lt
  exact wd_of _ (by omega)
def shl (n : Nat) (x : UInt32) : UInt32 := UInt32.ofNat (x.toNat * 2 ^ n % 4294967296)
theorem wd_shl' (n : Nat) (x : UInt32) : (wd x * 2 ^ n) % 4294967296 = wd (shl n x) := wd_shl n x
theorem shl_0 (x : UInt32) : shl 0 x = x := by
  have := x.toNat_lt
  apply wd_inj
  rw [← wd_shl']
  have := wd_lt x
  omega
def byte (bs : List UInt8) (i : Nat) : UInt8 := bs.getD i 0
def word4 (bs : List UInt8) (k : Nat) : UInt32 := u8w (byte bs k) ||| shl 8 (u8w (byte bs (k + 1))) ||| shl 16 (u8w (byte bs (k + 2))) ||| shl 24 (u8w (byte bs (k + 3)))
def wordsOf (bs : List UInt8) : List UInt32 := (List.range 16).map fun j => word4 bs (j * 4)
theorem wordsOf_len (bs : List UInt8) : (wordsOf bs).length = 16 := by simp [wordsOf]

/-- as the reference gathers them -/
def gather (bs : List UInt8) : Nat → List UInt32
  | 0 => List.replicate 16 0
  | i + 1 => (gather bs i).set (i / 4) (at_ (gather bs i) (i / 4) ||| shl (8 * (i % 4)) (u8w (byte bs i)))
theorem gather_len (bs : List UInt8) (i : Nat) : (gather bs i).length = 16 := by
  induction i with
  | zero => simp [gather]
  | succ i ih => simp [gather, ih]
theorem at_set {v : List UInt32} {j : Nat} (x : UInt32) (h : j < v.length) : at_ (v.set j x) j = x := by simp [at_, h]
theorem gather_4 (bs : List UInt8) (j : Nat) (v : List UInt32) (hv : gather bs (4 * j) = v) (hl : v.length = 16) (hj : j < 16) (h0 : at_ v j = 0) : gather bs (4 * (j + 1)) = v.set j (word4 bs (j * 4)) := by
  have e0 : (4 * j) / 4 = j := by omega
  have e1 : (4 * j + 1) / 4 = j := by omega
  have e2 : (4 * j + 2) / 4 = j := by omega
  have e3 : (4 * j + 3) / 4 = j := by omega
  have f0 : (4 * j) % 4 = 0 := by omega
  have f1 : (4 * j + 1) % 4 = 1 := by omega
  have f2 : (4 * j + 2) % 4 = 2 := by omega
  have f3 : (4 * j + 3) % 4 = 3 := by omega
  have e4 : 4 * (j + 1) = 4 * j + 1 + 1 + 1 + 1 := by omega
  rw [e4]
  simp only [gather]
  rw [hv, e0, f0, e1, f1, e2, f2, e3, f3, h0]
  have z : (0 : UInt32) ||| shl (8 * 0) (u8w (byte bs (4 * j))) = u8w (byte bs (4 * j)) := by
    rw [shl_0, UInt32.zero_or]
  rw [z]
  simp only [List.set_set]
  rw [at_set _ (by omega), at_set _ (by omega), at_set _ (by omega)]
  unfold word4
  rw [show j * 4 = 4 * j by omega]
/-- laid word by word -/
def laidW (bs : List UInt8) : Nat → List UInt32
  | 0 => List.replicate 16 0
  | j + 1 => (laidW bs j).set j (word4 bs (j * 4))
theorem laidW_len (bs : List UInt8) (j : Nat) : (laidW bs j).length = 16 := by
  induction j with
  | zero => simp [laidW]
  | succ j ih => simp [laidW, ih]
theorem laidW_at (bs : List UInt8) (j k : Nat) (h : j ≤ k) (hk : k < 16) : at_ (laidW bs j) k = 0 := by
  induction j with
  | zero =>
    unfold at_ laidW
    rw [List.getD_eq_getElem?_getD, List.getElem?_replicate]
    split <;> rfl
  | succ j ih =>
    have hne : j ≠ k := by omega
    have := ih (by omega)
    simp only [laidW, at_] at this ⊢
    simpa [hne] using this
theorem gather_laid (bs : List UInt8) (j : Nat) (h : j ≤ 16) : gather bs (4 * j) = laidW bs j := by
  induction j with
  | zero => rfl
  | succ j ih => exact gather_4 bs j _ (ih (by omega)) (laidW_len _ _) (by omega) (laidW_at _ _ _ (Nat.le_refl _) (by omega))
theorem laidW_16 (bs : List UInt8) : laidW bs 16 = wordsOf bs := rfl
theorem gather_64 (bs : List UInt8) : gather bs 64 = wordsOf bs := by
  have := gather_laid bs 16 (Nat.le_refl _)
  rw [← laidW_16, ← this]

/-- the bytes of a state -/
def low8 (n : Nat) (x : UInt32) : UInt8 := UInt8.ofNat (x.toNat / 2 ^ n % 256)
def bytesOf (h : List UInt32) : List UInt8 := (List.range 32).map fun i => low8 (8 * (i % 4)) (at_ h (i / 4))
theorem bytesOf_len (h : List UInt32) : (bytesOf h).length = 32 := by simp [bytesOf]
theorem low8_int (n : Nat) (x : UInt32) : ((low8 n x).toNat : Int) = wd x / 2 ^ n % 256 := by
  unfold low8 wd
  rw [UInt8.toNat_ofNat_of_lt' (by simpa using Nat.mod_lt _ (by decide))]
  rw [Int.natCast_emod, Int.natCast_ediv, Int.natCast_pow]
  rfl

end Go.Proofs.YtmdokldbggingaaDoor
