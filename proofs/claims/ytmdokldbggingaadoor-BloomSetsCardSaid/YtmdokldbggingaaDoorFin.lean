/-
  The digest of a byte string with a key, as a function on lists. Plain.
-/
import Derived.Test.YtmdokldbggingaaDoorBytes
namespace Go.Proofs.YtmdokldbggingaaDoor

/-- block after block; the last one has the flag -/
def fin (h : List UInt32) (block rest : List UInt8) (t : Nat) : List UInt32 :=
  if rest.length = 0 then compressed h (wordsOf block) t true
  else fin (compressed h (wordsOf block) t false) (rest.take 64) (rest.drop 64) (t + (rest.take 64).length)
termination_by rest.length
decreasing_by simp; omega
theorem fin_last {h : List UInt32} {block rest : List UInt8} {t : Nat} (e : rest.length = 0) : fin h block rest t = compressed h (wordsOf block) t true := by
  rw [fin, if_pos e]
theorem fin_more {h : List UInt32} {block rest : List UInt8} {t : Nat} (e : ¬ rest.length = 0) : fin h block rest t = fin (compressed h (wordsOf block) t false) (rest.take 64) (rest.drop 64) (t + (rest.take 64).length) := by
  rw [fin, if_neg e]

/-- the parameters for a key of k bytes -/
def param (k : Nat) : UInt32 := UInt32.ofNat (16842784 + k * 256)
theorem wd_param (k : Nat) (h : k ≤ 32) : 16842784 + (k : Int) * 256 = wd (param k) := by
  unfold param
  rw [wd_of _ (by omega)]
  omega
theorem wd_param' (k : Nat) (h : k ≤ 32) : 16842784 + 256 * (k : Int) = wd (param k) := by
  rw [← wd_param k h]
  omega
def head (k : Nat) : List UInt32 := IV.set 0 (at_ IV 0 ^^^ param k)
theorem head_len (k : Nat) : (head k).length = 8 := by simp [head, IV_len]
/-- the digest -/
def digestOf (key b : List UInt8) : List UInt8 :=
  bytesOf (if (key.take 32).length = 0 then fin (head 0) (b.take 64) (b.drop 64) (b.take 64).length else fin (head (key.take 32).length) (key.take 32) b 64)
theorem digestOf_len (key b : List UInt8) : (digestOf key b).length = 32 := bytesOf_len _
end Go.Proofs.YtmdokldbggingaaDoor
