/-
  Words of 32 bits as the walk writes them; BLAKE2s as functions on lists of words and bytes. Plain theorems; no function of the dump.
-/
import Derived.Lib.EndianBits
namespace Go.Proofs.YtmdokldbggingaaDoor

/-- A word as the walk writes it. -/
def wd (x : UInt32) : Int := (x.toNat : Int)
theorem wd_lt (x : UInt32) : 0 ≤ wd x ∧ wd x < 4294967296 := by
  have := x.toNat_lt
  unfold wd
  omega
theorem wd_inj {x y : UInt32} (h : wd x = wd y) : x = y := by
  unfold wd at h
  exact UInt32.toNat_inj.1 (by omega)
theorem wd_add (x y : UInt32) : (wd x + wd y) % 4294967296 = wd (x + y) := by
  unfold wd
  rw [UInt32.toNat_add]
  omega
theorem wd_addw (x y : UInt32) : IntKind.u32.wrap (wd x + wd y) = wd (x + y) := by rw [IntKind.wrap_u32, wd_add]
theorem wd_bits (x y : UInt32) : bits .xor .u32 (wd x) (wd y) = wd (x ^^^ y) ∧ bits .or .u32 (wd x) (wd y) = wd (x ||| y) := by
  have hx := x.toNat_lt
  have hy := y.toNat_lt
  refine ⟨?_, ?_⟩
  · unfold wd bits
    show IntKind.u32.wrap ((BitVec.ofInt 32 _ ^^^ BitVec.ofInt 32 _).toNat : Int) = _
    rw [BitVec.toNat_xor, BitVec.toNat_ofInt, BitVec.toNat_ofInt, UInt32.toNat_xor, IntKind.wrap_u32]
    have e1 : ((x.toNat : Int) % ((2 ^ 32 : Nat) : Int)).toNat = x.toNat := by omega
    have e2 : ((y.toNat : Int) % ((2 ^ 32 : Nat) : Int)).toNat = y.toNat := by omega
    rw [e1, e2]
    have := Nat.xor_lt_two_pow hx hy
    omega
  · unfold wd bits
    show IntKind.u32.wrap ((BitVec.ofInt 32 _ ||| BitVec.ofInt 32 _).toNat : Int) = _
    rw [BitVec.toNat_or, BitVec.toNat_ofInt, BitVec.toNat_ofInt, UInt32.toNat_or, IntKind.wrap_u32]
    have e1 : ((x.toNat : Int) % ((2 ^ 32 : Nat) : Int)).toNat = x.toNat := by omega
    have e2 : ((y.toNat : Int) % ((2 ^ 32 : Nat) : Int)).toNat = y.toNat := by omega
    rw [e1, e2]
    have := Nat.or_lt_two_pow hx hy
    omega
theorem wd_xor (x y : UInt32) : bits .xor .u32 (wd x) (wd y) = wd (x ^^^ y) := (wd_bits x y).1
theorem wd_or (x y : UInt32) : bits .or .u32 (wd x) (wd y) = wd (x ||| y) := (wd_bits x y).2
theorem wd_not (x : UInt32) : bits .xor .u32 IntKind.u32.max (wd x) = wd (~~~ x) := by
  have e : IntKind.u32.max = wd 4294967295 := by decide
  rw [e, wd_xor]
  congr 1
theorem wd_of (n : Nat) (h : n < 4294967296) : wd (UInt32.ofNat n) = (n : Int) := by
  unfold wd
  rw [UInt32.toNat_ofNat_of_lt' (by simpa using h)]

/-- x turned right by n bits. -/
def rotr (n : Nat) (x : UInt32) : UInt32 := UInt32.ofNat (x.toNat / 2 ^ n) ||| UInt32.ofNat (x.toNat * 2 ^ (32 - n) % 4294967296)

theorem wd_shr (n : Nat) (x : UInt32) : wd x / 2 ^ n = wd (UInt32.ofNat (x.toNat / 2 ^ n)) := by
  have := x.toNat_lt
  have h : x.toNat / 2 ^ n ≤ x.toNat := Nat.div_le_self _ _
  rw [wd_of _ (by omega)]
  unfold wd
  norm_cast
theorem wd_shl (n : Nat) (x : UInt32) : (wd x * 2 ^ n) % 4294967296 = wd (UInt32.ofNat (x.toNat * 2 ^ n % 4294967296)) := by
  rw [wd_of _ (Nat.mod_lt _ (by decide))]
  unfold wd
  rw [Int.natCast_emod, Int.natCast_mul, Int.natCast_pow]
  rfl
theorem wd_rotr (n : Nat) (x : UInt32) : bits .or .u32 (wd x / 2 ^ n) (wd x * 2 ^ (32 - n) % 4294967296) = wd (rotr n x) := by
  rw [wd_shr, wd_shl, wd_or]
  rfl
theorem wd_rotr' (n : Nat) (x : UInt32) : bits .or .u32 (wd x * 2 ^ (32 - n) % 4294967296) (wd x / 2 ^ n) = wd (rotr n x) := by
  rw [wd_shr, wd_shl, wd_or]
  unfold rotr
  rw [UInt32.or_comm]

/-- The mixing: four words of the state and two of the block. -/
def at_ (v : List UInt32) (i : Nat) : UInt32 := v.getD i 0
def sumAt (v : List UInt32) (a b : Nat) (x : UInt32) : List UInt32 := v.set a (at_ v a + (at_ v b + x))
def rotAt (n : Nat) (v : List UInt32) (d a : Nat) : List UInt32 := v.set d (rotr n (at_ v d ^^^ at_ v a))
def addAt (v : List UInt32) (c d : Nat) : List UInt32 := v.set c (at_ v c + at_ v d)
def mixHalf (n m : Nat) (v : List UInt32) (a b c d : Nat) (x : UInt32) : List UInt32 :=
  rotAt m (addAt (rotAt n (sumAt v a b x) d a) c d) b c
def mixed (v : List UInt32) (a b c d : Nat) (x y : UInt32) : List UInt32 := mixHalf 8 7 (mixHalf 16 12 v a b c d x) a b c d y
theorem sumAt_len (v : List UInt32) (a b : Nat) (x : UInt32) : (sumAt v a b x).length = v.length := by simp [sumAt]
theorem rotAt_len (n : Nat) (v : List UInt32) (d a : Nat) : (rotAt n v d a).length = v.length := by simp [rotAt]
theorem addAt_len (v : List UInt32) (c d : Nat) : (addAt v c d).length = v.length := by simp [addAt]
theorem mixed_len (v : List UInt32) (a b c d : Nat) (x y : UInt32) : (mixed v a b c d x y).length = v.length := by simp [mixed, mixHalf, sumAt_len, rotAt_len, addAt_len]

end Go.Proofs.YtmdokldbggingaaDoor
