/-
  The notation of texts by plain functions. Nothing of the program.
-/
namespace Go.Proofs.YteaaadccjnmacaaGreatDoor

def hexD (n : Nat) : UInt8 := if n < 10 then UInt8.ofNat (48 + n) else UInt8.ofNat (87 + n)
def plainB (c : UInt8) : Bool := decide (32 ≤ c.toNat ∧ c.toNat ≤ 126 ∧ c.toNat ≠ 34 ∧ c.toNat ≠ 92)
def qB (c : UInt8) : List UInt8 := if plainB c = true then [c] else [92, 120, hexD (c.toNat / 16), hexD (c.toNat % 16)]
def qBs (l : List UInt8) : List UInt8 := l.flatMap qB
/-- the notation of a text -/
def quoteL (l : List UInt8) : List UInt8 := [34] ++ qBs l ++ [34]
theorem qB_len (c : UInt8) : (qB c).length ≤ 4 := by unfold qB; split <;> simp
theorem qBs_len (l : List UInt8) : (qBs l).length ≤ 4 * l.length := by
  induction l with
  | nil => simp [qBs]
  | cons c l ih =>
    have := qB_len c
    simp only [qBs, List.flatMap_cons, List.length_append, List.length_cons] at ih ⊢
    omega
theorem qBs_snoc (l : List UInt8) (c : UInt8) : qBs (l ++ [c]) = qBs l ++ qB c := by simp [qBs]
end Go.Proofs.YteaaadccjnmacaaGreatDoor
