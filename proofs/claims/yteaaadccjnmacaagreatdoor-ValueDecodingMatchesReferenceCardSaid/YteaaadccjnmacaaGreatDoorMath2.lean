/-
  Plain facts: what was written behind any bytes and before any others is read back.
-/
import Derived.Test.YteaaadccjnmacaaGreatDoorWrite
namespace Go.Proofs.YteaaadccjnmacaaGreatDoor
open Go.Lib (uvarint zigzag)

theorem read_written (a r : List UInt8) {n : Nat} (hu : Num.U64 n) : Num.readU (a ++ uvarint n ++ r) (a.length : Nat) = (n, (a ++ uvarint n).length, 0) := by
  have hs := Num.scan_enc n 0 0 r (by simpa using hu.lt) (by omega) (by omega)
  have h : Num.scan 0 0 ((a ++ uvarint n ++ r).drop a.length) = (n, (uvarint n).length, 0) := by
    rw [List.append_assoc, List.drop_left]
    simpa using hs
  rw [Num.readU_ok (by simp) h, List.length_append]
theorem span_written (a r p : List UInt8) (hp : p.length ≤ 1048576) : Num.span (a ++ counted p ++ r) (a.length : Nat) = ((a ++ uvarint p.length).length, (a ++ counted p).length, 0) ∧ Num.taken (a ++ counted p ++ r) (a.length : Nat) = p := by
  have hu : Num.U64 p.length := show p.length < 18446744073709551616 by omega
  have e : a ++ counted p ++ r = a ++ uvarint p.length ++ (p ++ r) := by simp [counted, List.append_assoc]
  have hr := read_written a (p ++ r) hu
  have hs : Num.span (a ++ uvarint p.length ++ (p ++ r)) (a.length : Nat) = ((a ++ uvarint p.length).length, (a ++ uvarint p.length).length + p.length, 0) :=
    Num.span_ok hr (by omega) (by simp; omega)
  rw [e]
  refine ⟨?_, ?_⟩
  · rw [hs]
    simp [counted, List.length_append, Nat.add_assoc]
  · rw [Num.taken_ok hs, List.drop_left, List.take_left]
theorem bytes_eq (s : ByteArray) : (⟨s.data.toList.toArray⟩ : ByteArray) = s := by
  apply ByteArray.ext
  simp

end Go.Proofs.YteaaadccjnmacaaGreatDoor
