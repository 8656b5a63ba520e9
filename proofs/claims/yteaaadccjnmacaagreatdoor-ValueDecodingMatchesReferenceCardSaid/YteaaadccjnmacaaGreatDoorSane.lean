/-
  sanity: the fixed examples, call by call.
-/
import Derived.Test.YteaaadccjnmacaaGreatDoorRefS
namespace Go.Proofs.YteaaadccjnmacaaGreatDoor
open Go.RowKit
open Go.Lib (uvarint zigzag)

theorem shows_lit (w : World) (cs : Array Value) (bs : List UInt8) (h : cs = (cb bs).toArray) : Shows (w.alloc (.cells cs 5)) (w.alloc (.cells cs 5)).heap.size (some ⟨w.heap.size, 0, none⟩) bs := fun _ =>
  ⟨w.heap.size, 0, rfl, by simp, fun i c hi => by
    subst h
    have : (w.alloc (.cells (cb bs).toArray 5)).cell? ⟨w.heap.size, i, none⟩ = (cb bs).toArray[i]? := cell_of_row _ _ _ _ _ (0, 0) (heap_alloc_new w _)
    rw [Nat.zero_add, this]
    simp [cb, hi]⟩

/-- One more call in a chain: what was there at the chain's beginning is as it was. -/
theorem below_step {B : Nat} {w W w1 : World} {o : Obj} (h : Below B w W ∧ B ≤ W.heap.size) (h1 : Below (W.alloc o).heap.size (W.alloc o) w1) : Below B w w1 ∧ B ≤ w1.heap.size :=
  ⟨(h.1.alloc h.2 o).trans (h1.mono (by simp; omega)), by have := h1.size; simp at this; omega⟩
theorem below_step0 {B : Nat} {w W w1 : World} (h : Below B w W ∧ B ≤ W.heap.size) (h1 : Below W.heap.size W w1) : Below B w w1 ∧ B ≤ w1.heap.size :=
  ⟨h.1.trans (h1.mono h.2), by have := h1.size; omega⟩

theorem ReadU_is (A : Option Addr) (k cap : Nat) (l : List UInt8) (a x y z : Int) (w : World) (hk : k = l.length) (hs : Shows w w.heap.size A l) (hl : l.length ≤ 9223372036854775807)
    (h1 : ((Num.readU l a).1 : Int) = x) (h2 : ((Num.readU l a).2.1 : Int) = y) (h3 : ((Num.readU l a).2.2 : Int) = z) :
    Calls Tryz.prog 76 #[.slice A k cap, .int .i64 a] w fun e w' => e = .returned (.tuple #[.int .u64 x, .int .i64 y, .int .i64 z]) ∧ Below w.heap.size w w' := by
  subst hk h1 h2 h3
  exact (ReadU_any A cap l a w hs hl).mono fun e w' ⟨he, hw⟩ => ⟨he, hw ▸ Below.refl _ _⟩
theorem ReadS_is (A : Option Addr) (k cap : Nat) (l : List UInt8) (a x y z : Int) (w : World) (hk : k = l.length) (hs : Shows w w.heap.size A l) (hl : l.length ≤ 9223372036854775807)
    (h1 : Num.zag (Num.readU l a).1 = x) (h2 : ((Num.readU l a).2.1 : Int) = y) (h3 : ((Num.readU l a).2.2 : Int) = z) :
    Calls Tryz.prog 55 #[.slice A k cap, .int .i64 a] w fun e w' => e = .returned (.tuple #[.int .i64 x, .int .i64 y, .int .i64 z]) ∧ Below w.heap.size w w' := by
  subst hk h1 h2 h3
  exact (ReadS_any A cap l a w hs hl).mono fun e w' ⟨he, hw⟩ => ⟨he, hw ▸ Below.refl _ _⟩
theorem ReadText_is (A : Option Addr) (k cap : Nat) (l : List UInt8) (a y z : Int) (s : ByteArray) (w : World) (hk : k = l.length) (hs : Shows w w.heap.size A l) (hc : l.length ≤ cap) (hl : cap ≤ 9223372036854775807)
    (h1 : (⟨(Num.taken l a).toArray⟩ : ByteArray) = s) (h2 : ((Num.span l a).2.1 : Int) = y) (h3 : ((Num.span l a).2.2 : Int) = z) :
    Calls Tryz.prog 54 #[.slice A k cap, .int .i64 a] w fun e w' => e = .returned (.tuple #[.string s, .int .i64 y, .int .i64 z]) ∧ Below w.heap.size w w' := by
  subst hk h1 h2 h3
  exact (ReadText_any A cap l a w hs hc hl).mono fun e w' ⟨he, hw⟩ => ⟨he, hw ▸ Below.refl _ _⟩

theorem Shows.alloc {w : World} {A : Option Addr} {l : List UInt8} (h : Shows w w.heap.size A l) (o : Obj) : Shows (w.alloc o) (w.alloc o).heap.size A l :=
  (h.below ((Below.refl _ _).alloc (Nat.le_refl _) o)).more (by simp)

theorem U_is (A : Option Addr) (k cap : Nat) (l : List UInt8) (x : Int) (n : Nat) (r : List UInt8) (m : Nat) (w : World) (hk : k = l.length) (hs : Shows w w.heap.size A l) (hl : l.length ≤ 140737488355328) (hn : Num.U64 n) (hx : x = n) (hr : l ++ uvarint n = r) (hm : m = r.length) :
    Calls Tryz.prog 66 #[.slice A k cap, .int .u64 x] w fun e w' => ∃ A' c', e = .returned (.slice A' m c') ∧ Owns w' w.heap.size (.slice A' m c') r ∧ Shows w' w'.heap.size A' r ∧ Below w.heap.size w w' := by
  subst hk hx hr hm
  exact (U_any A cap l n w hs hl hn).mono fun e w' ⟨g, c, he, h, hb⟩ => ⟨_, c, he, h.owns, h.shows.2, hb⟩
theorem S_is (A : Option Addr) (k cap : Nat) (l : List UInt8) (n : Int) (r : List UInt8) (m : Nat) (w : World) (hk : k = l.length) (hs : Shows w w.heap.size A l) (hl : l.length ≤ 140737488355328) (h0 : -9223372036854775808 ≤ n) (h1 : n ≤ 9223372036854775807) (hr : l ++ uvarint (zigzag n) = r) (hm : m = r.length) :
    Calls Tryz.prog 45 #[.slice A k cap, .int .i64 n] w fun e w' => ∃ A' c', e = .returned (.slice A' m c') ∧ Owns w' w.heap.size (.slice A' m c') r ∧ Shows w' w'.heap.size A' r ∧ Below w.heap.size w w' := by
  subst hk hr hm
  exact (S_any A cap l n w hs hl h0 h1).mono fun e w' ⟨g, c, he, h, hb⟩ => ⟨_, c, he, h.owns, h.shows.2, hb⟩
theorem Text_is (A : Option Addr) (k cap : Nat) (l : List UInt8) (s : ByteArray) (r : List UInt8) (m : Nat) (w : World) (hk : k = l.length) (hs : Shows w w.heap.size A l) (hl : l.length + s.size ≤ 281474976710646) (hr : l ++ counted s.data.toList = r) (hm : m = r.length) :
    Calls Tryz.prog 44 #[.slice A k cap, .string s] w fun e w' => ∃ A' c', e = .returned (.slice A' m c') ∧ Owns w' w.heap.size (.slice A' m c') r ∧ Shows w' w'.heap.size A' r ∧ Below w.heap.size w w' := by
  subst hk hr hm
  exact (Text_any A cap l s w hs hl).mono fun e w' ⟨g, c, he, h, hb⟩ => ⟨_, c, he, h.owns, h.shows.2, hb⟩
/-- Same, the two lists being one. -/
theorem Same_yes (A : Option Addr) (n cap : Nat) (C : Option Addr) (m d : Nat) (l p : List UInt8) (w : World) (hs : Shows w w.heap.size A l) (hp : Shows w w.heap.size C p) (h : l = p) (h1 : n = l.length) (h2 : m = p.length) (hn : n ≤ 9223372036854775807) :
    Calls Tryz.prog 8 #[.slice A n cap, .slice C m d] w fun e w' => e = .returned (.bool true) ∧ Below w.heap.size w w' := by
  subst h
  refine (Same_any A n cap l C m d l w hs hp h1 h2 hn (by omega)).mono fun e w' ⟨he, hb⟩ => ⟨?_, hb⟩
  rw [he]
  simp

theorem enc300 : uvarint 300 = [172, 2] := by rw [Lib.uvarint_big (by decide), Lib.uvarint_small (by decide)]; rfl
theorem enc1 : uvarint 1 = [1] := by rw [Lib.uvarint_small (by decide)]; rfl
theorem enc128 : uvarint 128 = [128, 1] := by rw [Lib.uvarint_big (by decide), Lib.uvarint_small (by decide)]; rfl
theorem encS1 : [] ++ uvarint (zigzag (-1)) = [1] := by
  have h : zigzag (-1) = 1 := by decide
  rw [h, enc1]
  rfl
theorem encS64 : [] ++ uvarint (zigzag 64) = [128, 1] := by
  have h : zigzag 64 = 128 := by decide
  rw [h, enc128]
  rfl
theorem enc2 : uvarint 2 = [2] := by rw [Lib.uvarint_small (by decide)]; rfl
theorem enc0 : uvarint 0 = [0] := by rw [Lib.uvarint_small (by decide)]; rfl
theorem encT : [] ++ counted (⟨#[97, 98]⟩ : ByteArray).data.toList = [2, 97, 98] := by
  unfold counted
  show [] ++ (uvarint 2 ++ _) = _
  rw [enc2]
  rfl
theorem encB : [5] ++ counted [] = [5, 0] := by
  unfold counted
  show [5] ++ (uvarint 0 ++ _) = _
  rw [enc0]
  rfl

end Go.Proofs.YteaaadccjnmacaaGreatDoor
