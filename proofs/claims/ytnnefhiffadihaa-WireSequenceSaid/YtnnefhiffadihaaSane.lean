/-
  sanity: the fixed examples, call by call.
-/
import Derived.Test.YtnnefhiffadihaaRefS
namespace Go.Proofs.Ytnnefhiffadihaa
open Go.RowKit
open Go.Lib (uvarint zigzag)

theorem shows_lit (w : World) (cs : Array Value) (bs : List UInt8) (h : cs = (cb bs).toArray) : Shows (w.alloc (.cells cs 5)) (w.alloc (.cells cs 5)).heap.size (some ⟨w.heap.size, 0, none⟩) bs := fun _ =>
  ⟨w.heap.size, 0, rfl, by simp, fun i c hi => by
    subst h
    have : (w.alloc (.cells (cb bs).toArray 5)).cell? ⟨w.heap.size, i, none⟩ = (cb bs).toArray[i]? := cell_of_row _ _ _ _ _ (0, 0) (heap_alloc_new w _)
    rw [Nat.zero_add, this]
    simp [cb, hi]⟩

/-- One more call in a chain: what was there at the chain's beginning is as it was. -/
theorem below_step {B : Nat} {w W w1 : World} {o : Obj} (h : Below B w W ∧ B ≤ W.heap.size) (h1 : Below (W.alloc o).heap.size (W.alloc o) w1) : Below B w w1 ∧ B ≤ w1.heap.size :=
  ⟨(h.1.alloc h.2 o).trans (h1.mono (by simp; omega)), by have := h1.size; simp at this; omega⟩
theorem below_step0 {B : Nat} {w W w1 : World} (h : Below B w W ∧ B ≤ W.heap.size) (h1 : Below W.heap.size W w1) : Below B w w1 ∧ B ≤ w1.heap.size :=
  ⟨h.1.trans (h1.mono h.2), by have := h1.size; omega⟩

theorem ReadU_is (A : Option Addr) (k cap : Nat) (l : List UInt8) (a x y z : Int) (w : World) (hk : k = l.length) (hs : Shows w w.heap.size A l) (hl : l.length ≤ 9223372036854775807)
    (h1 : ((Num.readU l a).1 : Int) = x) (h2 : ((Num.readU l a).2.1 : Int) = y) (h3 : ((Num.readU l a).2.2 : Int) = z) :
    Calls Try.prog 21 #[.slice A k cap, .int .i64 a] w fun e w' => e = .returned (.tuple #[.int .u64 x, .int .i64 y, .int .i64 z]) ∧ Below w.heap.size w w' := by
  subst hk h1 h2 h3
  exact (ReadU_any A cap l a w hs hl).mono fun e w' ⟨he, hw⟩ => ⟨he, hw ▸ Below.refl _ _⟩
theorem ReadS_is (A : Option Addr) (k cap : Nat) (l : List UInt8) (a x y z : Int) (w : World) (hk : k = l.length) (hs : Shows w w.heap.size A l) (hl : l.length ≤ 9223372036854775807)
    (h1 : Num.zag (Num.readU l a).1 = x) (h2 : ((Num.readU l a).2.1 : Int) = y) (h3 : ((Num.readU l a).2.2 : Int) = z) :
    Calls Try.prog 23 #[.slice A k cap, .int .i64 a] w fun e w' => e = .returned (.tuple #[.int .i64 x, .int .i64 y, .int .i64 z]) ∧ Below w.heap.size w w' := by
  subst hk h1 h2 h3
  exact (ReadS_any A cap l a w hs hl).mono fun e w' ⟨he, hw⟩ => ⟨he, hw ▸ Below.refl _ _⟩
theorem ReadBytes_is (A : Option Addr) (k cap : Nat) (l : List UInt8) (a y z : Int) (w : World) (hk : k = l.length) (hs : Shows w w.heap.size A l) (hc : l.length ≤ cap) (hl : cap ≤ 9223372036854775807)
    (h2 : ((Num.span l a).2.1 : Int) = y) (h3 : ((Num.span l a).2.2 : Int) = z) :
    Calls Try.prog 27 #[.slice A k cap, .int .i64 a] w fun e w' => ∃ B c, e = .returned (.tuple #[.slice B (Num.taken l a).length c, .int .i64 y, .int .i64 z]) ∧ Owns w' w.heap.size (.slice B (Num.taken l a).length c) (Num.taken l a) ∧ Below w.heap.size w w' := by
  subst hk h2 h3
  refine (ReadBytes_any A cap l a w hs hc hl).mono fun e w' ⟨v, he, ho, hb⟩ => ?_
  obtain ⟨B, c, rfl⟩ := ho.slice
  exact ⟨B, c, he, ho, hb⟩
theorem ReadText_is (A : Option Addr) (k cap : Nat) (l : List UInt8) (a y z : Int) (s : ByteArray) (w : World) (hk : k = l.length) (hs : Shows w w.heap.size A l) (hc : l.length ≤ cap) (hl : cap ≤ 9223372036854775807)
    (h1 : (⟨(Num.taken l a).toArray⟩ : ByteArray) = s) (h2 : ((Num.span l a).2.1 : Int) = y) (h3 : ((Num.span l a).2.2 : Int) = z) :
    Calls Try.prog 25 #[.slice A k cap, .int .i64 a] w fun e w' => e = .returned (.tuple #[.string s, .int .i64 y, .int .i64 z]) ∧ Below w.heap.size w w' := by
  subst hk h1 h2 h3
  exact (ReadText_any A cap l a w hs hc hl).mono fun e w' ⟨he, hw⟩ => ⟨he, hw ▸ Below.refl _ _⟩

theorem Shows.alloc {w : World} {A : Option Addr} {l : List UInt8} (h : Shows w w.heap.size A l) (o : Obj) : Shows (w.alloc o) (w.alloc o).heap.size A l :=
  (h.below ((Below.refl _ _).alloc (Nat.le_refl _) o)).more (by simp)

theorem U_is (A : Option Addr) (k cap : Nat) (l : List UInt8) (x : Int) (n : Nat) (r : List UInt8) (m : Nat) (w : World) (hk : k = l.length) (hs : Shows w w.heap.size A l) (hl : l.length ≤ 140737488355328) (hn : Num.U64 n) (hx : x = n) (hr : l ++ uvarint n = r) (hm : m = r.length) :
    Calls Try.prog 13 #[.slice A k cap, .int .u64 x] w fun e w' => ∃ A' c', e = .returned (.slice A' m c') ∧ Owns w' w.heap.size (.slice A' m c') r ∧ Shows w' w'.heap.size A' r ∧ Below w.heap.size w w' := by
  subst hk hx hr hm
  exact (U_any A cap l n w hs hl hn).mono fun e w' ⟨g, c, he, h, hb⟩ => ⟨_, c, he, h.owns, h.shows.2, hb⟩
theorem S_is (A : Option Addr) (k cap : Nat) (l : List UInt8) (n : Int) (r : List UInt8) (m : Nat) (w : World) (hk : k = l.length) (hs : Shows w w.heap.size A l) (hl : l.length ≤ 140737488355328) (h0 : -9223372036854775808 ≤ n) (h1 : n ≤ 9223372036854775807) (hr : l ++ uvarint (zigzag n) = r) (hm : m = r.length) :
    Calls Try.prog 15 #[.slice A k cap, .int .i64 n] w fun e w' => ∃ A' c', e = .returned (.slice A' m c') ∧ Owns w' w.heap.size (.slice A' m c') r ∧ Shows w' w'.heap.size A' r ∧ Below w.heap.size w w' := by
  subst hk hr hm
  exact (S_any A cap l n w hs hl h0 h1).mono fun e w' ⟨g, c, he, h, hb⟩ => ⟨_, c, he, h.owns, h.shows.2, hb⟩
theorem Text_is (A : Option Addr) (k cap : Nat) (l : List UInt8) (s : ByteArray) (r : List UInt8) (m : Nat) (w : World) (hk : k = l.length) (hs : Shows w w.heap.size A l) (hl : l.length + s.size ≤ 281474976710646) (hr : l ++ counted s.data.toList = r) (hm : m = r.length) :
    Calls Try.prog 17 #[.slice A k cap, .string s] w fun e w' => ∃ A' c', e = .returned (.slice A' m c') ∧ Owns w' w.heap.size (.slice A' m c') r ∧ Shows w' w'.heap.size A' r ∧ Below w.heap.size w w' := by
  subst hk hr hm
  exact (Text_any A cap l s w hs hl).mono fun e w' ⟨g, c, he, h, hb⟩ => ⟨_, c, he, h.owns, h.shows.2, hb⟩
theorem Bytes_is (A : Option Addr) (k cap : Nat) (l : List UInt8) (C : Option Addr) (j d : Nat) (p : List UInt8) (r : List UInt8) (m : Nat) (w : World) (hk : k = l.length) (hs : Shows w w.heap.size A l) (hj : j = p.length) (hp : Shows w w.heap.size C p) (hl : l.length + p.length ≤ 281474976710646) (hr : l ++ counted p = r) (hm : m = r.length) :
    Calls Try.prog 19 #[.slice A k cap, .slice C j d] w fun e w' => ∃ A' c', e = .returned (.slice A' m c') ∧ Owns w' w.heap.size (.slice A' m c') r ∧ Shows w' w'.heap.size A' r ∧ Below w.heap.size w w' := by
  subst hk hr hm hj
  exact (Bytes_any A cap l C d p w hs hp hl).mono fun e w' ⟨g, c, he, h, hb⟩ => ⟨_, c, he, h.owns, h.shows.2, hb⟩
/-- Same, the two lists being one. -/
theorem Same_yes (A : Option Addr) (n cap : Nat) (C : Option Addr) (m d : Nat) (l p : List UInt8) (w : World) (hs : Shows w w.heap.size A l) (hp : Shows w w.heap.size C p) (h : l = p) (h1 : n = l.length) (h2 : m = p.length) (hn : n ≤ 9223372036854775807) :
    Calls Try.prog 12 #[.slice A n cap, .slice C m d] w fun e w' => e = .returned (.bool true) ∧ Below w.heap.size w w' := by
  subst h
  refine (Same_any A n cap l C m d l w hs hp h1 h2 hn (by omega)).mono fun e w' ⟨he, hb⟩ => ⟨?_, hb⟩
  rw [he]
  simp

theorem enc300 : uvarint 300 = [172, 2] := by rw [Lib.uvarint_big (by decide), Lib.uvarint_small (by decide)]; rfl
theorem enc1 : uvarint 1 = [1] := by rw [Lib.uvarint_small (by decide)]; rfl
theorem enc128 : uvarint 128 = [128, 1] := by rw [Lib.uvarint_big (by decide), Lib.uvarint_small (by decide)]; rfl
theorem encS1 : [] ++ uvarint (zigzag (-1)) = [1] := by
  have h : zigzag (-1) = 1 := by decide
  rw [h, enc1]
  rfl
theorem encS64 : [] ++ uvarint (zigzag 64) = [128, 1] := by
  have h : zigzag 64 = 128 := by decide
  rw [h, enc128]
  rfl
theorem enc2 : uvarint 2 = [2] := by rw [Lib.uvarint_small (by decide)]; rfl
theorem enc0 : uvarint 0 = [0] := by rw [Lib.uvarint_small (by decide)]; rfl
theorem encT : [] ++ counted (⟨#[97, 98]⟩ : ByteArray).data.toList = [2, 97, 98] := by
  unfold counted
  show [] ++ (uvarint 2 ++ _) = _
  rw [enc2]
  rfl
theorem encB : [5] ++ counted [] = [5, 0] := by
  unfold counted
  show [5] ++ (uvarint 0 ++ _) = _
  rw [enc0]
  rfl

set_option maxRecDepth 100000 in
set_option maxHeartbeats 4000000 in
theorem sanity_any (w : World) : Calls Try.prog 11 #[] w fun e w' => e = .returned (.bool true) ∧ Below w.heap.size w w' := by
  have b0 : Below w.heap.size w w ∧ w.heap.size ≤ w.heap.size := ⟨Below.refl _ _, Nat.le_refl _⟩
  go_enter Try.func11, Try.ntmps11
  go_wp2_with fail
  refine (ReadU_is _ 4 4 [7, 172, 2, 9] 1 300 3 0 _ rfl (shows_lit _ _ _ rfl) (by decide) rfl rfl rfl).mono ?_
  rintro e w1 ⟨rfl, hb⟩
  have b1 := Lib.hid (below_step b0 hb)
  clear hb b0
  go_wp2_with fail
  refine (ReadU_is _ 2 2 [128, 0] 0 0 0 5 _ rfl (shows_lit _ _ _ rfl) (by decide) rfl rfl rfl).mono ?_
  rintro e w2 ⟨rfl, hb⟩
  have b2 := Lib.hid (below_step b1.out hb)
  clear hb b1
  go_wp2_with fail
  refine (ReadU_is _ 1 1 [128] 0 0 0 6 _ rfl (shows_lit _ _ _ rfl) (by decide) rfl rfl rfl).mono ?_
  rintro e w3 ⟨rfl, hb⟩
  have b3 := Lib.hid (below_step b2.out hb)
  clear hb b2
  go_wp2_with fail
  refine (ReadU_is _ 1 1 [1] 2 0 0 1 _ rfl (shows_lit _ _ _ rfl) (by decide) rfl rfl rfl).mono ?_
  rintro e w4 ⟨rfl, hb⟩
  have b4 := Lib.hid (below_step b3.out hb)
  clear hb b3
  go_wp2_with fail
  refine (ReadBytes_is _ 3 3 [129, 128, 64] 0 0 2 _ rfl (shows_lit _ _ _ rfl) (by decide) (by decide) rfl rfl).mono ?_
  rintro e w5 ⟨A5, c5, rfl, _, hb⟩
  have b5 := Lib.hid (below_step b4.out hb)
  clear hb b4
  go_wp2_with fail
  refine (ReadText_is _ 3 3 [2, 97, 98] 0 3 0 ⟨#[97, 98]⟩ _ rfl (shows_lit _ _ _ rfl) (by decide) (by decide) rfl rfl rfl).mono ?_
  rintro e w6 ⟨rfl, hb⟩
  have b6 := Lib.hid (below_step b5.out hb)
  clear hb b5
  go_wp2_with fail
  refine (ReadText_is _ 2 2 [2, 97] 0 0 6 ⟨#[]⟩ _ rfl (shows_lit _ _ _ rfl) (by decide) (by decide) rfl rfl rfl).mono ?_
  rintro e w7 ⟨rfl, hb⟩
  have b7 := Lib.hid (below_step b6.out hb)
  clear hb b6
  go_wp2_with fail
  refine (ReadU_is _ 10 10 [255, 255, 255, 255, 255, 255, 255, 255, 255, 1] 0 18446744073709551615 10 0 _ rfl (shows_lit _ _ _ rfl) (by decide) (by decide +kernel) rfl rfl).mono ?_
  rintro e w8 ⟨rfl, hb⟩
  have b8 := Lib.hid (below_step b7.out hb)
  clear hb b7
  go_wp2_with fail
  refine (ReadU_is _ 10 10 [255, 255, 255, 255, 255, 255, 255, 255, 255, 2] 0 0 0 5 _ rfl (shows_lit _ _ _ rfl) (by decide) rfl rfl rfl).mono ?_
  rintro e w9 ⟨rfl, hb⟩
  have b9 := Lib.hid (below_step b8.out hb)
  clear hb b8
  go_wp2_with fail
  refine (ReadS_is _ 10 10 [255, 255, 255, 255, 255, 255, 255, 255, 255, 1] 0 (-9223372036854775808) 10 0 _ rfl (shows_lit _ _ _ rfl) (by decide) (by decide +kernel) rfl rfl).mono ?_
  rintro e w10 ⟨rfl, hb⟩
  have b10 := Lib.hid (below_step b9.out hb)
  clear hb b9
  go_wp2_with fail
  refine (U_is none 0 0 [] 300 300 [172, 2] 2 _ rfl Shows.nil (by decide) (show (300 : Nat) < 18446744073709551616 by decide) rfl enc300 rfl).mono ?_
  rintro e w11 ⟨A11, c11, rfl, _, hsh, hb⟩
  have b11 := Lib.hid (below_step0 b10.out hb)
  clear hb b10
  go_wp2_with fail
  refine (Same_yes A11 2 c11 _ 2 2 [172, 2] [172, 2] _ (hsh.alloc _) (shows_lit _ _ _ rfl) rfl rfl rfl (by decide)).mono ?_
  rintro e w12 ⟨rfl, hb⟩
  have b12 := Lib.hid (below_step b11.out hb)
  clear hb hsh b11
  go_wp2_with fail
  refine (S_is none 0 0 [] (-1) [1] 1 _ rfl Shows.nil (by decide) (by decide) (by decide) encS1 rfl).mono ?_
  rintro e w13 ⟨A13, c13, rfl, _, hsh, hb⟩
  have b13 := Lib.hid (below_step0 b12.out hb)
  clear hb b12
  go_wp2_with fail
  refine (Same_yes A13 1 c13 _ 1 1 [1] [1] _ (hsh.alloc _) (shows_lit _ _ _ rfl) rfl rfl rfl (by decide)).mono ?_
  rintro e w14 ⟨rfl, hb⟩
  have b14 := Lib.hid (below_step b13.out hb)
  clear hb hsh b13
  go_wp2_with fail
  refine (S_is none 0 0 [] 64 [128, 1] 2 _ rfl Shows.nil (by decide) (by decide) (by decide) encS64 rfl).mono ?_
  rintro e w15 ⟨A15, c15, rfl, _, hsh, hb⟩
  have b15 := Lib.hid (below_step0 b14.out hb)
  clear hb b14
  go_wp2_with fail
  refine (Same_yes A15 2 c15 _ 2 2 [128, 1] [128, 1] _ (hsh.alloc _) (shows_lit _ _ _ rfl) rfl rfl rfl (by decide)).mono ?_
  rintro e w16 ⟨rfl, hb⟩
  have b16 := Lib.hid (below_step b15.out hb)
  clear hb hsh b15
  go_wp2_with fail
  refine (Text_is none 0 0 [] _ [2, 97, 98] 3 _ rfl Shows.nil (by decide) encT rfl).mono ?_
  rintro e w17 ⟨A17, c17, rfl, _, hsh, hb⟩
  have b17 := Lib.hid (below_step0 b16.out hb)
  clear hb b16
  go_wp2_with fail
  refine (Same_yes A17 3 c17 _ 3 3 [2, 97, 98] [2, 97, 98] _ (hsh.alloc _) (shows_lit _ _ _ rfl) rfl rfl rfl (by decide)).mono ?_
  rintro e w18 ⟨rfl, hb⟩
  have b18 := Lib.hid (below_step b17.out hb)
  clear hb hsh b17
  go_wp2_with fail
  refine (Bytes_is _ 1 1 [5] none 0 0 [] [5, 0] 2 _ rfl (shows_lit _ _ _ rfl) rfl Shows.nil (by decide) encB rfl).mono ?_
  rintro e w19 ⟨A19, c19, rfl, _, hsh, hb⟩
  have b19 := Lib.hid (below_step b18.out hb)
  clear hb b18
  go_wp2_with fail
  refine (Same_yes A19 2 c19 _ 2 2 [5, 0] [5, 0] _ (hsh.alloc _) (shows_lit _ _ _ rfl) rfl rfl rfl (by decide)).mono ?_
  rintro e w20 ⟨rfl, hb⟩
  have b20 := Lib.hid (below_step b19.out hb)
  clear hb hsh b19
  go_wp2_with fail
  go_ret
  exact ⟨rfl, b20.out.1⟩

end Go.Proofs.Ytnnefhiffadihaa
