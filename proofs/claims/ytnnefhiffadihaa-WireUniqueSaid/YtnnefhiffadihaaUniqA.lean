/-
  P1.3: what ReadU, ReadS and ReadBytes accept is just what is written for the value behind the bytes before the offset. For every input that the row lets in; no further condition.
-/
import Derived.Test.YtnnefhiffadihaaOpen
import Derived.Deep.RegionHeld3
namespace Go.Proofs.Ytnnefhiffadihaa.wireUnique
open Go.RowKit Go.ChangeShapes Go.WideShapes Go.ChangeAt
open Go.Lib (uvarint zigzag)

set_option maxRecDepth 100000 in
set_option maxHeartbeats 4000000 in
theorem walk_ok (A : Option Addr) (cap : Nat) (l : List UInt8) (a n k : Nat) (w : World) (hs : Shows w w.heap.size A l) (hc : l.length ≤ cap) (hcap : cap ≤ 140737488351232) (hak : a < k) (hkl : k ≤ l.length)
    (hv : Hid (Num.readU l a = (n, k, 0))) (hu : Num.U64 n) (ht : Hid (l.take k = l.take a ++ uvarint n)) (z : Int) (hz : Hid (Num.zag n = z)) (hzz : Hid (zigzag z = n)) (hz0 : -9223372036854775808 ≤ z) (hz1 : z ≤ 9223372036854775807)
    (q m : Nat) (p : List UInt8) (hsp : Hid (Num.span l a = (k, q, 0))) (hp : Hid (Num.taken l a = p)) (hm : Hid (m = p.length)) (hq : Hid (l.take q = l.take a ++ counted p)) (haq : a < q) (hql : q ≤ l.length) (hmq : m ≤ 1048576) :
    Calls Try.prog 6 #[.slice A l.length cap, .int .i64 a] w fun e w' => e = .returned (.bool true) ∧ Below w.heap.size w w' := by
  have b0 : Below w.heap.size w w ∧ w.heap.size ≤ w.heap.size := ⟨Below.refl _ _, Nat.le_refl _⟩
  go_enter Try.func6, Try.ntmps6
  go_wp2_with fail
  refine (sanity_any _).mono ?_
  rintro e w1 ⟨rfl, hb1⟩
  have b1 := Lib.hid (below_step0 b0 hb1)
  clear hb1 b0
  go_wp2_with fail
  refine (ReadU_is A _ cap l a n k 0 _ rfl ((hs.below b1.out.1).more b1.out.2) (by omega) (by rw [hv.out]) (by rw [hv.out]) (by rw [hv.out]; rfl)).mono ?_
  rintro e w2 ⟨rfl, hb2⟩
  have b2 := Lib.hid (below_step0 b1.out hb2)
  clear hb2 b1
  have d1 : decide ((a : Int) < 0) = false := by simp
  have d2 : decide (l.length < a) = false := by simp; omega
  have i1 : (0 : Int) ≤ (a : Int) := by omega
  have i2 : (a : Int) ≤ (cap : Int) := by omega
  have d3k : decide (k < a) = false := by simp; omega
  have d4k : decide (l.length < k) = false := by simp; omega
  have i3k : (0 : Int) ≤ (k : Int) := by omega
  have i4k : (k : Int) ≤ (cap : Int) := by omega
  go_wp2_with fail
  go_region_held3 (fun _ => True) (trivial)
    (first
      | (go_at_call 13; refine (U_is A a cap (l.take a) n n (l.take k) k w2.drew (by simp; omega) (show Shows w2.drew w2.drew.heap.size A (l.take a) from ((hs.below b2.out.1).more b2.out.2).first) (by simp; omega) hu rfl ht.out.symm (by simp; omega)).mono ?_; rintro e w3 ⟨A3, c3, rfl, _, hs3, hb3⟩)
      | (go_at_call 12; refine (Same_yes A3 k c3 A k cap (l.take k) (l.take k) _ hs3 (((hs.below (b2.out.1.trans (Below.drew (Below.refl _ _)))).below (hb3.mono b2.out.2)).more (Nat.le_trans b2.out.2 hb3.size)).first rfl (by simp; omega) (by simp; omega) (by omega)).mono ?_; rintro e w4 ⟨rfl, hb4⟩))
  have b3 := Lib.hid (below_step0 b2.out ((Below.drew (Below.refl _ _)).trans hb3))
  have b4 := Lib.hid (below_step0 b3.out hb4)
  clear hb3 hb4 hs3 b3 b2
  go_wp2_with fail
  refine (ReadS_is A _ cap l a z k 0 _ rfl ((hs.below b4.out.1).more b4.out.2) (by omega) (by rw [hv.out]; exact hz.out) (by rw [hv.out]) (by rw [hv.out]; rfl)).mono ?_
  rintro e w5 ⟨rfl, hb5⟩
  have b5 := Lib.hid (below_step0 b4.out hb5)
  clear hb5 b4
  go_wp2_with fail
  go_region_held3 (fun _ => True) (trivial)
    (first
      | (go_at_call 15; refine (S_is A a cap (l.take a) z (l.take k) k w5.drew (by simp; omega) (show Shows w5.drew w5.drew.heap.size A (l.take a) from ((hs.below b5.out.1).more b5.out.2).first) (by simp; omega) hz0 hz1 (by rw [hzz.out]; exact ht.out.symm) (by simp; omega)).mono ?_; rintro e w6 ⟨A6, c6, rfl, _, hs6, hb6⟩)
      | (go_at_call 12; refine (Same_yes A6 k c6 A k cap (l.take k) (l.take k) _ hs6 (((hs.below (b5.out.1.trans (Below.drew (Below.refl _ _)))).below (hb6.mono b5.out.2)).more (Nat.le_trans b5.out.2 hb6.size)).first rfl (by simp; omega) (by simp; omega) (by omega)).mono ?_; rintro e w7 ⟨rfl, hb7⟩))
  have b6 := Lib.hid (below_step0 b5.out ((Below.drew (Below.refl _ _)).trans hb6))
  have b7 := Lib.hid (below_step0 b6.out hb7)
  clear hb6 hb7 hs6 b6 b5
  go_wp2_with fail
  refine (ReadBytes_at A _ cap l a q 0 p m _ rfl ((hs.below b7.out.1).more b7.out.2) hc (by omega) hp.out hm.out (by rw [hsp.out]) (by rw [hsp.out]; rfl)).mono ?_
  rintro e w8 ⟨B8, c8, rfl, _, hs8, _, hb8⟩
  have b8 := Lib.hid (below_step0 b7.out hb8)
  have hs8' := Lib.hid hs8
  clear hb8 b7 hs8
  have d3q : decide (q < a) = false := by simp; omega
  have d4q : decide (l.length < q) = false := by simp; omega
  have i3q : (0 : Int) ≤ (q : Int) := by omega
  have i4q : (q : Int) ≤ (cap : Int) := by omega
  go_wp2_with fail
  go_region_held3 (fun _ => True) (trivial)
    (first
      | (go_at_call 19; refine (Bytes_is A a cap (l.take a) B8 m c8 p (l.take q) q w8.drew (by simp; omega) (show Shows w8.drew w8.drew.heap.size A (l.take a) from ((hs.below b8.out.1).more b8.out.2).first) hm.out (show Shows w8.drew w8.drew.heap.size B8 p from hs8'.out) (by rw [← hm.out]; simp; omega) hq.out.symm (by simp; omega)).mono ?_; rintro e w9 ⟨A9, c9, rfl, _, hs9, hb9⟩)
      | (go_at_call 12; refine (Same_yes A9 q c9 A q cap (l.take q) (l.take q) _ hs9 (((hs.below (b8.out.1.trans (Below.drew (Below.refl _ _)))).below (hb9.mono b8.out.2)).more (Nat.le_trans b8.out.2 hb9.size)).first rfl (by simp; omega) (by simp; omega) (by omega)).mono ?_; rintro e w10 ⟨rfl, hb10⟩))
  have b9 := Lib.hid (below_step0 b8.out ((Below.drew (Below.refl _ _)).trans hb9))
  have b10 := Lib.hid (below_step0 b9.out hb10)
  clear hb9 hb10 hs9 b9 b8
  go_wp2_with fail
  go_ret
  exact ⟨rfl, b10.out.1⟩

set_option maxRecDepth 100000 in
set_option maxHeartbeats 4000000 in
theorem walk_half (A : Option Addr) (cap : Nat) (l : List UInt8) (a n k : Nat) (w : World) (hs : Shows w w.heap.size A l) (hc : l.length ≤ cap) (hcap : cap ≤ 140737488351232) (hak : a < k) (hkl : k ≤ l.length)
    (hv : Hid (Num.readU l a = (n, k, 0))) (hu : Num.U64 n) (ht : Hid (l.take k = l.take a ++ uvarint n)) (z : Int) (hz : Hid (Num.zag n = z)) (hzz : Hid (zigzag z = n)) (hz0 : -9223372036854775808 ≤ z) (hz1 : z ≤ 9223372036854775807)
    (er : Nat) (her : 0 < er) (hsp : Hid (Num.span l a = (0, 0, er))) :
    Calls Try.prog 6 #[.slice A l.length cap, .int .i64 a] w fun e w' => e = .returned (.bool true) ∧ Below w.heap.size w w' := by
  have b0 : Below w.heap.size w w ∧ w.heap.size ≤ w.heap.size := ⟨Below.refl _ _, Nat.le_refl _⟩
  go_enter Try.func6, Try.ntmps6
  go_wp2_with fail
  refine (sanity_any _).mono ?_
  rintro e w1 ⟨rfl, hb1⟩
  have b1 := Lib.hid (below_step0 b0 hb1)
  clear hb1 b0
  go_wp2_with fail
  refine (ReadU_is A _ cap l a n k 0 _ rfl ((hs.below b1.out.1).more b1.out.2) (by omega) (by rw [hv.out]) (by rw [hv.out]) (by rw [hv.out]; rfl)).mono ?_
  rintro e w2 ⟨rfl, hb2⟩
  have b2 := Lib.hid (below_step0 b1.out hb2)
  clear hb2 b1
  have d1 : decide ((a : Int) < 0) = false := by simp
  have d2 : decide (l.length < a) = false := by simp; omega
  have i1 : (0 : Int) ≤ (a : Int) := by omega
  have i2 : (a : Int) ≤ (cap : Int) := by omega
  have d3k : decide (k < a) = false := by simp; omega
  have d4k : decide (l.length < k) = false := by simp; omega
  have i3k : (0 : Int) ≤ (k : Int) := by omega
  have i4k : (k : Int) ≤ (cap : Int) := by omega
  go_wp2_with fail
  go_region_held3 (fun _ => True) (trivial)
    (first
      | (go_at_call 13; refine (U_is A a cap (l.take a) n n (l.take k) k w2.drew (by simp; omega) (show Shows w2.drew w2.drew.heap.size A (l.take a) from ((hs.below b2.out.1).more b2.out.2).first) (by simp; omega) hu rfl ht.out.symm (by simp; omega)).mono ?_; rintro e w3 ⟨A3, c3, rfl, _, hs3, hb3⟩)
      | (go_at_call 12; refine (Same_yes A3 k c3 A k cap (l.take k) (l.take k) _ hs3 (((hs.below (b2.out.1.trans (Below.drew (Below.refl _ _)))).below (hb3.mono b2.out.2)).more (Nat.le_trans b2.out.2 hb3.size)).first rfl (by simp; omega) (by simp; omega) (by omega)).mono ?_; rintro e w4 ⟨rfl, hb4⟩))
  have b3 := Lib.hid (below_step0 b2.out ((Below.drew (Below.refl _ _)).trans hb3))
  have b4 := Lib.hid (below_step0 b3.out hb4)
  clear hb3 hb4 hs3 b3 b2
  go_wp2_with fail
  refine (ReadS_is A _ cap l a z k 0 _ rfl ((hs.below b4.out.1).more b4.out.2) (by omega) (by rw [hv.out]; exact hz.out) (by rw [hv.out]) (by rw [hv.out]; rfl)).mono ?_
  rintro e w5 ⟨rfl, hb5⟩
  have b5 := Lib.hid (below_step0 b4.out hb5)
  clear hb5 b4
  go_wp2_with fail
  go_region_held3 (fun _ => True) (trivial)
    (first
      | (go_at_call 15; refine (S_is A a cap (l.take a) z (l.take k) k w5.drew (by simp; omega) (show Shows w5.drew w5.drew.heap.size A (l.take a) from ((hs.below b5.out.1).more b5.out.2).first) (by simp; omega) hz0 hz1 (by rw [hzz.out]; exact ht.out.symm) (by simp; omega)).mono ?_; rintro e w6 ⟨A6, c6, rfl, _, hs6, hb6⟩)
      | (go_at_call 12; refine (Same_yes A6 k c6 A k cap (l.take k) (l.take k) _ hs6 (((hs.below (b5.out.1.trans (Below.drew (Below.refl _ _)))).below (hb6.mono b5.out.2)).more (Nat.le_trans b5.out.2 hb6.size)).first rfl (by simp; omega) (by simp; omega) (by omega)).mono ?_; rintro e w7 ⟨rfl, hb7⟩))
  have b6 := Lib.hid (below_step0 b5.out ((Below.drew (Below.refl _ _)).trans hb6))
  have b7 := Lib.hid (below_step0 b6.out hb7)
  clear hb6 hb7 hs6 b6 b5
  go_wp2_with fail
  refine (ReadBytes_at A _ cap l a 0 er [] 0 _ rfl ((hs.below b7.out.1).more b7.out.2) hc (by omega) (Num.taken_err hsp.out) rfl (by rw [hsp.out]; rfl) (by rw [hsp.out])).mono ?_
  rintro e w8 ⟨B8, c8, rfl, _, hs8, _, hb8⟩
  have b8 := Lib.hid (below_step0 b7.out hb8)
  clear hb8 b7
  have e1 : ((er : Int) == 0) = false := by simp; omega
  have e2 : ((er : Int) != 0) = true := by simp; omega
  go_wp2_with fail
  go_quiet (fail)
  go_wp2_with fail
  go_ret
  exact ⟨rfl, below_drewN b8.out.1 _⟩


end Go.Proofs.Ytnnefhiffadihaa.wireUnique
