/-
  P1.2 and P1.5: what is written after any bytes and before any others is read back, and reading ends at the end of the encoding. Where the arguments together hold at most 1048576 values and letters ('UptoSaid').
-/
import Derived.Test.YtnnefhiffadihaaOpenV
import Derived.Test.YtnnefhiffadihaaMath2
import Derived.Outline
namespace Go.Proofs.Ytnnefhiffadihaa.wireRound
open Go.RowKit Go.ChangeShapes Go.WideShapes Go.ChangeAt
open Go.Lib (uvarint zigzag)

theorem Join_is (A : Option Addr) (k cap : Nat) (l : List UInt8) (C : Option Addr) (j d : Nat) (p r : List UInt8) (m : Nat) (w : World) (hk : k = l.length) (hs : Shows w w.heap.size A l) (hj : j = p.length) (hp : Shows w w.heap.size C p) (hl : l.length + p.length ≤ 140737488355328) (hr : l ++ p = r) (hm : m = r.length) :
    Calls Try.prog 29 #[.slice A k cap, .slice C j d] w fun e w' => ∃ A' c', e = .returned (.slice A' m c') ∧ Shows w' w'.heap.size A' r ∧ m ≤ c' ∧ c' ≤ 9223372036854775807 ∧ Below w.heap.size w w' := by
  subst hk hr hm hj
  exact (Join_any A cap l C d p w hs hp hl).mono fun e w' ⟨A', c, he, h, hb⟩ => ⟨A', c, he, h.shows.2.2, h.shows.2.1, h.cap_le, hb⟩

set_option maxRecDepth 100000 in
set_option maxHeartbeats 4000000 in
theorem walk (n : Nat) (z : Int) (s : ByteArray) (A : Option Addr) (cap : Nat) (l : List UInt8) (A1 : Option Addr) (cap1 : Nat) (l1 : List UInt8) (A2 : Option Addr) (cap2 : Nat) (l2 : List UInt8) (w : World) (u : Num.U64 n) (zl : -9223372036854775808 ≤ z) (zh : z ≤ 9223372036854775807) (hs : Shows w w.heap.size A l) (hlc : l.length ≤ cap) (hS : s.size ≤ 1048576) (hcap : cap ≤ 1048576)
    (hs1 : Shows w w.heap.size A1 l1) (hlc1 : l1.length ≤ cap1) (hcap1 : cap1 ≤ 1048576) (hs2 : Shows w w.heap.size A2 l2) (hlc2 : l2.length ≤ cap2) (hcap2 : cap2 ≤ 1048576) :
    Calls Try.prog 5 #[.agg #[.int .u64 n, .int .i64 z, .string s, .slice A l.length cap], .slice A1 l1.length cap1, .slice A2 l2.length cap2] w fun e w' => e = .returned (.bool true) ∧ Below w.heap.size w w' := by
  have hbox : Box (w.alloc (.cells #[.int .u64 n, .int .i64 z, .string s, .slice A l.length cap] 25)) w.heap.size n z s A l.length cap := by
    refine ⟨?_, ?_, ?_, ?_⟩ <;> exact cell_of_row _ _ _ _ _ (0, 0) (heap_alloc_new w _)
  have b0 : Below w.heap.size w w ∧ w.heap.size ≤ w.heap.size := ⟨Below.refl _ _, Nat.le_refl _⟩
  have uz := Num.zigzag_u64 z zl zh
  have lu := Lib.uvarint_length64 u.lt
  have luz := Lib.uvarint_length64 uz.lt
  have hsl := str_len s
  have us : Num.U64 s.data.toList.length := show s.data.toList.length < 18446744073709551616 by omega
  have ul : Num.U64 l.length := show l.length < 18446744073709551616 by omega
  have lcs := Lib.uvarint_length64 us.lt
  have lcl := Lib.uvarint_length64 ul.lt
  have R0 := Lib.hid (read_written l1 l2 u)
  have R1 := Lib.hid (read_written l1 l2 uz)
  have R2 := Lib.hid (span_written l1 l2 s.data.toList (by omega))
  have R3 := Lib.hid (span_written l1 l2 l (by omega))
  obtain ⟨m0, hm0⟩ : ∃ m, m = (l1 ++ uvarint n).length := ⟨_, rfl⟩
  obtain ⟨m1, hm1⟩ : ∃ m, m = (l1 ++ uvarint (zigzag z)).length := ⟨_, rfl⟩
  obtain ⟨m2, hm2⟩ : ∃ m, m = (l1 ++ counted s.data.toList).length := ⟨_, rfl⟩
  obtain ⟨m3, hm3⟩ : ∃ m, m = (l1 ++ counted l).length := ⟨_, rfl⟩
  obtain ⟨j0, hj0⟩ : ∃ m, m = (l1 ++ uvarint n ++ l2).length := ⟨_, rfl⟩
  obtain ⟨j1, hj1⟩ : ∃ m, m = (l1 ++ uvarint (zigzag z) ++ l2).length := ⟨_, rfl⟩
  obtain ⟨j2, hj2⟩ : ∃ m, m = (l1 ++ counted s.data.toList ++ l2).length := ⟨_, rfl⟩
  obtain ⟨j3, hj3⟩ : ∃ m, m = (l1 ++ counted l ++ l2).length := ⟨_, rfl⟩
  have J0 := Lib.hid hj0
  have J1 := Lib.hid hj1
  have J2 := Lib.hid hj2
  have J3 := Lib.hid hj3
  clear hj0 hj1 hj2 hj3
  have x0 : (l1 ++ uvarint n).length ≤ 1048586 := by simp; omega
  have x1 : (l1 ++ uvarint (zigzag z)).length ≤ 1048586 := by simp; omega
  have x2 : (l1 ++ counted s.data.toList).length ≤ 2097162 := by simp only [counted, List.length_append]; omega
  have x3 : (l1 ++ counted l).length ≤ 2097162 := by simp only [counted, List.length_append]; omega
  have H0 := Lib.hid hm0
  have H1 := Lib.hid hm1
  have H2 := Lib.hid hm2
  have H3 := Lib.hid hm3
  have X0 := Lib.hid x0
  have X1 := Lib.hid x1
  have X2 := Lib.hid x2
  have X3 := Lib.hid x3
  have hsb : (s.size : Int) ≤ 1048576 := by omega
  have hlb : (l.length : Int) ≤ 1048576 := by omega
  clear hm0 hm1 hm2 hm3 x0 x1 x2 x3 hsl us ul lcs lcl lu luz
  go_enter Try.func5, Try.ntmps5
  go_wp2_with fail
  refine (sanity_any _).mono ?_
  rintro e w1 ⟨rfl, hb1⟩
  have b1 := Lib.hid (below_step b0 hb1)
  have g1 := hbox.below hb1 (by simp)
  have lt1 : w.heap.size < w1.heap.size := by have := hb1.size; simp at this; omega
  clear b0 hbox hb1
  unfold Box at g1
  go_wp2_with fail
  refine (U_is A1 l1.length cap1 l1 n n (l1 ++ uvarint n) m0 _ rfl ((hs1.below b1.out.1).more b1.out.2) (by omega) u rfl rfl H0.out).mono ?_
  rintro e w2 ⟨B2, c2, rfl, _, hb_2, hb2⟩
  have b2 := Lib.hid (below_step0 b1.out hb2)
  have g2 := Box.below (n := n) (z := z) (s := s) (A := A) (m := l.length) (cap := cap) g1 hb2 lt1
  have lt2 : w.heap.size < w2.heap.size := Nat.lt_of_lt_of_le lt1 hb2.size
  clear hb2 b1 lt1 g1
  unfold Box at g2
  go_wp2_with fail
  refine (Join_is B2 m0 c2 (l1 ++ uvarint n) A2 l2.length cap2 l2 _ j0 _ H0.out hb_2 rfl ((hs2.below b2.out.1).more b2.out.2) (by have := X0.out; omega) rfl J0.out).mono ?_
  rintro e w3 ⟨B3, c3, rfl, hb_3, _, _, hb3⟩
  have b3 := Lib.hid (below_step0 b2.out hb3)
  have g3 := Box.below (n := n) (z := z) (s := s) (A := A) (m := l.length) (cap := cap) g2 hb3 lt2
  have lt3 : w.heap.size < w3.heap.size := Nat.lt_of_lt_of_le lt2 hb3.size
  clear hb3 b2 lt2 g2
  unfold Box at g3
  go_wp2_with fail
  refine (ReadU_is B3 j0 c3 (l1 ++ uvarint n ++ l2) l1.length n m0 0 _ J0.out hb_3 (by have := X0.out; rw [List.length_append]; omega) (by rw [R0.out]) (by rw [R0.out, ← H0.out]) (by rw [R0.out]; rfl)).mono ?_
  rintro e w4 ⟨rfl, hb4⟩
  have b4 := Lib.hid (below_step0 b3.out hb4)
  have g4 := Box.below (n := n) (z := z) (s := s) (A := A) (m := l.length) (cap := cap) g3 hb4 lt3
  have lt4 : w.heap.size < w4.heap.size := Nat.lt_of_lt_of_le lt3 hb4.size
  clear hb4 b3 lt3 g3
  unfold Box at g4
  go_wp2_with fail
  refine (S_is A1 l1.length cap1 l1 z (l1 ++ uvarint (zigzag z)) m1 _ rfl ((hs1.below b4.out.1).more b4.out.2) (by omega) zl zh rfl H1.out).mono ?_
  rintro e w5 ⟨B5, c5, rfl, _, hb_5, hb5⟩
  have b5 := Lib.hid (below_step0 b4.out hb5)
  have g5 := Box.below (n := n) (z := z) (s := s) (A := A) (m := l.length) (cap := cap) g4 hb5 lt4
  have lt5 : w.heap.size < w5.heap.size := Nat.lt_of_lt_of_le lt4 hb5.size
  clear hb5 b4 lt4 g4
  unfold Box at g5
  go_wp2_with fail
  refine (Join_is B5 m1 c5 (l1 ++ uvarint (zigzag z)) A2 l2.length cap2 l2 _ j1 _ H1.out hb_5 rfl ((hs2.below b5.out.1).more b5.out.2) (by have := X1.out; omega) rfl J1.out).mono ?_
  rintro e w6 ⟨B6, c6, rfl, hb_6, _, _, hb6⟩
  have b6 := Lib.hid (below_step0 b5.out hb6)
  have g6 := Box.below (n := n) (z := z) (s := s) (A := A) (m := l.length) (cap := cap) g5 hb6 lt5
  have lt6 : w.heap.size < w6.heap.size := Nat.lt_of_lt_of_le lt5 hb6.size
  clear hb6 b5 lt5 g5
  unfold Box at g6
  go_wp2_with fail
  refine (ReadS_is B6 j1 c6 (l1 ++ uvarint (zigzag z) ++ l2) l1.length z m1 0 _ J1.out hb_6 (by have := X1.out; rw [List.length_append]; omega) (by rw [R1.out]; exact Num.zag_zigzag z) (by rw [R1.out, ← H1.out]) (by rw [R1.out]; rfl)).mono ?_
  rintro e w7 ⟨rfl, hb7⟩
  have b7 := Lib.hid (below_step0 b6.out hb7)
  have g7 := Box.below (n := n) (z := z) (s := s) (A := A) (m := l.length) (cap := cap) g6 hb7 lt6
  have lt7 : w.heap.size < w7.heap.size := Nat.lt_of_lt_of_le lt6 hb7.size
  clear hb7 b6 lt6 g6
  unfold Box at g7
  go_wp2_with fail
  refine (Text_is A1 l1.length cap1 l1 s (l1 ++ counted s.data.toList) m2 _ rfl ((hs1.below b7.out.1).more b7.out.2) (by omega) rfl H2.out).mono ?_
  rintro e w8 ⟨B8, c8, rfl, _, hb_8, hb8⟩
  have b8 := Lib.hid (below_step0 b7.out hb8)
  have g8 := Box.below (n := n) (z := z) (s := s) (A := A) (m := l.length) (cap := cap) g7 hb8 lt7
  have lt8 : w.heap.size < w8.heap.size := Nat.lt_of_lt_of_le lt7 hb8.size
  clear hb8 b7 lt7 g7
  unfold Box at g8
  go_wp2_with fail
  refine (Join_is B8 m2 c8 (l1 ++ counted s.data.toList) A2 l2.length cap2 l2 _ j2 _ H2.out hb_8 rfl ((hs2.below b8.out.1).more b8.out.2) (by have := X2.out; omega) rfl J2.out).mono ?_
  rintro e w9 ⟨B9, c9, rfl, hb_9, hc9, hd9, hb9⟩
  have b9 := Lib.hid (below_step0 b8.out hb9)
  have g9 := Box.below (n := n) (z := z) (s := s) (A := A) (m := l.length) (cap := cap) g8 hb9 lt8
  have lt9 : w.heap.size < w9.heap.size := Nat.lt_of_lt_of_le lt8 hb9.size
  clear hb9 b8 lt8 g8
  unfold Box at g9
  go_wp2_with fail
  refine (ReadText_is B9 j2 c9 (l1 ++ counted s.data.toList ++ l2) l1.length m2 0 s _ J2.out hb_9 (by rw [← J2.out]; exact hc9) hd9 (by rw [R2.out.2]) (by rw [R2.out.1, ← H2.out]) (by rw [R2.out.1]; try rfl)).mono ?_
  rintro e w10 ⟨rfl, hb10⟩
  have b10 := Lib.hid (below_step0 b9.out hb10)
  have g10 := Box.below (n := n) (z := z) (s := s) (A := A) (m := l.length) (cap := cap) g9 hb10 lt9
  have lt10 : w.heap.size < w10.heap.size := Nat.lt_of_lt_of_le lt9 hb10.size
  clear hb10 b9 lt9 g9
  unfold Box at g10
  go_wp2_with fail
  refine (Bytes_is A1 l1.length cap1 l1 A l.length cap l (l1 ++ counted l) m3 _ rfl ((hs1.below b10.out.1).more b10.out.2) rfl ((hs.below b10.out.1).more b10.out.2) (by omega) rfl H3.out).mono ?_
  rintro e w11 ⟨B11, c11, rfl, _, hb_11, hb11⟩
  have b11 := Lib.hid (below_step0 b10.out hb11)
  have g11 := Box.below (n := n) (z := z) (s := s) (A := A) (m := l.length) (cap := cap) g10 hb11 lt10
  have lt11 : w.heap.size < w11.heap.size := Nat.lt_of_lt_of_le lt10 hb11.size
  clear hb11 b10 lt10 g10
  unfold Box at g11
  go_wp2_with fail
  refine (Join_is B11 m3 c11 (l1 ++ counted l) A2 l2.length cap2 l2 _ j3 _ H3.out hb_11 rfl ((hs2.below b11.out.1).more b11.out.2) (by have := X3.out; omega) rfl J3.out).mono ?_
  rintro e w12 ⟨B12, c12, rfl, hb_12, hc12, hd12, hb12⟩
  have b12 := Lib.hid (below_step0 b11.out hb12)
  have g12 := Box.below (n := n) (z := z) (s := s) (A := A) (m := l.length) (cap := cap) g11 hb12 lt11
  have lt12 : w.heap.size < w12.heap.size := Nat.lt_of_lt_of_le lt11 hb12.size
  clear hb12 b11 lt11 g11
  unfold Box at g12
  go_wp2_with fail
  refine (ReadBytes_at B12 j3 c12 (l1 ++ counted l ++ l2) l1.length m3 0 l l.length _ J3.out hb_12 (by rw [← J3.out]; exact hc12) hd12 R3.out.2 rfl (by rw [R3.out.1, ← H3.out]) (by rw [R3.out.1]; try rfl)).mono ?_
  rintro e w13 ⟨B13, c13, rfl, _, hb_13, _, hb13⟩
  have b13 := Lib.hid (below_step0 b12.out hb13)
  have g13 := Box.below (n := n) (z := z) (s := s) (A := A) (m := l.length) (cap := cap) g12 hb13 lt12
  have lt13 : w.heap.size < w13.heap.size := Nat.lt_of_lt_of_le lt12 hb13.size
  clear hb13 b12 lt12 g12
  unfold Box at g13
  go_wp2_with fail
  refine (Same_yes B13 l.length c13 A l.length cap l l _ hb_13 ((hs.below b13.out.1).more b13.out.2) rfl rfl rfl (by omega)).mono ?_
  rintro e w14 ⟨rfl, hb14⟩
  have b14 := Lib.hid (below_step0 b13.out hb14)
  clear hb14 b13 g13
  go_wp2_with fail
  go_ret
  exact ⟨rfl, b14.out.1⟩

set_option maxRecDepth 100000 in
theorem contract (H : Type) (enc : TypeId × Value → H) (W : World) (base : Nat) (args : Array Value) (ds gs : List (DataW H)) (before : List MemPlace)
    (hval : ∀ (j : Nat) t v, Try.f5.params[j]? = some t → args[j]? = some v → Value.okWide Try.prog W .any base t v)
    (hW : DataW.Whole enc Try.prog Try.f5.params.toList Rows.wireRoundTripSpec.vars false W args.toList ds gs before)
    (hk : Rows.uptoSmall H (ds ++ gs) = true) :
    Calls Try.prog 5 args W fun e W' => ∃ v, e = .returned v ∧ Rows.wireRoundTripSpec.post enc Try.prog Try.f5 false true false false W args v W' := by
  have hW' := hW
  obtain ⟨p, q, hA0, hV, rfl, _, _⟩ := hW
  have hA : DataW.TrodAll enc Try.prog W 0 (fun _ => true) true Try.f5.params.toList args.toList ds p := hA0
  rw [Try.params5] at hA hval
  obtain ⟨v0, vs0, d0, ds0, p0, q0, hargs, rfl, rfl, h0, r0⟩ := trodAll_cons hA
  obtain ⟨v1, vs1, d1, ds1, p1, q1, rfl, rfl, rfl, h1, r1⟩ := trodAll_cons r0
  obtain ⟨v2, vs2, d2, ds2, p2, q2, rfl, rfl, rfl, h2, r2⟩ := trodAll_cons r1
  obtain ⟨rfl, rfl, rfl⟩ := trodAll_nil r2
  obtain rfl : args = #[v0, v1, v2] := by cases args; simp_all
  obtain ⟨rfl, rfl⟩ := trodVars_none hV
  have k0 := h0
  have lt0 : ∀ x ∈ p0, x.block < W.heap.size := by obtain ⟨m, hm⟩ := k0; exact DataW.trod_lt m _ _ _ hm
  have B0 : Rows.uptoBulk d0 ≤ 1048576 := bulk_part (l := [d0, d1, d2] ++ []) (by simp) hk
  have k1 := h1
  have lt1 : ∀ x ∈ p1, x.block < W.heap.size := by obtain ⟨m, hm⟩ := k1; exact DataW.trod_lt m _ _ _ hm
  have B1 : Rows.uptoBulk d1 ≤ 1048576 := bulk_part (l := [d0, d1, d2] ++ []) (by simp) hk
  have k2 := h2
  have lt2 : ∀ x ∈ p2, x.block < W.heap.size := by obtain ⟨m, hm⟩ := k2; exact DataW.trod_lt m _ _ _ hm
  have B2 : Rows.uptoBulk d2 ≤ 1048576 := bulk_part (l := [d0, d1, d2] ++ []) (by simp) hk
  obtain ⟨n0, z0, s0, c0, cap0, l0, rfl, u0, zl0, zh0, hs0, hlc0, Y0⟩ := open_value (hval 0 25 v0 rfl rfl) h0
  have Z0 := Y0.2 B0
  obtain ⟨a1, len1, cap1, rfl⟩ := okWide_slice Try.underlying22 (hval 1 22 v1 rfl rfl)
  obtain ⟨fu1, hf1⟩ := h1
  obtain ⟨l1, rfl, hlc1, _, hs1, hcp1, hd1⟩ := open_bytes hf1
  have hc1 : cap1 ≤ 1048576 := by rw [hcp1]; exact Nat.le_trans (places_bulk d1) B1
  obtain ⟨a2, len2, cap2, rfl⟩ := okWide_slice Try.underlying22 (hval 2 22 v2 rfl rfl)
  obtain ⟨fu2, hf2⟩ := h2
  obtain ⟨l2, rfl, hlc2, _, hs2, hcp2, hd2⟩ := open_bytes hf2
  have hc2 : cap2 ≤ 1048576 := by rw [hcp2]; exact Nat.le_trans (places_bulk d2) B2
  refine (walk n0 z0 s0 c0 cap0 l0 a1 cap1 l1 a2 cap2 l2 W u0 zl0 zh0 hs0 hlc0 Z0.1 Z0.2 hs1 hlc1 hc1 hs2 hlc2 hc2).mono fun e W' ⟨he, bel⟩ => ?_
  subst he
  exact ⟨_, rfl, _, _, _, [], _, [], hW', trodAll_mk1 (shut_bool Try.underlying4 _), (trodAll_cons_mk (Below.trod laidOut (by kernel_rfl) (of_decide_eq_true (by kernel_rfl)) k0 bel lt0) (trodAll_cons_mk (Below.trod laidOut (by kernel_rfl) (of_decide_eq_true (by kernel_rfl)) k1 bel lt1) (trodAll_cons_mk (Below.trod laidOut (by kernel_rfl) (of_decide_eq_true (by kernel_rfl)) k2 bel lt2) trodAll_mk0))), rfl, bel.frame _, fun h => by cases h⟩

set_option maxRecDepth 100000 in
theorem lifted (os : Os) (started : os.Started) (H : Type) (enc : TypeId × Value → H) (F : Stop.Interp) :
    ReturnsInHanded {} Try.checked os 5 .any ((Rows.OpenSpec.upto Rows.wireRoundTripSpec).pre6 enc Try.prog Try.f5 Rows.wireRoundTripUptoRow.domain false) (((Rows.OpenSpec.upto Rows.wireRoundTripSpec).at F).post enc Try.prog Try.f5 false true false false) := by
  refine returnsInHanded_of_cond (C := Try.checked) (s := Rows.OpenSpec.upto Rows.wireRoundTripSpec) (k := Rows.uptoSmall) rfl own started (by kernel_rfl) Try.func5
    (OpenSpec.witness (enc := enc) (C := Try.checked) (s := Rows.OpenSpec.upto Rows.wireRoundTripSpec) (k := Rows.uptoSmall) rfl false ⟨#[], #[.agg #[.int .u64 0, .int .i64 0, .string ⟨#[]⟩, .slice none 0 0], .slice none 0 0, .slice none 0 0], []⟩ 8 (by kernel_rfl) (by kernel_rfl) (by kernel_rfl)
      (x := ([.agg [.lit (.int .u64 0), .lit (.int .i64 0), .lit (.string []), .nil], .nil, .nil], [], [])) (by kernel_rfl) rfl (by kernel_rfl)) ?_
  intro W base args ds gs before hval hW _ hk _
  exact contract H enc W base args ds gs before hval hW hk

/-- The statement. -/
theorem proved : Rows.WireRoundTripUptoSaid :=
  OpenClaim.holds_of_cond 5 Try.f5 rfl rfl rfl rfl rfl rfl rfl ⟨rfl, rfl, rfl, rfl, rfl⟩ rfl rfl rfl rfl rfl (by kernel_rfl) Try.func5 (by kernel_rfl)
    (of_decide_eq_true (by kernel_rfl)) (by unfold Func.isWrapper; rw [if_neg (of_decide_eq_false (by kernel_rfl))]; exact ⟨rfl, rfl⟩)
    (fun os started H enc _ F => lifted os started H enc F)

end Go.Proofs.Ytnnefhiffadihaa.wireRound
