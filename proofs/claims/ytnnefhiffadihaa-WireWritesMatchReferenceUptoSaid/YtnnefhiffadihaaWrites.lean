/-
  P1.1, writing: U, S, Text and Bytes hand back the reference's bytes. Where the arguments together hold at most 1048576 values and letters ('UptoSaid').
-/
import Derived.Test.YtnnefhiffadihaaOpenV
import Derived.Deep.RegionHeld3
namespace Go.Proofs.Ytnnefhiffadihaa.wireWrites
open Go.RowKit Go.ChangeShapes Go.WideShapes Go.ChangeAt
open Go.Lib (uvarint zigzag)

theorem RU_is (A : Option Addr) (k cap : Nat) (l : List UInt8) (x : Int) (n : Nat) (r : List UInt8) (m : Nat) (w : World) (hk : k = l.length) (hs : Shows w w.heap.size A l) (hl : l.length + 10 ≤ 140737488355328) (hn : Num.U64 n) (hx : x = n) (hr : l ++ uvarint n = r) (hm : m = r.length) :
    Calls Try.prog 14 #[.slice A k cap, .int .u64 x] w fun e w' => ∃ A' c', e = .returned (.slice A' m c') ∧ Shows w' w'.heap.size A' r ∧ Below w.heap.size w w' := by
  subst hk hx hr hm
  exact (RU_any A cap l n w hs hl hn).mono fun e w' ⟨A', c, he, h, hb⟩ => ⟨A', c, he, h.shows.2.2, hb⟩
theorem RS_is (A : Option Addr) (k cap : Nat) (l : List UInt8) (n : Int) (r : List UInt8) (m : Nat) (w : World) (hk : k = l.length) (hs : Shows w w.heap.size A l) (hl : l.length + 10 ≤ 140737488355328) (h0 : -9223372036854775808 ≤ n) (h1 : n ≤ 9223372036854775807) (hr : l ++ uvarint (zigzag n) = r) (hm : m = r.length) :
    Calls Try.prog 16 #[.slice A k cap, .int .i64 n] w fun e w' => ∃ A' c', e = .returned (.slice A' m c') ∧ Shows w' w'.heap.size A' r ∧ Below w.heap.size w w' := by
  subst hk hr hm
  exact (RS_any A cap l n w hs hl h0 h1).mono fun e w' ⟨A', c, he, h, hb⟩ => ⟨A', c, he, h.shows.2.2, hb⟩
theorem RText_is (A : Option Addr) (k cap : Nat) (l : List UInt8) (s : ByteArray) (r : List UInt8) (m : Nat) (w : World) (hk : k = l.length) (hs : Shows w w.heap.size A l) (hl : l.length + 10 + s.size ≤ 140737488355328) (hr : l ++ counted s.data.toList = r) (hm : m = r.length) :
    Calls Try.prog 18 #[.slice A k cap, .string s] w fun e w' => ∃ A' c', e = .returned (.slice A' m c') ∧ Shows w' w'.heap.size A' r ∧ Below w.heap.size w w' := by
  subst hk hr hm
  exact (RText_any A cap l s w hs hl).mono fun e w' ⟨A', c, he, h, hb⟩ => ⟨A', c, he, h.shows.2.2, hb⟩
theorem RBytes_is (A : Option Addr) (k cap : Nat) (l : List UInt8) (C : Option Addr) (j d : Nat) (p : List UInt8) (r : List UInt8) (m : Nat) (w : World) (hk : k = l.length) (hs : Shows w w.heap.size A l) (hj : j = p.length) (hp : Shows w w.heap.size C p) (hl : l.length + 10 + p.length ≤ 140737488355328) (hr : l ++ counted p = r) (hm : m = r.length) :
    Calls Try.prog 20 #[.slice A k cap, .slice C j d] w fun e w' => ∃ A' c', e = .returned (.slice A' m c') ∧ Shows w' w'.heap.size A' r ∧ Below w.heap.size w w' := by
  subst hk hr hm hj
  exact (RBytes_any A cap l C d p w hs hp hl).mono fun e w' ⟨A', c, he, h, hb⟩ => ⟨A', c, he, h.shows.2.2, hb⟩

set_option maxRecDepth 100000 in
set_option maxHeartbeats 4000000 in
theorem walk (A1 : Option Addr) (cap1 : Nat) (l1 : List UInt8) (n : Nat) (z : Int) (s : ByteArray) (A : Option Addr) (cap : Nat) (l : List UInt8) (w : World) (hs1 : Shows w w.heap.size A1 l1) (hlc1 : l1.length ≤ cap1) (hcap1 : cap1 ≤ 1048576)
    (u : Num.U64 n) (zl : -9223372036854775808 ≤ z) (zh : z ≤ 9223372036854775807) (hs : Shows w w.heap.size A l) (hlc : l.length ≤ cap) (hS : s.size ≤ 1048576) (hcap : cap ≤ 1048576) :
    Calls Try.prog 3 #[.slice A1 l1.length cap1, .agg #[.int .u64 n, .int .i64 z, .string s, .slice A l.length cap]] w fun e w' => e = .returned (.bool true) ∧ Below w.heap.size w w' := by
  have hbox : Box (w.alloc (.cells #[.int .u64 n, .int .i64 z, .string s, .slice A l.length cap] 25)) w.heap.size n z s A l.length cap := by
    refine ⟨?_, ?_, ?_, ?_⟩ <;> exact cell_of_row _ _ _ _ _ (0, 0) (heap_alloc_new w _)
  have b0 : Below w.heap.size w w ∧ w.heap.size ≤ w.heap.size := ⟨Below.refl _ _, Nat.le_refl _⟩
  have uz := Num.zigzag_u64 z zl zh
  have lu := Lib.uvarint_length64 u.lt
  have luz := Lib.uvarint_length64 uz.lt
  have hsl := str_len s
  have us : Num.U64 s.data.toList.length := show s.data.toList.length < 18446744073709551616 by omega
  have ul : Num.U64 l.length := show l.length < 18446744073709551616 by omega
  have lcs := Lib.uvarint_length64 us.lt
  have lcl := Lib.uvarint_length64 ul.lt
  obtain ⟨m0, hm0⟩ : ∃ m, m = (l1 ++ uvarint n).length := ⟨_, rfl⟩
  obtain ⟨m1, hm1⟩ : ∃ m, m = (l1 ++ uvarint (zigzag z)).length := ⟨_, rfl⟩
  obtain ⟨m2, hm2⟩ : ∃ m, m = (l1 ++ counted s.data.toList).length := ⟨_, rfl⟩
  obtain ⟨m3, hm3⟩ : ∃ m, m = (l1 ++ counted l).length := ⟨_, rfl⟩
  have x0 : m0 ≤ 2097162 := by rw [hm0]; simp; omega
  have x1 : m1 ≤ 2097162 := by rw [hm1]; simp; omega
  have x2 : m2 ≤ 2097162 := by rw [hm2]; simp only [counted, List.length_append]; omega
  have x3 : m3 ≤ 2097162 := by rw [hm3]; simp only [counted, List.length_append]; omega
  have H0 := Lib.hid hm0
  have H1 := Lib.hid hm1
  have H2 := Lib.hid hm2
  have H3 := Lib.hid hm3
  have X0 := Lib.hid x0
  have X1 := Lib.hid x1
  have X2 := Lib.hid x2
  have X3 := Lib.hid x3
  clear hm0 hm1 hm2 hm3 x0 x1 x2 x3 hsl us ul lcs lcl lu luz
  have tok0 : True := trivial
  have tok1 : True := trivial
  have tok2 : True := trivial
  have tok3 : True := trivial
  go_enter Try.func3, Try.ntmps3
  go_wp2_with fail
  refine (sanity_any _).mono ?_
  rintro e w1 ⟨rfl, hb1⟩
  have b1 := Lib.hid (below_step b0 hb1)
  have g1 := hbox.below hb1 (by simp)
  have lt1 : w.heap.size < w1.heap.size := by have := hb1.size; simp at this; omega
  clear b0 hbox hb1
  unfold Box at g1
  go_wp2_with fail
  go_region_held3 (fun w' => w'.cell? ⟨w.heap.size, 0, none⟩ = some (.int .u64 n) ∧ w'.cell? ⟨w.heap.size, 1, none⟩ = some (.int .i64 z) ∧ w'.cell? ⟨w.heap.size, 2, none⟩ = some (.string s) ∧ w'.cell? ⟨w.heap.size, 3, none⟩ = some (.slice A l.length cap))
    (first | exact g1 | exact g2 | exact g3 | exact g4 | exact g5 | exact g6 | exact g7 | exact g8 | exact g9 | exact g10 | exact g11 | exact g12 | exact g13)
    (first
      | (go_at_call 13; refine (U_is A1 l1.length cap1 l1 n n (l1 ++ uvarint n) m0 w1.drew rfl (show Shows w1.drew w1.drew.heap.size A1 l1 from ((hs1.below b1.out.1).more b1.out.2)) (by omega) u rfl rfl H0.out).mono ?_; rintro e w2 ⟨B2, c2, rfl, _, hs_2, hb2⟩; have hk2 : Below w1.heap.size w1 w2 := ((Below.drew (Below.refl _ _)).trans hb2); have b2 := Lib.hid (below_step0 b1.out hk2); have g2 := Box.below (n := n) (z := z) (s := s) (A := A) (m := l.length) (cap := cap) g1 hk2 lt1; have lt2 : w.heap.size < w2.heap.size := Nat.lt_of_lt_of_le lt1 hk2.size)
      | (go_at_call 14; refine (RU_is A1 l1.length cap1 l1 n n (l1 ++ uvarint n) m0 w2 rfl ((hs1.below b2.out.1).more b2.out.2) (by omega) u rfl rfl H0.out).mono ?_; rintro e w3 ⟨B3, c3, rfl, hs_3, hb3⟩; have hk3 : Below w2.heap.size w2 w3 := hb3; have b3 := Lib.hid (below_step0 b2.out hk3); have g3 := Box.below (n := n) (z := z) (s := s) (A := A) (m := l.length) (cap := cap) g2 hk3 lt2; have lt3 : w.heap.size < w3.heap.size := Nat.lt_of_lt_of_le lt2 hk3.size)
      | (go_at_call 12; have _t := tok0; refine (Same_yes B2 m0 c2 B3 m0 c3 (l1 ++ uvarint n) (l1 ++ uvarint n) w3 (hs_2.up hk3) hs_3 rfl H0.out H0.out (by have := X0.out; omega)).mono ?_; rintro e w4 ⟨rfl, hb4⟩; have hk4 : Below w3.heap.size w3 w4 := hb4; have b4 := Lib.hid (below_step0 b3.out hk4); have g4 := Box.below (n := n) (z := z) (s := s) (A := A) (m := l.length) (cap := cap) g3 hk4 lt3; have lt4 : w.heap.size < w4.heap.size := Nat.lt_of_lt_of_le lt3 hk4.size; clear tok0)
      | (go_at_call 15; refine (S_is A1 l1.length cap1 l1 z (l1 ++ uvarint (zigzag z)) m1 w4 rfl ((hs1.below b4.out.1).more b4.out.2) (by omega) zl zh rfl H1.out).mono ?_; rintro e w5 ⟨B5, c5, rfl, _, hs_5, hb5⟩; have hk5 : Below w4.heap.size w4 w5 := hb5; have b5 := Lib.hid (below_step0 b4.out hk5); have g5 := Box.below (n := n) (z := z) (s := s) (A := A) (m := l.length) (cap := cap) g4 hk5 lt4; have lt5 : w.heap.size < w5.heap.size := Nat.lt_of_lt_of_le lt4 hk5.size)
      | (go_at_call 16; refine (RS_is A1 l1.length cap1 l1 z (l1 ++ uvarint (zigzag z)) m1 w5 rfl ((hs1.below b5.out.1).more b5.out.2) (by omega) zl zh rfl H1.out).mono ?_; rintro e w6 ⟨B6, c6, rfl, hs_6, hb6⟩; have hk6 : Below w5.heap.size w5 w6 := hb6; have b6 := Lib.hid (below_step0 b5.out hk6); have g6 := Box.below (n := n) (z := z) (s := s) (A := A) (m := l.length) (cap := cap) g5 hk6 lt5; have lt6 : w.heap.size < w6.heap.size := Nat.lt_of_lt_of_le lt5 hk6.size)
      | (go_at_call 12; have _t := tok1; refine (Same_yes B5 m1 c5 B6 m1 c6 (l1 ++ uvarint (zigzag z)) (l1 ++ uvarint (zigzag z)) w6 (hs_5.up hk6) hs_6 rfl H1.out H1.out (by have := X1.out; omega)).mono ?_; rintro e w7 ⟨rfl, hb7⟩; have hk7 : Below w6.heap.size w6 w7 := hb7; have b7 := Lib.hid (below_step0 b6.out hk7); have g7 := Box.below (n := n) (z := z) (s := s) (A := A) (m := l.length) (cap := cap) g6 hk7 lt6; have lt7 : w.heap.size < w7.heap.size := Nat.lt_of_lt_of_le lt6 hk7.size; clear tok1)
      | (go_at_call 17; refine (Text_is A1 l1.length cap1 l1 s (l1 ++ counted s.data.toList) m2 w7 rfl ((hs1.below b7.out.1).more b7.out.2) (by omega) rfl H2.out).mono ?_; rintro e w8 ⟨B8, c8, rfl, _, hs_8, hb8⟩; have hk8 : Below w7.heap.size w7 w8 := hb8; have b8 := Lib.hid (below_step0 b7.out hk8); have g8 := Box.below (n := n) (z := z) (s := s) (A := A) (m := l.length) (cap := cap) g7 hk8 lt7; have lt8 : w.heap.size < w8.heap.size := Nat.lt_of_lt_of_le lt7 hk8.size)
      | (go_at_call 18; refine (RText_is A1 l1.length cap1 l1 s (l1 ++ counted s.data.toList) m2 w8 rfl ((hs1.below b8.out.1).more b8.out.2) (by omega) rfl H2.out).mono ?_; rintro e w9 ⟨B9, c9, rfl, hs_9, hb9⟩; have hk9 : Below w8.heap.size w8 w9 := hb9; have b9 := Lib.hid (below_step0 b8.out hk9); have g9 := Box.below (n := n) (z := z) (s := s) (A := A) (m := l.length) (cap := cap) g8 hk9 lt8; have lt9 : w.heap.size < w9.heap.size := Nat.lt_of_lt_of_le lt8 hk9.size)
      | (go_at_call 12; have _t := tok2; refine (Same_yes B8 m2 c8 B9 m2 c9 (l1 ++ counted s.data.toList) (l1 ++ counted s.data.toList) w9 (hs_8.up hk9) hs_9 rfl H2.out H2.out (by have := X2.out; omega)).mono ?_; rintro e w10 ⟨rfl, hb10⟩; have hk10 : Below w9.heap.size w9 w10 := hb10; have b10 := Lib.hid (below_step0 b9.out hk10); have g10 := Box.below (n := n) (z := z) (s := s) (A := A) (m := l.length) (cap := cap) g9 hk10 lt9; have lt10 : w.heap.size < w10.heap.size := Nat.lt_of_lt_of_le lt9 hk10.size; clear tok2)
      | (go_at_call 19; refine (Bytes_is A1 l1.length cap1 l1 A l.length cap l (l1 ++ counted l) m3 w10 rfl ((hs1.below b10.out.1).more b10.out.2) rfl ((hs.below b10.out.1).more b10.out.2) (by omega) rfl H3.out).mono ?_; rintro e w11 ⟨B11, c11, rfl, _, hs_11, hb11⟩; have hk11 : Below w10.heap.size w10 w11 := hb11; have b11 := Lib.hid (below_step0 b10.out hk11); have g11 := Box.below (n := n) (z := z) (s := s) (A := A) (m := l.length) (cap := cap) g10 hk11 lt10; have lt11 : w.heap.size < w11.heap.size := Nat.lt_of_lt_of_le lt10 hk11.size)
      | (go_at_call 20; refine (RBytes_is A1 l1.length cap1 l1 A l.length cap l (l1 ++ counted l) m3 w11 rfl ((hs1.below b11.out.1).more b11.out.2) rfl ((hs.below b11.out.1).more b11.out.2) (by omega) rfl H3.out).mono ?_; rintro e w12 ⟨B12, c12, rfl, hs_12, hb12⟩; have hk12 : Below w11.heap.size w11 w12 := hb12; have b12 := Lib.hid (below_step0 b11.out hk12); have g12 := Box.below (n := n) (z := z) (s := s) (A := A) (m := l.length) (cap := cap) g11 hk12 lt11; have lt12 : w.heap.size < w12.heap.size := Nat.lt_of_lt_of_le lt11 hk12.size)
      | (go_at_call 12; have _t := tok3; refine (Same_yes B11 m3 c11 B12 m3 c12 (l1 ++ counted l) (l1 ++ counted l) w12 (hs_11.up hk12) hs_12 rfl H3.out H3.out (by have := X3.out; omega)).mono ?_; rintro e w13 ⟨rfl, hb13⟩; have hk13 : Below w12.heap.size w12 w13 := hb13; have b13 := Lib.hid (below_step0 b12.out hk13); have g13 := Box.below (n := n) (z := z) (s := s) (A := A) (m := l.length) (cap := cap) g12 hk13 lt12; have lt13 : w.heap.size < w13.heap.size := Nat.lt_of_lt_of_le lt12 hk13.size; clear tok3))
  go_wp2_with fail
  go_ret
  exact ⟨rfl, b13.out.1⟩

set_option maxRecDepth 100000 in
theorem contract (H : Type) (enc : TypeId × Value → H) (W : World) (base : Nat) (args : Array Value) (ds gs : List (DataW H)) (before : List MemPlace)
    (hval : ∀ (j : Nat) t v, Try.f3.params[j]? = some t → args[j]? = some v → Value.okWide Try.prog W .any base t v)
    (hW : DataW.Whole enc Try.prog Try.f3.params.toList Rows.wireWritesMatchReferenceSpec.vars false W args.toList ds gs before)
    (hk : Rows.uptoSmall H (ds ++ gs) = true) :
    Calls Try.prog 3 args W fun e W' => ∃ v, e = .returned v ∧ Rows.wireWritesMatchReferenceSpec.post enc Try.prog Try.f3 false true false false W args v W' := by
  have hW' := hW
  obtain ⟨p, q, hA0, hV, rfl, _, _⟩ := hW
  have hA : DataW.TrodAll enc Try.prog W 0 (fun _ => true) true Try.f3.params.toList args.toList ds p := hA0
  rw [Try.params3] at hA hval
  obtain ⟨v0, vs0, d0, ds0, p0, q0, hargs, rfl, rfl, h0, r0⟩ := trodAll_cons hA
  obtain ⟨v1, vs1, d1, ds1, p1, q1, rfl, rfl, rfl, h1, r1⟩ := trodAll_cons r0
  obtain ⟨rfl, rfl, rfl⟩ := trodAll_nil r1
  obtain rfl : args = #[v0, v1] := by cases args; simp_all
  obtain ⟨rfl, rfl⟩ := trodVars_none hV
  have k0 := h0
  have lt0 : ∀ x ∈ p0, x.block < W.heap.size := by obtain ⟨m, hm⟩ := k0; exact DataW.trod_lt m _ _ _ hm
  have B0 : Rows.uptoBulk d0 ≤ 1048576 := bulk_part (l := [d0, d1] ++ []) (by simp) hk
  have k1 := h1
  have lt1 : ∀ x ∈ p1, x.block < W.heap.size := by obtain ⟨m, hm⟩ := k1; exact DataW.trod_lt m _ _ _ hm
  have B1 : Rows.uptoBulk d1 ≤ 1048576 := bulk_part (l := [d0, d1] ++ []) (by simp) hk
  obtain ⟨a0, len0, cap0, rfl⟩ := okWide_slice Try.underlying22 (hval 0 22 v0 rfl rfl)
  obtain ⟨fu0, hf0⟩ := h0
  obtain ⟨l0, rfl, hlc0, _, hs0, hcp0, hd0⟩ := open_bytes hf0
  have hc0 : cap0 ≤ 1048576 := by rw [hcp0]; exact Nat.le_trans (places_bulk d0) B0
  obtain ⟨n1, z1, s1, c1, cap1, l1, rfl, u1, zl1, zh1, hs1, hlc1, Y1⟩ := open_value (hval 1 25 v1 rfl rfl) h1
  have Z1 := Y1.2 B1
  refine (walk a0 cap0 l0 n1 z1 s1 c1 cap1 l1 W hs0 hlc0 hc0 u1 zl1 zh1 hs1 hlc1 Z1.1 Z1.2).mono fun e W' ⟨he, bel⟩ => ?_
  subst he
  exact ⟨_, rfl, _, _, _, [], _, [], hW', trodAll_mk1 (shut_bool Try.underlying4 _), (trodAll_cons_mk (Below.trod laidOut (by kernel_rfl) (of_decide_eq_true (by kernel_rfl)) k0 bel lt0) (trodAll_cons_mk (Below.trod laidOut (by kernel_rfl) (of_decide_eq_true (by kernel_rfl)) k1 bel lt1) trodAll_mk0)), rfl, bel.frame _, fun h => by cases h⟩

set_option maxRecDepth 100000 in
theorem lifted (os : Os) (started : os.Started) (H : Type) (enc : TypeId × Value → H) (F : Stop.Interp) :
    ReturnsInHanded {} Try.checked os 3 .any ((Rows.OpenSpec.upto Rows.wireWritesMatchReferenceSpec).pre6 enc Try.prog Try.f3 Rows.wireWritesMatchReferenceUptoRow.domain false) (((Rows.OpenSpec.upto Rows.wireWritesMatchReferenceSpec).at F).post enc Try.prog Try.f3 false true false false) := by
  refine returnsInHanded_of_cond (C := Try.checked) (s := Rows.OpenSpec.upto Rows.wireWritesMatchReferenceSpec) (k := Rows.uptoSmall) rfl own started (by kernel_rfl) Try.func3
    (OpenSpec.witness (enc := enc) (C := Try.checked) (s := Rows.OpenSpec.upto Rows.wireWritesMatchReferenceSpec) (k := Rows.uptoSmall) rfl false ⟨#[], #[.slice none 0 0, .agg #[.int .u64 0, .int .i64 0, .string ⟨#[]⟩, .slice none 0 0]], []⟩ 8 (by kernel_rfl) (by kernel_rfl) (by kernel_rfl)
      (x := ([.nil, .agg [.lit (.int .u64 0), .lit (.int .i64 0), .lit (.string []), .nil]], [], [])) (by kernel_rfl) rfl (by kernel_rfl)) ?_
  intro W base args ds gs before hval hW _ hk _
  exact contract H enc W base args ds gs before hval hW hk

/-- The statement. -/
theorem proved : Rows.WireWritesMatchReferenceUptoSaid :=
  OpenClaim.holds_of_cond 3 Try.f3 rfl rfl rfl rfl rfl rfl rfl ⟨rfl, rfl, rfl, rfl, rfl⟩ rfl rfl rfl rfl rfl (by kernel_rfl) Try.func3 (by kernel_rfl)
    (of_decide_eq_true (by kernel_rfl)) (by unfold Func.isWrapper; rw [if_neg (of_decide_eq_false (by kernel_rfl))]; exact ⟨rfl, rfl⟩)
    (fun os started H enc _ F => lifted os started H enc F)

end Go.Proofs.Ytnnefhiffadihaa.wireWrites
