/-
  P1.3, beginnings: no proper beginning of what U, S, Text and Bytes write is accepted. For every input that the row lets in; no further condition.
-/
import Derived.Test.YtnnefhiffadihaaOpenV
import Derived.Deep.RegionHeld3
import Derived.Outline
namespace Go.Proofs.Ytnnefhiffadihaa.wirePrefix
open Go.RowKit Go.ChangeShapes Go.WideShapes Go.ChangeAt
open Go.Lib (uvarint zigzag)

theorem readU_part {m q : Nat} (hu : Num.U64 m) (hq : q < (uvarint m).length) : Num.readU ((uvarint m).take q) 0 = (0, 0, 6) := by
  have h := Num.scan_part m 0 0 q (by simpa using hu.lt) (by omega) hq
  exact Num.readU_err (a := 0) (by omega) (by simpa using h) (by omega)
theorem span_part {p : List UInt8} {q : Nat} (hu : Num.U64 p.length) (hq : q < (counted p).length) :
    Num.span ((counted p).take q) 0 = (0, 0, 6) ∨ (1048576 < p.length ∧ Num.span ((counted p).take q) 0 = (0, 0, 2)) := by
  simp only [counted, List.length_append] at hq
  unfold counted
  by_cases h : q < (uvarint p.length).length
  · rw [List.take_append_of_le_length (by omega)]
    exact .inl (Num.span_err (readU_part hu h) (by omega))
  · have e : (uvarint p.length ++ p).take q = uvarint p.length ++ p.take (q - (uvarint p.length).length) := by
      rw [List.take_append, List.take_of_length_le (by omega)]
    rw [e]
    have hs := Num.scan_enc p.length 0 0 (p.take (q - (uvarint p.length).length)) (by simpa using hu.lt) (by omega) (by omega)
    have hr : Num.readU (uvarint p.length ++ p.take (q - (uvarint p.length).length)) ((0 : Nat) : Int) = (p.length, 0 + (uvarint p.length).length, 0) :=
      Num.readU_ok (by omega) (by simpa using hs)
    by_cases hb : 1048576 < p.length
    · exact .inr ⟨hb, Num.span_big hr hb⟩
    · refine .inl (Num.span_short hr hb ?_)
      simp only [List.length_append, List.length_take]
      omega

/-- uint64(cut) % m, m > 0. -/
theorem cut_at (a : Int) (m : Nat) (hm : 0 < m) : ∃ q : Nat, (IntKind.u64.wrap a).tmod (m : Int) = (q : Int) ∧ q < m := by
  have h0 : 0 ≤ IntKind.u64.wrap a := by rw [IntKind.wrap_u64]; omega
  obtain ⟨x, hx⟩ := Int.eq_ofNat_of_zero_le h0
  refine ⟨x % m, ?_, Nat.mod_lt _ hm⟩
  rw [hx]
  rfl

/-- What holds at the head of each round. -/
structure Inv (w : World) (n : Nat) (z : Int) (s : ByteArray) (A : Option Addr) (m cap L : Nat) (A2 A3 A4 A5 : Option Addr) (m0 m1 m2 m3 c2 c3 c4 c5 : Nat) (l : List UInt8) (wr : World) : Prop where
  box : Box wr w.heap.size n z s A m cap
  lt : w.heap.size < wr.heap.size
  at0 : wr.cell? ⟨L, 0, none⟩ = some (.slice A2 m0 c2)
  at1 : wr.cell? ⟨L, 1, none⟩ = some (.slice A3 m1 c3)
  at2 : wr.cell? ⟨L, 2, none⟩ = some (.slice A4 m2 c4)
  at3 : wr.cell? ⟨L, 3, none⟩ = some (.slice A5 m3 c5)
  ltL : L < wr.heap.size
  sh2 : Shows wr wr.heap.size A2 (uvarint n)
  sh3 : Shows wr wr.heap.size A3 (uvarint (zigzag z))
  sh4 : Shows wr wr.heap.size A4 (counted s.data.toList)
  sh5 : Shows wr wr.heap.size A5 (counted l)
  bel : Below w.heap.size w wr
theorem Inv.step {w : World} {n : Nat} {z : Int} {s : ByteArray} {A : Option Addr} {m cap L : Nat} {A2 A3 A4 A5 : Option Addr} {m0 m1 m2 m3 c2 c3 c4 c5 : Nat} {l : List UInt8} {wr w' : World}
    (h : Inv w n z s A m cap L A2 A3 A4 A5 m0 m1 m2 m3 c2 c3 c4 c5 l wr) (hb : Below wr.heap.size wr w') : Inv w n z s A m cap L A2 A3 A4 A5 m0 m1 m2 m3 c2 c3 c4 c5 l w' :=
  ⟨h.box.below hb h.lt, Nat.lt_of_lt_of_le h.lt hb.size, (hb.cell (p := ⟨L, 0, none⟩) h.ltL).trans h.at0, (hb.cell (p := ⟨L, 1, none⟩) h.ltL).trans h.at1, (hb.cell (p := ⟨L, 2, none⟩) h.ltL).trans h.at2, (hb.cell (p := ⟨L, 3, none⟩) h.ltL).trans h.at3,
   Nat.lt_of_lt_of_le h.ltL hb.size, h.sh2.up hb, h.sh3.up hb, h.sh4.up hb, h.sh5.up hb, h.bel.trans (hb.mono (Nat.le_of_lt h.lt))⟩

set_option maxRecDepth 100000 in
set_option maxHeartbeats 4000000 in
theorem walk (n : Nat) (z : Int) (s : ByteArray) (A : Option Addr) (cap : Nat) (l : List UInt8) (a : Int) (w : World) (u : Num.U64 n) (zl : -9223372036854775808 ≤ z) (zh : z ≤ 9223372036854775807) (hs : Shows w w.heap.size A l) (_hlc : l.length ≤ cap) (hS : s.size ≤ 140737488351232) (hcap : cap ≤ 140737488351232) (_h0 : -9223372036854775808 ≤ a) (_h1 : a ≤ 9223372036854775807) :
    Calls Try.prog 8 #[.agg #[.int .u64 n, .int .i64 z, .string s, .slice A l.length cap], .int .i64 a] w fun e w' => e = .returned (.bool true) ∧ Below w.heap.size w w' := by
  have hbox : Box (w.alloc (.cells #[.int .u64 n, .int .i64 z, .string s, .slice A l.length cap] 25)) w.heap.size n z s A l.length cap := by
    refine ⟨?_, ?_, ?_, ?_⟩ <;> exact cell_of_row _ _ _ _ _ (0, 0) (heap_alloc_new w _)
  have b0 : Below w.heap.size w w ∧ w.heap.size ≤ w.heap.size := ⟨Below.refl _ _, Nat.le_refl _⟩
  obtain ⟨m0, hm0⟩ : ∃ m, m = (uvarint n).length := ⟨_, rfl⟩
  obtain ⟨m1, hm1⟩ : ∃ m, m = (uvarint (zigzag z)).length := ⟨_, rfl⟩
  obtain ⟨m2, hm2⟩ : ∃ m, m = (counted s.data.toList).length := ⟨_, rfl⟩
  obtain ⟨m3, hm3⟩ : ∃ m, m = (counted l).length := ⟨_, rfl⟩
  have H0 := Lib.hid hm0
  have H1 := Lib.hid hm1
  have H2 := Lib.hid hm2
  have H3 := Lib.hid hm3
  clear hm0 hm1 hm2 hm3
  go_enter Try.func8, Try.ntmps8
  go_wp2_with fail
  refine (sanity_any _).mono ?_
  rintro e w1 ⟨rfl, hb1⟩
  have b1 := Lib.hid (below_step b0 hb1)
  have g1 := hbox.below hb1 (by simp)
  clear b0 hbox
  have lt1 : w.heap.size < w1.heap.size := by have := hb1.size; simp at this; omega
  clear hb1
  go_wp2_with fail
  unfold Box at g1
  go_region_held3 (fun w' => w'.cell? ⟨w.heap.size, 0, none⟩ = some (.int .u64 n) ∧ w'.cell? ⟨w.heap.size, 1, none⟩ = some (.int .i64 z) ∧ w'.cell? ⟨w.heap.size, 2, none⟩ = some (.string s) ∧ w'.cell? ⟨w.heap.size, 3, none⟩ = some (.slice A l.length cap))
    (first | exact g1 | exact g2 | exact g3 | exact g4 | exact g5 | exact Box.below (n := n) (z := z) (s := s) (A := A) (m := l.length) (cap := cap) g5 ((Below.refl w5.heap.size w5).alloc (Nat.le_refl _) _) lt5)
    (first
      | (go_at_call 13; refine (U_is none 0 0 [] n n (uvarint n) m0 w1.drew rfl Shows.nil (by decide) u rfl rfl H0.out).mono ?_; rintro e w2 ⟨A2, c2, rfl, ho2, hs2, hb2⟩; have k2 : m0 ≤ c2 := Nat.le_trans (Nat.le_of_eq H0.out) ho2.shows.2.1; have x2 := ho2.cap_le; clear ho2; have g2 := Box.below (n := n) (z := z) (s := s) (A := A) (m := l.length) (cap := cap) g1 (show Below w1.heap.size w1 w2 from (Below.drew (Below.refl _ _)).trans hb2) lt1; have lt2 : w.heap.size < w2.heap.size := Nat.lt_of_lt_of_le lt1 hb2.size)
      | (go_at_call 15; refine (S_is none 0 0 [] z (uvarint (zigzag z)) m1 w2 rfl Shows.nil (by decide) zl zh rfl H1.out).mono ?_; rintro e w3 ⟨A3, c3, rfl, ho3, hs3, hb3⟩; have k3 : m1 ≤ c3 := Nat.le_trans (Nat.le_of_eq H1.out) ho3.shows.2.1; have x3 := ho3.cap_le; clear ho3; have g3 := Box.below (n := n) (z := z) (s := s) (A := A) (m := l.length) (cap := cap) g2 hb3 lt2; have lt3 : w.heap.size < w3.heap.size := Nat.lt_of_lt_of_le lt2 hb3.size)
      | (go_at_call 17; refine (Text_is none 0 0 [] s (counted s.data.toList) m2 w3 rfl Shows.nil (by simp; omega) rfl H2.out).mono ?_; rintro e w4 ⟨A4, c4, rfl, ho4, hs4, hb4⟩; have k4 : m2 ≤ c4 := Nat.le_trans (Nat.le_of_eq H2.out) ho4.shows.2.1; have x4 := ho4.cap_le; clear ho4; have g4 := Box.below (n := n) (z := z) (s := s) (A := A) (m := l.length) (cap := cap) g3 hb4 lt3; have lt4 : w.heap.size < w4.heap.size := Nat.lt_of_lt_of_le lt3 hb4.size)
      | (go_at_call 19; refine (Bytes_is none 0 0 [] A l.length cap l (counted l) m3 w4 rfl Shows.nil rfl (((((hs.below b1.out.1).more b1.out.2).up (show Below w1.heap.size w1 w2 from (Below.drew (Below.refl _ _)).trans hb2)).up hb3).up hb4) (by simp; omega) rfl H3.out).mono ?_; rintro e w5 ⟨A5, c5, rfl, ho5, hs5, hb5⟩; have k5 : m3 ≤ c5 := Nat.le_trans (Nat.le_of_eq H3.out) ho5.shows.2.1; have x5 := ho5.cap_le; clear ho5; have g5 := Box.below (n := n) (z := z) (s := s) (A := A) (m := l.length) (cap := cap) g4 hb5 lt4; have lt5 : w.heap.size < w5.heap.size := Nat.lt_of_lt_of_le lt4 hb5.size))
  go_wp2_with fail
  have hinv : Inv w n z s A l.length cap w5.heap.size A2 A3 A4 A5 m0 m1 m2 m3 c2 c3 c4 c5 l (w5.alloc (.cells #[.slice A2 m0 c2, .slice A3 m1 c3, .slice A4 m2 c4, .slice A5 m3 c5] 22)) := by
    have hb6 : Below w5.heap.size w5 (w5.alloc (.cells #[.slice A2 m0 c2, .slice A3 m1 c3, .slice A4 m2 c4, .slice A5 m3 c5] 22)) := (Below.refl _ _).alloc (Nat.le_refl _) _
    have hb2' : Below w1.heap.size w1 w2 := (Below.drew (Below.refl _ _)).trans hb2
    have hcell : ∀ j v, (#[Value.slice A2 m0 c2, .slice A3 m1 c3, .slice A4 m2 c4, .slice A5 m3 c5] : Array Value)[j]? = some v → (w5.alloc (.cells #[.slice A2 m0 c2, .slice A3 m1 c3, .slice A4 m2 c4, .slice A5 m3 c5] 22)).cell? ⟨w5.heap.size, j, none⟩ = some v := fun j v hj => (cell_of_row _ _ _ _ _ (0, 0) (heap_alloc_new w5 _)).trans hj
    refine ⟨Box.below g5 hb6 lt5, Nat.lt_of_lt_of_le lt5 hb6.size, hcell 0 _ rfl, hcell 1 _ rfl, hcell 2 _ rfl, hcell 3 _ rfl, by simp, (((hs2.up hb3).up hb4).up hb5).up hb6, ((hs3.up hb4).up hb5).up hb6, (hs4.up hb5).up hb6, hs5.up hb6, ?_⟩
    exact (((((b1.out.1.trans (hb2'.mono b1.out.2)).trans (hb3.mono (Nat.le_of_lt lt2))).trans (hb4.mono (Nat.le_of_lt lt3))).trans (hb5.mono (Nat.le_of_lt lt4))).trans (hb6.mono (Nat.le_of_lt lt5)))
  have HI := Lib.hid hinv
  clear hinv g1 g2 g3 g4 g5 hb2 hb3 hb4 hb5 hs2 hs3 hs4 hs5 b1 lt1 lt2 lt3 lt4 lt5 hs
  obtain ⟨L, hL⟩ : ∃ L, L = w5.heap.size := ⟨_, rfl⟩
  rw [← hL] at HI
  rw [← hL]
  have HL := Lib.hid hL
  clear hL
  have p0 := Lib.uvarint_pos n
  have p1 := Lib.uvarint_pos (zigzag z)
  have p2 := Lib.uvarint_pos s.data.toList.length
  have p3 := Lib.uvarint_pos l.length
  have q0 : 0 < m0 := by rw [H0.out]; exact p0
  have q1 : 0 < m1 := by rw [H1.out]; exact p1
  have q2 : 0 < m2 := by rw [H2.out, counted, List.length_append]; omega
  have q3 : 0 < m3 := by rw [H3.out, counted, List.length_append]; omega
  have uz := Num.zigzag_u64 z zl zh
  have hl0 : m0 ≤ 10 := by rw [H0.out]; exact Lib.uvarint_length64 u.lt
  have hl1 : m1 ≤ 10 := by rw [H1.out]; exact Lib.uvarint_length64 uz.lt
  have us : Num.U64 s.data.toList.length := by rw [str_len]; exact show s.size < 18446744073709551616 by omega
  have ul : Num.U64 l.length := show l.length < 18446744073709551616 by omega
  have hl2 : m2 ≤ 140737488351242 := by
    have := Lib.uvarint_length64 us.lt
    have e := str_len s
    rw [H2.out, counted, List.length_append]
    omega
  have hl3 : m3 ≤ 140737488351242 := by
    have := Lib.uvarint_length64 ul.lt
    rw [H3.out, counted, List.length_append]
    omega
  clear p0 p1 p2 p3
  go_loopw [7] (fun i wr => ∃ k : Int, i = .int .i64 k ∧ 0 ≤ k ∧ k ≤ 4 ∧ Hid (Inv w n z s A l.length cap L A2 A3 A4 A5 m0 m1 m2 m3 c2 c3 c4 c5 l wr)) (fun i _ => (4 - intOf i).toNat)
  case atStart => exact ⟨0, rfl, by omega, by omega, HI⟩
  case round =>
    obtain ⟨k, rfl, hk0, hk4, HI⟩ := hrel
    rcases (show k = 0 ∨ k = 1 ∨ k = 2 ∨ k = 3 ∨ k = 4 by omega) with rfl | rfl | rfl | rfl | rfl
    · have f := HI.out.at0
      have nz : ((m0 : Int) == 0) = false := by simp; omega
      obtain ⟨q, hq, hqm⟩ := cut_at a m0 q0
      have hm64 : (m0 : Int) ≤ 18446744073709551615 := by have := hl0; omega
      have W1 := IntWalk.u64_in (m0 : Int) ⟨by omega, hm64⟩
      have W2 := IntWalk.u64_in (q : Int) ⟨by omega, by omega⟩
      clear hm64
      have i1 : (0 : Int) ≤ (q : Int) := by omega
      have i2 : (q : Int) ≤ (c2 : Int) := by omega
      have hql : Hid (q < (uvarint n).length) := by
        show _ < _
        rw [← H0.out]
        exact hqm
      go_wp2_with fail
      go_quiet (fail)
      clear W1 W2 hq f
      have hI1 := HI.out.step (Joins.below_draws _ _ nq)
      go_wp2_with fail
      refine (ReadU_is A2 q c2 ((uvarint n).take q) 0 0 0 6 (wr.drewN nq) (by have := hql.out; simp; omega) (show Shows (wr.drewN nq) (wr.drewN nq).heap.size A2 ((uvarint n).take q) from (HI.out.sh2).first) (by have := hql.out; simp; omega) (by rw [readU_part u hql.out]; rfl) (by rw [readU_part u hql.out]; rfl) (by rw [readU_part u hql.out]; rfl)).mono ?_
      rintro e w7 ⟨rfl, hb7⟩
      have hI2 := hI1.step hb7
      have HI2 := Lib.hid hI2
      clear hI1 hI2 hb7 HI
      go_wp2_with fail
      go_roundw
      case rel => exact ⟨1, rfl, by omega, by omega, HI2⟩
      case measure => simp [intOf]
    · have f := HI.out.at1
      have nz : ((m1 : Int) == 0) = false := by simp; omega
      obtain ⟨q, hq, hqm⟩ := cut_at a m1 q1
      have hm64 : (m1 : Int) ≤ 18446744073709551615 := by have := hl1; omega
      have W1 := IntWalk.u64_in (m1 : Int) ⟨by omega, hm64⟩
      have W2 := IntWalk.u64_in (q : Int) ⟨by omega, by omega⟩
      clear hm64
      have i1 : (0 : Int) ≤ (q : Int) := by omega
      have i2 : (q : Int) ≤ (c3 : Int) := by omega
      have hql : Hid (q < (uvarint (zigzag z)).length) := by
        show _ < _
        rw [← H1.out]
        exact hqm
      go_wp2_with fail
      go_quiet (fail)
      clear W1 W2 hq f
      have hI1 := HI.out.step (Joins.below_draws _ _ nq)
      go_wp2_with fail
      refine (ReadS_is A3 q c3 ((uvarint (zigzag z)).take q) 0 0 0 6 (wr.drewN nq) (by have := hql.out; simp; omega) (show Shows (wr.drewN nq) (wr.drewN nq).heap.size A3 ((uvarint (zigzag z)).take q) from (HI.out.sh3).first) (by have := hql.out; simp; omega) (by rw [readU_part uz hql.out]; decide) (by rw [readU_part uz hql.out]; rfl) (by rw [readU_part uz hql.out]; rfl)).mono ?_
      rintro e w7 ⟨rfl, hb7⟩
      have hI2 := hI1.step hb7
      have HI2 := Lib.hid hI2
      clear hI1 hI2 hb7 HI
      go_wp2_with fail
      go_roundw
      case rel => exact ⟨2, rfl, by omega, by omega, HI2⟩
      case measure => simp [intOf]
    · have f := HI.out.at2
      have nz : ((m2 : Int) == 0) = false := by simp; omega
      obtain ⟨q, hq, hqm⟩ := cut_at a m2 q2
      have hm64 : (m2 : Int) ≤ 18446744073709551615 := by have := hl2; omega
      have W1 := IntWalk.u64_in (m2 : Int) ⟨by omega, hm64⟩
      have W2 := IntWalk.u64_in (q : Int) ⟨by omega, by omega⟩
      clear hm64
      have i1 : (0 : Int) ≤ (q : Int) := by omega
      have i2 : (q : Int) ≤ (c4 : Int) := by omega
      have hql : Hid (q < (counted s.data.toList).length) := by
        show _ < _
        rw [← H2.out]
        exact hqm
      have hss := str_len s
      rcases (show (Num.span ((counted s.data.toList).take q) 0 = (0, 0, 6) ∧ s.size ≤ 1048576) ∨ (Num.span ((counted s.data.toList).take q) 0 = (0, 0, 6) ∧ 1048576 < s.size) ∨ (Num.span ((counted s.data.toList).take q) 0 = (0, 0, 2) ∧ 1048576 < s.size) by
        rcases span_part us hql.out with h | ⟨h1, h2⟩
        · rcases Nat.lt_or_ge 1048576 s.size with h1 | h1
          · exact .inr (.inl ⟨h, h1⟩)
          · exact .inl ⟨h, h1⟩
        · exact .inr (.inr ⟨h2, by omega⟩)) with ⟨hsp, hb⟩ | ⟨hsp, hb⟩ | ⟨hsp, hb⟩
      · have HS := Lib.hid hsp
        clear hsp hss
        have hbi : (s.size : Int) ≤ 1048576 := by omega
        go_wp2_with fail
        go_quiet (fail)
        clear W1 W2 hq f
        have hI1 := HI.out.step (Joins.below_draws _ _ nq)
        go_wp2_with fail
        refine (ReadText_is A4 q c4 ((counted s.data.toList).take q) 0 0 6 ⟨#[]⟩ (wr.drewN nq) (by have := hql.out; simp; omega) (show Shows (wr.drewN nq) (wr.drewN nq).heap.size A4 ((counted s.data.toList).take q) from (HI.out.sh4).first) (by have := hql.out; simp; omega) (by omega) (by rw [Num.taken_err HS.out]) (by rw [HS.out]; rfl) (by rw [HS.out]; rfl)).mono ?_
        rintro e w7 ⟨rfl, hb7⟩
        have hI2 := hI1.step hb7
        have HI2 := Lib.hid hI2
        have f2 := HI2.out.box.2.2.1
        clear hI1 hI2 hb7 HI
        go_wp2_with fail
        go_roundw
        case rel => exact ⟨3, rfl, by omega, by omega, HI2⟩
        case measure => simp [intOf]
      · have HS := Lib.hid hsp
        clear hsp hss
        have hbi : (1048576 : Int) < s.size := by omega
        go_wp2_with fail
        go_quiet (fail)
        clear W1 W2 hq f
        have hI1 := HI.out.step (Joins.below_draws _ _ nq)
        go_wp2_with fail
        refine (ReadText_is A4 q c4 ((counted s.data.toList).take q) 0 0 6 ⟨#[]⟩ (wr.drewN nq) (by have := hql.out; simp; omega) (show Shows (wr.drewN nq) (wr.drewN nq).heap.size A4 ((counted s.data.toList).take q) from (HI.out.sh4).first) (by have := hql.out; simp; omega) (by omega) (by rw [Num.taken_err HS.out]) (by rw [HS.out]; rfl) (by rw [HS.out]; rfl)).mono ?_
        rintro e w7 ⟨rfl, hb7⟩
        have hI2 := hI1.step hb7
        have HI2 := Lib.hid hI2
        have f2 := HI2.out.box.2.2.1
        clear hI1 hI2 hb7 HI
        go_wp2_with fail
        go_roundw
        case rel => exact ⟨3, rfl, by omega, by omega, HI2⟩
        case measure => simp [intOf]
      · have HS := Lib.hid hsp
        clear hsp hss
        have hbi : (1048576 : Int) < s.size := by omega
        go_wp2_with fail
        go_quiet (fail)
        clear W1 W2 hq f
        have hI1 := HI.out.step (Joins.below_draws _ _ nq)
        go_wp2_with fail
        refine (ReadText_is A4 q c4 ((counted s.data.toList).take q) 0 0 2 ⟨#[]⟩ (wr.drewN nq) (by have := hql.out; simp; omega) (show Shows (wr.drewN nq) (wr.drewN nq).heap.size A4 ((counted s.data.toList).take q) from (HI.out.sh4).first) (by have := hql.out; simp; omega) (by omega) (by rw [Num.taken_err HS.out]) (by rw [HS.out]; rfl) (by rw [HS.out]; rfl)).mono ?_
        rintro e w7 ⟨rfl, hb7⟩
        have hI2 := hI1.step hb7
        have HI2 := Lib.hid hI2
        have f2 := HI2.out.box.2.2.1
        clear hI1 hI2 hb7 HI
        go_wp2_with fail
        go_roundw
        case rel => exact ⟨3, rfl, by omega, by omega, HI2⟩
        case measure => simp [intOf]
    · have f := HI.out.at3
      have nz : ((m3 : Int) == 0) = false := by simp; omega
      obtain ⟨q, hq, hqm⟩ := cut_at a m3 q3
      have hm64 : (m3 : Int) ≤ 18446744073709551615 := by have := hl3; omega
      have W1 := IntWalk.u64_in (m3 : Int) ⟨by omega, hm64⟩
      have W2 := IntWalk.u64_in (q : Int) ⟨by omega, by omega⟩
      clear hm64
      have i1 : (0 : Int) ≤ (q : Int) := by omega
      have i2 : (q : Int) ≤ (c5 : Int) := by omega
      have hql : Hid (q < (counted l).length) := by
        show _ < _
        rw [← H3.out]
        exact hqm
      rcases (show (Num.span ((counted l).take q) 0 = (0, 0, 6) ∧ l.length ≤ 1048576) ∨ (Num.span ((counted l).take q) 0 = (0, 0, 6) ∧ 1048576 < l.length) ∨ (Num.span ((counted l).take q) 0 = (0, 0, 2) ∧ 1048576 < l.length) by
        rcases span_part ul hql.out with h | ⟨h1, h2⟩
        · rcases Nat.lt_or_ge 1048576 l.length with h1 | h1
          · exact .inr (.inl ⟨h, h1⟩)
          · exact .inl ⟨h, h1⟩
        · exact .inr (.inr ⟨h2, by omega⟩)) with ⟨hsp, hb⟩ | ⟨hsp, hb⟩ | ⟨hsp, hb⟩
      · have HS := Lib.hid hsp
        clear hsp
        have hbi : (l.length : Int) ≤ 1048576 := by omega
        go_wp2_with fail
        go_quiet (fail)
        clear W1 W2 hq f
        have hI1 := HI.out.step (Joins.below_draws _ _ nq)
        go_wp2_with fail
        refine (ReadBytes_at A5 q c5 ((counted l).take q) 0 0 6 [] 0 (wr.drewN nq) (by have := hql.out; simp; omega) (show Shows (wr.drewN nq) (wr.drewN nq).heap.size A5 ((counted l).take q) from (HI.out.sh5).first) (by have := hql.out; simp; omega) (by omega) (Num.taken_err HS.out) rfl (by rw [HS.out]; rfl) (by rw [HS.out]; rfl)).mono ?_
        rintro e w7 ⟨B7, c7, rfl, _, _, _, hb7⟩
        have hI2 := hI1.step hb7
        have HI2 := Lib.hid hI2
        have f2 := HI2.out.box.2.2.2
        clear hI1 hI2 hb7 HI
        go_wp2_with fail
        go_roundw
        case rel => exact ⟨4, rfl, by omega, by omega, HI2⟩
        case measure => simp [intOf]
      · have HS := Lib.hid hsp
        clear hsp
        have hbi : (1048576 : Int) < l.length := by omega
        go_wp2_with fail
        go_quiet (fail)
        clear W1 W2 hq f
        have hI1 := HI.out.step (Joins.below_draws _ _ nq)
        go_wp2_with fail
        refine (ReadBytes_at A5 q c5 ((counted l).take q) 0 0 6 [] 0 (wr.drewN nq) (by have := hql.out; simp; omega) (show Shows (wr.drewN nq) (wr.drewN nq).heap.size A5 ((counted l).take q) from (HI.out.sh5).first) (by have := hql.out; simp; omega) (by omega) (Num.taken_err HS.out) rfl (by rw [HS.out]; rfl) (by rw [HS.out]; rfl)).mono ?_
        rintro e w7 ⟨B7, c7, rfl, _, _, _, hb7⟩
        have hI2 := hI1.step hb7
        have HI2 := Lib.hid hI2
        have f2 := HI2.out.box.2.2.2
        clear hI1 hI2 hb7 HI
        go_wp2_with fail
        go_roundw
        case rel => exact ⟨4, rfl, by omega, by omega, HI2⟩
        case measure => simp [intOf]
      · have HS := Lib.hid hsp
        clear hsp
        have hbi : (1048576 : Int) < l.length := by omega
        go_wp2_with fail
        go_quiet (fail)
        clear W1 W2 hq f
        have hI1 := HI.out.step (Joins.below_draws _ _ nq)
        go_wp2_with fail
        refine (ReadBytes_at A5 q c5 ((counted l).take q) 0 0 2 [] 0 (wr.drewN nq) (by have := hql.out; simp; omega) (show Shows (wr.drewN nq) (wr.drewN nq).heap.size A5 ((counted l).take q) from (HI.out.sh5).first) (by have := hql.out; simp; omega) (by omega) (Num.taken_err HS.out) rfl (by rw [HS.out]; rfl) (by rw [HS.out]; rfl)).mono ?_
        rintro e w7 ⟨B7, c7, rfl, _, _, _, hb7⟩
        have hI2 := hI1.step hb7
        have HI2 := Lib.hid hI2
        have f2 := HI2.out.box.2.2.2
        clear hI1 hI2 hb7 HI
        go_wp2_with fail
        go_roundw
        case rel => exact ⟨4, rfl, by omega, by omega, HI2⟩
        case measure => simp [intOf]
    · go_wp2_with fail
      go_ret
      exact ⟨rfl, HI.out.bel⟩

set_option maxRecDepth 100000 in
theorem contract (H : Type) (enc : TypeId × Value → H) (W : World) (base : Nat) (args : Array Value) (ds gs : List (DataW H)) (before : List MemPlace)
    (hval : ∀ (j : Nat) t v, Try.f8.params[j]? = some t → args[j]? = some v → Value.okWide Try.prog W .any base t v)
    (hW : DataW.Whole enc Try.prog Try.f8.params.toList Rows.wirePrefixSpec.vars false W args.toList ds gs before)
    (hsz : (DataW.weightsEach Try.prog (Try.f8.params.toList ++ Rows.wirePrefixSpec.plain.varTypes Try.prog) (ds ++ gs)).all (· ≤ reachBytes) = true) :
    Calls Try.prog 8 args W fun e W' => ∃ v, e = .returned v ∧ Rows.wirePrefixSpec.post enc Try.prog Try.f8 false true false false W args v W' := by
  have hW' := hW
  obtain ⟨p, q, hA0, hV, rfl, _, _⟩ := hW
  have hA : DataW.TrodAll enc Try.prog W 0 (fun _ => true) true Try.f8.params.toList args.toList ds p := hA0
  rw [Try.params8] at hA hval hsz
  obtain ⟨v0, vs0, d0, ds0, p0, q0, hargs, rfl, rfl, h0, r0⟩ := trodAll_cons hA
  obtain ⟨v1, vs1, d1, ds1, p1, q1, rfl, rfl, rfl, h1, r1⟩ := trodAll_cons r0
  obtain ⟨rfl, rfl, rfl⟩ := trodAll_nil r1
  obtain rfl : args = #[v0, v1] := by cases args; simp_all
  obtain ⟨rfl, rfl⟩ := trodVars_none hV
  have k0 := h0
  have lt0 : ∀ x ∈ p0, x.block < W.heap.size := by obtain ⟨m, hm⟩ := k0; exact DataW.trod_lt m _ _ _ hm
  have S0 : ∀ n ∈ d0.weights Try.prog 25, n ≤ 140737488351232 := weights_le hsz (j := 0) rfl rfl
  have k1 := h1
  have lt1 : ∀ x ∈ p1, x.block < W.heap.size := by obtain ⟨m, hm⟩ := k1; exact DataW.trod_lt m _ _ _ hm
  have S1 : ∀ n ∈ d1.weights Try.prog 3, n ≤ 140737488351232 := weights_le hsz (j := 1) rfl rfl
  obtain ⟨n0, z0, s0, c0, cap0, l0, rfl, u0, zl0, zh0, hs0, hlc0, Y0⟩ := open_value (hval 0 25 v0 rfl rfl) h0
  have Z0 := Y0.1 S0
  obtain ⟨a1, rfl, rfl, rfl, w1⟩ := open_int Try.underlying3 (hval 1 3 v1 rfl rfl) h1
  have b1 : -9223372036854775808 ≤ a1 ∧ a1 ≤ 9223372036854775807 := by simpa [Lit.wf, IntKind.min, IntKind.max, IntKind.signed, IntKind.bits] using w1
  refine (walk n0 z0 s0 c0 cap0 l0 a1 W u0 zl0 zh0 hs0 hlc0 Z0.1 Z0.2 b1.1 b1.2).mono fun e W' ⟨he, bel⟩ => ?_
  subst he
  exact ⟨_, rfl, _, _, _, [], _, [], hW', trodAll_mk1 (shut_bool Try.underlying4 _), (trodAll_cons_mk (Below.trod laidOut (by kernel_rfl) (of_decide_eq_true (by kernel_rfl)) k0 bel lt0) (trodAll_cons_mk (Below.trod laidOut (by kernel_rfl) (of_decide_eq_true (by kernel_rfl)) k1 bel lt1) trodAll_mk0)), rfl, bel.frame _, fun h => by cases h⟩

set_option maxRecDepth 100000 in
theorem lifted (os : Os) (started : os.Started) (H : Type) (enc : TypeId × Value → H) :
    ReturnsInHanded {} Try.checked os 8 .any (Rows.wirePrefixSpec.pre6 enc Try.prog Try.f8 Rows.wirePrefixRow.domain false) (Rows.wirePrefixSpec.post enc Try.prog Try.f8 false true false false) := by
  refine returnsInHanded_of_change_sized (C := Try.checked) own started (by kernel_rfl) Try.func8
    (ChangeSpec.witness6 (enc := enc) (C := Try.checked) false ⟨#[], #[.agg #[.int .u64 0, .int .i64 0, .string ⟨#[]⟩, .slice none 0 0], .int .i64 0], []⟩ 8 (by kernel_rfl) (by kernel_rfl) (by kernel_rfl) (by kernel_rfl)) ?_
  intro W base args ds gs before hval hW _ hsz _
  exact contract H enc W base args ds gs before hval hW hsz

/-- The statement. -/
theorem proved : Rows.WirePrefixSaid :=
  OpenClaim.holds_of_wide 8 Try.f8 rfl rfl rfl rfl rfl rfl rfl ⟨rfl, rfl, rfl, rfl, rfl⟩ rfl rfl rfl rfl rfl (by kernel_rfl) Try.func8 (by kernel_rfl)
    (of_decide_eq_true (by kernel_rfl)) (by unfold Func.isWrapper; rw [if_neg (of_decide_eq_false (by kernel_rfl))]; exact ⟨rfl, rfl⟩)
    (fun os started H enc _ => lifted os started H enc)

end Go.Proofs.Ytnnefhiffadihaa.wirePrefix
