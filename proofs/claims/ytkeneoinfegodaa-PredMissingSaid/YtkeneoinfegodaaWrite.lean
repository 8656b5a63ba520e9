/-
  The program's writing functions: extend, appendNumber, U, S, Text, Bytes: each by a contract.
-/
import Derived.Test.YtkeneoinfegodaaProg
import Derived.Test.YtkeneoinfegodaaMem
import Derived.Test.YtkeneoinfegodaaBits
import Derived.WalkSpells
import Derived.WalkLawsBesides
import Derived.Deep.DeepMust
namespace Go.Proofs.Ytkeneoinfegodaa
open Go.RowKit Go.Lib

theorem ret_slice {a : Option Addr} {n m c : Nat} (h : n = m) : Ending.returned (.slice a n c) = Ending.returned (.slice a m c) := by rw [h]
theorem info5 : (Try.prog.info? 5).map (fun i => (i.zero, i.size, i.bytes)) = some (some (.int .u8 0), 1, 1) := by kernel_rfl

/-- extend: a copy of b, with room for n more. -/
theorem extend_any (A : Option Addr) (cap : Nat) (l : List UInt8) (n : Int) (w : World) (hs : Shows w w.heap.size A l) (h0 : 0 ≤ n) (hn : (l.length : Int) + n ≤ 281474976710656) :
    Calls Try.prog 81 #[.slice A l.length cap, .int .i64 n] w fun e w' =>
      e = .returned (.slice (some ⟨w.heap.size, 0, none⟩) l.length (l.length + n.toNat)) ∧ Blk w' w.heap.size (l ++ List.replicate n.toNat 0) ∧ Below w.heap.size w w' ∧ w'.heap.size = w.heap.size + 1 := by
  obtain ⟨m, rfl⟩ := Int.eq_ofNat_of_zero_le h0
  go_enter Try.func81, Try.ntmps81
  go_wp2_with (first
    | (at_make; refine wpList_make_bytes _ rfl (.tmp 7) (.tmp 11) _ rfl Try.underlying54 info5 .i64 .i64 _ _ l.length (l.length + m) rfl rfl rfl (by omega) (by omega) (by omega) ?_; intro w1 hB1 hb1 hz1)
    | (with_reducible show wpList _ _ _ _ _ _; refine wpList_copy_bytes rfl (.tmp 13) (.tmp 14) _ _ rfl Try.underlying54 info5 A l.length (l.length + m) cap w.heap.size rfl l rfl (List.replicate (l.length + m) 0) hB1.out (hs.below hb1) rfl (by simp) w.heap.size w hb1 (Nat.le_refl _) ?_; intro w2 hB2 hb2 hz2))
  go_ret
  refine ⟨by rw [Int.toNat_natCast]; rfl, ?_, hb2, by omega⟩
  have h := hB2.out
  have e : List.drop l.length (List.replicate (l.length + m) (0 : UInt8)) = List.replicate m 0 := by
    rw [List.drop_replicate]
    congr 1
    omega
  rw [e] at h
  rw [Int.toNat_natCast]
  exact h

/-- The same, the length spelt otherwise. -/
theorem extend_len (A : Option Addr) (k cap : Nat) (l : List UInt8) (n : Int) (w : World) (hk : k = l.length) (hs : Shows w w.heap.size A l) (h0 : 0 ≤ n) (hn : (l.length : Int) + n ≤ 281474976710656) :
    Calls Try.prog 81 #[.slice A k cap, .int .i64 n] w fun e w' =>
      e = .returned (.slice (some ⟨w.heap.size, 0, none⟩) k (k + n.toNat)) ∧ Blk w' w.heap.size (l ++ List.replicate n.toNat 0) ∧ Below w.heap.size w w' ∧ w'.heap.size = w.heap.size + 1 := by
  subst hk
  exact extend_any A cap l n w hs h0 hn

set_option maxRecDepth 20000 in
set_option maxHeartbeats 400000 in
/-- appendNumber: the number's bytes are written behind what the row holds; there is room. -/
theorem appendNumber_any (base g cap : Nat) (xs : List UInt8) (m : Nat) (w : World) (hown : Row w base g cap xs) (hm : Num.U64 m) (hroom : xs.length + (uvarint m).length ≤ cap) :
    Calls Try.prog 80 #[.slice (some ⟨g, 0, none⟩) xs.length cap, .int .u64 m] w fun e w' =>
      e = .returned (.slice (some ⟨g, 0, none⟩) (xs ++ uvarint m).length cap) ∧ Row w' base g cap (xs ++ uvarint m) ∧ w.grownBy w' (some g) := by
  have HR := Lib.hid hroom
  have HW := Lib.hid hown
  clear hroom hown
  go_enter Try.func80, Try.ntmps80
  go_wp2_with fail
  go_loopw [0, 1] (fun b q wr => ∃ (ys : List UInt8) (k : Nat), b = .slice (some ⟨g, 0, none⟩) ys.length cap ∧ q = .int .u64 k ∧ Num.U64 k ∧ Hid (xs ++ uvarint m = ys ++ uvarint k) ∧ Hid (Row wr base g cap ys) ∧ Hid (w.grownBy wr (some g)))
    (fun _ q _ => (intOf q).toNat)
  case atStart => exact ⟨xs, m, rfl, rfl, hm, rfl, HW, World.grownBy.refl _ _⟩
  case round =>
    obtain ⟨ys, k, rfl, rfl, hk, he, hr, hg⟩ := hrel
    by_cases hlt : 128 ≤ k
    · have hroom' : ys.length + 1 ≤ cap := by
        have h1 := HR.out
        have h2 := congrArg List.length he.out
        have h3 := uvarint_pos k
        simp only [List.length_append] at h2
        omega
      have hc : ((k : Int) % 128 + 128) = ((((k % 128 + 128).toUInt8).toNat : Nat) : Int) := by rw [Num.u8_of_nat (by omega)]; omega
      have HC := Lib.hid hc
      clear hc
      go_wp2_with (at_builtin; refine wpList_pushQ rfl (.tmp 7) (.tmp 12) _ rfl Try.underlying54 info5 base g cap ys (k % 128 + 128).toUInt8 _ rfl rfl rfl HC.out hr.out hroom' ?_; intro w1 hr1 hg1)
      have hw : IntKind.u64.wrap ((k : Int) / 128) = ((k / 128 : Nat) : Int) := by
        have := hk.lt
        rw [IntWalk.u64_in _ ⟨by omega, by omega⟩]
        omega
      rw [hw]
      go_roundw
      case rel =>
        refine ⟨ys ++ [(k % 128 + 128).toUInt8], k / 128, by simp, rfl, hk.div 128, ?_, hr1, grown_trans hg.out hg1⟩
        show _ = _
        rw [he.out, uvarint_big hlt]
        simp
      case measure => simp [intOf]; omega
    · have hroom' : ys.length + 1 ≤ cap := by
        have h1 := HR.out
        have h2 := congrArg List.length he.out
        have h3 := uvarint_pos k
        simp only [List.length_append] at h2
        omega
      have hc : (k : Int) = (((k.toUInt8).toNat : Nat) : Int) := by rw [Num.u8_of_nat (by omega)]
      have HC := Lib.hid hc
      clear hc
      have hlt' : (k : Int) < 128 := by omega
      go_wp2_with (at_builtin; refine wpList_pushQ rfl (.tmp 16) (.tmp 19) _ rfl Try.underlying54 info5 base g cap ys k.toUInt8 _ rfl rfl rfl HC.out hr.out hroom' ?_; intro w1 hr1 hg1)
      go_ret
      have e : xs ++ uvarint m = ys ++ [k.toUInt8] := by rw [he.out, uvarint_small (by omega)]
      rw [e]
      exact ⟨ret_slice (by simp), hr1, grown_trans hg.out hg1⟩

theorem U_any (A : Option Addr) (cap : Nat) (l : List UInt8) (n : Nat) (w : World) (hs : Shows w w.heap.size A l) (hl : l.length ≤ 140737488355328) (hn : Num.U64 n) :
    Calls Try.prog 49 #[.slice A l.length cap, .int .u64 n] w fun e w' =>
      ∃ g c, e = .returned (.slice (some ⟨g, 0, none⟩) (l ++ uvarint n).length c) ∧ Row w' w.heap.size g c (l ++ uvarint n) ∧ Below w.heap.size w w' := by
  go_enter Try.func49, Try.ntmps49
  go_wp2_with fail
  refine (extend_any A cap l 10 w hs (by omega) (by omega)).mono ?_
  rintro e w1 ⟨rfl, hB, hb, hz⟩
  go_wp2_with fail
  have hr : Row w1 w.heap.size w.heap.size (l.length + 10) l := by
    have e : (l ++ List.replicate (Int.toNat 10) (0 : UInt8)).length = l.length + 10 := by simp
    have := hB.row (base := w.heap.size) (n := l.length) (by simp) (by rw [e]; simp only [maxLen]; omega) (Nat.le_refl _)
    rw [e] at this
    simpa using this
  have h10 := uvarint_length64 hn.lt
  refine (appendNumber_any w.heap.size w.heap.size (l.length + 10) l n w1 hr hn (by omega)).mono ?_
  rintro e w2 ⟨rfl, hr2, hg2⟩
  go_wp2_with fail
  go_ret
  exact ⟨_, _, ret_slice (by simp), hr2, below_grownB hb hg2 (by omega) (Nat.le_refl _)⟩

theorem S_any (A : Option Addr) (cap : Nat) (l : List UInt8) (n : Int) (w : World) (hs : Shows w w.heap.size A l) (hl : l.length ≤ 140737488355328) (h0 : -9223372036854775808 ≤ n) (h1 : n ≤ 9223372036854775807) :
    Calls Try.prog 48 #[.slice A l.length cap, .int .i64 n] w fun e w' =>
      ∃ g c, e = .returned (.slice (some ⟨g, 0, none⟩) (l ++ uvarint (zigzag n)).length c) ∧ Row w' w.heap.size g c (l ++ uvarint (zigzag n)) ∧ Below w.heap.size w w' := by
  have hu := Num.zigzag_u64 n h0 h1
  by_cases hneg : n < 0
  · have hz := Lib.hid (Num.zig_neg n h0 hneg)
    go_enter Try.func48, Try.ntmps48
    go_wp2_with fail
    rw [hz.out]
    refine (U_any A cap l (zigzag n) w hs hl hu).mono ?_
    rintro e w1 ⟨g, c, rfl, hr, hb⟩
    go_wp2_with fail
    go_ret
    exact ⟨g, c, ret_slice (by simp), hr, hb⟩
  · have hz := Lib.hid (zigzag_nonneg (x := n) (by omega))
    go_enter Try.func48, Try.ntmps48
    go_wp2_with fail
    rw [← hz.out]
    refine (U_any A cap l (zigzag n) w hs hl hu).mono ?_
    rintro e w1 ⟨g, c, rfl, hr, hb⟩
    go_wp2_with fail
    go_ret
    exact ⟨g, c, ret_slice (by simp), hr, hb⟩

/-- The bytes that Text and Bytes write. -/
def counted (l : List UInt8) : List UInt8 := uvarint l.length ++ l

theorem row_of_extend {w w1 : World} {l : List UInt8} {n : Nat} {k : Int} (hB : Blk w1 w.heap.size (l ++ List.replicate k.toNat 0)) (hk : k.toNat = n) (hm : l.length + n ≤ 281474976710656) : Row w1 w.heap.size w.heap.size (l.length + n) l := by
  rw [hk] at hB
  have e : (l ++ List.replicate n (0 : UInt8)).length = l.length + n := by simp
  have := hB.row (base := w.heap.size) (n := l.length) (by simp) (by rw [e]; simp only [maxLen]; omega) (Nat.le_refl _)
  rw [e] at this
  simpa using this

theorem counted_len (l : List UInt8) (h : l.length < 18446744073709551616) : (counted l).length ≤ 10 + l.length := by
  have := uvarint_length64 h
  simp only [counted, List.length_append]
  omega

theorem countedS_any (A : Option Addr) (cap : Nat) (l : List UInt8) (s : ByteArray) (w : World) (hs : Shows w w.heap.size A l) (hl : l.length + s.size ≤ 281474976710646) :
    Calls Try.prog 82 #[.slice A l.length cap, .string s] w fun e w' =>
      ∃ g c, e = .returned (.slice (some ⟨g, 0, none⟩) (l ++ counted s.data.toList).length c) ∧ Row w' w.heap.size g c (l ++ counted s.data.toList) ∧ Below w.heap.size w w' := by
  go_enter Try.func82, Try.ntmps82
  go_wp2_with fail
  refine (extend_any A cap l _ w hs (by omega) (by omega)).mono ?_
  rintro e w1 ⟨rfl, hB, hb, hz⟩
  have ek : (10 + (s.size : Int)).toNat = 10 + s.size := by omega
  rw [ek]
  have hr := row_of_extend hB ek (by omega)
  have hu : Num.U64 s.size := show s.size < 18446744073709551616 by omega
  have hlen := uvarint_length64 hu.lt
  clear ek hB
  go_wp2_with fail
  refine (appendNumber_any w.heap.size w.heap.size _ l s.size w1 hr hu (by omega)).mono ?_
  rintro e w2 ⟨rfl, hr2, hg2⟩
  have HR := Lib.hid hr2
  clear hr2 hr
  go_wp2_with (at_builtin; refine wpList_pushS rfl (.tmp 13) (.tmp 14) _ _ rfl Try.underlying54 Try.underlying9 info5 w.heap.size w.heap.size _ (l ++ uvarint s.size) s (congrArg (fun n => Value.slice _ n _) (by simp)) rfl HR.out (by simp; omega) ?_; intro w3 hr3 hg3)
  have hsl : s.data.toList.length = s.size := str_len s
  have e : l ++ uvarint s.size ++ s.data.toList = l ++ counted s.data.toList := by rw [counted, hsl, List.append_assoc]
  rw [e] at hr3
  go_ret
  refine ⟨_, _, ret_slice ?_, hr3, below_grownB (below_grownB hb hg2 (by omega) (Nat.le_refl _)) hg3 (by have := hg2.size; omega) (Nat.le_refl _)⟩
  rw [← e]
  simp [hsl]

theorem Text_any (A : Option Addr) (cap : Nat) (l : List UInt8) (s : ByteArray) (w : World) (hs : Shows w w.heap.size A l) (hl : l.length + s.size ≤ 281474976710646) :
    Calls Try.prog 51 #[.slice A l.length cap, .string s] w fun e w' =>
      ∃ g c, e = .returned (.slice (some ⟨g, 0, none⟩) (l ++ counted s.data.toList).length c) ∧ Row w' w.heap.size g c (l ++ counted s.data.toList) ∧ Below w.heap.size w w' := by
  go_enter Try.func51, Try.ntmps51
  go_wp2_with fail
  refine (countedS_any A cap l s w hs hl).mono ?_
  rintro e w1 ⟨g, c, rfl, hr, hb⟩
  go_wp2_with fail
  go_ret
  exact ⟨g, c, ret_slice (by simp), hr, hb⟩

end Go.Proofs.Ytkeneoinfegodaa
