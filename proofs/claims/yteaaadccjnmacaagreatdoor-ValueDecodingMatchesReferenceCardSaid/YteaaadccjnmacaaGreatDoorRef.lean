/-
  The reference's functions on bytes: U, S, Text, Bytes, Join, Same, Bits, each by a contract.
-/
import Derived.Test.YteaaadccjnmacaaGreatDoorWrite
import Derived.BigGuardPart
import Derived.Deep.QuietTactic
import Derived.BigQuiet
namespace Go.Proofs.YteaaadccjnmacaaGreatDoor
open Go.RowKit Go.Lib

set_option maxRecDepth 20000 in
set_option maxHeartbeats 400000 in
theorem RU_any (A : Option Addr) (cap : Nat) (l : List UInt8) (n : Nat) (w : World) (hs : Shows w w.heap.size A l) (hl : l.length + 10 ≤ 140737488355328) (hn : Num.U64 n) :
    Calls Tryz.prog 46 #[.slice A l.length cap, .int .u64 n] w fun e w' =>
      ∃ A' c', e = .returned (.slice A' (l ++ uvarint n).length c') ∧ Owns w' w.heap.size (.slice A' (l ++ uvarint n).length c') (l ++ uvarint n) ∧ Below w.heap.size w w' := by
  have hlen := uvarint_length64 hn.lt
  go_enter Tryz.func46, Tryz.ntmps46
  go_wp2_with (at_builtin; refine wpList_growB rfl (.tmp 6) (.tmp 7) _ rfl Tryz.underlying22 info5 w.heap.size (.slice (some ⟨w.heap.size, 0, none⟩) 0 0) [] A l cap w.heap.size rfl rfl (owns_empty w _ rfl) (hs.below ((Below.refl _ _).alloc (Nat.le_refl _) _)) (by simp; omega) (by simp) ?_; intro A1 c1 w1 ho1 hg1)
  have hb1 : Below w.heap.size w w1 := grown_owns (owns_empty w _ rfl) hg1 ((Below.refl _ _).alloc (Nat.le_refl _) _) (by simp) (Nat.le_refl _)
  have HO := Lib.hid ho1
  rw [List.nil_append] at HO
  clear ho1 hg1
  go_loopw [1, 5] (fun q v wr => ∃ (ys : List UInt8) (k : Nat) (A' : Option Addr) (c' : Nat), v = .slice A' ys.length c' ∧ q = .int .u64 k ∧ Num.U64 k ∧ Hid (l ++ uvarint n = ys ++ uvarint k) ∧ Hid (Owns wr w.heap.size (.slice A' ys.length c') ys) ∧ Hid (Below w.heap.size w wr))
    (fun q _ _ => (intOf q).toNat)
  case atStart => exact ⟨l, n, A1, c1, rfl, rfl, hn, rfl, HO, hb1⟩
  case round =>
    obtain ⟨ys, k, A2, c2, rfl, rfl, hk, he, hr, hb⟩ := hrel
    have hroom : ys.length + 1 ≤ 140737488355328 := by
      have h2 := congrArg List.length he.out
      have h3 := uvarint_pos k
      simp only [List.length_append] at h2
      omega
    by_cases hlt : 128 ≤ k
    · have hc : (128 + (k : Int) % 128) = ((((k % 128 + 128).toUInt8).toNat : Nat) : Int) := by rw [Num.u8_of_nat (by omega)]; omega
      have HC := Lib.hid hc
      clear hc
      go_wp2_with (at_builtin; refine wpList_growC rfl (.tmp 11) (.tmp 16) _ rfl Tryz.underlying22 info5 w.heap.size (.slice A2 ys.length c2) ys (k % 128 + 128).toUInt8 _ rfl rfl rfl HC.out hr.out hroom hb.out.size ?_; intro A3 c3 w3 hr3 hg3)
      have hw : IntKind.u64.wrap ((k : Int) / 128) = ((k / 128 : Nat) : Int) := by
        have := hk.lt
        rw [IntWalk.u64_in _ ⟨by omega, by omega⟩]
        omega
      rw [hw]
      go_roundw
      case rel =>
        refine ⟨ys ++ [(k % 128 + 128).toUInt8], k / 128, A3, c3, by simp, rfl, hk.div 128, ?_, hr3, grown_owns hr.out hg3 hb.out hb.out.size (Nat.le_refl _)⟩
        show _ = _
        rw [he.out, uvarint_big hlt]
        simp
      case measure => simp [intOf]; omega
    · have hc : (k : Int) = (((k.toUInt8).toNat : Nat) : Int) := by rw [Num.u8_of_nat (by omega)]
      have HC := Lib.hid hc
      clear hc
      have hlt' : (k : Int) < 128 := by omega
      go_wp2_with (at_builtin; refine wpList_growC rfl (.tmp 20) (.tmp 23) _ rfl Tryz.underlying22 info5 w.heap.size (.slice A2 ys.length c2) ys k.toUInt8 _ rfl rfl rfl HC.out hr.out hroom hb.out.size ?_; intro A3 c3 w3 hr3 hg3)
      go_ret
      have e : l ++ uvarint n = ys ++ [k.toUInt8] := by rw [he.out, uvarint_small (by omega)]
      rw [e]
      exact ⟨A3, c3, ret_slice (by simp), hr3, grown_owns hr.out hg3 hb.out hb.out.size (Nat.le_refl _)⟩

theorem RS_any (A : Option Addr) (cap : Nat) (l : List UInt8) (n : Int) (w : World) (hs : Shows w w.heap.size A l) (hl : l.length + 10 ≤ 140737488355328) (h0 : -9223372036854775808 ≤ n) (h1 : n ≤ 9223372036854775807) :
    Calls Tryz.prog 26 #[.slice A l.length cap, .int .i64 n] w fun e w' =>
      ∃ A' c', e = .returned (.slice A' (l ++ uvarint (zigzag n)).length c') ∧ Owns w' w.heap.size (.slice A' (l ++ uvarint (zigzag n)).length c') (l ++ uvarint (zigzag n)) ∧ Below w.heap.size w w' := by
  have hu := Num.zigzag_u64 n h0 h1
  by_cases hneg : n < 0
  · have hz : Hid (((zigzag n : Nat) : Int) = 2 * -(n + 1) + 1) := by
      show _ = _
      unfold zigzag
      rw [if_neg (by omega)]
      omega
    go_enter Tryz.func26, Tryz.ntmps26
    go_wp2_with fail
    rw [← hz.out]
    refine (RU_any A cap l (zigzag n) w hs hl hu).mono ?_
    rintro e w1 ⟨A1, c1, rfl, hr, hb⟩
    go_wp2_with fail
    go_ret
    exact ⟨A1, c1, ret_slice (by simp), hr, hb⟩
  · have hz : Hid (((zigzag n : Nat) : Int) = 2 * n) := by
      show _ = _
      rw [zigzag_nonneg (by omega)]
      omega
    go_enter Tryz.func26, Tryz.ntmps26
    go_wp2_with fail
    rw [← hz.out]
    refine (RU_any A cap l (zigzag n) w hs hl hu).mono ?_
    rintro e w1 ⟨A1, c1, rfl, hr, hb⟩
    go_wp2_with fail
    go_ret
    exact ⟨A1, c1, ret_slice (by simp), hr, hb⟩

theorem RText_any (A : Option Addr) (cap : Nat) (l : List UInt8) (s : ByteArray) (w : World) (hs : Shows w w.heap.size A l) (hl : l.length + 10 + s.size ≤ 140737488355328) :
    Calls Tryz.prog 25 #[.slice A l.length cap, .string s] w fun e w' =>
      ∃ A' c', e = .returned (.slice A' (l ++ counted s.data.toList).length c') ∧ Owns w' w.heap.size (.slice A' (l ++ counted s.data.toList).length c') (l ++ counted s.data.toList) ∧ Below w.heap.size w w' := by
  have hu : Num.U64 s.size := show s.size < 18446744073709551616 by omega
  have hlen := uvarint_length64 hu.lt
  go_enter Tryz.func25, Tryz.ntmps25
  go_wp2_with fail
  refine (RU_any A cap l s.size w hs (by omega) hu).mono ?_
  rintro e w1 ⟨A1, c1, rfl, hr, hb⟩
  have HR := Lib.hid hr
  clear hr
  go_wp2_with (at_builtin; refine wpList_growS rfl (.tmp 11) (.tmp 12) _ _ rfl Tryz.underlying22 Tryz.underlying9 info5 w.heap.size (.slice A1 (l ++ uvarint s.size).length c1) (l ++ uvarint s.size) s (congrArg (fun n => Value.slice _ n _) (by simp)) rfl HR.out (by simp; omega) hb.size ?_; intro A2 c2 w2 hr2 hg2)
  have hsl : s.data.toList.length = s.size := str_len s
  have e : l ++ uvarint s.size ++ s.data.toList = l ++ counted s.data.toList := by rw [counted, hsl, List.append_assoc]
  have hb2 := grown_owns HR.out hg2 hb hb.size (Nat.le_refl _)
  rw [e] at hr2
  go_ret
  refine ⟨A2, c2, ret_slice ?_, hr2, hb2⟩
  rw [← e]
  simp [hsl]

theorem below_drewN {B : Nat} {a w : World} (h : Below B a w) (n : Nat) : Below B a (w.drewN n) := ⟨h.os, h.tape, h.output, h.size, h.block⟩
theorem take_snoc_eq {l p : List UInt8} {k : Nat} {c c' : UInt8} (h : l.take k = p.take k) (h1 : l[k]? = some c) (h2 : p[k]? = some c') (e : c = c') : l.take (k + 1) = p.take (k + 1) := by
  rw [List.take_add_one, List.take_add_one, h, h1, h2, e]
theorem ne_of_at {l p : List UInt8} {k : Nat} {c c' : UInt8} (h1 : l[k]? = some c) (h2 : p[k]? = some c') (e : c ≠ c') : l ≠ p := by
  rintro rfl
  rw [h1] at h2
  exact e (Option.some.inj h2)

set_option maxRecDepth 20000 in
set_option maxHeartbeats 400000 in
theorem Same_eqlen (A : Option Addr) (cap : Nat) (l : List UInt8) (C : Option Addr) (d : Nat) (p : List UInt8) (w : World) (hs : Shows w w.heap.size A l) (hp : Shows w w.heap.size C p) (n : Nat) (h1 : Hid (l.length = n)) (h2 : Hid (p.length = n)) (hn : n ≤ 9223372036854775807) :
    Calls Tryz.prog 8 #[.slice A n cap, .slice C n d] w fun e w' => e = .returned (.bool (decide (l = p))) ∧ Below w.heap.size w w' := by
  go_enter Tryz.func8, Tryz.ntmps8
  go_wp2_with fail
  go_loopw [5] (fun i wr => ∃ k : Nat, k ≤ n ∧ i = .int .i64 k ∧ Hid (l.take k = p.take k) ∧ Hid (Below w.heap.size w wr)) (fun i _ => n - (intOf i).toNat)
  case atStart => exact ⟨0, by omega, rfl, rfl, Below.refl _ _⟩
  case round =>
    obtain ⟨k, hk, rfl, he, hb⟩ := hrel
    by_cases hlt : k < n
    · obtain ⟨c, hc⟩ : ∃ c, l[k]? = some c := ⟨_, List.getElem?_eq_getElem (by rw [h1.out]; exact hlt)⟩
      obtain ⟨c', hc'⟩ : ∃ c, p[k]? = some c := ⟨_, List.getElem?_eq_getElem (by rw [h2.out]; exact hlt)⟩
      obtain ⟨b, off, rfl, _, hcell⟩ := (hs.below hb.out) (by rw [h1.out]; omega)
      obtain ⟨b', off', rfl, _, hcell'⟩ := (hp.below hb.out) (by rw [h2.out]; omega)
      have g := hcell _ _ hc
      have g' := hcell' _ _ hc'
      clear hcell hcell' hs hp
      obtain ⟨x, hx⟩ : ∃ x, x = c.toNat := ⟨_, rfl⟩
      obtain ⟨x', hx'⟩ : ∃ x, x = c'.toNat := ⟨_, rfl⟩
      rw [← hx] at g
      rw [← hx'] at g'
      have HC := Lib.hid hc
      have HC' := Lib.hid hc'
      have HX := Lib.hid hx
      have HX' := Lib.hid hx'
      clear hc hc' hx hx'
      by_cases hxx : x = x'
      · have E : Hid (l.take (k + 1) = p.take (k + 1)) := take_snoc_eq he.out HC.out HC'.out (by apply UInt8.toNat_inj.1; rw [← HX.out, ← HX'.out, hxx])
        subst hxx
        go_wp2_with fail
        go_quiet (fail)
        go_wp2_with fail
        go_roundw
        case rel => exact ⟨k + 1, by omega, by go_num, E, below_drewN hb.out _⟩
        case measure => simp [intOf]; omega
      · have E : Hid (l ≠ p) := ne_of_at HC.out HC'.out (by rintro rfl; exact hxx (by rw [HX.out, HX'.out]))
        have hne : ((x : Int) != (x' : Int)) = true := by simp; omega
        go_wp2_with fail
        go_quiet (fail)
        go_wp2_with fail
        go_ret
        exact ⟨by simp [E.out], below_drewN hb.out _⟩
    · obtain rfl : k = n := by omega
      go_wp2_with fail
      go_ret
      refine ⟨?_, hb.out⟩
      have e : l = p := by
        have := he.out
        rwa [List.take_of_length_le (by rw [h1.out]; exact Nat.le_refl _), List.take_of_length_le (by rw [h2.out]; exact Nat.le_refl _)] at this
      simp [e]

/-- Same: are the two lists of bytes one? (The lengths as the caller spells them.) -/
theorem Same_any (A : Option Addr) (n cap : Nat) (l : List UInt8) (C : Option Addr) (m d : Nat) (p : List UInt8) (w : World) (hs : Shows w w.heap.size A l) (hp : Shows w w.heap.size C p) (h1 : n = l.length) (h2 : m = p.length) (hn : n ≤ 9223372036854775807) (hm : m ≤ 9223372036854775807) :
    Calls Tryz.prog 8 #[.slice A n cap, .slice C m d] w fun e w' => e = .returned (.bool (decide (l = p))) ∧ Below w.heap.size w w' := by
  by_cases hlen : n = m
  · subst hlen
    exact Same_eqlen A cap l C d p w hs hp n h1.symm h2.symm hn
  · have E : Hid (l ≠ p) := by
      rintro rfl
      omega
    have hne : ((n : Int) != (m : Int)) = true := by simp; omega
    clear h1 h2 hlen
    go_enter Tryz.func8, Tryz.ntmps8
    go_wp2_with fail
    go_ret
    exact ⟨by simp [E.out], Below.refl _ _⟩

end Go.Proofs.YteaaadccjnmacaaGreatDoor
