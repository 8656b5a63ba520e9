/-
  The program's Encode, by a contract.
-/
import Derived.Test.YteaaadccjnmacaaGreatDoorValP
import Derived.Test.YteaaadccjnmacaaGreatDoorGrowP
namespace Go.Proofs.YteaaadccjnmacaaGreatDoor
open Go.RowKit Go.Lib

/-- the encoding of a value; nothing if it is not valid -/
def encL (v : Va) (t : Int) : List UInt8 :=
  if okV v t = true then (if v.b = true then [0] else if t = 4 then [1] ++ counted v.s.data.toList else [1] ++ uvarint (zigzag v.n)) else []
theorem uv_len (v : Va) (h : v.Fine) : (uvarint (zigzag v.n)).length ≤ 10 := by
  have h1 := Num.zigzag_u64 v.n h.lo h.hi
  exact uvarint_length64 h1.lt
theorem encL_len (v : Va) (t : Int) (h : v.Fine) : (encL v t).length ≤ 211 := by
  unfold encL
  split
  · rename_i hk
    split
    · simp
    · rename_i hb
      split
      · rename_i ht
        have h200 : v.s.size ≤ 200 := by
          unfold okV at hk
          rw [if_neg hb] at hk
          subst ht
          simp at hk
          exact hk.2
        have hc := counted_len v.s.data.toList (by rw [str_len]; omega)
        rw [str_len] at hc
        simp only [List.length_append, List.length_cons, List.length_nil]
        omega
      · have := uv_len v h
        simp only [List.length_append, List.length_cons, List.length_nil]
        omega
  · simp

set_option maxHeartbeats 1000000 in
theorem encoding_b (b : Bool) (n : Int) (s : ByteArray) (t : Int) (w : World) (hv : Va.Fine ⟨b, n, s⟩) : Calls Tryz.prog 24 #[.agg #[.bool b, .int .i64 n, .string s], .int .i64 t] w fun e w' =>
    ∃ A c, e = .returned (.slice A (encL ⟨b, n, s⟩ t).length c) ∧ Owns w' w.heap.size (.slice A (encL ⟨b, n, s⟩ t).length c) (encL ⟨b, n, s⟩ t) ∧ Below w.heap.size w w' := by
  obtain ⟨z, hz⟩ : ∃ z, okV ⟨b, n, s⟩ t = z := ⟨_, rfl⟩
  have HV := Lib.hid (fun w1 => Valid_any ⟨b, n, s⟩ t z w1 hz hv.len)
  unfold Va.val at HV
  simp only at HV
  cases z with
  | false =>
    have he : encL ⟨b, n, s⟩ t = [] := by unfold encL; rw [hz]; rfl
    rw [he]
    clear hz he
    go_enter Tryz.func24, Tryz.ntmps24
    go_wp2_with (go_at_call 6; refine (HV.out _).mono ?_; rintro e w1 ⟨rfl, hb1⟩; have HB1 := Lib.hid hb1; clear hb1)
    go_ret
    exact ⟨none, 0, rfl, owns_nil _ _, (val_al _ _).trans (HB1.out.mono (by simp))⟩
  | true =>
    cases b with
    | true =>
      have he : encL ⟨true, n, s⟩ t = [0] := by unfold encL; rw [hz]; rfl
      rw [he]
      clear hz he
      go_enter Tryz.func24, Tryz.ntmps24
      go_wp2_with (go_at_call 6; refine (HV.out _).mono ?_; rintro e w1 ⟨rfl, hb1⟩; have HB1 := Lib.hid hb1; obtain ⟨hc, hf⟩ : w1.cell? ⟨w.heap.size, 0, none⟩ = some (.bool true) ∧ True := ⟨(hb1.cell (p := ⟨w.heap.size, 0, none⟩) (by simp)).trans (by simp), trivial⟩; clear hb1)
      go_ret
      have hle : w.heap.size ≤ w1.heap.size := by have := HB1.out.size; simp at this; omega
      exact ⟨_, _, rfl, (owns_lit w1 0).low hle, ((val_al _ _).trans (HB1.out.mono (by simp))).alloc hle _⟩
    | false =>
      by_cases ht : t = 4
      · have he : encL ⟨false, n, s⟩ t = [1] ++ counted s.data.toList := by unfold encL; rw [hz, ht]; rfl
        have hlen : s.size ≤ 200 := by
          unfold okV at hz
          subst ht
          simp at hz
          exact hz.2
        rw [he]
        subst ht
        clear hz he hv
        have HT : Hid (∀ w1 : World, Calls Tryz.prog 44 #[.slice (some ⟨w1.heap.size, 0, none⟩) 1 1, .string s] (w1.alloc (.cells #[.int .u8 1] 5)) fun e w' =>
            ∃ A c, e = .returned (.slice A ([1] ++ counted s.data.toList).length c) ∧ Owns w' w1.heap.size (.slice A ([1] ++ counted s.data.toList).length c) ([1] ++ counted s.data.toList) ∧ Below w1.heap.size w1 w') := fun w1 => by
          have ho := owns_lit w1 1
          have hs := ho.shows.2.2
          refine (Text_any (some ⟨w1.heap.size, 0, none⟩) 1 [1] s _ hs (by simp; omega)).mono ?_
          rintro e w' ⟨g, c, rfl, hr, hb⟩
          exact ⟨_, c, rfl, (hr.owns).low (by simp), (val_al _ _).trans (hb.mono (by simp))⟩
        go_enter Tryz.func24, Tryz.ntmps24
        go_wp2_with (first
          | (go_at_call 6; refine (HV.out _).mono ?_; rintro e w1 ⟨rfl, hb1⟩; have HB1 := Lib.hid hb1; obtain ⟨hc, hc2⟩ : w1.cell? ⟨w.heap.size, 0, none⟩ = some (.bool false) ∧ w1.cell? ⟨w.heap.size, 2, none⟩ = some (.string s) := ⟨(hb1.cell (p := ⟨w.heap.size, 0, none⟩) (by simp)).trans (by simp), (hb1.cell (p := ⟨w.heap.size, 2, none⟩) (by simp)).trans (by simp)⟩; have hlt : w.heap.size < w1.heap.size := (by have := hb1.size; simp at this; omega); clear hb1)
          | (go_at_call 44; refine (HT.out w1).mono ?_; rintro e w2 ⟨A, c, rfl, ho, hb2⟩; have HO := Lib.hid ho; have HB2 := Lib.hid hb2; clear ho hb2))
        go_ret
        exact ⟨A, c, rfl, HO.out.low (by omega), ((val_al _ _).trans (HB1.out.mono (by simp))).trans (HB2.out.mono (by omega))⟩
      · have he : encL ⟨false, n, s⟩ t = [1] ++ uvarint (zigzag n) := by unfold encL; rw [hz, if_neg ht]; rfl
        have hlo := hv.lo
        have hhi := hv.hi
        simp only at hlo hhi
        rw [he]
        clear hz he hv
        have HT : Hid (∀ w1 : World, Calls Tryz.prog 45 #[.slice (some ⟨w1.heap.size, 0, none⟩) 1 1, .int .i64 n] (w1.alloc (.cells #[.int .u8 1] 5)) fun e w' =>
            ∃ A c, e = .returned (.slice A ([1] ++ uvarint (zigzag n)).length c) ∧ Owns w' w1.heap.size (.slice A ([1] ++ uvarint (zigzag n)).length c) ([1] ++ uvarint (zigzag n)) ∧ Below w1.heap.size w1 w') := fun w1 => by
          have ho := owns_lit w1 1
          have hs := ho.shows.2.2
          refine (S_any (some ⟨w1.heap.size, 0, none⟩) 1 [1] n _ hs (by simp) hlo hhi).mono ?_
          rintro e w' ⟨g, c, rfl, hr, hb⟩
          exact ⟨_, c, rfl, (hr.owns).low (by simp), (val_al _ _).trans (hb.mono (by simp))⟩
        clear hlo hhi
        go_enter Tryz.func24, Tryz.ntmps24
        go_wp2_with (first
          | (go_at_call 6; refine (HV.out _).mono ?_; rintro e w1 ⟨rfl, hb1⟩; have HB1 := Lib.hid hb1; obtain ⟨hc, hc2⟩ : w1.cell? ⟨w.heap.size, 0, none⟩ = some (.bool false) ∧ w1.cell? ⟨w.heap.size, 1, none⟩ = some (.int .i64 n) := ⟨(hb1.cell (p := ⟨w.heap.size, 0, none⟩) (by simp)).trans (by simp), (hb1.cell (p := ⟨w.heap.size, 1, none⟩) (by simp)).trans (by simp)⟩; have hlt : w.heap.size < w1.heap.size := (by have := hb1.size; simp at this; omega); clear hb1)
          | (go_at_call 45; refine (HT.out w1).mono ?_; rintro e w2 ⟨A, c, rfl, ho, hb2⟩; have HO := Lib.hid ho; have HB2 := Lib.hid hb2; clear ho hb2))
        go_ret
        exact ⟨A, c, rfl, HO.out.low (by omega), ((val_al _ _).trans (HB1.out.mono (by simp))).trans (HB2.out.mono (by omega))⟩

set_option maxHeartbeats 1000000 in
theorem Encode_b (A : Option Addr) (N cap : Nat) (l : List UInt8) (b : Bool) (n : Int) (s : ByteArray) (t : Int) (w : World) (hN : N = l.length) (hl : Shows w w.heap.size A l) (hlen : N ≤ 140737488355000) (hv : Va.Fine ⟨b, n, s⟩) : Calls Tryz.prog 9 #[.slice A N cap, .agg #[.bool b, .int .i64 n, .string s], .int .i64 t] w fun e w' =>
    ∃ A' c, e = .returned (.slice A' (l ++ encL ⟨b, n, s⟩ t).length c) ∧ Owns w' w.heap.size (.slice A' (l ++ encL ⟨b, n, s⟩ t).length c) (l ++ encL ⟨b, n, s⟩ t) ∧ Below w.heap.size w w' := by
  have hE := encL_len ⟨b, n, s⟩ t hv
  have HV := Lib.hid (fun w1 => encoding_b b n s t w1 hv)
  obtain ⟨m, hm⟩ : ∃ m, m = encL ⟨b, n, s⟩ t := ⟨_, rfl⟩
  rw [← hm] at HV hE ⊢
  have HC : Hid (∀ (w1 : World) (A2 : Option Addr) (c2 : Nat), Below w.heap.size w w1 → Owns w1 w.heap.size (.slice A2 m.length c2) m → Calls Tryz.prog 23 #[.slice (some ⟨w1.heap.size, 0, none⟩) 2 2] (w1.alloc (.cells #[.slice A N cap, .slice A2 m.length c2] 22)) fun e w' =>
      ∃ A' c, e = .returned (.slice A' (l ++ m).length c) ∧ Owns w' w1.heap.size (.slice A' (l ++ m).length c) (l ++ m) ∧ Below w1.heap.size w1 w') := fun w1 A2 c2 hb ho => by
    have hbl := val_al w1 (.cells #[.slice A N cap, .slice A2 m.length c2] 22)
    have hs1 : Shows (w1.alloc (.cells #[.slice A N cap, .slice A2 m.length c2] 22)) (w1.alloc (.cells #[.slice A N cap, .slice A2 m.length c2] 22)).heap.size A l := (hl.up hb).up hbl
    have hs2 := ho.shows.2.2.up hbl
    have k := Concat_any w1.heap.size 2 [(A, cap, l), (A2, c2, m)] (w1.alloc (.cells #[.slice A N cap, .slice A2 m.length c2] 22)) rfl (by simp) ⟨fun i p hi => ?_⟩ (by omega) (by simp [flatP]; omega)
    · have hf : flatP [(A, cap, l), (A2, c2, m)] = l ++ m := by simp [flatP]
      rw [hf] at k
      refine k.mono ?_
      rintro e w' ⟨A', c, rfl, h1, h2⟩
      exact ⟨A', c, rfl, h1.low (by simp), hbl.trans (h2.mono (by simp))⟩
    · match i, hi with
      | 0, hi =>
        obtain rfl : (A, cap, l) = p := by simpa using hi
        exact ⟨by rw [← hN]; simp, hs1⟩
      | 1, hi =>
        obtain rfl : (A2, c2, m) = p := by simpa using hi
        exact ⟨by simp, hs2⟩
      | i + 2, hi => simp at hi
  clear hm hE hl hN hv
  go_enter Tryz.func9, Tryz.ntmps9
  go_wp2_with (first
    | (go_at_call 24; refine (HV.out _).mono ?_; rintro e w1 ⟨A2, c2, rfl, ho1, hb1⟩; have HB1 : Hid (Below w.heap.size w w1) := (val_al _ _).trans (hb1.mono (by simp)); have HO1 : Hid (Owns w1 w.heap.size (.slice A2 m.length c2) m) := ho1.low (by simp); clear hb1 ho1)
    | (go_at_call 23; refine (HC.out w1 A2 c2 HB1.out HO1.out).mono ?_; rintro e w2 ⟨A3, c3, rfl, ho2, hb2⟩; have HB2 := Lib.hid hb2; have HO2 := Lib.hid ho2; clear hb2 ho2))
  go_ret
  have hle := HB1.out.size
  exact ⟨A3, c3, by rw [List.length_append]; rfl, HO2.out.low hle, HB1.out.trans (HB2.out.mono hle)⟩
/-- Encode. -/
theorem Encode_any (A : Option Addr) (N cap : Nat) (l : List UInt8) (v : Va) (t : Int) (w : World) (hN : N = l.length) (hl : Shows w w.heap.size A l) (hlen : N ≤ 140737488355000) (hv : v.Fine) : Calls Tryz.prog 9 #[.slice A N cap, v.val, .int .i64 t] w fun e w' =>
    ∃ A' c, e = .returned (.slice A' (l ++ encL v t).length c) ∧ Owns w' w.heap.size (.slice A' (l ++ encL v t).length c) (l ++ encL v t) ∧ Below w.heap.size w w' :=
  Encode_b A N cap l v.b v.n v.s t w hN hl hlen hv
end Go.Proofs.YteaaadccjnmacaaGreatDoor
