/-
  The reference's ReadS, ReadBytes, ReadText, each by a contract: they hand back what the program's do.
-/
import Derived.Test.YteaaadccjnmacaaGreatDoorRefR
namespace Go.Proofs.YteaaadccjnmacaaGreatDoor
open Go.RowKit
open Go.Lib (uvarint zigzag)

theorem RReadS_any (A : Option Addr) (cap : Nat) (l : List UInt8) (a : Int) (w : World) (hs : Shows w w.heap.size A l) (hl : l.length ≤ 9223372036854775807) :
    Calls Tryz.prog 36 #[.slice A l.length cap, .int .i64 a] w fun e w' => e = retS (Num.readU l a) ∧ w = w' := by
  rcases Num.readU_cases l a with ⟨n, k, hv⟩ | hv | hv | hv
  · have hu := Num.readU_u64 hv
    have HV := Lib.hid hv
    have hn := hu.lt
    have hq : Hid (IntKind.u64.wrap ((n : Int) / 2) = ((n / 2 : Nat) : Int)) := by
      show _ = _
      rw [IntWalk.u64_in _ ⟨by omega, by omega⟩]
      omega
    have hw : Hid (wrap64 ((n / 2 : Nat) : Int) = ((n / 2 : Nat) : Int)) := by
      show _ = _
      rw [IntWalk.wrap64_in _ ⟨by omega, by omega⟩]
    have hw1 : Hid (wrap64 (-((n / 2 : Nat) : Int)) = -((n / 2 : Nat) : Int)) := by
      show _ = _
      rw [IntWalk.wrap64_in _ ⟨by omega, by omega⟩]
    have hw2 : Hid (wrap64 (-((n / 2 : Nat) : Int) - 1) = -((n / 2 : Nat) : Int) - 1) := by
      show _ = _
      rw [IntWalk.wrap64_in _ ⟨by omega, by omega⟩]
    clear hv hu hn
    by_cases hodd : (n : Int) % 2 = 1
    · go_enter Tryz.func36, Tryz.ntmps36
      go_wp2_with fail
      refine (RReadU_any A cap l a w hs hl).mono ?_
      rintro e w1 ⟨rfl, rfl⟩
      rw [HV.out]
      unfold retU
      go_wp2_with fail
      go_ret3
      refine ⟨?_, rfl⟩
      rw [HV.out]
      refine retS_mk ?_ rfl rfl
      unfold Num.zag
      rw [if_pos (by omega), hq.out, hw.out, hw1.out, hw2.out]
    · go_enter Tryz.func36, Tryz.ntmps36
      go_wp2_with fail
      refine (RReadU_any A cap l a w hs hl).mono ?_
      rintro e w1 ⟨rfl, rfl⟩
      rw [HV.out]
      unfold retU
      go_wp2_with fail
      go_ret3
      refine ⟨?_, rfl⟩
      rw [HV.out]
      refine retS_mk ?_ rfl rfl
      unfold Num.zag
      rw [if_neg (by omega), hq.out, hw.out]
  all_goals
    have HV := Lib.hid hv
    clear hv
    go_enter Tryz.func36, Tryz.ntmps36
    go_wp2_with fail
    refine (RReadU_any A cap l a w hs hl).mono ?_
    rintro e w1 ⟨rfl, rfl⟩
    rw [HV.out]
    unfold retU
    go_wp2_with fail
    go_ret3
    exact ⟨by rw [HV.out]; rfl, rfl⟩

theorem ret_bytes {a : Option Addr} {n m c : Nat} {x y x' y' : Int} (hn : n = m) (hx : x = x') (hy : y = y') : Ending.returned (.tuple #[.slice a n c, .int .i64 x, .int .i64 y]) = Ending.returned (.tuple #[.slice a m c, .int .i64 x', .int .i64 y']) := by rw [hn, hx, hy]

/-- The three ways: an error of ReadU; the length is too large or the bytes are short; the bytes. -/
theorem RReadBytes_any (A : Option Addr) (cap : Nat) (l : List UInt8) (a : Int) (w : World) (hs : Shows w w.heap.size A l) (hc : l.length ≤ cap) (hl : cap ≤ 9223372036854775807) :
    Calls Tryz.prog 56 #[.slice A l.length cap, .int .i64 a] w fun e w' =>
      ∃ B c, e = .returned (.tuple #[.slice B (Num.taken l a).length c, .int .i64 (Num.span l a).2.1, .int .i64 (Num.span l a).2.2]) ∧ Owns w' w.heap.size (.slice B (Num.taken l a).length c) (Num.taken l a) ∧ Below w.heap.size w w' := by
  rcases Num.readU_cases l a with ⟨n, k, hv⟩ | hv | hv | hv
  · have HV := Lib.hid hv
    have hk := Num.readU_le hv
    by_cases hbig : 1048576 < n
    · have HS := Lib.hid (Num.span_big hv hbig)
      have HT := Lib.hid (Num.taken_err HS.out)
      clear hv
      go_enter Tryz.func56, Tryz.ntmps56
      go_wp2_with fail
      refine (RReadU_any A cap l a w hs (by omega)).mono ?_
      rintro e w1 ⟨rfl, rfl⟩
      rw [HV.out]
      unfold retU
      go_wp2_with fail
      go_ret3
      refine ⟨none, 0, by rw [HS.out, HT.out]; rfl, ?_, Below.refl _ _⟩
      rw [HT.out]
      exact ⟨rfl, .inl ⟨rfl, rfl⟩⟩
    by_cases hshort : l.length < k + n
    · have HS := Lib.hid (Num.span_short hv hbig hshort)
      have HT := Lib.hid (Num.taken_err HS.out)
      clear hv
      go_enter Tryz.func56, Tryz.ntmps56
      go_wp2_with fail
      refine (RReadU_any A cap l a w hs (by omega)).mono ?_
      rintro e w1 ⟨rfl, rfl⟩
      rw [HV.out]
      unfold retU
      go_wp2_with fail
      go_ret3
      refine ⟨none, 0, by rw [HS.out, HT.out]; rfl, ?_, Below.refl _ _⟩
      rw [HT.out]
      exact ⟨rfl, .inl ⟨rfl, rfl⟩⟩
    · have HS := Lib.hid (Num.span_ok hv hbig hshort)
      have HT := Lib.hid (Num.taken_ok HS.out)
      have htl : Hid (((l.drop k).take n).length = n) := by
        show _ = _
        simp
        omega
      have htl2 : Hid (k + n - k = ((l.drop k).take n).length) := by
        show _ = _
        rw [htl.out]
        omega
      clear hv
      by_cases hcs : cap = k
      · have hcut : Shows w w.heap.size A ((l.drop k).take n) := Shows.cutEnd (by omega) hc hcs
        obtain rfl : k = cap := hcs.symm
        go_enter Tryz.func56, Tryz.ntmps56
        go_wp2_with fail
        refine (RReadU_any A k l a w hs (by omega)).mono ?_
        rintro e w1 ⟨rfl, rfl⟩
        rw [HV.out]
        unfold retU
        go_wp2_with (at_builtin; refine wpList_growB rfl (.tmp 29) (.tmp 36) _ rfl Tryz.underlying22 info5 w.heap.size (.slice (some ⟨w.heap.size, 0, none⟩) 0 0) [] _ ((l.drop k).take n) _ w.heap.size rfl (congrArg (fun m => Value.slice _ m _) htl2.out) (owns_empty w _ rfl) (hcut.below ((Below.refl _ _).alloc (Nat.le_refl _) _)) (by rw [htl.out]; simp; omega) (by simp) ?_; intro A1 c1 w1 ho1 hg1)
        have hb1 : Below w.heap.size w w1 := grown_owns (owns_empty w _ rfl) hg1 ((Below.refl _ _).alloc (Nat.le_refl _) _) (by simp) (Nat.le_refl _)
        rw [List.nil_append] at ho1
        go_ret3
        refine ⟨A1, c1, ?_, by rw [HT.out]; exact ho1, hb1⟩
        rw [HS.out, HT.out]
        exact ret_bytes (by simp <;> omega) (show _ = ((k + n : Nat) : Int) by omega) rfl
      · have hcut := hs.cutAt (k := k) (n := n) (by omega) hc hcs
        go_enter Tryz.func56, Tryz.ntmps56
        go_wp2_with fail
        refine (RReadU_any A cap l a w hs (by omega)).mono ?_
        rintro e w1 ⟨rfl, rfl⟩
        rw [HV.out]
        unfold retU
        go_wp2_with (at_builtin; refine wpList_growB rfl (.tmp 29) (.tmp 36) _ rfl Tryz.underlying22 info5 w.heap.size (.slice (some ⟨w.heap.size, 0, none⟩) 0 0) [] _ ((l.drop k).take n) _ w.heap.size rfl (congrArg (fun m => Value.slice _ m _) htl2.out) (owns_empty w _ rfl) (hcut.below ((Below.refl _ _).alloc (Nat.le_refl _) _)) (by rw [htl.out]; simp; omega) (by simp) ?_; intro A1 c1 w1 ho1 hg1)
        have hb1 : Below w.heap.size w w1 := grown_owns (owns_empty w _ rfl) hg1 ((Below.refl _ _).alloc (Nat.le_refl _) _) (by simp) (Nat.le_refl _)
        rw [List.nil_append] at ho1
        go_ret3
        refine ⟨A1, c1, ?_, by rw [HT.out]; exact ho1, hb1⟩
        rw [HS.out, HT.out]
        exact ret_bytes (by simp <;> omega) (show _ = ((k + n : Nat) : Int) by omega) rfl
  all_goals
    have HV := Lib.hid hv
    have HS := Lib.hid (Num.span_err hv (by omega))
    have HT := Lib.hid (Num.taken_err HS.out)
    clear hv
    go_enter Tryz.func56, Tryz.ntmps56
    go_wp2_with fail
    refine (RReadU_any A cap l a w hs (by omega)).mono ?_
    rintro e w1 ⟨rfl, rfl⟩
    rw [HV.out]
    unfold retU
    go_wp2_with fail
    go_ret3
    refine ⟨none, 0, by rw [HS.out, HT.out]; rfl, ?_, Below.refl _ _⟩
    rw [HT.out]
    exact ⟨rfl, .inl ⟨rfl, rfl⟩⟩

theorem RReadText_any (A : Option Addr) (cap : Nat) (l : List UInt8) (a : Int) (w : World) (hs : Shows w w.heap.size A l) (hc : l.length ≤ cap) (hl : cap ≤ 9223372036854775807) :
    Calls Tryz.prog 35 #[.slice A l.length cap, .int .i64 a] w fun e w' =>
      e = .returned (.tuple #[.string ⟨(Num.taken l a).toArray⟩, .int .i64 (Num.span l a).2.1, .int .i64 (Num.span l a).2.2]) ∧ Below w.heap.size w w' := by
  go_enter Tryz.func35, Tryz.ntmps35
  go_wp2_with fail
  refine (RReadBytes_any A cap l a w hs hc hl).mono ?_
  rintro e w1 ⟨B, c, rfl, ho, hb⟩
  have hconv := run_string_shows (P := Tryz.prog) w1 22 9 Tryz.underlying22 Tryz.underlying5 Tryz.underlying9 (c := c) rfl ho.shows.2.2
  go_wp2_with fail
  go_ret3
  exact ⟨rfl, hb⟩

end Go.Proofs.YteaaadccjnmacaaGreatDoor
