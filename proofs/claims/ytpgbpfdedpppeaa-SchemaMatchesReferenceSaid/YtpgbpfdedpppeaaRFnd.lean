/-
  The reference's Leaves, by a contract; its Find: for valid schemas.
-/
import Derived.Test.YtpgbpfdedpppeaaRPth
import Derived.Test.YtpgbpfdedpppeaaFindP
import Derived.Test.YtpgbpfdedpppeaaRPls
import Derived.Deep.RegionHeldLaw
namespace Go.Proofs.Ytpgbpfdedpppeaa
open Go.RowKit

set_option maxHeartbeats 1000000 in
set_option maxRecDepth 20000 in
theorem RLeaves_any (A : Option Addr) (n c : Nat) (x : Int) (l : List Fd) (w : World) (hn : n = l.length) (hs : Fds w w.heap.size A l) (hl : n ≤ 1000000) :
    Calls Try.prog 18 #[.agg #[.slice A n c, .int .i64 x]] w fun e w' => (∃ A' c', e = .returned (.slice A' (leafL l).length c') ∧ Own 3 1 w' w.heap.size (.slice A' (leafL l).length c') (ic (leafL l))) ∧ Below w.heap.size w w' := by
  have HN := Lib.hid hn
  have HS := Lib.hid hs
  clear hn hs
  have S0 := Lib.hid ((CB.new w 30 [.slice A n c, .int .i64 x]).alloc (.cells #[] 3))
  have B0 := Lib.hid (al2 w (.cells #[.slice A n c, .int .i64 x] 30) (.cells #[] 3))
  go_enter Try.func18, Try.ntmps18
  go_wp2
  go_loopw [3, 4] (fun v j wr => ∃ k : Nat, k ≤ n ∧ j = .int .i64 k ∧ Hid (CB wr w.heap.size 30 [.slice A n c, .int .i64 x]) ∧ Hid (Own 3 1 wr w.heap.size v (ic (leafL (l.take k)))) ∧ Hid (Below w.heap.size w wr)) (fun _ j _ => n - (intOf j).toNat)
  case atStart => exact ⟨0, by omega, rfl, S0, own_empty1 w _ _ rfl, B0⟩
  case round =>
    obtain ⟨k, hk, rfl, hb, hown, hbel⟩ := hrel
    have s0 := hb.out.cell 0 rfl
    have hz := hbel.out.size
    obtain ⟨A3, c3', hv3, hlc, hc3⟩ := hown.out.slice
    rw [ic_len] at hv3 hlc
    by_cases hlt : k < n
    · have i1 : (k : Int) < (n : Int) := by omega
      obtain ⟨f, hf⟩ := getD_of (l := l) (k := k) (by rw [← HN.out]; exact hlt)
      obtain ⟨b, off, rfl, hbl, c0, c1, c2, c3⟩ := (HS.out.below hbel.out).one hf
      have ht := Lib.hid (take_snoc hf)
      have hll : (leafL (l.take k)).length ≤ 1000000 := by have := leaf_len (l.take k); simp at this; omega
      clear hf
      by_cases hy : f.ty = 6
      · have y2 : (f.ty != 6) = false := by simpa using hy
        have HE := Lib.hid (leaf_yes ht.out hy)
        clear hy
        go_wp2
        go_roundw
        case rel => exact ⟨k + 1, by omega, by go_num, hb, by rw [HE.out]; exact hown, hbel⟩
        case measure => simp [intOf]; omega
      · have y2 : (f.ty != 6) = true := by simpa using hy
        have HE := Lib.hid (leaf_no ht.out hy)
        have HV := Lib.hid hv3
        clear hy hv3
        go_wp2_with (first | (at_builtin; refine push_int (wr := wr) rfl (.tmp 20) (.tmp 27) rfl w.heap.size _ (leafL (l.take k)) f.id wr.heap.size rfl rfl rfl rfl hown.out hll hz ?_; intro A7 c7 w7 ho7 hg7 hb7; have HO7 := Lib.hid ho7; have HB7 := Lib.hid hb7; have HS7 := Lib.hid (hb.out.grown hg7 (Own.ne hown.out hb.out (by decide))); clear ho7 hb7 hg7))
        go_roundw
        case rel => exact ⟨k + 1, by omega, by go_num, HS7, by rw [HE.out]; exact HO7, Lib.hid (hbel.out.trans HB7.out)⟩
        case measure => simp [intOf]; omega
    · have i1 : ¬ (k : Int) < (n : Int) := by omega
      have e : l.take k = l := List.take_of_length_le (by rw [← HN.out]; omega)
      rw [e] at hv3 hown hlc
      subst hv3
      go_wp2
      go_ret
      exact ⟨⟨_, _, rfl, hown.out⟩, hbel.out⟩
theorem fnd_yes {q : Fd → ByteArray} {p : ByteArray} {l : List Fd} {k : Nat} {f : Fd} {z : Option Int} (hd : l.drop k = f :: l.drop (k + 1)) (h : findGo q p (l.drop k) = z) (he : sameB (q f) p = true) : z = some f.id := by
  rw [← h, hd, findGo, if_pos he]
theorem fnd_no {q : Fd → ByteArray} {p : ByteArray} {l : List Fd} {k : Nat} {f : Fd} {z : Option Int} (hd : l.drop k = f :: l.drop (k + 1)) (h : findGo q p (l.drop k) = z) (he : ¬ sameB (q f) p = true) : findGo q p (l.drop (k + 1)) = z := by
  rw [← h, hd, findGo, if_neg he]
set_option maxHeartbeats 2000000 in
set_option maxRecDepth 20000 in
theorem RFind_ok (A : Option Addr) (n c : Nat) (x : Int) (l : List Fd) (p : ByteArray) (w : World) (hn : n = l.length) (hs : Fds w w.heap.size A l) (ho : Ok ⟨l, x⟩) :
    Calls Try.prog 23 #[.agg #[.slice A n c, .int .i64 x], .string p] w fun e w' => e = .returned (.tuple #[.int .i64 ((findGo (fun f => pathOf l f.id) p l).getD 0), .bool (findGo (fun f => pathOf l f.id) p l).isSome]) ∧ Below w.heap.size w w' := by
  have HN := Lib.hid hn
  have HS := Lib.hid hs
  have HO := Lib.hid ho
  have hl : n ≤ 64 := by rw [hn]; exact ho.big.1
  obtain ⟨z, hz⟩ : ∃ z, findGo (fun f => pathOf l f.id) p l = z := ⟨_, rfl⟩
  rw [hz]
  have HZ := Lib.hid hz
  have S0 := Lib.hid (CB.new w 30 [.slice A n c, .int .i64 x])
  have B0 := Lib.hid (al1 w (.cells #[.slice A n c, .int .i64 x] 30))
  clear hn hs ho hz
  go_enter Try.func23, Try.ntmps23
  go_wp2
  go_loopw [6] (fun j wr => ∃ k : Nat, k ≤ n ∧ j = .int .i64 k ∧ Hid (CB wr w.heap.size 30 [.slice A n c, .int .i64 x]) ∧ Hid (Below w.heap.size w wr) ∧ Hid (findGo (fun f => pathOf l f.id) p (l.drop k) = z)) (fun j _ => n - (intOf j).toNat)
  case atStart => exact ⟨0, by omega, rfl, S0, B0, HZ⟩
  case round =>
    obtain ⟨k, hk, rfl, hb, hbel, hgo⟩ := hrel
    have s0 := hb.out.cell 0 rfl
    have s1 := hb.out.cell 1 rfl
    by_cases hlt : k < n
    · have i1 : (k : Int) < (n : Int) := by omega
      obtain ⟨f, hf⟩ := getD_of (l := l) (k := k) (by rw [← HN.out]; exact hlt)
      have hd := Lib.hid (drop_cons hf)
      obtain ⟨b, off, rfl, hbl, d0, d1, d2, d3⟩ := (HS.out.below hbel.out).one hf
      obtain ⟨u, hu⟩ : ∃ u, pathOf l f.id = u := ⟨_, rfl⟩
      have HU := Lib.hid hu
      have hbw : b < wr.heap.size := Nat.lt_of_lt_of_le hbl hbel.out.size
      have HSS : Hid (∀ X, Below wr.heap.size wr X → X.cell? ⟨w.heap.size, 0, none⟩ = some (.slice (some ⟨b, off, none⟩) n c) ∧ X.cell? ⟨w.heap.size, 1, none⟩ = some (.int .i64 x) ∧ X.cell? ⟨b, off + k * 4, none⟩ = some (.int .i64 f.id)) := fun X hX =>
        ⟨(hb.out.up hX).cell 0 rfl, (hb.out.up hX).cell 1 rfl, (hX.cell (p := ⟨b, off + k * 4, none⟩) hbw).trans d0⟩
      clear hf hu
      by_cases he : sameB u p = true
      · have HG := Lib.hid (fnd_yes hd.out hgo.out (by rw [HU.out]; exact he))
        have he2 : (u.toList == p.toList) = true := he
        clear he
        go_wp2
        go_region_held_law (fun w' => w'.cell? ⟨w.heap.size, 0, none⟩ = some (.slice (some ⟨b, off, none⟩) n c) ∧ w'.cell? ⟨w.heap.size, 1, none⟩ = some (.int .i64 x) ∧ w'.cell? ⟨b, off + k * 4, none⟩ = some (.int .i64 f.id))
          (first | exact ⟨s0, s1, d0⟩ | exact HSS.out _ hw7 | exact HSS.out _ hw7.drew | go_keep)
          (first | (go_at_call 22; refine (RPath_ok (some ⟨b, off, none⟩) n c x l f.id _ HN.out (HS.out.up (hbel.out.trans (show Below w.heap.size wr _ by first | exact Below.refl _ _ | exact (bd _).mono hbel.out.size))) HO.out).mono ?_; rintro e w7 ⟨rfl, hb7⟩; rw [HU.out]; have hw7 : Below wr.heap.size wr w7 := (by first | exact hb7 | exact (bd _).trans (hb7.mono (bd _).size)); clear hb7))
        have B7 := Lib.hid (below_step hbel.out hbel.out.size hw7)
        obtain ⟨z0, z1, z2⟩ := HSS.out _ hw7
        clear s0 s1 d0 d1 d2 d3
        go_wp2
        go_ret2
        rw [HG.out]
        exact ⟨rfl, B7.out⟩
      · have HG := Lib.hid (fnd_no hd.out hgo.out (by rw [HU.out]; exact he))
        have he2 : (u.toList == p.toList) = false := by simpa [sameB] using he
        clear he
        go_wp2
        go_region_held_law (fun w' => w'.cell? ⟨w.heap.size, 0, none⟩ = some (.slice (some ⟨b, off, none⟩) n c) ∧ w'.cell? ⟨w.heap.size, 1, none⟩ = some (.int .i64 x) ∧ w'.cell? ⟨b, off + k * 4, none⟩ = some (.int .i64 f.id))
          (first | exact ⟨s0, s1, d0⟩ | exact HSS.out _ hw7 | exact HSS.out _ hw7.drew | go_keep)
          (first | (go_at_call 22; refine (RPath_ok (some ⟨b, off, none⟩) n c x l f.id _ HN.out (HS.out.up (hbel.out.trans (show Below w.heap.size wr _ by first | exact Below.refl _ _ | exact (bd _).mono hbel.out.size))) HO.out).mono ?_; rintro e w7 ⟨rfl, hb7⟩; rw [HU.out]; have hw7 : Below wr.heap.size wr w7 := (by first | exact hb7 | exact (bd _).trans (hb7.mono (bd _).size)); clear hb7))
        have S7 := Lib.hid (hb.out.up hw7)
        have B7 := Lib.hid (below_step hbel.out hbel.out.size hw7)
        clear s0 s1 d0 d1 d2 d3
        go_wp2
        go_roundw
        case rel => exact ⟨k + 1, by omega, by go_num, S7, B7, HG⟩
        case measure => simp [intOf]; omega
    · have i1 : ¬ (k : Int) < (n : Int) := by omega
      have hz : z = none := by
        rw [← hgo.out, List.drop_of_length_le (by rw [← HN.out]; omega)]
        rfl
      subst hz
      go_wp2
      go_ret2
      exact ⟨rfl, hbel.out⟩
end Go.Proofs.Ytpgbpfdedpppeaa
