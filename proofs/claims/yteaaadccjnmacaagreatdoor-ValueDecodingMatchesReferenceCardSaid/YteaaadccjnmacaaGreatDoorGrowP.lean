/-
  slices.Grow of a nil slice of bytes, slices.Concat of any rows of bytes: by contracts.
-/
import Derived.Test.YteaaadccjnmacaaGreatDoorWrite
import Derived.Shelf.Spec.SlicesGrow
import Derived.Test.YteaaadccjnmacaaGreatDoorLays
import Derived.Outline
namespace Go.Proofs.YteaaadccjnmacaaGreatDoor
open Go.RowKit Go.Lib Go.Shelf

theorem owns_nil (w : World) (B : Nat) : Owns w B (.slice none 0 0) [] := ⟨rfl, .inl ⟨rfl, rfl⟩⟩
theorem owns_lit (w : World) (x : UInt8) : Owns (w.alloc (.cells #[.int .u8 (x.toNat : Int)] 5)) w.heap.size (.slice (some ⟨w.heap.size, 0, none⟩) 1 1) [x] := by
  have h : Blk (w.alloc (.cells #[.int .u8 (x.toNat : Int)] 5)) w.heap.size [x] := by
    unfold Blk
    rw [heap_alloc_new]
    rfl
  exact h.owns (n := 1) (Nat.le_refl _) (by unfold maxLen; simp) (Nat.le_refl _)
theorem Owns.up {w w' : World} {B : Nat} {v : Value} {l : List UInt8} (h : Owns w B v l) (hb : Below w.heap.size w w') : Owns w' B v l := by
  refine ⟨h.1, ?_⟩
  rcases h.2 with h2 | ⟨g, cap, cur, e, hb2, hg, r⟩
  · exact .inl h2
  · exact .inr ⟨g, cap, cur, e, hb2, (hb.block g (Array.getElem?_eq_some_iff.1 hg).1).trans hg, r⟩
theorem Owns.low {w : World} {B B' : Nat} {v : Value} {l : List UInt8} (h : Owns w B v l) (hle : B' ≤ B) : Owns w B' v l := by
  refine ⟨h.1, ?_⟩
  rcases h.2 with h2 | ⟨g, cap, cur, e, hb2, r⟩
  · exact .inl h2
  · exact .inr ⟨g, cap, cur, e, Nat.le_trans hle hb2, r⟩

theorem Grow_any (n : Nat) (w : World) (hn : n ≤ 140737488355328) :
    Calls Tryz.prog 43 #[.slice none 0 0, .int .i64 (n : Int)] w fun e w' => ∃ A c, e = .returned (.slice A 0 c) ∧ Owns w' w.heap.size (.slice A 0 c) [] ∧ Below w.heap.size w w' := by
  by_cases h0 : n = 0
  · subst h0
    refine (Any8.slices_Grow_room Tryz.grow none 0 0 0 w (Nat.le_refl _) (by omega) (by omega) (by omega)).mono ?_
    rintro e w' ⟨rfl, rfl⟩
    exact ⟨none, 0, rfl, owns_nil _ _, Below.refl _ _⟩
  · obtain ⟨i, hi, hz, hs, hb⟩ := info_parts info5
    refine (Any8.slices_Grow_grow Tryz.grow i (.int .u8 0) hi hz (by omega) none 0 0 n [] w (Nat.le_refl _) (by omega) (by rw [hb]; omega) (by omega) (by simp) (fun _ => rfl) (fun a h => by cases h)).mono ?_
    rintro e w' ⟨rfl, rfl⟩
    have hg := grownCap_ge w (0 + n) 0 5
    have hm := grownCap_le_maxLen w (0 + n) 0 5 (by unfold maxLen; omega)
    refine ⟨_, _, rfl, ⟨rfl, .inr ⟨w.heap.size, _, _, rfl, Nat.le_refl _, heap_alloc_new w.drew _, Nat.zero_le _, hm, ?_, rfl⟩⟩, (Below.refl _ _).drew.alloc (Nat.le_refl _) _⟩
    rw [Array.size_append, Array.size_append, size_zeroCells, size_zeroCells]
    show 0 + (0 + n - 0) * 1 + (grownCap w (0 + n) 0 5 - (0 + n)) * 1 = grownCap w (0 + n) 0 5 * 1
    omega

/-- rows of bytes: addresses, capacities, bytes -/
abbrev Pt := Option Addr × Nat × List UInt8
def flatP (ps : List Pt) : List UInt8 := (ps.map (·.2.2)).flatten
theorem flatP_snoc (ps : List Pt) (k : Nat) (p : Pt) (h : ps[k]? = some p) : flatP (ps.take (k + 1)) = flatP (ps.take k) ++ p.2.2 := by
  unfold flatP
  rw [List.take_add_one, h]
  simp
theorem flatP_app (a b : List Pt) : flatP (a ++ b) = flatP a ++ flatP b := by simp [flatP]
theorem flatP_le (ps : List Pt) (k : Nat) : (flatP (ps.take k)).length ≤ (flatP ps).length := by
  have h := flatP_app (ps.take k) (ps.drop k)
  rw [List.take_append_drop] at h
  rw [h, List.length_append]
  omega
theorem flatP_step (ps : List Pt) (k : Nat) (p : Pt) (h : ps[k]? = some p) : (flatP (ps.take k)).length + p.2.2.length ≤ (flatP ps).length := by
  have h1 := flatP_le ps (k + 1)
  rw [flatP_snoc ps k p h] at h1
  simpa using h1
structure PtAt (w : World) (B g : Nat) (ps : List Pt) : Prop where
  at_ : ∀ i p, ps[i]? = some p → w.cell? ⟨g, i, none⟩ = some (.slice p.1 p.2.2.length p.2.1) ∧ Shows w B p.1 p.2.2
set_option maxHeartbeats 1000000 in
theorem Concat_any (g n : Nat) (ps : List Pt) (w : World) (hn : n = ps.length) (hg : g < w.heap.size) (hp : PtAt w w.heap.size g ps) (hlen : n ≤ 1000000) (htot : (flatP ps).length ≤ 140737488355328) :
    Calls Tryz.prog 23 #[.slice (some ⟨g, 0, none⟩) n n] w fun e w' => ∃ A c, e = .returned (.slice A (flatP ps).length c) ∧ Owns w' w.heap.size (.slice A (flatP ps).length c) (flatP ps) ∧ Below w.heap.size w w' := by
  have HP := Lib.hid hp
  have HN := Lib.hid hn
  clear hp hn
  go_enter Tryz.func23, Tryz.ntmps23
  go_wp2_with fail
  go_loop [3, 5, 11] (fun z _ i => ∃ k : Nat, k ≤ n ∧ i = .int .i64 k ∧ z = .int .i64 (flatP (ps.take k)).length) (fun _ _ i => n - (RowKit.intOf i).toNat)
  case atStart => exact ⟨0, Nat.zero_le _, rfl, rfl⟩
  case round =>
    obtain ⟨k, hk, rfl, rfl⟩ := hrel
    by_cases hlt : k < n
    · obtain ⟨p, hpk⟩ : ∃ p, ps[k]? = some p := ⟨_, List.getElem?_eq_getElem (by rw [← HN.out]; exact hlt)⟩
      obtain ⟨hc, -⟩ := HP.out.at_ k p hpk
      have h1 := flatP_step ps k p hpk
      have h2 := flatP_snoc ps k p hpk
      have H2 : Hid ((flatP (ps.take (k + 1))).length = (flatP (ps.take k)).length + p.2.2.length) := by show _ = _; rw [h2, List.length_append]
      have j1 : (k : Int) < (n : Int) := by omega
      have j2 : 0 ≤ ((flatP (ps.take k)).length : Int) + (p.2.2.length : Int) := by omega
      clear hpk h2
      generalize (flatP (ps.take k)).length = a at *
      generalize p.2.2.length = b at *
      go_wp2_with fail
      go_round
      case rel => exact ⟨k + 1, by omega, by go_num, by rw [H2.out]; go_num⟩
      case measure => simp [RowKit.intOf]; omega
    · have hkn : k = n := by omega
      have j1 : ¬ (k : Int) < (n : Int) := by omega
      have hall : Hid (ps.take k = ps) := by show _ = _; rw [hkn, HN.out, List.take_length]
      rw [hall.out]
      clear hall hk hlt
      subst hkn
      go_wp2_with (go_at_call 43; refine (Grow_any _ w htot).mono ?_; rintro e w1 ⟨A1, c1, rfl, ho1, hb1⟩)
      have HO1 : Hid (Owns w1 w.heap.size (.slice A1 0 c1) (flatP (ps.take 0))) := ho1
      have HB1 := Lib.hid hb1
      clear ho1 hb1
      go_loopw [6, 8, 27] (fun v _ i wr => ∃ (j : Nat) (A' : Option Addr) (c' : Nat), j ≤ k ∧ i = .int .i64 j ∧ v = .slice A' (flatP (ps.take j)).length c' ∧ Hid (Owns wr w.heap.size (.slice A' (flatP (ps.take j)).length c') (flatP (ps.take j))) ∧ Hid (Below w.heap.size w wr)) (fun _ _ i _ => k - (RowKit.intOf i).toNat)
      case atStart => exact ⟨0, A1, c1, Nat.zero_le _, rfl, rfl, HO1, HB1⟩
      case round =>
        clear HO1 HB1
        obtain ⟨j, A', c', hj, rfl, rfl, ho, hb⟩ := hrel
        by_cases hlt : j < k
        · obtain ⟨p, hpk⟩ : ∃ p, ps[j]? = some p := ⟨_, List.getElem?_eq_getElem (by rw [← HN.out]; exact hlt)⟩
          obtain ⟨hc, hs⟩ := HP.out.at_ j p hpk
          have h1 := flatP_step ps j p hpk
          have H2 : Hid (flatP (ps.take (j + 1)) = flatP (ps.take j) ++ p.2.2) := flatP_snoc ps j p hpk
          have hc' := (hb.out.cell (p := ⟨g, j, none⟩) hg).trans hc
          have HS : Hid (Shows wr w.heap.size p.1 p.2.2) := hs.below hb.out
          have j1 : (j : Int) < (k : Int) := by omega
          obtain ⟨pa, pc, pl⟩ := p
          clear hpk hc hs
          go_wp2_with (at_builtin; refine wpList_growB rfl (.tmp 31) (.tmp 32) _ rfl Tryz.underlying22 info5 w.heap.size _ _ pa pl pc w.heap.size rfl rfl ho.out HS.out (by simp only at h1; omega) hb.out.size ?_; intro A2 c2 w2 ho2 hg2)
          have HB2 : Hid (Below w.heap.size w w2) := grown_owns ho.out hg2 hb.out hb.out.size (Nat.le_refl _)
          have HO2 : Hid (Owns w2 w.heap.size (.slice A2 (flatP (ps.take (j + 1))).length c2) (flatP (ps.take (j + 1)))) := by
            show Owns _ _ _ _
            rw [H2.out]
            exact ho2
          clear ho2 hg2
          go_wp2_with fail
          go_roundw
          case rel => exact ⟨j + 1, A2, c2, by omega, by go_num, by rw [H2.out, List.length_append], HO2, HB2⟩
          case measure => simp [RowKit.intOf]; omega
        · have hjk : j = k := by omega
          have j1 : ¬ (j : Int) < (k : Int) := by omega
          have hall : Hid (ps.take j = ps) := by show _ = _; rw [hjk, HN.out, List.take_length]
          rw [hall.out] at ho ⊢
          clear hall
          go_wp2_with fail
          go_ret
          exact ⟨A', c', rfl, ho.out, hb.out⟩
end Go.Proofs.YteaaadccjnmacaaGreatDoor
