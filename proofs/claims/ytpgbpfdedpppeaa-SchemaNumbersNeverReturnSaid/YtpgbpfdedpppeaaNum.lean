/-
  SchemaNumbersNeverReturn, walked.
-/
import Derived.Test.YtpgbpfdedpppeaaSanW
import Derived.Deep.QuietTactic
import Derived.BigQuiet
import Derived.Deep.CutRange
import Derived.Deep.DeepCutAuto
namespace Go.Proofs.Ytpgbpfdedpppeaa.num
open Go.RowKit Go.Proofs.Ytpgbpfdedpppeaa

theorem rem_nat (a n : Nat) : (a : Int) % ((n : Int) + 1) = ((a % (n + 1) : Nat) : Int) := (Int.natCast_emod a (n + 1)).symm
set_option maxHeartbeats 4000000 in
set_option maxRecDepth 20000 in
theorem walk (A : Option Addr) (cap : Nat) (L : List Ch) (a : Nat) (W : World) (hE : Chs W W.heap.size A L) (hrw : ∀ d ∈ L, RW d) (hlc : L.length ≤ cap) (hcm : cap ≤ 9223372036854775807) (ha : a < 256) :
    Calls Try.prog 5 #[.slice A L.length cap, .int .u8 (a : Int)] W fun e W' => e = .returned (.bool true) ∧ Below W.heap.size W W' := by
  have HE := Lib.hid hE
  have HR := Lib.hid hrw
  obtain ⟨M, hM⟩ : ∃ M, madeR L 40 = M := ⟨_, rfl⟩
  obtain ⟨k, hk⟩ : ∃ k, a % (M.length + 1) = k := ⟨_, rfl⟩
  have hkM : k ≤ M.length := by
    have := Nat.mod_lt a (show 0 < M.length + 1 by omega)
    omega
  have hML : M.length ≤ 40 := by
    rw [← hM]
    have := made_len (l := L.take 40) (s := Sc.new)
    rw [List.length_take] at this
    unfold madeR
    omega
  obtain ⟨h1, h2, h3, h4, h5⟩ := numbers (l := L) (n := 40) (k := k)
  have hMW := made_rw ok_new (fun c hc => hrw c (List.mem_of_mem_take hc)) (l := L.take 40)
  rw [show madeG Sc.new (L.take 40) = M from hM] at hMW
  rw [hM] at h1 h2 h3 h4 h5
  obtain ⟨⟨⟨fE, xE⟩, iE, eE⟩, hqE⟩ : ∃ r, aftP (M.take k) = r := ⟨_, rfl⟩
  obtain ⟨⟨⟨fL, xL⟩, iL, eL⟩, hqL⟩ : ∃ r, aftP M = r := ⟨_, rfl⟩
  rw [hqE] at h1 h3 h5
  rw [hqL] at h2 h4 h5
  obtain rfl : eE = 0 := h1
  obtain rfl : eL = 0 := h2
  have hlow : ∀ f ∈ fL, f.id < xL := h4.low
  have hxx : xE ≤ xL := h5.1
  have hkp : ∀ f ∈ fL, (∃ g ∈ fE, g.id = f.id) ∨ xE ≤ f.id := h5.2
  have hlE : fE.length ≤ 64 := h3.big.1
  have hlL : fL.length ≤ 64 := h4.big.1
  have HM := Lib.hid hM
  have HW := Lib.hid hMW
  have HQE := Lib.hid hqE
  have HQL := Lib.hid hqL
  have HLO := Lib.hid hlow
  have HKP := Lib.hid hkp
  have hl2 : L.length ≤ 9223372036854775807 := by omega
  have hz0 : ¬ ((M.length : Int) + 1 = 0) := by omega
  have hkl : k ≤ 1000000 := by omega
  have hMl : M.length ≤ 1000000 := by omega
  have hkt : k = (M.take k).length := by rw [List.length_take]; omega
  have HKT := Lib.hid hkt
  have tkA : Hid True := Lib.hid trivial
  have HKC : Hid (∀ c2 : Nat, (M.map Ch.cells).length ≤ c2 → (k : Int) ≤ (c2 : Int)) := fun c2 h => by
    rw [List.length_map] at h
    omega
  have hrem := rem_nat a M.length
  rw [hk] at hrem
  have HREM := Lib.hid hrem
  clear hkt hrem
  clear hE hrw hM hMW hqE hqL hlow hkp h3 h4 h5 hk
  go_enter Try.func5, Try.ntmps5
  go_upto_region 4 with (first | (go_at_call 9; refine (sanity_any _).mono ?_; rintro e w1 ⟨rfl, hb1⟩; have B1 := Lib.hid hb1; clear hb1) | (go_at_call 10; refine (RMade_any A L.length cap 40 L _ rfl (HE.out.up B1.out) hl2 (by decide) HR.out).mono ?_; rintro e w2 ⟨⟨A2, c2, rfl, ho2⟩, hb2⟩; rw [HM.out] at ho2; rw [HM.out]; have B2 := Lib.hid (below_step B1.out B1.out.size hb2); have O2 := Lib.hid (ho2.low (b := W.heap.size) B1.out.size); have hkc := HKC.out c2 ho2.row.2.1; clear hb2 ho2))
  rw [HREM.out]
  go_upto_region 6 with (first | (have tkX := tkA; go_at_call 11; refine (After_any A2 k c2 (M.take k) _ HKT.out ((show Chs w2 w2.heap.size A2 M from O2.out.row.2.2.2).take k) hkl (fun d hd => (HW.out d (List.mem_of_mem_take hd)).cw)).mono ?_; rintro e w3 ⟨⟨A3, n3, c3, rfl, hn3, ho3⟩, hb3⟩; rw [HQE.out] at hn3 ho3; rw [HQE.out]; obtain rfl : n3 = fE.length := hn3; have B3 := Lib.hid (below_step B2.out B2.out.size hb3); have O3 := Lib.hid (O2.out.up hb3); have P3 := Lib.hid (ho3.low (b := W.heap.size) B2.out.size); have tkB : Hid True := Lib.hid trivial; clear hb3 ho3 tkA tkX) | (have tkX := tkB; go_at_call 11; refine (After_any A2 M.length c2 M _ rfl ((show Chs w3 w3.heap.size A2 M from O3.out.row.2.2.2).up (al1 _ _)) hMl (fun d hd => (HW.out d hd).cw)).mono ?_; rintro e w4 ⟨⟨A4, n4, c4, rfl, hn4, ho4⟩, hb4⟩; rw [HQL.out] at hn4 ho4; rw [HQL.out]; obtain rfl : n4 = fL.length := hn4; have hw4 := (al1 w3 (.cells #[.slice A3 fE.length c3, .int .i64 xE] 30)).trans (hb4.mono (al1 w3 (.cells #[.slice A3 fE.length c3, .int .i64 xE] 30)).size); have E4 := Lib.hid ((CB.new w3 30 [.slice A3 fE.length c3, .int .i64 xE]).up hb4); have B4 := Lib.hid (below_step B3.out B3.out.size hw4); have P4 := Lib.hid (P3.out.up hw4); have L4 := Lib.hid (ho4.low (b := W.heap.size) (Nat.le_trans B3.out.size (al1 _ _).size)); have zE4 := E4.out.lt; have e40 := E4.out.cell 0 rfl; have e41 := E4.out.cell 1 rfl; clear hb4 hw4 ho4 tkB tkX))
  have BL := Lib.hid (CB.new w4 30 [.slice A4 fL.length c4, .int .i64 xL])
  have l0 := BL.out.cell 0 rfl
  have l1 := BL.out.cell 1 rfl
  have hdl : decide (xL < xE) = false := decide_eq_false (by omega)
  have zE : w3.heap.size < w4.heap.size := zE4
  go_wp2
  clear hdl
  go_loopw [14, 15, 16] (fun i kn j wr => ∃ q : Nat, q ≤ fL.length ∧ i = .int .i64 q ∧ Hid (CB wr w3.heap.size 30 [.slice A3 fE.length c3, .int .i64 xE]) ∧ Hid (CB wr w4.heap.size 30 [.slice A4 fL.length c4, .int .i64 xL]) ∧ Hid (Own 41 4 wr W.heap.size (.slice A3 fE.length c3) (fE.map Fd.cells)) ∧ Hid (Own 41 4 wr W.heap.size (.slice A4 fL.length c4) (fL.map Fd.cells)) ∧ Hid (Below W.heap.size W wr)) (fun i _ _ _ => fL.length - (intOf i).toNat)
  case atStart => exact ⟨0, by omega, rfl, Lib.hid (E4.out.alloc _), BL, Lib.hid (P4.out.alloc _), Lib.hid (L4.out.alloc _), Lib.hid (B4.out.alloc B4.out.size _)⟩
  case round =>
    obtain ⟨q, hq, rfl, hbE, hbL, hrE, hrL, hbel⟩ := hrel
    have e0 := hbE.out.cell 0 rfl
    have m0 := hbL.out.cell 0 rfl
    by_cases hlt : q < fL.length
    · have i1 : (q : Int) < (fL.length : Int) := by omega
      obtain ⟨f, hf⟩ := getD_of (l := fL) (k := q) hlt
      have hmem := Lib.hid (List.mem_of_getElem? hf)
      have HF := Lib.hid hf
      clear hf
      go_wp2
      go_loopw [15, 16] (fun kn j wx => ∃ (r : Nat) (kb : Bool), r ≤ fE.length ∧ kn = .bool kb ∧ j = .int .i64 r ∧ Hid (CB wx w3.heap.size 30 [.slice A3 fE.length c3, .int .i64 xE]) ∧ Hid (CB wx w4.heap.size 30 [.slice A4 fL.length c4, .int .i64 xL]) ∧ Hid (Own 41 4 wx W.heap.size (.slice A3 fE.length c3) (fE.map Fd.cells)) ∧ Hid (Own 41 4 wx W.heap.size (.slice A4 fL.length c4) (fL.map Fd.cells)) ∧ Hid (Below W.heap.size W wx) ∧ Hid (kb = (fE.take r).any (fun g => g.id == f.id))) (fun _ j _ => fE.length - (intOf j).toNat)
      case atStart => exact ⟨0, false, by omega, rfl, rfl, hbE, hbL, hrE, hrL, hbel, rfl⟩
      case round =>
        obtain ⟨r, kb, hr, rfl, rfl, hbE2, hbL2, hrE2, hrL2, hbel2, hkb⟩ := hrel
        have e0 := hbE2.out.cell 0 rfl
        have e1 := hbE2.out.cell 1 rfl
        have m0 := hbL2.out.cell 0 rfl
        have m1 := hbL2.out.cell 1 rfl
        obtain ⟨b, off, rfl, hb, d0, d1, d2, d3⟩ := (show Fds wr wr.heap.size A4 fL from hrL2.out.row.2.2.2).one HF.out
        by_cases hlr : r < fE.length
        · have i2 : (r : Int) < (fE.length : Int) := by omega
          obtain ⟨g, hg⟩ := getD_of (l := fE) (k := r) hlr
          have htk := Lib.hid (take_snoc hg)
          obtain ⟨b', off', rfl, hb', c0, c1, c2', c3'⟩ := (show Fds wr wr.heap.size A3 fE from hrE2.out.row.2.2.2).one hg
          clear hg
          cases kb with
          | true =>
            go_wp2
            go_quiet (fail)
            go_wp2
            go_roundw
            case rel => exact ⟨r + 1, true, by omega, rfl, by go_num, Lib.hid (show CB _ _ _ _ from hbE2.out), Lib.hid (show CB _ _ _ _ from hbL2.out), Lib.hid (hrE2.out.drewN _), Lib.hid (hrL2.out.drewN _), Lib.hid (below_drewN hbel2.out _), by show _ = _; rw [htk.out, List.any_append, ← hkb.out]; rfl⟩
            case measure => simp [intOf]; omega
          | false =>
            by_cases he : g.id = f.id
            · have e2 : (g.id == f.id) = true := by simpa using he
              go_wp2
              go_quiet (fail)
              go_wp2
              go_roundw
              case rel => exact ⟨r + 1, true, by omega, rfl, by go_num, Lib.hid (show CB _ _ _ _ from hbE2.out), Lib.hid (show CB _ _ _ _ from hbL2.out), Lib.hid (hrE2.out.drewN _), Lib.hid (hrL2.out.drewN _), Lib.hid (below_drewN hbel2.out _), by show _ = _; rw [htk.out, List.any_append, ← hkb.out]; simp [he]⟩
              case measure => simp [intOf]; omega
            · have e2 : (g.id == f.id) = false := by simpa using he
              go_wp2
              go_quiet (fail)
              go_wp2
              go_roundw
              case rel => exact ⟨r + 1, false, by omega, rfl, by go_num, Lib.hid (show CB _ _ _ _ from hbE2.out), Lib.hid (show CB _ _ _ _ from hbL2.out), Lib.hid (hrE2.out.drewN _), Lib.hid (hrL2.out.drewN _), Lib.hid (below_drewN hbel2.out _), by show _ = _; rw [htk.out, List.any_append, ← hkb.out]; simp [he]⟩
              case measure => simp [intOf]; omega
        · have i2 : ¬ (r : Int) < (fE.length : Int) := by omega
          have hany : kb = fE.any (fun g => g.id == f.id) := by
            have := hkb.out
            rwa [List.take_of_length_le (by omega)] at this
          have hge : decide (xL ≤ f.id) = false := decide_eq_false (by have := HLO.out f hmem.out; omega)
          cases kb with
          | true =>
            clear hany
            go_wp2
            go_quiet (fail)
            go_wp2
            go_roundw
            case rel => exact ⟨q + 1, by omega, by go_num, Lib.hid (show CB _ _ _ _ from hbE2.out), Lib.hid (show CB _ _ _ _ from hbL2.out), Lib.hid (hrE2.out.drewN _), Lib.hid (hrL2.out.drewN _), Lib.hid (below_drewN hbel2.out _)⟩
            case measure => simp [intOf]; omega
          | false =>
            have hlt2 : decide (f.id < xE) = false := by
              rcases HKP.out f hmem.out with ⟨g, h1, h2⟩ | h
              · exfalso
                have : fE.any (fun g => g.id == f.id) = true := List.any_eq_true.2 ⟨g, h1, by simpa using h2⟩
                rw [← hany] at this
                cases this
              · exact decide_eq_false (by omega)
            clear hany
            go_wp2
            go_quiet (fail)
            go_wp2
            go_roundw
            case rel => exact ⟨q + 1, by omega, by go_num, Lib.hid (show CB _ _ _ _ from hbE2.out), Lib.hid (show CB _ _ _ _ from hbL2.out), Lib.hid (hrE2.out.drewN _), Lib.hid (hrL2.out.drewN _), Lib.hid (below_drewN hbel2.out _)⟩
            case measure => simp [intOf]; omega
    · have i1 : ¬ (q : Int) < (fL.length : Int) := by omega
      go_wp2
      go_ret
      exact ⟨rfl, hbel.out⟩
end Go.Proofs.Ytpgbpfdedpppeaa.num
