/-
  SchemaPathsIdentify, walked.
-/
import Derived.Test.YtpgbpfdedpppeaaSanW
import Derived.Test.YtpgbpfdedpppeaaPthM
import Derived.Deep.RegionHeldLaw
import Derived.Deep.CutRange
import Derived.Deep.DeepCutAuto
namespace Go.Proofs.Ytpgbpfdedpppeaa.pth
open Go.RowKit Go.Proofs.Ytpgbpfdedpppeaa

theorem small_nm {b : ByteArray} (h : namB b = true) : b.size ≤ 1000000 := by
  unfold namB at h
  simp only [Bool.and_eq_true, decide_eq_true_iff] at h
  omega
theorem ne_empty {a : ByteArray} (h : a ≠ ⟨#[]⟩) : a.toList.isEmpty = false := by
  rw [Lib.toList_data]
  cases h' : a.data.toList with
  | nil =>
    exfalso
    apply h
    obtain ⟨d⟩ := a
    have : d = #[] := Array.toList_eq_nil_iff.1 h'
    rw [this]
  | cons _ _ => rfl
theorem ne_toList {a b : ByteArray} (h : a ≠ b) : (a.toList == b.toList) = false := by
  cases hb : (a.toList == b.toList) with
  | false => rfl
  | true => exact absurd (sameB_iff.1 hb) h
set_option maxHeartbeats 4000000 in
set_option maxRecDepth 20000 in
theorem walk (A : Option Addr) (cap : Nat) (L : List Ch) (W : World) (hE : Chs W W.heap.size A L) (hrw : ∀ d ∈ L, RW d) (hlc : L.length ≤ cap) (hcm : cap ≤ 9223372036854775807) :
    Calls Try.prog 6 #[.slice A L.length cap] W fun e W' => e = .returned (.bool true) ∧ Below W.heap.size W W' := by
  have HE := Lib.hid hE
  have HR := Lib.hid hrw
  obtain ⟨M, hM⟩ : ∃ M, madeR L 40 = M := ⟨_, rfl⟩
  have hML : M.length ≤ 40 := by
    rw [← hM]
    have := made_len (l := L.take 40) (s := Sc.new)
    rw [List.length_take] at this
    unfold madeR
    omega
  obtain ⟨_, h2, _, h4, _⟩ := numbers (l := L) (n := 40) (k := 0)
  have hMW := made_rw ok_new (fun c hc => hrw c (List.mem_of_mem_take hc)) (l := L.take 40)
  rw [show madeG Sc.new (L.take 40) = M from hM] at hMW
  rw [hM] at h2 h4
  obtain ⟨⟨⟨fs, x⟩, iL, eL⟩, hqL⟩ : ∃ r, aftP M = r := ⟨_, rfl⟩
  rw [hqL] at h2 h4
  obtain rfl : eL = 0 := h2
  have hlL : fs.length ≤ 64 := h4.big.1
  have HM := Lib.hid hM
  have HW := Lib.hid hMW
  have HQL := Lib.hid hqL
  have HOK := Lib.hid h4
  have hsz : ∀ f ∈ fs, f.nm.size ≤ 1000000 := fun f hf => small_nm (h4.nam.1 f hf)
  have HSZ := Lib.hid hsz
  have hl2 : L.length ≤ 9223372036854775807 := by omega
  have hMl : M.length ≤ 1000000 := by omega
  have hfl : fs.length ≤ 9223372036854775807 := by omega
  clear hE hrw hM hMW hqL h4 hsz
  go_enter Try.func6, Try.ntmps6
  go_wp2_with (first | (go_at_call 9; refine (sanity_any _).mono ?_; rintro e w1 ⟨rfl, hb1⟩; have B1 := Lib.hid hb1; clear hb1) | (go_at_call 10; refine (RMade_any A L.length cap 40 L _ rfl (HE.out.up B1.out) hl2 (by decide) HR.out).mono ?_; rintro e w2 ⟨⟨A2, c2, rfl, ho2⟩, hb2⟩; rw [HM.out] at ho2; rw [HM.out]; have B2 := Lib.hid (below_step B1.out B1.out.size hb2); have O2 := Lib.hid (ho2.low (b := W.heap.size) B1.out.size); clear hb2 ho2) | (go_at_call 11; refine (After_any A2 M.length c2 M _ rfl (show Chs w2 w2.heap.size A2 M from O2.out.row.2.2.2) hMl (fun d hd => (HW.out d hd).cw)).mono ?_; rintro e w3 ⟨⟨A3, n3, c3, rfl, hn3, ho3⟩, hb3⟩; rw [HQL.out] at hn3 ho3; rw [HQL.out]; obtain rfl : n3 = fs.length := hn3; have B3 := Lib.hid (below_step B2.out B2.out.size hb3); have P3 := Lib.hid (ho3.low (b := W.heap.size) B2.out.size); clear hb3 ho3))
  go_loopw [7, 8, 9, 10, 11] (fun i _ _ _ _ wr => ∃ q : Nat, q ≤ fs.length ∧ i = .int .i64 q ∧ Hid (CB wr w3.heap.size 30 [.slice A3 fs.length c3, .int .i64 x]) ∧ Hid (Own 41 4 wr W.heap.size (.slice A3 fs.length c3) (fs.map Fd.cells)) ∧ Hid (Below W.heap.size W wr)) (fun i _ _ _ _ _ => fs.length - (intOf i).toNat)
  case atStart => exact ⟨0, by omega, rfl, Lib.hid (CB.new _ _ _), Lib.hid (P3.out.alloc _), Lib.hid (B3.out.alloc B3.out.size _)⟩
  case round =>
    obtain ⟨q, hq, rfl, hb, hr, hbel⟩ := hrel
    have e0 := hb.out.cell 0 rfl
    have e1 := hb.out.cell 1 rfl
    by_cases hlt : q < fs.length
    · have i1 : (q : Int) < (fs.length : Int) := by omega
      obtain ⟨f, hf⟩ := getD_of (l := fs) (k := q) hlt
      have HF := Lib.hid hf
      have hmem := Lib.hid (List.mem_of_getElem? hf)
      obtain ⟨b, off, hA, hbl, d0, d1, d2, d3⟩ := (show Fds wr wr.heap.size A3 fs from hr.out.row.2.2.2).one hf
      subst hA
      obtain ⟨p, hp⟩ : ∃ p, pathOf fs f.id = p := ⟨_, rfl⟩
      have HP := Lib.hid hp
      have hpn := ne_empty (path_ne HOK.out hmem.out)
      have HFD := Lib.hid (find_path HOK.out hmem.out (fun k hk => hk) hmem.out)
      simp only [] at hpn
      rw [hp] at hpn
      rw [hp] at HFD
      have HSS : Hid (∀ X, Below wr.heap.size wr X → X.cell? ⟨w3.heap.size, 0, none⟩ = some (.slice (some ⟨b, off, none⟩) fs.length c3) ∧ X.cell? ⟨w3.heap.size, 1, none⟩ = some (.int .i64 x) ∧ X.cell? ⟨b, off + q * 4, none⟩ = some (.int .i64 f.id)) := fun X hX =>
        ⟨(hb.out.up hX).cell 0 rfl, (hb.out.up hX).cell 1 rfl, (hX.cell (p := ⟨b, off + q * 4, none⟩) hbl).trans d0⟩
      clear hf hp
      go_wp2
      go_region_held_law (fun w' => w'.cell? ⟨w3.heap.size, 0, none⟩ = some (.slice (some ⟨b, off, none⟩) fs.length c3) ∧ w'.cell? ⟨w3.heap.size, 1, none⟩ = some (.int .i64 x) ∧ w'.cell? ⟨b, off + q * 4, none⟩ = some (.int .i64 f.id))
        (first | exact ⟨e0, e1, d0⟩ | exact HSS.out _ hw7 | exact HSS.out _ hw7.drew | go_keep)
        (first | (go_at_call 24; refine (Path_any (some ⟨b, off, none⟩) fs.length c3 x fs f.id _ rfl ((show Fds wr wr.heap.size (some ⟨b, off, none⟩) fs from hr.out.row.2.2.2).up (show Below wr.heap.size wr _ by first | exact Below.refl _ _ | exact bd _)) hfl HSZ.out).mono ?_; rintro e w7 ⟨rfl, hb7⟩; rw [HP.out]; have hw7 : Below wr.heap.size wr w7 := (by first | exact hb7 | exact (bd _).trans (hb7.mono (bd _).size)); clear hb7))
      have B7 := Lib.hid (below_step hbel.out hbel.out.size hw7)
      have S7 := Lib.hid (hb.out.up hw7)
      have O7 := Lib.hid (hr.out.up hw7)
      obtain ⟨z0, z1, z2⟩ := HSS.out _ hw7
      have hzb : b < w7.heap.size := Nat.lt_of_lt_of_le hbl hw7.size
      have HZB := Lib.hid (show ∀ X, Below w7.heap.size w7 X → X.cell? ⟨b, off + q * 4, none⟩ = some (.int .i64 f.id) from fun X hX => (hX.cell (p := ⟨b, off + q * 4, none⟩) hzb).trans z2)
      have w8t : Hid True := Lib.hid trivial
      clear e0 e1 d0 d1 d2 d3
      go_wp2_with (go_at_call 21; refine (Find_any (some ⟨b, off, none⟩) fs.length c3 x fs p _ rfl ((show Fds w7 w7.heap.size (some ⟨b, off, none⟩) fs from O7.out.row.2.2.2).up (show Below w7.heap.size w7 _ by first | exact Below.refl _ _ | exact bd _)) hfl HSZ.out).mono ?_; rintro e w8 ⟨rfl, hb8⟩; rw [HFD.out]; have hw8 : Below w7.heap.size w7 w8 := (by first | exact hb8 | exact (bd _).trans (hb8.mono (bd _).size)); have B8 := Lib.hid (below_step B7.out B7.out.size hw8); have S8 := Lib.hid (S7.out.up hw8); have O8 := Lib.hid (O7.out.up hw8); have y0 := S8.out.cell 0 rfl; have y1 := S8.out.cell 1 rfl; have y2 := HZB.out _ hw8; clear hb8 hw8)
      go_loopw [11] (fun j wr => ∃ r : Nat, r ≤ q ∧ j = .int .i64 r ∧ Hid (CB wr w3.heap.size 30 [.slice (some ⟨b, off, none⟩) fs.length c3, .int .i64 x]) ∧ Hid (Own 41 4 wr W.heap.size (.slice (some ⟨b, off, none⟩) fs.length c3) (fs.map Fd.cells)) ∧ Hid (Below W.heap.size W wr)) (fun j _ => q - (intOf j).toNat)
      case atStart => exact ⟨0, by omega, rfl, S8, O8, B8⟩
      case round =>
        obtain ⟨r, hrq, rfl, hb2, hr2, hbel2⟩ := hrel
        have e0 := hb2.out.cell 0 rfl
        have e1 := hb2.out.cell 1 rfl
        by_cases hlr : r < q
        · have i2 : (r : Int) < (q : Int) := by omega
          have i3 : (r : Int) < (fs.length : Int) := by omega
          obtain ⟨g, hg⟩ := getD_of (l := fs) (k := r) (by omega)
          obtain ⟨b', off', hA', hbl', d0, d1, d2, d3⟩ := (show Fds wr wr.heap.size (some ⟨b, off, none⟩) fs from hr2.out.row.2.2.2).one hg
          simp only [Option.some.injEq, Addr.mk.injEq, and_true] at hA'
          obtain ⟨rfl, rfl⟩ := hA'
          have hgf : g.id ≠ f.id := by
            have h1 := HF.out
            have hpw := HOK.out.srt
            obtain ⟨hr1, er⟩ := List.getElem?_eq_some_iff.1 hg
            obtain ⟨hq1, eq⟩ := List.getElem?_eq_some_iff.1 h1
            have := List.pairwise_iff_getElem.1 hpw r q hr1 hq1 hlr
            simp only at this
            rw [er, eq] at this
            omega
          have hgm := List.mem_of_getElem? hg
          obtain ⟨p', hp'⟩ : ∃ p', pathOf fs g.id = p' := ⟨_, rfl⟩
          have HP' := Lib.hid hp'
          have hne : (p'.toList == p.toList) = false := ne_toList (fun h => hgf (path_inj HOK.out hgm hmem.out (by simp only [hp', HP.out, h])))
          have HSS2 : Hid (∀ X, Below wr.heap.size wr X → X.cell? ⟨w3.heap.size, 0, none⟩ = some (.slice (some ⟨b, off, none⟩) fs.length c3) ∧ X.cell? ⟨w3.heap.size, 1, none⟩ = some (.int .i64 x) ∧ X.cell? ⟨b, off + r * 4, none⟩ = some (.int .i64 g.id)) := fun X hX =>
            ⟨(hb2.out.up hX).cell 0 rfl, (hb2.out.up hX).cell 1 rfl, (hX.cell (p := ⟨b, off + r * 4, none⟩) hbl').trans d0⟩
          clear hg hp' hgf hgm
          go_wp2
          go_region_held_law (fun w' => w'.cell? ⟨w3.heap.size, 0, none⟩ = some (.slice (some ⟨b, off, none⟩) fs.length c3) ∧ w'.cell? ⟨w3.heap.size, 1, none⟩ = some (.int .i64 x) ∧ w'.cell? ⟨b, off + r * 4, none⟩ = some (.int .i64 g.id))
            (first | exact ⟨e0, e1, d0⟩ | exact HSS2.out _ hw9 | exact HSS2.out _ hw9.drew | go_keep)
            (first | (go_at_call 24; refine (Path_any (some ⟨b, off, none⟩) fs.length c3 x fs g.id _ rfl ((show Fds wr wr.heap.size (some ⟨b, off, none⟩) fs from hr2.out.row.2.2.2).up (show Below wr.heap.size wr _ by first | exact Below.refl _ _ | exact bd _)) hfl HSZ.out).mono ?_; rintro e w9 ⟨rfl, hb9⟩; rw [HP'.out]; have hw9 : Below wr.heap.size wr w9 := (by first | exact hb9 | exact (bd _).trans (hb9.mono (bd _).size)); clear hb9))
          have S9 := Lib.hid (hb2.out.up hw9)
          have O9 := Lib.hid (hr2.out.up hw9)
          have B9 := Lib.hid (below_step hbel2.out hbel2.out.size hw9)
          clear e0 e1 d0 d1 d2 d3
          go_wp2
          go_roundw
          case rel => exact ⟨r + 1, by omega, by go_num, S9, O9, B9⟩
          case measure => simp [intOf]; omega
        · have i2 : ¬ (r : Int) < (q : Int) := by omega
          go_wp2
          go_roundw
          case rel => exact ⟨q + 1, by omega, by go_num, hb2, hr2, hbel2⟩
          case measure => simp [intOf]; omega
    · have i1 : ¬ (q : Int) < (fs.length : Int) := by omega
      go_wp2_with (go_at_call 21; refine (Find_any A3 fs.length c3 x fs nsf _ rfl (show Fds wr wr.heap.size A3 fs from hr.out.row.2.2.2) hfl HSZ.out).mono ?_; rintro e w7 ⟨rfl, hb7⟩; rw [no_such HOK.out (fun k hk => hk)]; have B7 := Lib.hid (below_step hbel.out hbel.out.size hb7); clear hb7)
      go_ret
      exact ⟨rfl, B7.out⟩
end Go.Proofs.Ytpgbpfdedpppeaa.pth
