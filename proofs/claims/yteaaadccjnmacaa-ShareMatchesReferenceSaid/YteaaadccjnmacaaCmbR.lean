/-
  The reference's Combine, by contracts.
-/
import Derived.Test.YteaaadccjnmacaaVlsR
import Derived.Test.YteaaadccjnmacaaSrtR
import Derived.Test.YteaaadccjnmacaaSameR
namespace Go.Proofs.Yteaaadccjnmacaa
open Go.RowKit

theorem lies_of {l L : List Sh} {need n : Nat} {f : Nat → List UInt8} (h : Lies l need n f) (hs : ∀ s ∈ L, s ∈ l) : Lies L need n f := fun i hi => ⟨(h i hi).1, fun s hL => (h i hi).2 s (hs s hL)⟩
theorem fits_same {l L : List Sh} {need n : Nat} (hd : (l.map (·.1)).Nodup) (hD : (L.map (·.1)).Nodup) (h1 : need ≤ l.length) (h2 : need ≤ L.length) (hn : ∀ s ∈ l, s.2.length = n) (hs : ∀ s ∈ L, s ∈ l) (h : Fits l need n) :
    Fits L need n ∧ interpB (L.take need) 0 n = interpB (l.take need) 0 n := by
  obtain ⟨f, hf⟩ := poly_of_fits hd h1 h
  have hF := lies_of hf hs
  exact ⟨fits_of_poly hD h2 (fun s hL => hn s (hs s hL)) hF, (interp_of_poly hD h2 hF 0).trans (interp_of_poly hd h1 hf 0).symm⟩
theorem nodup_le {α : Type} {L : List α} : ∀ {l : List α}, L.Nodup → (∀ a ∈ L, a ∈ l) → L.length ≤ l.length := by
  induction L with
  | nil => intro l _ _; simp
  | cons a L ih =>
    intro l hd hs
    obtain ⟨l1, l2, rfl⟩ := List.append_of_mem (hs a (by simp))
    have := ih (l := l1 ++ l2) (List.nodup_cons.1 hd).2 (fun b hb => by
      have h1 := hs b (by simp [hb])
      have hne : b ≠ a := fun e => (List.nodup_cons.1 hd).1 (e ▸ hb)
      simpa [hne] using h1)
    simp at this ⊢
    omega
theorem len_same {l L : List Sh} (hd : (l.map (·.1)).Nodup) (hs : ∀ s ∈ l, s ∈ L) : l.length ≤ L.length := by
  have h : l.Nodup := by
    have := List.pairwise_map.1 hd
    exact this.imp (fun h e => h (by rw [e]))
  exact nodup_le h hs

theorem RComb_bad (v : Value) (need : Int) (w : World) (hok : ¬ (1 ≤ need ∧ need ≤ 255)) :
    Calls Try.prog 10 #[v, .int .i64 need] w fun e w' => e = .returned (.tuple #[.slice none 0 0, .int .i64 1]) ∧ w' = w := by
  by_cases i1 : need < 1
  · clear hok
    go_enter Try.func10, Try.ntmps10
    go_wp2
    go_ret2
    exact ⟨rfl, rfl⟩
  · have i2 : need > 255 := by omega
    clear hok
    go_enter Try.func10, Try.ntmps10
    go_wp2
    go_ret2
    exact ⟨rfl, rfl⟩
theorem RComb_wf (A : Option Addr) (N cap : Nat) (l : List Sh) (need : Int) (w : World) (hN : N = l.length) (hs : ShL w w.heap.size A l) (hl : N ≤ 1000000) (hn : ∀ s ∈ l, s.2.length ≤ 140737488351232) (h1 : 1 ≤ need) (h2 : need ≤ 255) (hw : wfB l = false ∨ (N : Int) < need) :
    Calls Try.prog 10 #[.slice A N cap, .int .i64 need] w fun e w' => e = .returned (.tuple #[.slice none 0 0, .int .i64 40]) ∧ Below w.heap.size w w' := by
  have HW := Lib.hid (WellR_any A N cap l w hN hs hl hn)
  have i1 : ¬ need < 1 := by omega
  have i3 : ¬ need > 255 := by omega
  clear hN hs hn h1 h2
  cases hb : wfB l with
  | false =>
    rw [hb] at HW
    clear hw
    go_enter Try.func10, Try.ntmps10
    go_wp2_with (go_at_call 29; refine HW.out.mono ?_; rintro e w1 ⟨rfl, hb1⟩; have HB1 := Lib.hid hb1; clear hb1)
    go_ret2
    exact ⟨rfl, HB1.out⟩
  | true =>
    rw [hb] at HW
    have i4 : (N : Int) < need := by
      rcases hw with h | h
      · rw [hb] at h; cases h
      · exact h
    clear hw
    go_enter Try.func10, Try.ntmps10
    go_wp2_with (go_at_call 29; refine HW.out.mono ?_; rintro e w1 ⟨rfl, hb1⟩; have HB1 := Lib.hid hb1; clear hb1)
    go_ret2
    exact ⟨rfl, HB1.out⟩

set_option maxHeartbeats 4000000 in
set_option maxRecDepth 20000 in
theorem RComb_any (A : Option Addr) (N cap : Nat) (l : List Sh) (need n : Nat) (w : World) (hN : N = l.length) (hs : ShL w w.heap.size A l) (hl : N ≤ 1000) (hn : ∀ s ∈ l, s.2.length = n) (hn2 : n ≤ 1000) (h1 : 1 ≤ need) (h2 : need ≤ 255) (hw : wfB l = true) (hle : need ≤ N) :
    Calls Try.prog 10 #[.slice A N cap, .int .i64 (need : Int)] w fun e w' =>
      ((Fits l need n ∧ ∃ A' c', e = .returned (.tuple #[.slice A' n c', .int .i64 0]) ∧ Shows w' w'.heap.size A' (interpB (l.take need) 0 n)) ∨
        (¬ Fits l need n ∧ e = .returned (.tuple #[.slice none 0 0, .int .i64 40]))) ∧ Below w.heap.size w w' := by
  have HWF := (wfB_iff l).1 hw
  have HW := Lib.hid (WellR_any A N cap l w hN hs (by omega) (fun s h => by rw [hn s h]; omega))
  rw [hw] at HW
  have HSR : Hid (∀ w1, Below w.heap.size w w1 → Calls Try.prog 30 #[.slice A N cap] w1 fun e w' => ∃ A' c' L, e = .returned (.slice A' L.length c') ∧ OwnSh w' w1.heap.size w1.heap.size (.slice A' L.length c') L ∧ (∀ s ∈ L, s ∈ l) ∧ (L.map (·.1)).Nodup ∧ (∀ s ∈ l, s ∈ L) ∧ Below w1.heap.size w1 w') := fun w1 hb =>
    SrtR_any A N cap l w1 hN (hs.up hb) hl HWF.nz HWF.nd
  have HNL := Lib.hid hn
  have HND := Lib.hid HWF.nd
  have HN := Lib.hid hN
  have i1 : ¬ (need : Int) < 1 := by omega
  have i3 : ¬ 255 < (need : Int) := by omega
  have i4 : ¬ (N : Int) < (need : Int) := by omega
  clear HWF hN hs hn hw
  go_enter Try.func10, Try.ntmps10
  go_wp2_with (go_at_call 29; refine HW.out.mono ?_; rintro e w1 ⟨rfl, hb1⟩; have HB1 := Lib.hid hb1; clear hb1)
  refine (HSR.out _ HB1.out).mono ?_
  rintro e w2 ⟨A2, c2, L, rfl, ho2, hsub, hnd, hall, hb2⟩
  have hLN : L.length = N := by
    have h1 := len_same HND.out hall
    have h2 := len_same hnd hsub
    have := HN.out
    omega
  have HB2 := Lib.hid (HB1.out.trans (hb2.mono HB1.out.size))
  obtain ⟨_, hcc, hcm, hsl⟩ := ho2.shl hb2.size
  have HSL := Lib.hid hsl
  have HLD := Lib.hid hnd
  have HSUB := Lib.hid hsub
  have HALL := Lib.hid hall
  have HLN := Lib.hid hLN
  rw [hLN] at hcc ⊢
  have i5 : (need : Int) ≤ (c2 : Int) := by omega
  have HNV : Hid (∀ s ∈ L, s.2.length = n) := fun s h => HNL.out s (hsub s h)
  have HV : Hid (∀ (x : UInt8) (w3 : World), Below w2.heap.size w2 w3 → Calls Try.prog 31 #[.slice A2 need c2, .int .u8 (x.toNat : Int)] w3 fun e w' => ∃ A' c', e = .returned (.slice A' n c') ∧ Owns w' w3.heap.size (.slice A' n c') (interpB (L.take need) x n) ∧ Below w3.heap.size w3 w') := fun x w3 hb =>
    VlsR_any A2 need c2 w2.heap.size n (L.take need) x w3 (by rw [List.length_take, hLN]; omega) (by omega) ((hsl.take need).below hb) hb.size (by omega) (by rw [List.map_take]; exact hnd.sublist (List.take_sublist _ _)) (fun s h => HNV.out s (List.mem_of_mem_take h)) hn2
  clear ho2 hb2 hsub hnd hall hsl hLN HW HSR HB1
  have hfit : Hid (∀ s ∈ (L.drop need).take 0, s.2 = interpB (L.take need) s.1 n) := fun s h => by simp at h
  go_wp2
  go_loopw [8] (fun i wr => ∃ k : Nat, need + k ≤ N ∧ i = .int .i64 ((need + k : Nat) : Int) ∧ Hid (Below w2.heap.size w2 wr) ∧ Hid (∀ s ∈ (L.drop need).take k, s.2 = interpB (L.take need) s.1 n)) (fun i _ => N - (intOf i).toNat)
  case atStart => exact ⟨0, hle, rfl, Below.refl _ _, hfit⟩
  case round =>
    clear hfit
    obtain ⟨k, hk, rfl, hbr, hf⟩ := hrel
    obtain ⟨wo, hwo⟩ : ∃ wo : World, wo = wr := ⟨_, rfl⟩
    subst hwo
    obtain ⟨I, hI⟩ : ∃ I, I = need + k := ⟨_, rfl⟩
    have HI := Lib.hid hI
    rw [← hI] at hk ⊢
    clear hI
    by_cases hlt : I < N
    · have j1 : (I : Int) < (N : Int) := by omega
      obtain ⟨s, hs⟩ : ∃ s, L[I]? = some s := ⟨L[I]'(by rw [HLN.out]; exact hlt), by simp⟩
      have hsn := HNV.out s (List.mem_of_getElem? hs)
      obtain ⟨b, off, rfl, hbB, e1, A1, n1, e2, hsh1, hle1, hmx1⟩ := HSL.out.one hs
      rw [hsn] at e2
      have HC : Hid (∀ w4, Below w2.heap.size w2 w4 → w4.cell? ⟨b, off + I * 2, none⟩ = some (.int .u8 (s.1.toNat : Int)) ∧ w4.cell? ⟨b, off + I * 2 + 1, none⟩ = some (.slice A1 n n1)) := fun w4 hb =>
        ⟨(hb.cell (p := ⟨b, off + I * 2, none⟩) hbB).trans e1, (hb.cell (p := ⟨b, off + I * 2 + 1, none⟩) hbB).trans e2⟩
      have HS1 := Lib.hid hsh1
      have hget : (L.drop need)[k]? = some s := by rw [List.getElem?_drop, ← HI.out]; exact hs
      have HSN := Lib.hid hsn
      have HDK : Hid ((L.drop need).take (k + 1) = (L.drop need).take k ++ [s]) := by
        show _ = _
        rw [List.take_add_one, hget]
        rfl
      have HMEM : Hid (s ∈ L.drop need) := List.mem_of_getElem? hget
      clear e1 e2 hsh1 hs hget hsn
      by_cases hq : interpB (L.take need) s.1 n = s.2
      · have HQ := Lib.hid hq
        have hdec : decide (interpB (L.take need) s.1 n = s.2) = true := by simpa using hq
        have HSM : Hid (∀ (A8 : Option Addr) (c8 : Nat) (w5 : World), Below w2.heap.size w2 w5 → Shows w5 w5.heap.size A8 (interpB (L.take need) s.1 n) → Calls Try.prog 14 #[.slice A8 n c8, .slice A1 n n1] w5 fun e w' => e = .returned (.bool true) ∧ ∃ m, w' = w5.drewN m) := fun A8 c8 w5 hb hsw => by
          have := Same_any A8 n c8 _ A1 n n1 s.2 w5 hsw ((HS1.out.below hb).more hb.size) (interp_len _ _ _).symm HSN.out.symm (by omega) (by omega)
          rw [hdec] at this
          exact this
        obtain ⟨e1, e2⟩ := HC.out wo hbr.out
        have HFN : Hid (∀ t ∈ (L.drop need).take (k + 1), t.2 = interpB (L.take need) t.1 n) := fun t ht => by
          rw [HDK.out] at ht
          rcases List.mem_append.1 ht with h | h
          · exact hf.out t h
          · have : t = s := by simpa using h
            subst this
            exact HQ.out.symm
        clear hq hdec
        go_wp2
        go_region_held_law (fun w' => w'.cell? ⟨b, off + I * 2, none⟩ = some (.int .u8 (s.1.toNat : Int)) ∧ w'.cell? ⟨b, off + I * 2 + 1, none⟩ = some (.slice A1 n n1))
          (first | exact hS8 | exact hS7 | go_keep)
          (first
            | (go_at_call 31; refine (HV.out s.1 _ (by first | exact hbr.out | exact hbr.out.drew | exact hbr.out.drew.drew | exact hbr.out.drew.drew.drew)).mono ?_; rintro e w7 ⟨A8, c8, rfl, ho7, hb7⟩; have HB7 : Hid (Below w2.heap.size w2 w7) := (by first | exact step_al hbr.out hb7 | exact step_al hbr.out.drew hb7 | exact step_al hbr.out.drew.drew hb7 | exact step_al hbr.out.drew.drew.drew hb7); have HO7 := Lib.hid ho7.shows.2.2; have hS7 := HC.out w7 HB7.out; clear ho7 hb7)
            | (go_at_call 14; refine (HSM.out A8 c8 _ (by first | exact HB7.out | exact HB7.out.drew | exact HB7.out.drew.drew | exact HB7.out.drew.drew.drew) (by first | exact HO7.out | exact HO7.out.below (Below.drew (Below.refl _ _)) | exact HO7.out.below (Below.drew (Below.drew (Below.refl _ _))))).mono ?_; rintro e w8 ⟨rfl, m8, hw8⟩; have HB8 : Hid (Below w2.heap.size w2 w8) := (by rw [hw8]; first | exact below_drewN HB7.out m8 | exact below_drewN HB7.out.drew m8 | exact below_drewN HB7.out.drew.drew m8 | exact below_drewN HB7.out.drew.drew.drew m8); have hS8 := HC.out w8 HB8.out; clear hw8))
        all_goals
          go_wp2_with fail
          go_roundw
          case rel => exact ⟨k + 1, by have := HI.out; omega, by rw [HI.out]; rfl, HB8, HFN⟩
          case measure => simp [intOf]; omega
      · have HQ := Lib.hid hq
        have hdec : decide (interpB (L.take need) s.1 n = s.2) = false := by simpa using hq
        have HSM : Hid (∀ (A8 : Option Addr) (c8 : Nat) (w5 : World), Below w2.heap.size w2 w5 → Shows w5 w5.heap.size A8 (interpB (L.take need) s.1 n) → Calls Try.prog 14 #[.slice A8 n c8, .slice A1 n n1] w5 fun e w' => e = .returned (.bool false) ∧ ∃ m, w' = w5.drewN m) := fun A8 c8 w5 hb hsw => by
          have := Same_any A8 n c8 _ A1 n n1 s.2 w5 hsw ((HS1.out.below hb).more hb.size) (interp_len _ _ _).symm HSN.out.symm (by omega) (by omega)
          rw [hdec] at this
          exact this
        have HNF : Hid (¬ Fits l need n) := fun h => by
          have hF := (fits_same HND.out HLD.out (by have := HN.out; omega) (by rw [HLN.out]; exact hle) HNL.out HSUB.out h).1
          exact HQ.out (hF s HMEM.out).symm
        obtain ⟨e1, e2⟩ := HC.out wo hbr.out
        clear hq hdec
        go_wp2
        go_region_held_law (fun w' => w'.cell? ⟨b, off + I * 2, none⟩ = some (.int .u8 (s.1.toNat : Int)) ∧ w'.cell? ⟨b, off + I * 2 + 1, none⟩ = some (.slice A1 n n1))
          (first | exact hS8 | exact hS7 | go_keep)
          (first
            | (go_at_call 31; refine (HV.out s.1 _ (by first | exact hbr.out | exact hbr.out.drew | exact hbr.out.drew.drew | exact hbr.out.drew.drew.drew)).mono ?_; rintro e w7 ⟨A8, c8, rfl, ho7, hb7⟩; have HB7 : Hid (Below w2.heap.size w2 w7) := (by first | exact step_al hbr.out hb7 | exact step_al hbr.out.drew hb7 | exact step_al hbr.out.drew.drew hb7 | exact step_al hbr.out.drew.drew.drew hb7); have HO7 := Lib.hid ho7.shows.2.2; have hS7 := HC.out w7 HB7.out; clear ho7 hb7)
            | (go_at_call 14; refine (HSM.out A8 c8 _ (by first | exact HB7.out | exact HB7.out.drew | exact HB7.out.drew.drew | exact HB7.out.drew.drew.drew) (by first | exact HO7.out | exact HO7.out.below (Below.drew (Below.refl _ _)) | exact HO7.out.below (Below.drew (Below.drew (Below.refl _ _))))).mono ?_; rintro e w8 ⟨rfl, m8, hw8⟩; have HB8 : Hid (Below w2.heap.size w2 w8) := (by rw [hw8]; first | exact below_drewN HB7.out m8 | exact below_drewN HB7.out.drew m8 | exact below_drewN HB7.out.drew.drew m8 | exact below_drewN HB7.out.drew.drew.drew m8); have hS8 := HC.out w8 HB8.out; clear hw8))
        all_goals
          go_wp2_with fail
          go_ret2
          exact ⟨Or.inr ⟨HNF.out, rfl⟩, HB2.out.trans (HB8.out.mono HB2.out.size)⟩
    · have hIN : I = N := by omega
      have j1 : ¬ (I : Int) < (N : Int) := by omega
      have HFL : Hid (Fits L need n) := fun s hs => by
        refine hf.out s ?_
        rwa [List.take_of_length_le (by rw [List.length_drop, HLN.out, ← hIN, HI.out]; omega)]
      have HFF : Hid (Fits l need n ∧ interpB (L.take need) 0 n = interpB (l.take need) 0 n) := by
        have h := fits_same HLD.out HND.out (by rw [HLN.out]; exact hle) (by have := HN.out; omega) HNV.out HALL.out HFL.out
        exact ⟨h.1, h.2.symm⟩
      have HV0 := Lib.hid (HV.out 0 wo hbr.out)
      rw [HFF.out.2] at HV0
      go_wp2_with (go_at_call 31; refine HV0.out.mono ?_; rintro e w7 ⟨A8, c8, rfl, ho7, hb7⟩; have HB7 : Hid (Below w2.heap.size w2 w7) := step_al hbr.out hb7; have HO7 := Lib.hid ho7.shows.2.2; clear ho7 hb7)
      go_ret2
      exact ⟨Or.inl ⟨HFF.out.1, A8, c8, rfl, HO7.out⟩, HB2.out.trans (HB7.out.mono HB2.out.size)⟩
end Go.Proofs.Yteaaadccjnmacaa
