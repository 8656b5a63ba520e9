/-
  The reference's Refresh, by contracts.
-/
import Derived.Test.YteaaadccjnmacaaSplR
import Derived.Test.YteaaadccjnmacaaWelR
namespace Go.Proofs.Yteaaadccjnmacaa
open Go.RowKit

theorem ref_take (x : UInt8) (m : Nat) (r b : List UInt8) (i : Nat) (hi : i < b.length) : (maskB x m r b).take i ++ [byte b i ^^^ ev (polyL 0 r m i m) x] = (maskB x m r b).take (i + 1) := by
  have h0 : ev (polyL 0 r m i m) x = maskV x ((r.drop (i * m)).take m) := by
    have := polyL_ev [] r m i x
    rw [show byte [] i = 0 by simp [byte]] at this
    rw [this, maskV_ev]
    simp [coef, ev, byte]
  rw [List.take_add_one, h0, maskB_get, byte_get hi]
  rfl
theorem masks_len (m : Nat) (r : List UInt8) (l : List Sh) : (masks m r l).length = l.length := by simp [masks]
theorem masks_take (m : Nat) (r : List UInt8) (l : List Sh) (k : Nat) (s : Sh) (hs : l[k]? = some s) : (masks m r l).take k ++ [(s.1, maskB s.1 m r s.2)] = (masks m r l).take (k + 1) := by
  rw [List.take_add_one]
  congr 1
  unfold masks
  rw [List.getElem?_map, hs]
  rfl
theorem RRefr_bad (v r : Value) (need : Int) (w : World) (hok : ¬ (1 ≤ need ∧ need ≤ 255)) :
    Calls Try.prog 12 #[v, r, .int .i64 need] w fun e w' => e = .returned (.tuple #[.slice none 0 0, .int .i64 1]) ∧ w' = w := by
  by_cases i1 : need < 1
  · clear hok
    go_enter Try.func12, Try.ntmps12
    go_wp2
    go_ret2
    exact ⟨rfl, rfl⟩
  · have i2 : need > 255 := by omega
    clear hok
    go_enter Try.func12, Try.ntmps12
    go_wp2
    go_ret2
    exact ⟨rfl, rfl⟩
theorem RRefr_wf (A : Option Addr) (N cap : Nat) (l : List Sh) (r : Value) (need : Int) (w : World) (hN : N = l.length) (hs : ShL w w.heap.size A l) (hl : N ≤ 1000000) (hn : ∀ s ∈ l, s.2.length ≤ 140737488351232) (h1 : 1 ≤ need) (h2 : need ≤ 255) (hw : wfB l = false) :
    Calls Try.prog 12 #[.slice A N cap, r, .int .i64 need] w fun e w' => e = .returned (.tuple #[.slice none 0 0, .int .i64 40]) ∧ Below w.heap.size w w' := by
  have HW := Lib.hid (WellR_any A N cap l w hN hs hl hn)
  have i1 : ¬ need < 1 := by omega
  have i3 : ¬ need > 255 := by omega
  rw [hw] at HW
  clear hN hs hn h1 h2 hw
  go_enter Try.func12, Try.ntmps12
  go_wp2_with (go_at_call 29; refine HW.out.mono ?_; rintro e w1 ⟨rfl, hb1⟩; have HB1 := Lib.hid hb1; clear hb1)
  go_ret2
  exact ⟨rfl, HB1.out⟩

attribute [local go_sem] u8_xor
set_option maxHeartbeats 4000000 in
set_option maxRecDepth 100000 in
theorem RRefr_any (A : Option Addr) (N cap : Nat) (l : List Sh) (R : Option Addr) (q rcap : Nat) (r : List UInt8) (P m : Nat) (w : World) (hN : N = l.length) (hq : q = r.length) (hs : ShL w w.heap.size A l) (hr : Shows w w.heap.size R r)
    (hl : N ≤ 1000) (hn : ∀ s ∈ l, s.2.length ≤ 1000) (hP : P = m + 1) (hP2 : P ≤ 255) (hrl : r.length ≤ 140737488351232) (hw : wfB l = true) :
    Calls Try.prog 12 #[.slice A N cap, .slice R q rcap, .int .i64 (P : Int)] w
      fun e w' => ∃ A' c', e = .returned (.tuple #[.slice A' N c', .int .i64 0]) ∧ ShL w' w'.heap.size A' (masks m r l) ∧ Below w.heap.size w w' := by
  have HW := Lib.hid (WellR_any A N cap l w hN hs (by omega) (fun s h => by have := hn s h; omega))
  rw [hw] at HW
  have HS := Lib.hid hs
  have HR := Lib.hid hr
  have HN := Lib.hid hN
  have HQ := Lib.hid hq
  have HP := Lib.hid hP
  have HRL := Lib.hid hrl
  have HNL := Lib.hid hn
  have i1 : ¬ (P : Int) < 1 := by omega
  have i3 : ¬ 255 < (P : Int) := by omega
  have HM : Hid (m ≤ 255) := by show _ ≤ _; omega
  have HLM : Hid ((masks m r l).length = N) := by show _ = _; rw [masks_len]; exact hN.symm
  clear hs hr hN hq hP hrl hn hw
  go_enter Try.func12, Try.ntmps12
  go_wp2_with (go_at_call 29; refine HW.out.mono ?_; rintro e w1 ⟨rfl, hb1⟩; have HB1 := Lib.hid hb1; clear hb1)
  have hown : Hid (FN w1.heap.size w1 (w1.alloc (.cells #[] 29)) (.slice (some ⟨w1.heap.size, 0, none⟩) 0 0) ((masks m r l).take 0)) := ⟨ba1 _ _, own_newN w1, by rw [hz]; exact Nat.le_succ _⟩
  generalize (w1.alloc (.cells #[] 29)) = w2 at *
  clear HW
  go_loopw [8, 9] (fun u x wr => ∃ (k : Nat) (A' : Option Addr) (c' : Nat), k ≤ N ∧ x = .int .i64 (k : Int) ∧ u = .slice A' k c' ∧ Hid (FN w1.heap.size w1 wr (.slice A' k c') ((masks m r l).take k))) (fun _ x _ => N - (intOf x).toNat)
  case atStart => exact ⟨0, _, _, Nat.zero_le _, rfl, rfl, hown⟩
  case round =>
    clear hown
    obtain ⟨k, A', c', hk, rfl, rfl, hF⟩ := hrel
    obtain ⟨wo, hwo⟩ : ∃ wo : World, wo = wr := ⟨_, rfl⟩
    subst hwo
    have HDB : Hid (Below w.heap.size w wo) := HB1.out.trans (hF.out.bel.mono HB1.out.size)
    by_cases hlt : k < N
    · have j1 : (k : Int) < (N : Int) := by omega
      obtain ⟨s, hs⟩ : ∃ s, l[k]? = some s := ⟨l[k]'(by rw [← HN.out]; exact hlt), by simp⟩
      obtain ⟨b1, off1, rfl, hbB, e1, A1, n1, e2, hsh1, hle1, hmx1⟩ := (HS.out.below HDB.out).one hs
      obtain ⟨n, hnn⟩ : ∃ n, n = s.2.length := ⟨_, rfl⟩
      have HNN := Lib.hid hnn
      have hn1000 : n ≤ 1000 := by rw [hnn]; exact HNL.out s (List.mem_of_getElem? hs)
      rw [← hnn] at e2
      have hb1 : b1 < wo.heap.size := Nat.lt_of_lt_of_le hbB HDB.out.size
      have HSH := Lib.hid hsh1
      have HTK := Lib.hid (masks_take m r l k s hs)
      clear hs hsh1 hnn
      obtain ⟨X, sb⟩ := s
      simp only at e1 e2 HNN HSH HTK
      have HC0 : Hid (∀ w4, Below wo.heap.size wo w4 → w4.cell? ⟨b1, off1 + k * 2, none⟩ = some (.int .u8 (X.toNat : Int)) ∧ w4.cell? ⟨b1, off1 + k * 2 + 1, none⟩ = some (.slice A1 n n1)) := fun w4 hb =>
        ⟨(hb.cell (p := ⟨b1, off1 + k * 2, none⟩) hb1).trans e1, (hb.cell (p := ⟨b1, off1 + k * 2 + 1, none⟩) hb1).trans e2⟩
      have ho : Hid (FS wo.heap.size wo (wo.alloc (.cells #[] 5)) (.slice (some ⟨wo.heap.size, 0, none⟩) 0 0) ((maskB X m r sb).take 0)) :=
        ⟨ba1 _ _, owns_empty wo _ rfl, by rw [hz]; exact Nat.le_succ _⟩
      go_wp2
      generalize (wo.alloc (.cells #[] 5)) = w3 at *
      go_loopw [10, 11] (fun u i wr => ∃ (i' : Nat) (A7 : Option Addr) (c7 : Nat), i' ≤ n ∧ i = .int .i64 i' ∧ u = .slice A7 i' c7 ∧ Hid (FS wo.heap.size wo wr (.slice A7 i' c7) ((maskB X m r sb).take i'))) (fun _ i _ => n - (intOf i).toNat)
      case atStart => exact ⟨0, _, _, Nat.zero_le _, rfl, rfl, ho⟩
      case round =>
        clear ho e1 e2
        obtain ⟨i, A7, c7, hi, rfl, rfl, hG⟩ := hrel
        obtain ⟨wi, hwi⟩ : ∃ wi : World, wi = wr := ⟨_, rfl⟩
        subst hwi
        obtain ⟨e1, e2⟩ := HC0.out wi hG.out.bel
        by_cases hli : i < n
        · have j2 : (i : Int) < (n : Int) := by omega
          have hiS : i < sb.length := by rw [← HNN.out]; exact hli
          obtain ⟨b3, off3, rfl, hb3, hcell⟩ := HSH.out (by omega)
          have c1 := hcell i _ (byte_get hiS)
          have hb4 : b3 < wo.heap.size := Nat.lt_of_lt_of_le hb3 HDB.out.size
          have HC : Hid (∀ w4, Below wo.heap.size wo w4 → w4.cell? ⟨b1, off1 + k * 2, none⟩ = some (.int .u8 (X.toNat : Int)) ∧ w4.cell? ⟨b1, off1 + k * 2 + 1, none⟩ = some (.slice (some ⟨b3, off3, none⟩) n n1) ∧ w4.cell? ⟨b3, off3 + i, none⟩ = some (.int .u8 ((byte sb i).toNat : Int))) := fun w4 hb =>
            ⟨(HC0.out w4 hb).1, (HC0.out w4 hb).2, (hb.cell (p := ⟨b3, off3 + i, none⟩) hb4).trans c1⟩
          have HPO : Hid (∀ w4, Below wo.heap.size wo w4 → Calls Try.prog 22 #[.int .u8 0, .slice R q rcap, .agg #[.int .i64 (P : Int), .int .i64 (i : Int)]] w4
              fun e w' => ∃ A' c', e = .returned (.slice A' P c') ∧ Owns w' w4.heap.size (.slice A' P c') (polyL 0 r m i m) ∧ Below w4.heap.size w4 w') := fun w4 hb =>
            PolyR_any 0 R q rcap r P m i w.heap.size w4 HQ.out (HR.out.below (HDB.out.trans (hb.mono HDB.out.size))) (Nat.le_trans HDB.out.size hb.size) HP.out HM.out (by omega) HRL.out
          have HE := Lib.hid (ref_take X m r sb i hiS)
          have HPL : Hid (P = (polyL 0 r m i m).length) := by show _ = _; rw [polyL_len]; exact HP.out
          have hPle : P ≤ 1000000 := by omega
          have HML : Hid ((maskB X m r sb).length = n) := by show _ = _; rw [maskB_len]; exact HNN.out.symm
          generalize polyL 0 r m i m = pl at *
          generalize byte sb i = y at *
          clear hcell c1 e1 e2
          obtain ⟨e1, e2, c1⟩ := HC.out wi hG.out.bel
          go_wp2
          go_region_held_law (fun w' => w'.cell? ⟨b1, off1 + k * 2, none⟩ = some (.int .u8 (X.toNat : Int)) ∧ w'.cell? ⟨b1, off1 + k * 2 + 1, none⟩ = some (.slice (some ⟨b3, off3, none⟩) n n1) ∧ w'.cell? ⟨b3, off3 + i, none⟩ = some (.int .u8 (y.toNat : Int)))
            (first | exact hS9 | exact hS8 | exact hS7 | go_keep)
            (first
              | (go_at_call 22; refine (HPO.out _ (by first | exact hG.out.bel | exact hG.out.dr.bel | exact hG.out.dr.dr.bel | exact hG.out.dr.dr.dr.bel)).mono ?_; rintro e w7 ⟨A8, c8, rfl, ho7, hb7⟩; have HG7 : Hid (FS wo.heap.size wo w7 (.slice A7 i c7) ((maskB X m r sb).take i)) := (by first | exact hG.out.up hb7 | exact hG.out.dr.up hb7 | exact hG.out.dr.dr.up hb7 | exact hG.out.dr.dr.dr.up hb7); have HO7 := Lib.hid ho7.shows.2.2; have hS7 := HC.out w7 HG7.out.bel; clear ho7 hb7)
              | (go_at_call 21; refine (AtR_any A8 P c8 w7.heap.size pl X _ HPL.out (by first | exact HO7.out | exact HO7.out.below (Below.drew (Below.refl _ _)) | exact HO7.out.below (Below.drew (Below.drew (Below.refl _ _)))) hPle).mono ?_; rintro e w8 ⟨rfl, m8, hw8⟩; have HG8 : Hid (FS wo.heap.size wo w8 (.slice A7 i c7) ((maskB X m r sb).take i)) := (by rw [hw8]; first | exact HG7.out.drN m8 | exact HG7.out.dr.drN m8 | exact HG7.out.dr.dr.drN m8); have hS8 := HC.out w8 HG8.out.bel; clear hw8)
              | (refine step_growS rfl (.tmp 39) (.tmp 60) rfl wo.heap.size wo _ ((maskB X m r sb).take i) (y ^^^ ev pl X) ((y ^^^ ev pl X).toNat : Int) w8.heap.size rfl rfl rfl (by first | exact HG8.out.al _ | exact (HG8.out.al _).dr | exact HG8.out.dr.al _ | exact (HG8.out.dr.al _).dr | exact HG8.out.dr.dr.al _) (by rw [List.length_take]; omega) ?_; intro A9 c9 w9 ho9 hb9; have HO9 := Lib.hid ho9; have HB9 := Lib.hid hb9; have hS9 := HC.out w9 hb9; clear ho9 hb9))
          all_goals
            have HFS : Hid (FS wo.heap.size wo w9 (.slice A9 (i + 1) c9) ((maskB X m r sb).take (i + 1))) := by
              have e3 : ((maskB X m r sb).take i ++ [y ^^^ ev pl X]).length = i + 1 := by rw [List.length_append, List.length_take, HML.out]; simp; omega
              have h9 := HO9.out
              rw [e3, HE.out] at h9
              exact ⟨HB9.out, h9, HB9.out.size⟩
            go_wp2_with fail
            go_roundw
            case rel => exact ⟨i + 1, A9, c9, by omega, by go_num, by rw [HML.out, Nat.min_eq_left (by omega)], HFS⟩
            case measure => simp [intOf]; omega
        · have hiN : i = n := by omega
          have j2 : ¬ (i : Int) < (n : Int) := by omega
          subst hiN
          have HML : Hid ((maskB X m r sb).length = i) := by show _ = _; rw [maskB_len]; exact HNN.out.symm
          have hGf := hG.out
          rw [List.take_of_length_le (by rw [HML.out]; exact Nat.le_refl _)] at hGf
          have HFN := Lib.hid (hF.out.up hGf.bel)
          have HGN : Hid (GN w1.heap.size w1 (wi.alloc (.cells #[.int .u8 (X.toNat : Int), .slice A7 i c7] 29)) (.slice A' k c') ((masks m r l).take k) (X, maskB X m r sb) A7 c7 wi.heap.size) :=
            fn_al HFN.out (X, maskB X m r sb) A7 c7 HML.out.symm (owns_low hGf.own hF.out.top)
          have hroom : ((masks m r l).take k).length + 1 ≤ 1000000 := by rw [List.length_take]; omega
          have hek : Hid (((masks m r l).take k).length = k) := by show _ = _; rw [List.length_take, HLM.out]; omega
          clear hGf hG
          go_wp2_with (at_builtin; refine wpList_growN rfl (.tmp 62) (.tmp 70) rfl w1.heap.size w1 _ ((masks m r l).take k) (X, maskB X m r sb) A7 c7 wi.heap.size rfl rfl HGN.out hroom ?_; intro A9 c9 w9 ho9 hb9; have HO9 := Lib.hid ho9; have HB9 := Lib.hid hb9; clear ho9 hb9)
          go_roundw
          case rel =>
            have e3 : ((masks m r l).take k ++ [(X, maskB X m r sb)]).length = k + 1 := by rw [List.length_append, hek.out]; rfl
            refine ⟨k + 1, A9, c9, by omega, by go_num, by simp [HLM.out]; omega, ?_⟩
            have h9 := HO9.out
            rw [e3, HTK.out] at h9
            exact ⟨HB9.out, h9, HB9.out.size⟩
          case measure => simp [intOf]; omega
    · have j1 : ¬ (k : Int) < (N : Int) := by omega
      have hkT : k = N := by omega
      subst hkT
      have hFo := hF.out.own
      rw [List.take_of_length_le (by rw [HLM.out]; exact Nat.le_refl _)] at hFo
      have HSH := Lib.hid hFo.shl.2.2.2
      clear hFo
      go_wp2
      go_ret2
      exact ⟨A', ⟨c', rfl⟩, HSH.out, HDB.out⟩
end Go.Proofs.Yteaaadccjnmacaa
