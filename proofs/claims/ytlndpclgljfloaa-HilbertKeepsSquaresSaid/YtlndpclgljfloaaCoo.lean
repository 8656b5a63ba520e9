/-
  The program's coordinates: by a contract.
-/
import Derived.Test.YtlndpclgljfloaaNmb
import Derived.Test.YtlndpclgljfloaaScl
import Derived.Test.YtlndpclgljfloaaSrt
import Derived.Lib.MinMax
import Derived.Deep.OwnRows
namespace Go.Proofs.Ytlndpclgljfloaa
open Go.RowKit

/-- the least and the greatest number of a field -/
def extS (o : Option (Int × Int)) (v : Option Int) : Option (Int × Int) :=
  match v with
  | none => o
  | some v => match o with
    | none => some (v, v)
    | some (a, b) => some (min a v, max b v)
def extL (rs : List (List (Int × Int))) (i : Int) : Option (Int × Int) := rs.foldl (fun o r => extS o (numL r i)) none
theorem extL_snoc (rs : List (List (Int × Int))) (r : List (Int × Int)) (i : Int) : extL (rs ++ [r]) i = extS (extL rs i) (numL r i) := by
  unfold extL
  rw [List.foldl_append]
  rfl
def loE (o : Option (Int × Int)) : Int := match o with | none => 9223372036854775807 | some p => p.1
def hiE (o : Option (Int × Int)) : Int := match o with | none => -9223372036854775808 | some p => p.2
theorem ext_step (o : Option (Int × Int)) (v : Int) (hv : I64 v) : min (loE o) v = loE (extS o (some v)) ∧ max (hiE o) v = hiE (extS o (some v)) := by
  obtain ⟨v1, v2⟩ := hv
  cases o with
  | none => unfold extS loE hiE; simp only []; omega
  | some p => exact ⟨rfl, rfl⟩
/-- the coordinate of a row -/
def cooL (rs : List (List (Int × Int))) (i K : Int) (r : List (Int × Int)) : Nat :=
  match numL r i with
  | none => 0
  | some v => scV v (loE (extL rs i)) (hiE (extL rs i)) K
theorem info22b : (Try.prog.info? 22).map (fun i => (i.zero, i.size, i.bytes)) = some (some (.int .u32 0), 1, 4) := by kernel_rfl
theorem made_rep (z : Value) (n : Nat) : madeCells #[z] n = (List.replicate n z).toArray := by
  apply Array.ext
  · simp [madeCells]
  · intro i h1 h2
    simp [madeCells]
    rw [Nat.mod_one]
    rfl
def u32V (x : Nat) : Value := .int .u32 x
/-- the rows' lists -/
def lsH (rs : List Hr) : List (List (Int × Int)) := rs.map Hr.l
/-- numbers that fit -/
def FitR (rs : List Hr) : Prop := ∀ r ∈ rs, r.l.length ≤ 1000000 ∧ ∀ p ∈ r.l, I64 p.2
theorem numL_fit {l : List (Int × Int)} {i v : Int} (h : ∀ p ∈ l, I64 p.2) (hv : numL l i = some v) : I64 v := by
  induction l with
  | nil => cases hv
  | cons p r ih =>
    unfold numL at hv
    split at hv
    · injection hv with hv
      rw [← hv]
      exact h p (by simp)
    · exact ih (fun q hq => h q (by simp [hq])) hv
theorem ext_fit {rs : List (List (Int × Int))} {i : Int} (h : ∀ r ∈ rs, ∀ p ∈ r, I64 p.2) : I64 (loE (extL rs i)) ∧ I64 (hiE (extL rs i)) := by
  have key : ∀ (rs : List (List (Int × Int))) (o : Option (Int × Int)), (∀ r ∈ rs, ∀ p ∈ r, I64 p.2) → I64 (loE o) → I64 (hiE o) → I64 (loE (rs.foldl (fun o r => extS o (numL r i)) o)) ∧ I64 (hiE (rs.foldl (fun o r => extS o (numL r i)) o)) := by
    intro rs
    induction rs with
    | nil => exact fun o _ h1 h2 => ⟨h1, h2⟩
    | cons r rs ih =>
      intro o hf h1 h2
      refine ih _ (fun r hr => hf r (by simp [hr])) ?_ ?_
      · show I64 (loE (extS o (numL r i)))
        cases hn : numL r i with
        | none => exact h1
        | some v =>
          have hv := numL_fit (hf r (by simp)) hn
          rw [← (ext_step o v hv).1]
          unfold I64 at *
          omega
      · show I64 (hiE (extS o (numL r i)))
        cases hn : numL r i with
        | none => exact h2
        | some v =>
          have hv := numL_fit (hf r (by simp)) hn
          rw [← (ext_step o v hv).2]
          unfold I64 at *
          omega
  exact key rs none h ⟨by decide, by decide⟩ ⟨by decide, by decide⟩
set_option maxHeartbeats 4000000 in
set_option maxRecDepth 20000 in
theorem coord_any (A : Option Addr) (n c : Nat) (rs : List Hr) (i K : Int) (w : World) (hn : n = rs.length) (hs : RwsAt w w.heap.size A rs) (hl : n ≤ 1000000) (hf : FitR rs) :
    Calls Try.prog 33 #[.slice A n c, .int .i64 i, .int .i64 K] w fun e w' => (∃ g, e = .returned (.slice (some ⟨g, 0, none⟩) n n) ∧ w.heap.size ≤ g ∧ CB w' g 22 ((rs.map fun r => cooL (lsH rs) i K r.l).map u32V)) ∧ Below w.heap.size w w' := by
  obtain ⟨cs, hcs⟩ : ∃ cs, (rs.map fun r => cooL (lsH rs) i K r.l) = cs := ⟨_, rfl⟩
  rw [hcs]
  have HCS := Li hcs
  have HCL := Li (show cs.length = n by rw [← hcs, List.length_map, hn])
  have HN := Li hn
  have HS := Li hs
  have HF := Li hf
  clear hn hs hf hcs
  go_enter Try.func33, Try.ntmps33
  go_wp2_with fail
  go_loopw [7, 8, 20] (fun s7 s8 s20 wr => ∃ (j : Nat) (lo hi : Int), j ≤ n ∧ s20 = .int .i64 j ∧ s7 = .int .i64 lo ∧ s8 = .int .i64 hi ∧ Hid (lo = loE (extL ((lsH rs).take j) i)) ∧ Hid (hi = hiE (extL ((lsH rs).take j) i)) ∧ Hid (Below w.heap.size w wr)) (fun _ _ s20 _ => n - (intOf s20).toNat)
  case atStart => exact ⟨0, _, _, by omega, rfl, rfl, rfl, rfl, rfl, Li (Below.refl _ _)⟩
  case round =>
    obtain ⟨j, lo, hi, hj, rfl, rfl, rfl, HLO, HHI, HB⟩ := hrel
    by_cases hlt : j < n
    · obtain ⟨r, hr⟩ : ∃ r, rs[j]? = some r := ⟨_, List.getElem?_eq_getElem (by rw [← HN.out]; exact hlt)⟩
      obtain ⟨b, off, rfl, hb, c0, hce⟩ := rw_one (HS.out.up HB.out) hr
      have HC := Li hce
      have hrf := HF.out r (List.mem_of_getElem? hr)
      have hr1 := hrf.1
      have j1 : (j : Int) < (n : Int) := by omega
      have hsz := HB.out.size
      have HT := Li (show (lsH rs).take (j + 1) = (lsH rs).take j ++ [r.l] by rw [List.take_add_one]; simp [lsH, hr])
      have HX := Li (extL_snoc ((lsH rs).take j) r.l i)
      rw [← HT.out] at HX
      have hal := al1 wr (.cells #[.slice r.A r.l.length r.c] 77)
      have HNB := Li (number_any r.A r.l.length r.c r.l i (wr.alloc (.cells #[.slice r.A r.l.length r.c] 77)) rfl (HC.out.up hal) hr1)
      have HB1 := Li (below_step HB.out HB.out.size hal)
      clear hal hce hr
      cases hnm : numL r.l i with
      | none =>
        rw [hnm] at HX HNB
        clear hnm hrf
        go_wp2_with (go_at_call 50; refine HNB.out.mono ?_; rintro e w4 ⟨rfl, hb4⟩; have B4 := Li (below_step HB1.out HB1.out.size hb4); clear hb4)
        go_roundw
        case rel => exact ⟨j + 1, lo, hi, by omega, by go_num, rfl, rfl, Li (by rw [HX.out, HLO.out]; rfl), Li (by rw [HX.out, HHI.out]; rfl), B4⟩
        case measure => simp [intOf]; omega
      | some v =>
        rw [hnm] at HX HNB
        have hv := numL_fit hrf.2 hnm
        obtain ⟨k1, k2⟩ := ext_step (extL ((lsH rs).take j) i) v hv
        rw [← HX.out, ← HLO.out] at k1
        rw [← HX.out, ← HHI.out] at k2
        obtain ⟨lo2, hlo2⟩ : ∃ x, loE (extL ((lsH rs).take (j + 1)) i) = x := ⟨_, rfl⟩
        obtain ⟨hi2, hhi2⟩ : ∃ x, hiE (extL ((lsH rs).take (j + 1)) i) = x := ⟨_, rfl⟩
        rw [hlo2] at k1
        rw [hhi2] at k2
        have HL2 := Li hlo2
        have HH2 := Li hhi2
        clear hnm hrf hlo2 hhi2 hv
        go_wp2_with (go_at_call 50; refine HNB.out.mono ?_; rintro e w4 ⟨rfl, hb4⟩; have B4 := Li (below_step HB1.out HB1.out.size hb4); clear hb4)
        go_roundw
        case rel => exact ⟨j + 1, lo2, hi2, by omega, by go_num, rfl, rfl, Li HL2.out.symm, Li HH2.out.symm, B4⟩
        case measure => simp [intOf]; omega
    · obtain rfl : j = n := by omega
      have hmk : ∀ W : World, (Instr.makeSlice 82 (.int .i64 (j : Int)) (.int .i64 (j : Int))).run Try.prog W = .ok (.slice (some ⟨W.heap.size, 0, none⟩) j j) (W.alloc (.cells (Array.replicate j (u32V 0)) 22)) := fun W => by
        have := run_make_row' 82 22 (.int .u32 0) 4 Try.underlying82 info22b rfl .i64 .i64 j (by omega) (by omega) W
        rw [made_rep] at this
        rw [this, List.toArray_replicate]
        rfl
      have HE1 := Li (show lo = loE (extL (lsH rs) i) by rw [HLO.out, List.take_of_length_le (by unfold lsH; rw [List.length_map, ← HN.out]; exact Nat.le_refl _)])
      have HE2 := Li (show hi = hiE (extL (lsH rs) i) by rw [HHI.out, List.take_of_length_le (by unfold lsH; rw [List.length_map, ← HN.out]; exact Nat.le_refl _)])
      have HI2 := Li (show I64 lo ∧ I64 hi by
        rw [HE1.out, HE2.out]
        exact ext_fit (fun r hr p hp => by
          obtain ⟨x, hx, rfl⟩ := List.mem_map.1 hr
          exact (HF.out x hx).2 p hp))
      clear HLO HHI
      go_wp2_with fail
      have C0 := Li (show CB (wr.alloc (.cells (Array.replicate j (u32V 0)) 22)) wr.heap.size 22 ((cs.take 0 ++ List.replicate (j - 0) 0).map u32V) by
        have e : Array.replicate j (u32V 0) = ((cs.take 0 ++ List.replicate (j - 0) 0).map u32V).toArray := by simp
        rw [e]
        exact CB.new wr 22 _)
      have B0 := Li (below_step HB.out HB.out.size (al1 wr (.cells (Array.replicate j (u32V 0)) 22)))
      have hgw := HB.out.size
      revert C0 B0 hgw
      generalize wr.alloc (.cells (Array.replicate j (u32V 0)) 22) = W1
      generalize wr.heap.size = g
      intro C0 B0 hgw
      go_loopw [43] (fun s43 wr => ∃ m : Nat, m ≤ j ∧ s43 = .int .i64 m ∧ Hid (CB wr g 22 ((cs.take m ++ List.replicate (j - m) 0).map u32V)) ∧ Hid (Below w.heap.size w wr)) (fun s43 _ => j - (intOf s43).toNat)
      case atStart => exact ⟨0, by omega, rfl, C0, B0⟩
      case round =>
        clear C0 B0
        obtain ⟨m, hm, rfl, HC, HB2⟩ := hrel
        have hsz := HB2.out.size
        have zg := HC.out.lt
        by_cases hmj : m < j
        · obtain ⟨r, hr⟩ : ∃ r, rs[m]? = some r := ⟨_, List.getElem?_eq_getElem (by rw [← HN.out]; exact hmj)⟩
          obtain ⟨b, off, rfl, hb, c0, hce⟩ := rw_one (HS.out.up HB2.out) hr
          have hcm : cs[m]? = some (cooL (lsH rs) i K r.l) := by rw [← HCS.out, List.getElem?_map, hr]; rfl
          have HCC := Li hce
          have hrf := HF.out r (List.mem_of_getElem? hr)
          have hr1 := hrf.1
          have m1 : (m : Int) < (j : Int) := by omega
          have hrep : List.replicate (j - m) 0 = 0 :: List.replicate (j - (m + 1)) 0 := by rw [show j - m = (j - (m + 1)) + 1 by omega]; rfl
          have htl : (cs.take m).length = m := by rw [List.length_take, HCL.out]; omega
          have hal := al1 wr (.cells #[.slice r.A r.l.length r.c] 77)
          have HNB := Li (number_any r.A r.l.length r.c r.l i (wr.alloc (.cells #[.slice r.A r.l.length r.c] 77)) rfl (HCC.out.up hal) hr1)
          have HB3 := Li (below_step HB2.out HB2.out.size hal)
          have HC3 := Li (HC.out.up hal)
          clear hal hce hr
          cases hnm : numL r.l i with
          | none =>
            have hc0 : cooL (lsH rs) i K r.l = 0 := by unfold cooL; rw [hnm]
            rw [hc0] at hcm
            have HST := Li (show cs.take m ++ List.replicate (j - m) 0 = cs.take (m + 1) ++ List.replicate (j - (m + 1)) 0 by
              rw [List.take_add_one, hcm, hrep]; simp)
            rw [hnm] at HNB
            clear hnm hrf hc0 hcm hrep htl
            go_wp2_with (go_at_call 50; refine HNB.out.mono ?_; rintro e w4 ⟨rfl, hb4⟩; have B4 := Li (below_step HB3.out HB3.out.size hb4); have C4 := Li (HC3.out.up hb4); clear hb4)
            go_roundw
            case rel => first | exact ⟨m + 1, by omega, by go_num, by rw [← HST.out]; exact C4, B4⟩ | ((repeat apply Exists.intro); exact ⟨⟨m + 1, by omega, by go_num, by rw [← HST.out]; exact C4, B4⟩, rfl⟩)
            case measure => simp [intOf]; omega
          | some v =>
            have hv := numL_fit hrf.2 hnm
            have hc0 : cooL (lsH rs) i K r.l = scV v lo hi K := by unfold cooL; rw [hnm, HE1.out, HE2.out]
            obtain ⟨cv, hcv⟩ : ∃ cv, scV v lo hi K = cv := ⟨_, rfl⟩
            rw [hc0, hcv] at hcm
            have HST := Li (show ((cs.take m ++ List.replicate (j - m) 0).map u32V).set m (u32V cv) = (cs.take (m + 1) ++ List.replicate (j - (m + 1)) 0).map u32V by
              rw [List.take_add_one, hcm, hrep, List.map_append, List.set_append_right _ _ (by rw [List.length_map, htl]; exact Nat.le_refl _), List.length_map, htl, Nat.sub_self]
              simp)
            have HSC := Li (fun W : World => by have := Scale_any v lo hi K W hv HI2.out.1 HI2.out.2; rw [hcv] at this; exact this)
            have HOL := Li (show ((cs.take m ++ List.replicate (j - m) 0).map u32V)[m]? = some (u32V 0) by
              rw [hrep, List.map_append, List.getElem?_append_right (by rw [List.length_map, htl]; exact Nat.le_refl _), List.length_map, htl, Nat.sub_self]; rfl)
            rw [hnm] at HNB
            clear hnm hrf hc0 hcm hrep htl hv hcv
            go_wp2_with (first
              | (go_at_call 50; refine HNB.out.mono ?_; rintro e w4 ⟨rfl, hb4⟩; have B4 := Li (below_step HB3.out HB3.out.size hb4); have C4 := Li (HC3.out.up hb4); clear hb4)
              | (go_at_call 15; refine (HSC.out _).mono ?_; rintro e w5 ⟨rfl, hb5⟩; have B5 := Li (below_step B4.out B4.out.size hb5); have C5 := Li (C4.out.up hb5); have k0 := C5.out.cell m HOL.out; have k1 := C5.out.frozen m; have k2 := C5.out.lt; clear hb5))
            have C6 := Li (show CB (w5.setCell ⟨g, m, none⟩ (u32V cv)) g 22 ((cs.take (m + 1) ++ List.replicate (j - (m + 1)) 0).map u32V) by rw [← HST.out]; exact C5.out.set_ m _)
            have B6 := Li (B5.out.setCell (p := ⟨g, m, none⟩) hgw (u32V cv))
            go_roundw
            case rel => first | exact ⟨m + 1, by omega, by go_num, C6, B6⟩ | ((repeat apply Exists.intro); exact ⟨⟨m + 1, by omega, by go_num, C6, B6⟩, rfl⟩)
            case measure => simp [intOf]; omega
        · obtain rfl : m = j := by omega
          have HEN := Li (show cs.take m ++ List.replicate (m - m) 0 = cs by rw [List.take_of_length_le (by rw [HCL.out]; exact Nat.le_refl _), Nat.sub_self]; simp)
          go_wp2_with fail
          go_ret
          exact ⟨⟨g, rfl, hgw, by have := HC.out; rw [HEN.out] at this; exact this⟩, HB2.out⟩
end Go.Proofs.Ytlndpclgljfloaa
