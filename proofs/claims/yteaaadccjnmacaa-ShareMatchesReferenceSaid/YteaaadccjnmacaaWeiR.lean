/-
  The reference's Weights and Values, by contracts.
-/
import Derived.Test.YteaaadccjnmacaaSplR
import Derived.Test.YteaaadccjnmacaaInterP
import Derived.Test.YteaaadccjnmacaaCombM
import Derived.Test.YteaaadccjnmacaaChoose
namespace Go.Proofs.Yteaaadccjnmacaa
open Go.RowKit

def weiL (l : List Sh) (x : UInt8) : List UInt8 := l.map fun s => weight s.1 (xsOf l) x
theorem weiL_len (l : List Sh) (x : UInt8) : (weiL l x).length = l.length := by simp [weiL]
theorem weiL_get (l : List Sh) (x : UInt8) (k : Nat) (s : Sh) (hs : l[k]? = some s) : (weiL l x)[k]? = some (weight s.1 (xsOf l) x) := by simp [weiL, hs]

attribute [local go_sem] u8_xor
set_option maxHeartbeats 4000000 in
set_option maxRecDepth 20000 in
theorem WeiR_any (A : Option Addr) (N cap B : Nat) (l : List Sh) (x : UInt8) (w : World) (hN : N = l.length) (hs : ShL w B A l) (hB : B ≤ w.heap.size) (hl : N ≤ 1000) (hd : (l.map (·.1)).Nodup) :
    Calls Try.prog 37 #[.slice A N cap, .int .u8 (x.toNat : Int)] w fun e w' => ∃ A' c', e = .returned (.slice A' N c') ∧ Owns w' w.heap.size (.slice A' N c') (weiL l x) ∧ Below w.heap.size w w' := by
  have HS := Lib.hid hs
  have HN := Lib.hid hN
  have HBB := Lib.hid hB
  have HDD := Lib.hid hd
  clear hs hN hB hd
  go_enter Try.func37, Try.ntmps37
  go_wp2
  have ho : Hid (FS w.heap.size w (w.alloc (.cells #[] 5)) (.slice (some ⟨w.heap.size, 0, none⟩) 0 0) ((weiL l x).take 0)) := ⟨ba1 _ _, owns_empty w _ rfl, by rw [hz]; exact Nat.le_succ _⟩
  generalize (w.alloc (.cells #[] 5)) = w1 at *
  go_loopw [5, 6] (fun u i wr => ∃ (k : Nat) (A' : Option Addr) (c' : Nat), k ≤ N ∧ i = .int .i64 k ∧ u = .slice A' k c' ∧ Hid (FS w.heap.size w wr (.slice A' k c') ((weiL l x).take k))) (fun _ i _ => N - (intOf i).toNat)
  case atStart => exact ⟨0, _, _, Nat.zero_le _, rfl, rfl, ho⟩
  case round =>
    clear ho
    obtain ⟨k, A', c', hk, rfl, rfl, hG⟩ := hrel
    obtain ⟨wo, hwo⟩ : ∃ wo : World, wo = wr := ⟨_, rfl⟩
    subst hwo
    by_cases hlt : k < N
    · have j1 : (k : Int) < (N : Int) := by omega
      obtain ⟨s, hsk⟩ : ∃ s, l[k]? = some s := ⟨l[k]'(by rw [← HN.out]; exact hlt), by simp⟩
      have HSK := Lib.hid hsk
      have hHS := HS.out.below (hG.out.bel.mono HBB.out)
      obtain ⟨b, off, rfl, hbB, hcell⟩ := hHS (by have := HN.out; omega)
      have c1 := (hcell k s hsk).1
      have HCE : Hid (∀ j t, l[j]? = some t → wo.cell? ⟨b, off + j * 2, none⟩ = some (.int .u8 (t.1.toNat : Int))) := fun j t hj => (hcell j t hj).1
      clear hsk hcell hHS
      go_wp2
      go_loopw [7, 8, 9] (fun u v i wr => ∃ (j m : Nat), j ≤ N ∧ i = .int .i64 j ∧ u = .int .u8 ((above s.1 ((xsOf l).take j) x).toNat : Int) ∧ v = .int .u8 ((above s.1 ((xsOf l).take j) s.1).toNat : Int) ∧ Hid (wr = wo.drewN m)) (fun _ _ i _ => N - (intOf i).toNat)
      case atStart => exact ⟨0, 0, Nat.zero_le _, rfl, rfl, rfl, rfl⟩
      case round =>
        obtain ⟨j, m, hj, rfl, rfl, rfl, hw⟩ := hrel
        obtain ⟨wi, hwi⟩ : ∃ wi : World, wi = wr := ⟨_, rfl⟩
        subst hwi
        have hcell : ∀ j t, l[j]? = some t → wi.cell? ⟨b, off + j * 2, none⟩ = some (.int .u8 (t.1.toNat : Int)) := fun j t h => by rw [hw.out]; exact HCE.out j t h
        by_cases hlj : j < N
        · have j2 : (j : Int) < (N : Int) := by omega
          obtain ⟨o, hoj⟩ : ∃ o, l[j]? = some o := ⟨l[j]'(by rw [← HN.out]; exact hlj), by simp⟩
          have c2 := hcell j o hoj
          have c3 := hcell k s HSK.out
          have hxo : (xsOf l)[j]? = some o.1 := by unfold xsOf; rw [List.getElem?_map, hoj]; rfl
          have HXO := Lib.hid hxo
          have hst1 := above_step s.1 (xsOf l) x j o.1 hxo
          have hst2 := above_step s.1 (xsOf l) s.1 j o.1 hxo
          generalize above s.1 ((xsOf l).take j) x = av at *
          generalize above s.1 ((xsOf l).take j) s.1 = dv at *
          by_cases hjk : j = k
          · have hos : o.1 = s.1 := by
              rw [hjk] at hoj
              rw [Option.some.inj (hoj.symm.trans HSK.out)]
            rw [if_pos hos] at hst1 hst2
            have HST := Lib.hid (And.intro hst1 hst2)
            have j3 : (j : Int) = (k : Int) := by omega
            clear hcell hst1 hst2 hxo hoj hos
            subst hjk
            go_wp2
            go_roundw
            case rel => exact ⟨j + 1, m, by omega, by go_num, by rw [HST.out.1], by rw [HST.out.2], hw⟩
            case measure => simp [intOf]; omega
          · have hos : ¬ o.1 = s.1 := fun e => hjk (nodup_at HDD.out hoj HSK.out e)
            rw [if_neg hos] at hst1 hst2
            have HST := Lib.hid (And.intro hst1 hst2)
            have j3 : ¬ (j : Int) = (k : Int) := by omega
            have j4 : ((j : Int) == (k : Int)) = false := by simpa using j3
            clear hcell hst1 hst2 hxo hoj hos
            go_wp2_with (go_at_call 32; refine (mulR_any av (x ^^^ o.1) _).mono ?_; rintro e w' ⟨rfl, rfl⟩)
            go_quiet (first | (go_at_call 32; exact Calls.quiet_of_same (mulR_any dv (s.1 ^^^ o.1) _)))
            go_wp2
            go_roundw
            case rel => exact ⟨j + 1, m + nq, by omega, by go_num, by rw [HST.out.1], by rw [HST.out.2], (show _ = _ by rw [hw.out, World.drewN_drewN])⟩
            case measure => simp [intOf]; omega
        · have hjN : j = N := by omega
          have j2 : ¬ (j : Int) < (N : Int) := by omega
          obtain ⟨wt, hwt⟩ : ∃ wt, wt = gmul (above s.1 ((xsOf l).take j) x) (ginv (above s.1 ((xsOf l).take j) s.1)) := ⟨_, rfl⟩
          have HWT : Hid ((weiL l x).take k ++ [wt] = (weiL l x).take (k + 1)) := by
            show _ = _
            have e : wt = weight s.1 (xsOf l) x := by
              rw [hwt, hjN, List.take_of_length_le (show (xsOf l).length ≤ N by rw [HN.out]; simp [xsOf])]
              rfl
            rw [List.take_add_one, weiL_get l x k s HSK.out, e]
            rfl
          have HWL : Hid ((weiL l x).length = N) := by show _ = _; rw [weiL_len]; exact HN.out.symm
          generalize above s.1 ((xsOf l).take j) x = av at *
          generalize above s.1 ((xsOf l).take j) s.1 = dv at *
          have HW2 := Lib.hid hwt
          clear hwt
          have HG2 : Hid (FS w.heap.size w wi (.slice A' k c') ((weiL l x).take k)) := by
            show FS _ _ _ _ _
            rw [hw.out]
            exact hG.out.drN m
          have hroom : ((weiL l x).take k).length + 1 ≤ 140737488355328 := by rw [List.length_take]; omega
          clear hcell c1
          go_wp2_with (first
            | (go_at_call 33; refine (invR_any dv _).mono ?_; rintro e w' ⟨rfl, hww⟩; have hww := hww.symm; subst hww)
            | (go_at_call 32; refine (mulR_any av (ginv dv) _).mono ?_; rintro e w' ⟨rfl, hww⟩; have hww := hww.symm; subst hww)
            | (at_builtin; refine wpList_growC (wr := wi) rfl (.tmp 48) (.tmp 53) _ rfl Try.underlying22 info5 w.heap.size _ ((weiL l x).take k) wt _ rfl rfl rfl (by rw [HW2.out]) HG2.out.own hroom HG2.out.top ?_; intro A3 c3 w3 ho3 hg3; have HO3 := Lib.hid ho3; have HG3 := Lib.hid hg3; clear ho3 hg3))
          go_roundw
          case rel =>
            have e3 : ((weiL l x).take k ++ [wt]).length = k + 1 := by rw [List.length_append, List.length_take, HWL.out]; simp; omega
            refine ⟨k + 1, A3, c3, by omega, by go_num, by rw [HWL.out, Nat.min_eq_left (by omega)], ?_⟩
            have h9 := HO3.out
            rw [e3, HWT.out] at h9
            have hb9 : Below w.heap.size w w3 := HG2.out.bel.grown HG3.out HG2.out.top (fun q hq => (World.ownsRow.lt HG2.out.own q hq).1)
            exact ⟨hb9, h9, hb9.size⟩
          case measure => simp [intOf]; omega
    · have hkN : k = N := by omega
      have j1 : ¬ (k : Int) < (N : Int) := by omega
      subst hkN
      have h9 := hG.out.own
      rw [List.take_of_length_le (by rw [weiL_len, ← HN.out]; exact Nat.le_refl _)] at h9
      have H9 := Lib.hid h9
      clear h9
      go_wp2
      go_ret
      exact ⟨A', c', rfl, H9.out, hG.out.bel⟩
end Go.Proofs.Yteaaadccjnmacaa
