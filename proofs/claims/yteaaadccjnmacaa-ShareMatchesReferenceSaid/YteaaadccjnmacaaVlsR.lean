/-
  The reference's Values, by a contract.
-/
import Derived.Test.YteaaadccjnmacaaWeiR
namespace Go.Proofs.Yteaaadccjnmacaa
open Go.RowKit

/-- the sum for the byte i over the first k points -/
def sumK (l : List Sh) (x : UInt8) (i k : Nat) : UInt8 := lagS (xsOf l) ((pts l i).take k) x 0
theorem sumK_zero (l : List Sh) (x : UInt8) (i : Nat) : sumK l x i 0 = 0 := by simp [sumK, lagS]
theorem sumK_succ (l : List Sh) (x : UInt8) (i k : Nat) (s : Sh) (hs : l[k]? = some s) : sumK l x i (k + 1) = sumK l x i k ^^^ gmul (weight s.1 (xsOf l) x) (byte s.2 i) := by
  unfold sumK
  have e : (pts l i).take (k + 1) = (pts l i).take k ++ [(s.1, byte s.2 i)] := by
    rw [List.take_add_one]
    congr 1
    unfold pts
    rw [List.getElem?_map, hs]
    rfl
  rw [e, lagS_snoc]
theorem sumK_all (l : List Sh) (x : UInt8) (n i : Nat) (hi : i < n) : (interpB l x n)[i]? = some (sumK l x i l.length) := by
  rw [interp_get l x n i hi]
  unfold sumK
  rw [List.take_of_length_le (by rw [pts_len]; exact Nat.le_refl _)]

attribute [local go_sem] u8_xor
set_option maxHeartbeats 4000000 in
set_option maxRecDepth 20000 in
theorem VlsR_any (A : Option Addr) (N cap B n : Nat) (l : List Sh) (x : UInt8) (w : World) (hN : N = l.length) (h0 : 0 < N) (hs : ShL w B A l) (hB : B ≤ w.heap.size) (hl : N ≤ 1000) (hd : (l.map (·.1)).Nodup) (hn : ∀ s ∈ l, s.2.length = n) (hn2 : n ≤ 1000) :
    Calls Try.prog 31 #[.slice A N cap, .int .u8 (x.toNat : Int)] w fun e w' => ∃ A' c', e = .returned (.slice A' n c') ∧ Owns w' w.heap.size (.slice A' n c') (interpB l x n) ∧ Below w.heap.size w w' := by
  have HS := Lib.hid hs
  have HN := Lib.hid hN
  have HBB := Lib.hid hB
  have HNL := Lib.hid hn
  have HWE := Lib.hid (WeiR_any A N cap B l x w hN hs hB hl hd)
  clear hs hN hB hd hn
  go_enter Try.func31, Try.ntmps31
  go_wp2_with (go_at_call 37; refine HWE.out.mono ?_; rintro e w1 ⟨A1, c1, rfl, ho1, hb1⟩; have HO1 := Lib.hid ho1; have HB1 := Lib.hid hb1; clear ho1 hb1)
  have HW1 : Hid (Shows w1 w1.heap.size A1 (weiL l x)) := HO1.out.shows.2.2
  have ho : Hid (FS w1.heap.size w1 (w1.alloc (.cells #[] 5)) (.slice (some ⟨w1.heap.size, 0, none⟩) 0 0) ((interpB l x n).take 0)) := ⟨ba1 _ _, owns_empty w1 _ rfl, by rw [hz]; exact Nat.le_succ _⟩
  generalize (w1.alloc (.cells #[] 5)) = w2 at *
  clear HO1 HWE
  go_loopw [6, 7] (fun u i wr => ∃ (k : Nat) (A' : Option Addr) (c' : Nat), k ≤ n ∧ i = .int .i64 k ∧ u = .slice A' k c' ∧ Hid (FS w1.heap.size w1 wr (.slice A' k c') ((interpB l x n).take k))) (fun _ i _ => n - (intOf i).toNat)
  case atStart => exact ⟨0, _, _, Nat.zero_le _, rfl, rfl, ho⟩
  case round =>
    clear ho
    obtain ⟨k, A', c', hk, rfl, rfl, hG⟩ := hrel
    obtain ⟨wo, hwo⟩ : ∃ wo : World, wo = wr := ⟨_, rfl⟩
    subst hwo
    have HSB : Hid (ShL wo B A l) := HS.out.below ((HB1.out.trans (hG.out.bel.mono HB1.out.size)).mono HBB.out)
    obtain ⟨s0, hs0⟩ : ∃ s, l[0]? = some s := ⟨l[0]'(by rw [← HN.out]; exact h0), by simp⟩
    obtain ⟨b, off, rfl, hbB, hcell⟩ := HSB.out (by have := HN.out; omega)
    obtain ⟨_, A0, n0, c0, _⟩ := hcell 0 s0 hs0
    rw [HNL.out s0 (List.mem_of_getElem? hs0), Nat.zero_mul, Nat.add_zero] at c0
    have HCE := Lib.hid hcell
    have i0 : (0 : Int) < (N : Int) := by omega
    clear hs0 hcell
    by_cases hlt : k < n
    · have j1 : (k : Int) < (n : Int) := by omega
      go_wp2
      go_loopw [8, 9] (fun v i wr => ∃ (j m : Nat), j ≤ N ∧ i = .int .i64 j ∧ v = .int .u8 ((sumK l x k j).toNat : Int) ∧ Hid (wr = wo.drewN m)) (fun _ i _ => N - (intOf i).toNat)
      case atStart => exact ⟨0, 0, Nat.zero_le _, rfl, by rw [sumK_zero]; rfl, rfl⟩
      case round =>
        obtain ⟨j, m, hj, rfl, rfl, hw⟩ := hrel
        obtain ⟨wi, hwi⟩ : ∃ wi : World, wi = wr := ⟨_, rfl⟩
        subst hwi
        by_cases hlj : j < N
        · have j2 : (j : Int) < (N : Int) := by omega
          obtain ⟨o, hoj⟩ : ∃ o, l[j]? = some o := ⟨l[j]'(by rw [← HN.out]; exact hlj), by simp⟩
          have hST := sumK_succ l x k j o hoj
          obtain ⟨_, A2, n2, c2, hsh2, _⟩ := HCE.out j o hoj
          rw [HNL.out o (List.mem_of_getElem? hoj)] at c2
          obtain ⟨b3, off3, rfl, _, hc3⟩ := hsh2 (by rw [HNL.out o (List.mem_of_getElem? hoj)]; omega)
          have c3 := hc3 k _ (byte_get (by rw [HNL.out o (List.mem_of_getElem? hoj)]; exact hlt))
          have hwl := weiL_get l x j o hoj
          obtain ⟨b4, off4, rfl, hb4, hc4⟩ := (HW1.out.below hG.out.bel) (by rw [weiL_len, ← HN.out]; omega)
          have c4 := hc4 j _ hwl
          have hwid : wi.heap = wo.heap := by rw [hw.out]; rfl
          have d0 : wi.cell? ⟨b, off + 1, none⟩ = some (.slice A0 n n0) := by rw [← c0]; unfold World.cell?; rw [hwid]
          have d2 : wi.cell? ⟨b, off + j * 2 + 1, none⟩ = some (.slice (some ⟨b3, off3, none⟩) n n2) := by rw [← c2]; unfold World.cell?; rw [hwid]
          have d3 : wi.cell? ⟨b3, off3 + k, none⟩ = some (.int .u8 ((byte o.2 k).toNat : Int)) := by rw [← c3]; unfold World.cell?; rw [hwid]
          have d4 : wi.cell? ⟨b4, off4 + j, none⟩ = some (.int .u8 ((weight o.1 (xsOf l) x).toNat : Int)) := by rw [← c4]; unfold World.cell?; rw [hwid]
          have HST := Lib.hid hST
          clear hST hsh2 hc3 hwl hc4 hwid c2 c3 c4 hoj
          generalize sumK l x k j = sk at *
          generalize byte o.2 k = y at *
          generalize weight o.1 (xsOf l) x = v at *
          go_wp2
          go_quiet (first | (go_at_call 32; exact Calls.quiet_of_same (mulR_any v y _)))
          go_wp2
          go_roundw
          case rel => exact ⟨j + 1, m + nq, by omega, by go_num, by rw [HST.out, UInt8.toNat_xor], (show _ = _ by rw [hw.out, World.drewN_drewN])⟩
          case measure => simp [intOf]; omega
        · have hjN : j = N := by omega
          have j2 : ¬ (j : Int) < (N : Int) := by omega
          subst hjN
          have HIL : Hid ((interpB l x n).length = n) := interp_len l x n
          have HE : Hid ((interpB l x n).take k ++ [sumK l x k j] = (interpB l x n).take (k + 1)) := by
            show _ = _
            rw [List.take_add_one, sumK_all l x n k hlt, ← HN.out]
            rfl
          have HG2 : Hid (FS w1.heap.size w1 wi (.slice A' k c') ((interpB l x n).take k)) := by
            show FS _ _ _ _ _
            rw [hw.out]
            exact hG.out.drN m
          have hroom : ((interpB l x n).take k).length + 1 ≤ 140737488355328 := by rw [List.length_take]; omega
          generalize sumK l x k j = sk at *
          go_wp2_with (at_builtin; refine wpList_growC (wr := wi) rfl (.tmp 44) (.tmp 46) _ rfl Try.underlying22 info5 w1.heap.size _ ((interpB l x n).take k) sk _ rfl rfl rfl rfl HG2.out.own hroom HG2.out.top ?_; intro A3 c3 w3 ho3 hg3; have HO3 := Lib.hid ho3; have HG3 := Lib.hid hg3; clear ho3 hg3)
          go_roundw
          case rel =>
            have e3 : ((interpB l x n).take k ++ [sk]).length = k + 1 := by rw [List.length_append, List.length_take, HIL.out]; simp; omega
            refine ⟨k + 1, A3, c3, by omega, by go_num, by rw [HIL.out, Nat.min_eq_left (by omega)], ?_⟩
            have h9 := HO3.out
            rw [e3, HE.out] at h9
            have hb9 : Below w1.heap.size w1 w3 := HG2.out.bel.grown HG3.out HG2.out.top (fun q hq => (World.ownsRow.lt HG2.out.own q hq).1)
            exact ⟨hb9, h9, hb9.size⟩
          case measure => simp [intOf]; omega
    · have hkn : k = n := by omega
      have j1 : ¬ (k : Int) < (n : Int) := by omega
      subst hkn
      have h9 := owns_low hG.out.own HB1.out.size
      rw [List.take_of_length_le (by rw [interp_len]; exact Nat.le_refl _)] at h9
      have H9 := Lib.hid h9
      clear h9
      go_wp2
      go_ret
      exact ⟨A', c', rfl, H9.out, HB1.out.trans (hG.out.bel.mono HB1.out.size)⟩
end Go.Proofs.Yteaaadccjnmacaa
