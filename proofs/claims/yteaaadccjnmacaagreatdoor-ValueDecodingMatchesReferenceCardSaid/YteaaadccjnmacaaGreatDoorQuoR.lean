/-
  The reference's quoted, by a contract.
-/
import Derived.Test.YteaaadccjnmacaaGreatDoorStep
import Derived.Test.YteaaadccjnmacaaGreatDoorQuoteP
import Derived.Test.YteaaadccjnmacaaGreatDoorValR
import Derived.Lib.SlBytesConst
namespace Go.Proofs.YteaaadccjnmacaaGreatDoor
open Go.RowKit Go.Lib

def hexT : List UInt8 := [48, 49, 50, 51, 52, 53, 54, 55, 56, 57, 97, 98, 99, 100, 101, 102]
theorem hexT_at (n : Nat) (h : n < 16) : hexT[n]? = some (hexD n) := by
  have : n = 0 ∨ n = 1 ∨ n = 2 ∨ n = 3 ∨ n = 4 ∨ n = 5 ∨ n = 6 ∨ n = 7 ∨ n = 8 ∨ n = 9 ∨ n = 10 ∨ n = 11 ∨ n = 12 ∨ n = 13 ∨ n = 14 ∨ n = 15 := by omega
  rcases this with rfl | rfl | rfl | rfl | rfl | rfl | rfl | rfl | rfl | rfl | rfl | rfl | rfl | rfl | rfl | rfl <;> rfl
/-- the table of the digits -/
def HxB (w : World) (g : Nat) : Prop := w.heap[g]? = some (.cells (cb hexT).toArray 5 (16, 17))
theorem HxB.lt {w : World} {g : Nat} (h : HxB w g) : g < w.heap.size := (Array.getElem?_eq_some_iff.1 h).1
theorem HxB.at5 {w : World} {g : Nat} (h : HxB w g) {i : Nat} {c : UInt8} (hi : hexT[i]? = some c) : w.cell? ⟨g, i, none⟩ = some (.int .u8 (c.toNat : Int)) := by
  refine (cell_of_row w g i _ _ (16, 17) h).trans ?_
  rw [List.getElem?_toArray]
  unfold cb
  rw [List.getElem?_map, hi]
  rfl
/-- a row that begins with a quotation mark is not the table of digits -/
theorem own_hex {w : World} {base g n : Nat} {A : Option Addr} {c : Nat} {r : List UInt8} (h : Owns w base (.slice A n c) (34 :: r)) (hg : HxB w g) : some g ≠ (Value.slice A n c).ownBlock := by
  intro e
  cases A with
  | none => cases e
  | some a =>
    have e' : some g = some a.block := e
    injection e' with e'
    rcases h.shape with ⟨k, _⟩ | ⟨g', cap, k, _, _, _⟩
    · cases k
    · injection k with k1 _ _
      injection k1 with k1
      subst k1
      have e2 : g = g' := e'
      subst e2
      obtain ⟨_, _, hs⟩ := h.shows
      obtain ⟨b, off, k2, _, hc⟩ := hs (by simp)
      injection k2 with k2
      injection k2 with k3 k4
      subst k3 k4
      have h1 := hc 0 34 rfl
      have h2 := hg.at5 (i := 0) (c := 48) rfl
      rw [Nat.zero_add] at h1
      rw [h1] at h2
      cases h2
theorem q_head (l : List UInt8) : [34] ++ qBs l = 34 :: qBs l := rfl
set_option maxHeartbeats 4000000 in
set_option maxRecDepth 20000 in
theorem Rquoted_any (s : ByteArray) (w : World) (hs : s.size ≤ 1000000) : Calls Tryz.prog 30 #[.string s] w fun e w' => ∃ A c, e = .returned (.slice A (quoteL s.data.toList).length c) ∧ Owns w' w.heap.size (.slice A (quoteL s.data.toList).length c) (quoteL s.data.toList) ∧ Below w.heap.size w w' := by
  obtain ⟨n, hn⟩ : ∃ n, n = s.size := ⟨_, rfl⟩
  obtain ⟨l, hl⟩ : ∃ l, l = s.data.toList := ⟨_, rfl⟩
  have hln : l.length = n := by rw [hl, hn]; rfl
  have HBY : Hid (∀ k c, l[k]? = some c → ∀ h' : k < s.size, (s[k]'h').toNat = c.toNat) := fun k c h => byte_at s k c (by rw [← hl]; exact h)
  have HLN := Lib.hid hln
  have HQ : Hid (∀ k, (34 :: qBs (l.take k)).length ≤ 4 * n + 1) := fun k => by
    have h1 := qBs_len (l.take k)
    have h2 : (l.take k).length ≤ n := by rw [← hln]; exact List.length_take_le' ..
    rw [List.length_cons]
    omega
  have HE : Hid (34 :: qBs (l.take n) ++ [34] = quoteL s.data.toList) := by
    show _ = _
    rw [← hl, ← hln, List.take_length]
    rfl
  have hsz : (s.size : Int) = (n : Int) := by rw [hn]
  have H0 : Hid (Owns ((w.alloc (.cells #[.int .u8 34] 5)).alloc (.cells (cb hexT).toArray 5 (16, 17))) w.heap.size (.slice (some ⟨w.heap.size, 0, none⟩) 1 1) [34]) := World.ownsRow.alloc (owns_lit w 34) _
  have HX0 : Hid (HxB ((w.alloc (.cells #[.int .u8 34] 5)).alloc (.cells (cb hexT).toArray 5 (16, 17))) (w.heap.size + 1)) := by
    show HxB _ _
    unfold HxB
    have h := heap_alloc_new (w.alloc (.cells #[.int .u8 34] 5)) (.cells (cb hexT).toArray 5 (16, 17))
    simpa using h
  have kc : (convert 22 22 (.slice (some ⟨w.heap.size + 1, 0, none⟩) 16 16)).run Tryz.prog ((w.alloc (.cells #[.int .u8 34] 5)).alloc (.cells (cb hexT).toArray 5)) = .ok (.slice (some ⟨w.heap.size + 1, 0, none⟩) 16 16) ((w.alloc (.cells #[.int .u8 34] 5)).alloc (.cells (cb hexT).toArray 5 (16, 17))) := by
    have h := Lib.run_convert_bytes_const (P := Tryz.prog) (w.alloc (.cells #[.int .u8 34] 5)) 22 5 (cb hexT).toArray 16 16 Tryz.underlying22 Tryz.underlying5
    have e : (w.alloc (.cells #[.int .u8 34] 5)).heap.size = w.heap.size + 1 := by simp
    rw [e] at h
    exact h
  have hal : Hid (Below w.heap.size w ((w.alloc (.cells #[.int .u8 34] 5)).alloc (.cells (cb hexT).toArray 5 (16, 17)))) := (val_al w _).alloc (by simp) _
  have hct : (cb hexT).toArray = #[Value.int IntKind.u8 48, Value.int IntKind.u8 49, Value.int IntKind.u8 50, Value.int IntKind.u8 51, Value.int IntKind.u8 52, Value.int IntKind.u8 53, Value.int IntKind.u8 54, Value.int IntKind.u8 55, Value.int IntKind.u8 56, Value.int IntKind.u8 57, Value.int IntKind.u8 97, Value.int IntKind.u8 98, Value.int IntKind.u8 99, Value.int IntKind.u8 100, Value.int IntKind.u8 101, Value.int IntKind.u8 102] := rfl
  rw [hct] at H0 HX0 hal kc
  clear hct
  clear hln hl
  go_enter Tryz.func30, Tryz.ntmps30
  go_wp2_with fail
  go_loopw [3, 5, 6] (fun v i _ wr => ∃ (k : Nat) (A' : Option Addr) (c' : Nat), k ≤ n ∧ i = .int .i64 k ∧ v = .slice A' (34 :: qBs (l.take k)).length c' ∧ Hid (Owns wr w.heap.size (.slice A' (34 :: qBs (l.take k)).length c') (34 :: qBs (l.take k))) ∧ Hid (HxB wr (w.heap.size + 1)) ∧ Hid (Below w.heap.size w wr)) (fun _ i _ _ => n - (RowKit.intOf i).toNat)
  case atStart => exact ⟨0, _, 1, Nat.zero_le _, rfl, rfl, H0, HX0, hal⟩
  case round =>
    clear H0 HX0 hal
    obtain ⟨k, A', c', hk, rfl, rfl, ho, hx, hb⟩ := hrel
    by_cases hlt : k < n
    · obtain ⟨c, hc⟩ : ∃ c, l[k]? = some c := ⟨_, List.getElem?_eq_getElem (by rw [HLN.out]; exact hlt)⟩
      have hby := HBY.out k c hc
      have HST : Hid (34 :: qBs (l.take (k + 1)) = 34 :: qBs (l.take k) ++ qB c) := q_step l k c hc
      have HNE := Lib.hid (own_hex ho.out hx.out)
      have j1 : (k : Int) < (n : Int) := by omega
      have hbd := HQ.out k
      have hc8 := UInt8.toNat_lt c
      have HD := Lib.hid (fun h1 h2 h3 h4 => qB_plain c h1 h2 h3 h4)
      have HX := Lib.hid (fun h => qB_hex c h)
      clear hc
      generalize 34 :: qBs (l.take k) = P at *
      obtain ⟨x, hxx⟩ : ∃ x, x = c.toNat := ⟨_, rfl⟩
      rw [← hxx] at hby hc8
      have HXX := Lib.hid hxx
      clear hxx
      by_cases hp : ¬ x < 32 ∧ ¬ 126 < x ∧ ¬ x = 34 ∧ ¬ x = 92
      · obtain ⟨p1, p2, p3, p4⟩ := hp
        have q1 : 32 ≤ (x : Int) := by omega
        have q2 : (x : Int) ≤ 126 := by omega
        have q3 : ¬ (x : Int) = 34 := by omega
        have q4 : ¬ (x : Int) = 92 := by omega
        have HS2 : Hid (34 :: qBs (l.take (k + 1)) = P ++ [c]) := by show _ = _; rw [HST.out, HD.out (by rw [← HXX.out]; exact p1) (by rw [← HXX.out]; exact p2) (by rw [← HXX.out]; exact p3) (by rw [← HXX.out]; exact p4)]
        clear HD HX HST
        go_wp2_with (at_builtin; refine wpList_growC rfl (.tmp 33) (.tmp 35) _ rfl Tryz.underlying22 info5 w.heap.size (.slice A' P.length c') P c _ rfl rfl rfl (by rw [HXX.out]) ho.out (by omega) hb.out.size ?_; intro A3 c3 w3 ho3 hg3)
        have HB3 : Hid (Below w.heap.size w w3) := grown_owns ho.out hg3 hb.out hb.out.size (Nat.le_refl _)
        have HO3 : Hid (Owns w3 w.heap.size (.slice A3 (P ++ [c]).length c3) (P ++ [c])) := ho3
        have HX3 : Hid (HxB w3 (w.heap.size + 1)) := (hg3.block _ hx.out.lt HNE.out).trans hx.out
        clear ho3 hg3
        go_wp2_with fail
        go_roundw
        case rel => exact ⟨k + 1, A3, c3, by omega, by go_num, by rw [HS2.out, List.length_append]; rfl, by rw [HS2.out]; exact HO3, HX3, HB3⟩
        case measure => simp [RowKit.intOf]; omega
      · have hp' : Hid (x < 32 ∨ 126 < x ∨ x = 34 ∨ x = 92) := by show _ ∨ _; omega
        have HS2 : Hid (34 :: qBs (l.take (k + 1)) = P ++ [92, 120, hexD (x / 16), hexD (x % 16)]) := by show _ = _; rw [HST.out, HX.out (by rw [← HXX.out]; exact hp'.out), ← HXX.out]
        obtain ⟨x1, hx1⟩ : ∃ y, y = x / 16 := ⟨_, rfl⟩
        obtain ⟨x2, hx2⟩ : ∃ y, y = x % 16 := ⟨_, rfl⟩
        rw [← hx1, ← hx2] at HS2
        have kc1 := hx.out.at5 (hexT_at x1 (by omega))
        have kc2 := hx.out.at5 (hexT_at x2 (by omega))
        have i1 : (x : Int) / 16 = (x1 : Int) := by omega
        have i2 : (x : Int) % 16 = (x2 : Int) := by omega
        have k1 : (x1 : Int) < 16 := by omega
        have k2 : (x2 : Int) < 16 := by omega
        have i3 : (x : Int).tdiv 16 = (x1 : Int) := by rw [Int.tdiv_eq_ediv_of_nonneg (by omega)]; exact i1
        have i4 : (x : Int).tmod 16 = (x2 : Int) := by rw [Int.tmod_eq_emod_of_nonneg (by omega)]; exact i2
        have v1 : IntKind.u8.wrap (x1 : Int) = (x1 : Int) := IntWalk.u8_in _ (by omega)
        have v2 : IntKind.u8.wrap (x2 : Int) = (x2 : Int) := IntWalk.u8_in _ (by omega)
        clear HD HX HST hp HXX hx1 hx2
        obtain ⟨d1, hd1⟩ : ∃ d, d = hexD x1 := ⟨_, rfl⟩
        obtain ⟨d2, hd2⟩ : ∃ d, d = hexD x2 := ⟨_, rfl⟩
        rw [← hd1] at HS2 kc1
        rw [← hd2] at HS2 kc2
        clear hd1 hd2
        have FH : Hid (F4 w.heap.size w wr (.slice A' P.length c') P) := ⟨hb.out, ho.out, hb.out.size⟩
        have HSH : Hid (∀ w1 : World, Shows (w1.alloc (.cells #[Value.int .u8 92, .int .u8 120, .int .u8 (d1.toNat : Int), .int .u8 (d2.toNat : Int)] 5)) (w1.heap.size + 1) (some ⟨w1.heap.size, 0, none⟩) [92, 120, d1, d2]) := fun w1 => by
          have h : Blk (w1.alloc (.cells #[Value.int .u8 92, .int .u8 120, .int .u8 (d1.toNat : Int), .int .u8 (d2.toNat : Int)] 5)) w1.heap.size [92, 120, d1, d2] := by
            unfold Blk
            rw [heap_alloc_new]
            rfl
          have h2 := h.shows4
          simpa using h2
        have HKC : Hid (∀ w3 : World, w3.heap[w.heap.size + 1]? = wr.heap[w.heap.size + 1]? → w3.cell? ⟨w.heap.size + 1, x1, none⟩ = some (.int .u8 (d1.toNat : Int)) ∧ w3.cell? ⟨w.heap.size + 1, x2, none⟩ = some (.int .u8 (d2.toNat : Int))) := fun w3 h => by
          refine ⟨(World.cell?_of_block (a := ⟨w.heap.size + 1, x1, none⟩) h).trans kc1, (World.cell?_of_block (a := ⟨w.heap.size + 1, x2, none⟩) h).trans kc2⟩
        have HLT : Hid (w.heap.size + 1 < wr.heap.size) := hx.out.lt
        have HN4 : Hid (P.length + 4 = (P ++ [92, 120, d1, d2]).length) := by show _ = _; simp
        have hc4 : x < 32 ∨ (¬ x < 32 ∧ 126 < x) ∨ (¬ x < 32 ∧ ¬ 126 < x ∧ x = 34) ∨ (¬ x < 32 ∧ ¬ 126 < x ∧ ¬ x = 34 ∧ x = 92) := by have := hp'.out; omega
        clear hp'
        rcases hc4 with p | ⟨p, p2⟩ | ⟨p, p2, p3⟩ | ⟨p, p2, p3, p4⟩
        all_goals (
          first
            | (have q1 : ¬ 32 ≤ (x : Int) := by omega)
            | (have q1 : 32 ≤ (x : Int) := by omega
               have q2 : ¬ (x : Int) ≤ 126 := by omega)
            | (have q1 : 32 ≤ (x : Int) := by omega
               have q2 : (x : Int) ≤ 126 := by omega
               have q3 : ((x : Int) == 34) = true := by rw [p3]; rfl
               have q5 : ((x : Int) != 34) = false := by rw [p3]; rfl
               clear p3)
            | (have q1 : 32 ≤ (x : Int) := by omega
               have q2 : (x : Int) ≤ 126 := by omega
               have q3 : ((x : Int) == 34) = false := by rw [p4]; rfl
               have q5 : ((x : Int) != 34) = true := by rw [p4]; rfl
               have q4 : ((x : Int) == 92) = true := by rw [p4]; rfl
               have q6 : ((x : Int) != 92) = false := by rw [p4]; rfl
               clear p3 p4)
          go_wp2_with fail
          go_region_held_law (fun w' => w'.cell? ⟨w.heap.size + 1, x1, none⟩ = some (.int .u8 (d1.toNat : Int)) ∧ w'.cell? ⟨w.heap.size + 1, x2, none⟩ = some (.int .u8 (d2.toNat : Int)))
            (first | exact hS3 | exact HKC.out _ rfl | exact HKC.out _ (Below.heap_alloc _ _ _ HLT.out) | go_keep)
            ((refine step_growB rfl (.tmp 37) (.tmp 48) rfl w.heap.size w _ P (some ⟨wr.heap.size, 0, none⟩) [92, 120, d1, d2] 4 4 (wr.heap.size + 1) (P.length + 4) rfl rfl rfl (by first | exact FH.out.ao _ | exact (FH.out.ao _).dr | exact (FH.out.ao _).dr.dr) (by first | exact HSH.out wr) (by omega) HN4.out ?_; intro A3 c3 w3 ho3 hb3 hg3; have HO3 := Lib.hid ho3; have HB3 := Lib.hid hb3; have HX3 : Hid (HxB w3 (w.heap.size + 1)) := ((hg3.block _ (Nat.lt_of_lt_of_le HLT.out (by first | exact (val_al wr _).size)) HNE.out).trans (Below.heap_alloc _ _ _ HLT.out)).trans hx.out; have hS3 : w3.cell? ⟨w.heap.size + 1, x1, none⟩ = some (.int .u8 (d1.toNat : Int)) ∧ w3.cell? ⟨w.heap.size + 1, x2, none⟩ = some (.int .u8 (d2.toNat : Int)) := HKC.out w3 (HX3.out.trans hx.out.symm); clear ho3 hb3 hg3))
          all_goals (
            go_wp2_with fail
            go_roundw
            case rel => exact ⟨k + 1, A3, c3, by omega, by go_num, by rw [HS2.out, List.length_append]; rfl, by rw [HS2.out, List.length_append]; exact HO3, HX3, HB3⟩
            case measure => simp [RowKit.intOf]; omega)
          )
    · have hkn : k = n := by omega
      have j1 : ¬ (k : Int) < (n : Int) := by omega
      subst hkn
      have hbd := HQ.out k
      obtain ⟨q, hq⟩ : ∃ q : UInt8, q = 34 := ⟨_, rfl⟩
      have HQ34 : Hid ((34 : Int) = (q.toNat : Int)) := by show _ = _; rw [hq]; rfl
      have HE2 := HE
      clear HE hlt
      generalize 34 :: qBs (l.take k) = P at *
      rw [← hq] at HE2
      clear hq
      go_wp2_with (at_builtin; refine wpList_growC rfl (.tmp 50) (.tmp 51) _ rfl Tryz.underlying22 info5 w.heap.size (.slice A' P.length c') P q _ rfl rfl rfl HQ34.out ho.out (by omega) hb.out.size ?_; intro A3 c3 w3 ho3 hg3)
      have HB3 : Hid (Below w.heap.size w w3) := grown_owns ho.out hg3 hb.out hb.out.size (Nat.le_refl _)
      have HO3 := Lib.hid ho3
      clear ho3 hg3
      go_wp2_with fail
      go_ret
      rw [← HE2.out]
      exact ⟨A3, c3, by simp, HO3.out, HB3.out⟩
end Go.Proofs.YteaaadccjnmacaaGreatDoor
