/-
  The reference's Poly (the coefficients for a byte), by a contract.
-/
import Derived.Test.YteaaadccjnmacaaOwnN
import Derived.Test.YteaaadccjnmacaaExpM
import Derived.Test.YteaaadccjnmacaaAtR
namespace Go.Proofs.Yteaaadccjnmacaa
open Go.RowKit

/-- the coefficients as the reference lists them: all of them, zeros where the random bytes end -/
def polyL (c : UInt8) (r : List UInt8) (m i n : Nat) : List UInt8 := c :: (List.range n).map fun j => byte r (i * m + j)
theorem polyL_len (c : UInt8) (r : List UInt8) (m i n : Nat) : (polyL c r m i n).length = n + 1 := by simp [polyL]
theorem polyL_snoc (c : UInt8) (r : List UInt8) (m i n : Nat) : polyL c r m i n ++ [byte r (i * m + n)] = polyL c r m i (n + 1) := by simp [polyL, List.range_succ]
theorem polyL_ev (secret r : List UInt8) (m i : Nat) (x : UInt8) : ev (polyL (byte secret i) r m i m) x = ev (coef secret r m i) x := by
  have h : (coef secret r m i).length ≤ m + 1 := coef_len _ _ _ _
  rw [← ev_bytes (coef secret r m i) (m + 1) x h]
  congr 1
  unfold polyL coef
  rw [List.range_succ_eq_map, List.map_cons]
  congr 1
  rw [List.map_map]
  refine List.map_congr_left (fun j hj => ?_)
  have hj' : j < m := List.mem_range.1 hj
  show byte r (i * m + j) = byte ((r.drop (i * m)).take m) j
  by_cases hl : i * m + j < r.length
  · refine (byte_of ?_).symm
    rw [List.getElem?_take, if_pos hj', List.getElem?_drop]
    exact byte_get hl
  · rw [byte_out (by omega)]
    exact (byte_out (by rw [List.length_take, List.length_drop]; omega)).symm

set_option maxHeartbeats 2000000 in
set_option maxRecDepth 20000 in
theorem PolyR_any (c : UInt8) (R : Option Addr) (q rcap : Nat) (r : List UInt8) (P m i B : Nat) (w : World) (hq : q = r.length) (hr : Shows w B R r) (hB : B ≤ w.heap.size) (hP : P = m + 1) (hm : m ≤ 255) (hi : i ≤ 1000) (hrl : r.length ≤ 140737488351232) :
    Calls Try.prog 22 #[.int .u8 (c.toNat : Int), .slice R q rcap, .agg #[.int .i64 (P : Int), .int .i64 (i : Int)]] w
      fun e w' => ∃ A' c', e = .returned (.slice A' P c') ∧ Owns w' w.heap.size (.slice A' P c') (polyL c r m i m) ∧ Below w.heap.size w w' := by
  have HR := Lib.hid hr
  have HQ := Lib.hid hq
  have HP := Lib.hid hP
  have e0 : (P : Int) - 1 = (m : Int) := by omega
  have hP2 : P ≤ 256 := by omega
  obtain ⟨IM, hIM⟩ : ∃ IM, IM = i * m := ⟨_, rfl⟩
  have HIM := Lib.hid hIM
  have e1 : (i : Int) * (m : Int) = (IM : Int) := by rw [hIM]; exact (Int.natCast_mul i m).symm
  have hIM2 : IM ≤ 255000 := by rw [hIM]; exact Nat.le_trans (Nat.mul_le_mul hi hm) (by decide)
  have hq2 : q ≤ 140737488351232 := by omega
  obtain ⟨N, hN⟩ : ∃ N, N = w.heap.size := ⟨_, rfl⟩
  have b1 := ba1 w (.cells #[.int .i64 (P : Int), .int .i64 (i : Int)] 25)
  have n1 := heap_alloc_new w (.cells #[.int .i64 (P : Int), .int .i64 (i : Int)] 25)
  have HB1 := Lib.hid b1
  have HN1 := Lib.hid n1
  have HBL := Lib.hid hB
  clear hr hq hP hIM hrl n1 b1 hB
  go_enter Try.func22, Try.ntmps22
  go_wp2
  have hx : Hid (Below (w.heap.size + 1) (w.alloc (.cells #[.int .i64 (P : Int), .int .i64 (i : Int)] 25)) ((w.alloc (.cells #[.int .i64 (P : Int), .int .i64 (i : Int)] 25)).alloc (.cells #[.int .u8 (c.toNat : Int)] 5))) := by
    have := ba1 (w.alloc (.cells #[.int .i64 (P : Int), .int .i64 (i : Int)] 25)) (.cells #[.int .u8 (c.toNat : Int)] 5)
    rwa [hz] at this
  have ho : Hid (Owns ((w.alloc (.cells #[.int .i64 (P : Int), .int .i64 (i : Int)] 25)).alloc (.cells #[.int .u8 (c.toNat : Int)] 5)) (w.heap.size + 1) (.slice (some ⟨w.heap.size + 1, 0, none⟩) 1 1) (polyL c r m i 0)) := by
    have hnew := heap_alloc_new (w.alloc (.cells #[.int .i64 (P : Int), .int .i64 (i : Int)] 25)) (.cells #[.int .u8 (c.toNat : Int)] 5)
    rw [hz] at hnew
    exact ⟨rfl, .inr ⟨w.heap.size + 1, 1, _, rfl, Nat.le_refl _, hnew, Nat.le_refl _, by simp [maxLen], rfl, rfl⟩⟩
  have HZ1 : Hid ((w.alloc (.cells #[.int .i64 (P : Int), .int .i64 (i : Int)] 25)).heap.size = w.heap.size + 1) := hz _ _
  generalize ((w.alloc (.cells #[.int .i64 (P : Int), .int .i64 (i : Int)] 25)).alloc (.cells #[.int .u8 (c.toNat : Int)] 5)) = w2 at *
  generalize (w.alloc (.cells #[.int .i64 (P : Int), .int .i64 (i : Int)] 25)) = w1 at *
  go_loopw [7, 8] (fun u j wr => ∃ (k : Nat) (A' : Option Addr) (c' : Nat), k ≤ m ∧ j = .int .i64 ((k : Int) + 1) ∧ u = .slice A' (k + 1) c' ∧ Hid (Owns wr (w.heap.size + 1) (.slice A' (k + 1) c') (polyL c r m i k)) ∧ Hid (Below (w.heap.size + 1) w1 wr)) (fun _ j _ => P - (intOf j).toNat)
  case atStart => exact ⟨0, _, _, Nat.zero_le _, rfl, rfl, ho, hx⟩
  case round =>
    clear ho hx
    obtain ⟨k, A', c', hk, rfl, rfl, ho, hx⟩ := hrel
    obtain ⟨wo, hwo⟩ : ∃ wo : World, wo = wr := ⟨_, rfl⟩
    subst hwo
    have d0 : wo.cell? ⟨w.heap.size, 0, none⟩ = some (.int .i64 (P : Int)) := (hx.out.cell (p := ⟨w.heap.size, 0, none⟩) (Nat.lt_succ_self _)).trans (cell_of_row _ w.heap.size 0 _ _ (0, 0) HN1.out)
    have d1 : wo.cell? ⟨w.heap.size, 1, none⟩ = some (.int .i64 (i : Int)) := (hx.out.cell (p := ⟨w.heap.size, 1, none⟩) (Nat.lt_succ_self _)).trans (cell_of_row _ w.heap.size 1 _ _ (0, 0) HN1.out)
    have hbase : w.heap.size + 1 ≤ wo.heap.size := by rw [← HZ1.out]; exact hx.out.size
    by_cases hlt : k < m
    · have j1 : (k : Int) + 1 < (P : Int) := by omega
      obtain ⟨T, hT⟩ : ∃ T, T = IM + k := ⟨_, rfl⟩
      have j2 : (IM : Int) + ((k : Int) + 1) - 1 = (T : Int) := by omega
      have hT2 : T ≤ 260000 := by omega
      have hnx : Hid (polyL c r m i k ++ [byte r T] = polyL c r m i (k + 1)) := by
        have := polyL_snoc c r m i k
        rwa [← HIM.out, ← hT] at this
      have HT := Lib.hid hT
      have hroom : (polyL c r m i k).length + 1 ≤ 140737488355328 := by rw [polyL_len]; omega
      clear hT
      by_cases hin : T < q
      · have j3 : (T : Int) < (q : Int) := by omega
        have hsr := (HR.out.below (HB1.out.mono HBL.out)).below (hx.out.mono (Nat.le_succ_of_le HBL.out))
        obtain ⟨b, off, rfl, _, hcell⟩ := hsr (by have := HQ.out; omega)
        have c1 := hcell T _ (byte_get (by rw [← HQ.out]; exact hin))
        clear hcell hsr
        generalize byte r T = y at *
        go_wp2_with (at_builtin; refine wpList_growC (wr := wo) rfl (.tmp 31) (.tmp 36) _ rfl Try.underlying22 info5 (w.heap.size + 1) _ (polyL c r m i k) y _ rfl rfl rfl rfl ho.out hroom hbase ?_; intro A3 c3 w3 ho3 hg3; have HO3 := Lib.hid ho3; have HG3 := Lib.hid hg3; clear ho3 hg3)
        have hxx : Hid (Below (w.heap.size + 1) w1 w3) := hx.out.grown HG3.out hbase (fun k hk => (World.ownsRow.lt ho.out k hk).1)
        go_roundw
        case rel =>
          refine ⟨k + 1, A3, c3, by omega, by go_num, by simp [polyL_len], ?_, hxx⟩
          have h9 := HO3.out
          rw [hnx.out, polyL_len] at h9
          exact h9
        case measure => simp [intOf]; omega
      · have j3 : ¬ (T : Int) < (q : Int) := by omega
        have hy0 : byte r T = 0 := byte_out (by rw [← HQ.out]; omega)
        rw [hy0] at hnx
        go_wp2_with (at_builtin; refine wpList_growC (wr := wo) rfl (.tmp 38) (.tmp 39) _ rfl Try.underlying22 info5 (w.heap.size + 1) _ (polyL c r m i k) 0 _ rfl rfl rfl rfl ho.out hroom hbase ?_; intro A3 c3 w3 ho3 hg3; have HO3 := Lib.hid ho3; have HG3 := Lib.hid hg3; clear ho3 hg3)
        have hxx : Hid (Below (w.heap.size + 1) w1 w3) := hx.out.grown HG3.out hbase (fun k hk => (World.ownsRow.lt ho.out k hk).1)
        go_roundw
        case rel =>
          refine ⟨k + 1, A3, c3, by omega, by go_num, by simp [polyL_len], ?_, hxx⟩
          have h9 := HO3.out
          rw [hnx.out, polyL_len] at h9
          exact h9
        case measure => simp [intOf]; omega
    · have j1 : ¬ (k : Int) + 1 < (P : Int) := by omega
      have hkm : k = m := by omega
      subst hkm
      go_wp2
      go_ret
      have e9 : k + 1 = P := HP.out.symm
      have h9 := ho.out
      rw [e9] at h9
      refine ⟨A', c', by (show Ending.returned (.slice A' (k + 1) c') = _); rw [e9], ?_, HB1.out.trans (hx.out.mono (Nat.le_succ _))⟩
      refine ⟨h9.1, ?_⟩
      rcases h9.2 with h2 | ⟨g, cap, cur, e, hb2, hrr⟩
      · exact .inl h2
      · exact .inr ⟨g, cap, cur, e, Nat.le_of_succ_le hb2, hrr⟩
end Go.Proofs.Yteaaadccjnmacaa
