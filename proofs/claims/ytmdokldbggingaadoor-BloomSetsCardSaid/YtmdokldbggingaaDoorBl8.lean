/-
  The program's New, and the laws' size and sketch: by contracts.
-/
import Derived.Test.YtmdokldbggingaaDoorBl7
import Derived.Test.YtmdokldbggingaaDoorEqual
namespace Go.Proofs.YtmdokldbggingaaDoor
open Go.RowKit

/-- doubled until it is t at least -/
def gro (t : Nat) : Nat → Nat → Nat
  | 0, s => s
  | f + 1, s => if s < t then gro t f (2 * s) else s
def szN (t : Nat) : Nat := gro t 17 1
theorem gro_done {t s : Nat} (h : ¬ s < t) : ∀ f, gro t f s = s
  | 0 => rfl
  | f + 1 => by rw [gro, if_neg h]
theorem owns_made {w : World} {g k B : Nat} (h : Blk w g (List.replicate k 0)) (hB : B ≤ g) (hk : k ≤ 140737488351232) : Owns w B (.slice (some ⟨g, 0, none⟩) k k) (List.replicate k 0) := by
  have := h.owns (n := k) (by simp) (by simp only [List.length_replicate, maxLen]; omega) hB
  simpa using this
set_option maxHeartbeats 2000000 in
set_option maxRecDepth 20000 in
theorem New_ok (n : Nat) (K : Int) (w : World) (hn : n ≤ 32768) (hK : isKB K = true) :
    Calls Tryd.prog 13 #[.int .i64 n, .int .i64 K] w fun e w' => RetB w w' K (szN (2 * n)) (List.replicate (szN (2 * n)) 0) e ∧ Below w.heap.size w w' := by
  have HK := Li hK
  have i0 : (0 : Int) ≤ (n : Int) := by omega
  have i1 : (n : Int) ≤ 32768 := by omega
  obtain ⟨z, hz⟩ : ∃ z, szN (2 * n) = z := ⟨_, rfl⟩
  rw [hz]
  have HZ := Li (show gro (2 * n) 17 1 = z from hz)
  have B1 := Li (al1 w (.cells #[.int .i64 0, .slice none 0 0] 24))
  have N1 := Li (CB.new w 24 [.int .i64 0, .slice none 0 0])
  clear hK hz
  go_enter Tryd.func13, Tryd.ntmps13
  go_wp2_with (go_at_call 32; refine (isK_any K _).mono ?_; rintro e w' ⟨rfl, rfl⟩; rw [HK.out])
  go_loop [6] (fun s => ∃ f k : Nat, s = .int .i64 k ∧ 1 ≤ k ∧ k ≤ 131072 ∧ Hid (2 * n ≤ k * 2 ^ f) ∧ Hid (gro (2 * n) f k = z)) (fun s => 200000 - (intOf s).toNat)
  case atStart => exact ⟨17, 1, rfl, by omega, by omega, Li (by omega), HZ⟩
  case round =>
    obtain ⟨f, k, rfl, hk1, hk2, HF, HG⟩ := hrel
    by_cases hlt : k < 2 * n
    · cases f with
      | zero => exact absurd HF.out (by omega)
      | succ f =>
        have j1 : (k : Int) < 2 * (n : Int) := by omega
        have HG2 := Li (show gro (2 * n) f (2 * k) = z by rw [← HG.out, gro, if_pos hlt])
        have HF2 := Li (show 2 * n ≤ 2 * k * 2 ^ f by have := HF.out; rw [Nat.pow_succ, ← Nat.mul_assoc] at this; rw [Nat.mul_assoc 2 k, Nat.mul_comm 2 (k * 2 ^ f)]; exact this)
        have j2 : (k : Int) ≤ 131072 := by omega
        have j3 : (1 : Int) ≤ (k : Int) := by omega
        have hk4 : 2 * k ≤ 131072 := by omega
        go_wp2
        go_round
        case rel => exact ⟨f, 2 * k, by go_num, by omega, hk4, HF2, HG2⟩
        case measure => simp [intOf]; omega
    · have j1 : ¬ (k : Int) < 2 * (n : Int) := by omega
      obtain rfl : k = z := by rw [← HG.out, gro_done hlt]
      go_wp2_with (first
        | ((with_reducible show wpList _ _ _ _ _ _); refine wpList_make_bytes _ rfl (.tmp 27) (.tmp 27) 22 rfl Tryd.underlying22 info5 .i64 .i64 k k k k rfl rfl rfl rfl (Nat.le_refl _) (by omega) ?_; intro w3 hb3 hbl3 hz3; have R3 := Li (N1.out.up hbl3); have K3 := Li hb3; have B3 := Li (below_step B1.out B1.out.size hbl3); obtain ⟨n0, n1⟩ := R3.out.c2; have nf0 := R3.out.frozen 0; have nf1 := R3.out.frozen 1; have zn := R3.out.lt; clear hbl3 hb3 hz3))
      have g1 := grown_setM w3 w.heap.size 0 (.int .i64 K)
      have g2 := grown_setM (w3.setCell ⟨w.heap.size, 0, none⟩ (.int .i64 K)) w.heap.size 1 (.slice (some ⟨w.heap.size + 1, 0, none⟩) k k)
      have N2 : CB ((w3.setCell ⟨w.heap.size, 0, none⟩ (.int .i64 K)).setCell ⟨w.heap.size, 1, none⟩ (.slice (some ⟨w.heap.size + 1, 0, none⟩) k k)) w.heap.size 24 [.int .i64 K, .slice (some ⟨w.heap.size + 1, 0, none⟩) k k] := (R3.out.set_ 0 (.int .i64 K)).set_ 1 _
      have K3' : Blk w3 (w.heap.size + 1) (List.replicate k 0) := by have := K3.out; rwa [asz] at this
      have hneO : (Value.slice (some ⟨w.heap.size + 1, 0, none⟩) k k).ownBlock ≠ some w.heap.size := by
        intro e
        have e2 : some (w.heap.size + 1) = some w.heap.size := e
        injection e2 with e2
        omega
      have O2 := owns_kept (owns_kept (owns_made K3' (Nat.le_succ w.heap.size) (by omega)) g1 (.inr hneO)) g2 (.inr hneO)
      have B2 := below_grownM (below_grownM B3.out g1 B3.out.size (by omega)) g2 (by have := B3.out.size; simpa [World.setCell] using this) (by omega)
      generalize (w3.setCell ⟨w.heap.size, 0, none⟩ (.int .i64 K)).setCell ⟨w.heap.size, 1, none⟩ (.slice (some ⟨w.heap.size + 1, 0, none⟩) k k) = W2 at *
      obtain ⟨T0, T1⟩ := N2.c2
      exact bodyPost_ret (v := .tuple #[.agg #[.int .i64 K, .slice (some ⟨w.heap.size + 1, 0, none⟩) k k], .int .i64 0]) (by simp [results, Tryd.results13, go_sem, T0, T1]) rfl ⟨⟨_, _, rfl, O2⟩, B2⟩
theorem New_neg (x K : Int) (w : World) (hx : x < 0) :
    Calls Tryd.prog 13 #[.int .i64 x, .int .i64 K] w fun e w' => e = .returned (.tuple #[.agg #[.int .i64 0, .slice none 0 0], .int .i64 1]) ∧ Below w.heap.size w w' := by
  go_enter Tryd.func13, Tryd.ntmps13
  go_wp2
  exact bodyPost_ret (v := .tuple #[.agg #[.int .i64 0, .slice none 0 0], .int .i64 1]) (by simp [results, Tryd.results13, go_sem]) rfl ⟨rfl, by
    repeat (first | exact Below.refl _ _ | (refine Below.setCell ?_ (by simp) _) | (refine Below.alloc ?_ (by simp; try omega) _))⟩
theorem New_badK (x K : Int) (w : World) (hx : 0 ≤ x) (hK : isKB K = false) :
    Calls Tryd.prog 13 #[.int .i64 x, .int .i64 K] w fun e w' => e = .returned (.tuple #[.agg #[.int .i64 0, .slice none 0 0], .int .i64 1]) ∧ Below w.heap.size w w' := by
  have HK := Li hK
  have h0 : ¬ x < 0 := by omega
  clear hK
  go_enter Tryd.func13, Tryd.ntmps13
  go_wp2_with (go_at_call 32; refine (isK_any K _).mono ?_; rintro e w' ⟨rfl, rfl⟩; rw [HK.out])
  exact bodyPost_ret (v := .tuple #[.agg #[.int .i64 0, .slice none 0 0], .int .i64 1]) (by simp [results, Tryd.results13, go_sem]) rfl ⟨rfl, by
    repeat (first | exact Below.refl _ _ | (refine Below.setCell ?_ (by simp) _) | (refine Below.alloc ?_ (by simp; try omega) _))⟩
theorem New_big (x K : Int) (w : World) (hx : 32768 < x) (hK : isKB K = true) :
    Calls Tryd.prog 13 #[.int .i64 x, .int .i64 K] w fun e w' => e = .returned (.tuple #[.agg #[.int .i64 0, .slice none 0 0], .int .i64 2]) ∧ Below w.heap.size w w' := by
  have HK := Li hK
  have h0 : ¬ x < 0 := by omega
  clear hK
  go_enter Tryd.func13, Tryd.ntmps13
  go_wp2_with (go_at_call 32; refine (isK_any K _).mono ?_; rintro e w' ⟨rfl, rfl⟩; rw [HK.out])
  exact bodyPost_ret (v := .tuple #[.agg #[.int .i64 0, .slice none 0 0], .int .i64 2]) (by simp [results, Tryd.results13, go_sem]) rfl ⟨rfl, by
    repeat (first | exact Below.refl _ _ | (refine Below.setCell ?_ (by simp) _) | (refine Below.alloc ?_ (by simp; try omega) _))⟩
theorem size_ok (n : Nat) (K : Int) (w : World) (hn : n ≤ 32768) (hK : isKB K = true) :
    Calls Tryd.prog 25 #[.int .i64 n, .int .i64 K] w fun e w' => e = .returned (.tuple #[.int .i64 (szN (2 * n) : Nat), .int .i64 0]) ∧ Below w.heap.size w w' := by
  obtain ⟨z, hz⟩ : ∃ z, szN (2 * n) = z := ⟨_, rfl⟩
  have HZ := Li hz
  rw [hz]
  clear hz
  go_enter Tryd.func25, Tryd.ntmps25
  go_wp2_with (go_at_call 13; refine (New_ok n K _ hn hK).mono ?_; rintro e w1 ⟨⟨A1, c1, rfl, _⟩, hb1⟩; rw [HZ.out]; have B1 := Li hb1; clear hb1)
  go_ret2
  exact ⟨rfl, B1.out.alloc B1.out.size _⟩
theorem size_bad (x K c : Int) (hc : c = 1 ∨ c = 2) (w : World) (hN : Calls Tryd.prog 13 #[.int .i64 x, .int .i64 K] w fun e w' => e = .returned (.tuple #[.agg #[.int .i64 0, .slice none 0 0], .int .i64 c]) ∧ Below w.heap.size w w') :
    Calls Tryd.prog 25 #[.int .i64 x, .int .i64 K] w fun e w' => e = .returned (.tuple #[.int .i64 (-1), .int .i64 c]) ∧ Below w.heap.size w w' := by
  have h0 : (c != 0) = true := by rcases hc with rfl | rfl <;> rfl
  have HN := Li hN
  clear hN hc
  go_enter Tryd.func25, Tryd.ntmps25
  go_wp2_with (go_at_call 13; refine HN.out.mono ?_; rintro e w1 ⟨rfl, hb1⟩; have B1 := Li hb1; clear hb1)
  go_ret2
  exact ⟨rfl, B1.out.alloc B1.out.size _⟩
theorem sketch_any (K : Int) (A : Option Addr) (n c : Nat) (w : World) :
    Calls Tryd.prog 22 #[.int .i64 K, .slice A n c] w fun e w' => e = .returned (.agg #[.int .i64 K, .slice A n c]) ∧ Below w.heap.size w w' := by
  go_enter Tryd.func22, Tryd.ntmps22
  go_wp2
  exact bodyPost_ret (v := .agg #[.int .i64 K, .slice A n c]) (by simp [results, Tryd.results22, go_sem]) rfl ⟨rfl, by
    repeat (first | exact Below.refl _ _ | (refine Below.setCell ?_ (by simp) _) | (refine Below.alloc ?_ (by simp; try omega) _))⟩
theorem Same_any (K1 K2 : Int) (A B : Option Addr) (n c m d : Nat) (a b : List UInt8) (w : World) (hn : n = a.length) (hm : m = b.length) (hnl : n ≤ 9223372036854775807) (hml : m ≤ 9223372036854775807) (hA : Shows w w.heap.size A a) (hB : Shows w w.heap.size B b) :
    Calls Tryd.prog 15 #[.agg #[.int .i64 K1, .slice A n c], .agg #[.int .i64 K2, .slice B m d]] w fun e w' => e = .returned (.bool (decide (K1 = K2) && decide (a = b))) ∧ Below w.heap.size w w' := by
  have HN := Li hn
  have HM := Li hm
  have B2 := Li (al2 w (.cells #[.int .i64 K1, .slice A n c] 24) (.cells #[.int .i64 K2, .slice B m d] 24))
  have SA := Li (hA.up B2.out)
  have SB := Li (hB.up B2.out)
  clear hn hm hA hB
  by_cases hk : K1 = K2
  · subst hk
    go_enter Tryd.func15, Tryd.ntmps15
    go_wp2_with (go_at_call 23; refine (Equal_any A n c a B m d b _ SA.out SB.out HN.out HM.out hnl hml).mono ?_; rintro e w3 ⟨rfl, hb3⟩; have B3 := Li (below_step B2.out B2.out.size hb3); clear hb3)
    go_ret
    exact ⟨by simp, B3.out⟩
  · have h0 : (K1 == K2) = false := by simpa using hk
    have E := Li (show decide (K1 = K2) = false from decide_eq_false hk)
    clear hk
    go_enter Tryd.func15, Tryd.ntmps15
    go_wp2
    go_ret
    exact ⟨by rw [E.out]; rfl, B2.out⟩
end Go.Proofs.YtmdokldbggingaaDoor
