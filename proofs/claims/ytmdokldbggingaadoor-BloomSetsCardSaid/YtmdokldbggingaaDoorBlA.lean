/-
  The reference's Of without keys; keys in memory; the laws' long: by contracts.
-/
import Derived.Test.YtmdokldbggingaaDoorBl9
namespace Go.Proofs.YtmdokldbggingaaDoor
open Go.RowKit

/-- a sketch: a new row that holds l -/
def RetA (w w' : World) (K : Int) (n : Nat) (l : List UInt8) (e : Ending) : Prop := ∃ A' c', e = .returned (.agg #[.int .i64 K, .slice A' n c']) ∧ Owns w' w.heap.size (.slice A' n c') l
set_option maxHeartbeats 4000000 in
set_option maxRecDepth 20000 in
theorem Of_nil (n k : Nat) (w : World) (hn : n < 256) (hk : k < 256) :
    Calls Tryd.prog 38 #[.slice none 0 0, .int .u8 n, .int .u8 k] w fun e w' => RetA w w' ((1 + k % 16 : Nat) : Int) (2 ^ (n % 11)) (List.replicate (2 ^ (n % 11)) 0) e ∧ Below w.heap.size w w' := by
  obtain ⟨r, hr⟩ : ∃ r, n % 11 = r := ⟨_, rfl⟩
  have hr11 : r < 11 := by omega
  have q1 : (n : Int) % 11 = (r : Int) := by omega
  have q2 : (n : Int).tmod 11 = (r : Int) := by rw [Int.tmod_eq_emod_of_nonneg (by omega)]; exact q1
  obtain ⟨K, hK⟩ : ∃ K, 1 + k % 16 = K := ⟨_, rfl⟩
  have q3 : 1 + (k : Int) % 16 = (K : Int) := by omega
  have q4 : (k : Int) % 16 + 1 = (K : Int) := by omega
  have i0 : (n : Int) < 256 := by omega
  have i1 : (k : Int) < 256 := by omega
  have hK16 : K ≤ 16 := by omega
  rw [hr, hK]
  have B1 := Li (al1 w (.cells #[.int .i64 0, .slice none 0 0] 24))
  have N1 := Li (CB.new w 24 [.int .i64 0, .slice none 0 0])
  have HP := Li (show ∀ j, j ≤ 11 → 2 ^ j ≤ 2048 from fun j h => Nat.pow_le_pow_right (n := 2) (by decide) h)
  clear hr hK
  go_enter Tryd.func38, Tryd.ntmps38
  go_wp2
  go_loop [7, 8] (fun s i => ∃ j : Nat, j ≤ r ∧ i = .int .i64 j ∧ s = .int .i64 (2 ^ j : Nat)) (fun _ i => r - (intOf i).toNat)
  case atStart => exact ⟨0, by omega, rfl, rfl⟩
  case round =>
    obtain ⟨j, hj, rfl, rfl⟩ := hrel
    have h2 := HP.out j (by omega)
    have h1 := Nat.two_pow_pos j
    by_cases hlt : j < r
    · have j1 : (j : Int) < (r : Int) := by omega
      have HS := Li (show 2 ^ (j + 1) = 2 * 2 ^ j by rw [Nat.pow_succ]; omega)
      obtain ⟨z, hz⟩ : ∃ z, 2 ^ j = z := ⟨_, rfl⟩
      rw [hz] at h1 h2 HS ⊢
      clear hz
      have j2 : (z : Int) ≤ 2048 := by omega
      have j3 : (0 : Int) ≤ (z : Int) := by omega
      go_wp2
      go_round
      case rel => exact ⟨j + 1, by omega, by go_num, by rw [HS.out]; go_num⟩
      case measure => simp [intOf]; omega
    · obtain rfl : j = r := by omega
      have j1 : ¬ (j : Int) < (j : Int) := by omega
      obtain ⟨z, hz⟩ : ∃ z, 2 ^ j = z := ⟨_, rfl⟩
      have HZ := Li hz
      rw [hz] at h1 h2 ⊢
      clear hz
      have j2 : (z : Int) ≤ 2048 := by omega
      have j3 : (0 : Int) ≤ (z : Int) := by omega
      go_wp2_with ((with_reducible show wpList _ _ _ _ _ _); refine wpList_make_bytes _ rfl (.tmp 24) (.tmp 24) 22 rfl Tryd.underlying22 info5 .i64 .i64 z z z z rfl rfl rfl rfl (Nat.le_refl _) (by omega) ?_; intro w3 hb3 hbl3 hz3; have R3 := Li (N1.out.up hbl3); have K3 := Li hb3; have B3 := Li (below_step B1.out B1.out.size hbl3); clear hbl3 hb3 hz3 N1 B1)
      have X3 := Li (CB.new w3 24 [.int .i64 K, .slice (some ⟨w.heap.size + 1, 0, none⟩) z z])
      have b3 := al1 w3 (.cells #[.int .i64 K, .slice (some ⟨w.heap.size + 1, 0, none⟩) z z] 24)
      have K3' : Blk w3 (w.heap.size + 1) (List.replicate z 0) := by have := K3.out; rwa [asz] at this
      have O3 := Li (owns_upB (owns_made K3' (Nat.le_succ w.heap.size) (by omega)) b3)
      have N9 := R3
      replace R3 := Li (R3.out.up b3)
      replace B3 := Li (below_step B3.out B3.out.size b3)
      clear K3 K3' b3
      have h9 : w.heap.size ≠ w3.heap.size := by have := N9.out.lt; omega
      generalize w3.heap.size = p9 at *
      generalize w3.alloc (.cells #[.int .i64 K, .slice (some ⟨w.heap.size + 1, 0, none⟩) z z] 24) = w4 at *
      obtain ⟨r0, r1⟩ := R3.out.c2
      have rf0 := R3.out.frozen 0
      have rf1 := R3.out.frozen 1
      have zr := R3.out.lt
      obtain ⟨x0, x1⟩ := X3.out.c2
      have zx := X3.out.lt
      refine wp_loop_once ?_
      go_wp2
      have g1 := grown_setM w4 w.heap.size 0 (.int .i64 K)
      have g2 := grown_setM (w4.setCell ⟨w.heap.size, 0, none⟩ (.int .i64 K)) w.heap.size 1 (.slice (some ⟨w.heap.size + 1, 0, none⟩) z z)
      have N2 : CB ((w4.setCell ⟨w.heap.size, 0, none⟩ (.int .i64 K)).setCell ⟨w.heap.size, 1, none⟩ (.slice (some ⟨w.heap.size + 1, 0, none⟩) z z)) w.heap.size 24 [.int .i64 K, .slice (some ⟨w.heap.size + 1, 0, none⟩) z z] := (R3.out.set_ 0 (.int .i64 K)).set_ 1 _
      have hneO : (Value.slice (some ⟨w.heap.size + 1, 0, none⟩) z z).ownBlock ≠ some w.heap.size := by
        intro e
        have e2 : some (w.heap.size + 1) = some w.heap.size := e
        injection e2 with e2
        omega
      have O2 := owns_kept (owns_kept O3.out g1 (.inr hneO)) g2 (.inr hneO)
      have B2 := below_grownM (below_grownM B3.out g1 B3.out.size (by omega)) g2 (by have := B3.out.size; simpa [World.setCell] using this) (by omega)
      generalize (w4.setCell ⟨w.heap.size, 0, none⟩ (.int .i64 K)).setCell ⟨w.heap.size, 1, none⟩ (.slice (some ⟨w.heap.size + 1, 0, none⟩) z z) = W2 at *
      obtain ⟨T0, T1⟩ := N2.c2
      exact bodyPost_ret (v := .agg #[.int .i64 K, .slice (some ⟨w.heap.size + 1, 0, none⟩) z z]) (by simp [results, Tryd.results38, go_sem, T0, T1]) rfl ⟨by rw [HZ.out]; exact ⟨_, _, rfl, O2⟩, B2⟩
/-- a key in memory: where, its bytes, its room -/
structure Ky where
  A : Option Addr
  l : List UInt8
  c : Nat
def Ky.val (k : Ky) : Value := .slice k.A k.l.length k.c
/-- the keys ks can be read at address A, in blocks below B -/
structure KsAt (w : World) (B : Nat) (A : Option Addr) (ks : List Ky) : Prop where
  row : 0 < ks.length → ∃ b off, A = some ⟨b, off, none⟩ ∧ b < B ∧ ∀ i k, ks[i]? = some k → w.cell? ⟨b, off + i, none⟩ = some k.val
  key : ∀ k ∈ ks, Shows w B k.A k.l
  cap : ∀ k ∈ ks, k.l.length ≤ k.c ∧ k.c ≤ 140737488351232
theorem KsAt.below {w w' : World} {B : Nat} {A : Option Addr} {ks : List Ky} (h : KsAt w B A ks) (hb : Below B w w') : KsAt w' B A ks :=
  ⟨fun hl => by
    obtain ⟨b, off, e, hlt, hc⟩ := h.row hl
    exact ⟨b, off, e, hlt, fun i k hi => (hb.cell (p := ⟨b, off + i, none⟩) hlt).trans (hc i k hi)⟩, fun k hk => (h.key k hk).below hb, h.cap⟩
theorem KsAt.more {w : World} {B B' : Nat} {A : Option Addr} {ks : List Ky} (h : KsAt w B A ks) (hB : B ≤ B') : KsAt w B' A ks :=
  ⟨fun hl => by
    obtain ⟨b, off, e, hlt, hc⟩ := h.row hl
    exact ⟨b, off, e, by omega, hc⟩, fun k hk => (h.key k hk).more hB, h.cap⟩
theorem KsAt.up {w w' : World} {A : Option Addr} {ks : List Ky} (h : KsAt w w.heap.size A ks) (hb : Below w.heap.size w w') : KsAt w' w'.heap.size A ks := (h.below hb).more hb.size
def longB (ks : List Ky) : Bool := decide (60 < ks.length) || ks.any fun k => decide (300 < k.l.length)
theorem long_any (A : Option Addr) (n c : Nat) (ks : List Ky) (w : World) (hn : n = ks.length) (hk : KsAt w w.heap.size A ks) (hl : n ≤ 9223372036854775807) :
    Calls Tryd.prog 20 #[.slice A n c] w fun e w' => e = .returned (.bool (longB ks)) ∧ w' = w := by
  obtain ⟨z, hz⟩ : ∃ z, longB ks = z := ⟨_, rfl⟩
  rw [hz]
  have HK := Li hk
  have HN := Li hn
  by_cases h60 : 60 < n
  · have i1 : decide ((60 : Int) < (n : Int)) = true := decide_eq_true (by omega)
    have HZ := Li (show z = true by rw [← hz]; unfold longB; rw [← hn, decide_eq_true h60]; rfl)
    clear hn hk hz
    go_enter Tryd.func20, Tryd.ntmps20
    go_wp2
    go_ret
    exact ⟨by rw [HZ.out]; rfl, rfl⟩
  · have i1 : decide ((60 : Int) < (n : Int)) = false := decide_eq_false (by omega)
    have HZ := Li (show (ks.drop 0).any (fun k => decide (300 < k.l.length)) = z by rw [← hz]; unfold longB; rw [← hn, decide_eq_false h60]; rfl)
    clear hn hk hz
    go_enter Tryd.func20, Tryd.ntmps20
    go_wp2
    go_loop [3] (fun i => ∃ j : Nat, j ≤ n ∧ i = .int .i64 j ∧ Hid ((ks.drop j).any (fun k => decide (300 < k.l.length)) = z)) (fun i => n - (intOf i).toNat)
    case atStart => exact ⟨0, by omega, rfl, HZ⟩
    case round =>
      obtain ⟨j, hj, rfl, HG⟩ := hrel
      by_cases hlt : j < n
      · have j1 : (j : Int) < (n : Int) := by omega
        have j0 : (0 : Int) ≤ (j : Int) := by omega
        obtain ⟨k, hkj⟩ : ∃ k, ks[j]? = some k := ⟨_, List.getElem?_eq_getElem (by rw [← HN.out]; exact hlt)⟩
        obtain ⟨b, off, rfl, hb, hc⟩ := HK.out.row (by rw [← HN.out]; omega)
        have c0 := hc j k hkj
        simp only [Ky.val] at c0
        have HD := Li (show (ks.drop j).any (fun k => decide (300 < k.l.length)) = (decide (300 < k.l.length) || (ks.drop (j + 1)).any (fun k => decide (300 < k.l.length))) by
          rw [List.drop_eq_getElem_cons (by rw [← HN.out]; exact hlt), List.any_cons]
          congr 2
          rw [List.getElem?_eq_getElem (by rw [← HN.out]; exact hlt)] at hkj
          rw [Option.some.inj hkj])
        obtain ⟨m, hm⟩ : ∃ m, k.l.length = m := ⟨_, rfl⟩
        rw [hm] at c0 HD
        clear hc hkj hm
        by_cases hbig : 300 < m
        · have j2 : decide ((300 : Int) < (m : Int)) = true := decide_eq_true (by omega)
          have HZ2 := Li (show z = true by rw [← HG.out, HD.out, decide_eq_true hbig]; rfl)
          go_wp2
          go_ret
          exact ⟨by rw [HZ2.out]; rfl, rfl⟩
        · have j2 : decide ((300 : Int) < (m : Int)) = false := decide_eq_false (by omega)
          have HG2 := Li (show (ks.drop (j + 1)).any (fun k => decide (300 < k.l.length)) = z by rw [← HG.out, HD.out, decide_eq_false hbig]; rfl)
          go_wp2
          go_round
          case rel => exact ⟨j + 1, by omega, by go_num, HG2⟩
          case measure => simp [intOf]; omega
      · obtain rfl : j = n := by omega
        have j1 : ¬ (j : Int) < (j : Int) := by omega
        have HZ2 := Li (show z = false by rw [← HG.out, List.drop_eq_nil_of_le (by rw [← HN.out]; exact Nat.le_refl _)]; rfl)
        go_wp2
        go_ret
        exact ⟨by rw [HZ2.out]; rfl, rfl⟩
end Go.Proofs.YtmdokldbggingaaDoor
