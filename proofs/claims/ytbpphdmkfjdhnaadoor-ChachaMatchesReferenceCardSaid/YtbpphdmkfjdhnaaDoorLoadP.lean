/-
  The program's load and initial, by contracts.
-/
import Derived.Test.YtbpphdmkfjdhnaaDoorBlockP
namespace Go.Proofs.YtbpphdmkfjdhnaaDoor
open Go.RowKit

/-- as load gathers them -/
def loadAt (v : List UInt32) (o : Nat) (b : List UInt8) : Nat → List UInt32
  | 0 => v
  | i + 1 => (loadAt v o b i).set (o + i / 4) (at_ (loadAt v o b i) (o + i / 4) ||| shl (8 * (i % 4)) (u8w (byte b i)))
theorem loadAt_len (v : List UInt32) (o : Nat) (b : List UInt8) (i : Nat) : (loadAt v o b i).length = v.length := by
  induction i with
  | zero => rfl
  | succ i ih => simp [loadAt, ih]
/-- word by word -/
def setMany (v : List UInt32) (o : Nat) (b : List UInt8) : Nat → List UInt32
  | 0 => v
  | j + 1 => (setMany v o b j).set (o + j) (word4 b (j * 4))
theorem setMany_len (v : List UInt32) (o : Nat) (b : List UInt8) (i : Nat) : (setMany v o b i).length = v.length := by
  induction i with
  | zero => rfl
  | succ i ih => simp [setMany, ih]
theorem setMany_at (v : List UInt32) (o : Nat) (b : List UInt8) (j k : Nat) (h : j ≤ k) : at_ (setMany v o b j) (o + k) = at_ v (o + k) := by
  induction j with
  | zero => rfl
  | succ j ih =>
    have hne : o + j ≠ o + k := by omega
    have := ih (by omega)
    simp only [setMany, at_] at this ⊢
    simp only [List.getD_eq_getElem?_getD, List.getElem?_set_ne hne] at this ⊢
    exact this
theorem loadAt_4 (v : List UInt32) (o : Nat) (b : List UInt8) (j : Nat) (u : List UInt32) (hv : loadAt v o b (4 * j) = u) (hj : o + j < u.length) (h0 : at_ u (o + j) = 0) : loadAt v o b (4 * (j + 1)) = u.set (o + j) (word4 b (j * 4)) := by
  have e0 : (4 * j) / 4 = j := by omega
  have e1 : (4 * j + 1) / 4 = j := by omega
  have e2 : (4 * j + 2) / 4 = j := by omega
  have e3 : (4 * j + 3) / 4 = j := by omega
  have f0 : (4 * j) % 4 = 0 := by omega
  have f1 : (4 * j + 1) % 4 = 1 := by omega
  have f2 : (4 * j + 2) % 4 = 2 := by omega
  have f3 : (4 * j + 3) % 4 = 3 := by omega
  have e4 : 4 * (j + 1) = 4 * j + 1 + 1 + 1 + 1 := by omega
  rw [e4]
  simp only [loadAt]
  rw [hv, e0, f0, e1, f1, e2, f2, e3, f3, h0]
  have z : (0 : UInt32) ||| shl (8 * 0) (u8w (byte b (4 * j))) = u8w (byte b (4 * j)) := by
    rw [shl_0, UInt32.zero_or]
  rw [z]
  simp only [List.set_set]
  rw [at_set _ hj, at_set _ hj, at_set _ hj]
  unfold word4
  rw [show j * 4 = 4 * j by omega]
theorem loadAt_many (v : List UInt32) (o : Nat) (b : List UInt8) (m : Nat) (hm : o + m ≤ v.length) (h0 : ∀ k, k < m → at_ v (o + k) = 0) : ∀ j, j ≤ m → loadAt v o b (4 * j) = setMany v o b j := by
  intro j hj
  induction j with
  | zero => rfl
  | succ j ih => exact loadAt_4 v o b j _ (ih (by omega)) (by rw [setMany_len]; omega) (by rw [setMany_at _ _ _ _ _ (Nat.le_refl _)]; exact h0 j (by omega))
def S0 : List UInt32 := C4 ++ List.replicate 12 0
theorem S0_len : S0.length = 16 := rfl
theorem init_is (key nonce : List UInt8) (n : UInt32) : setMany ((setMany S0 4 key 8).set 12 n) 13 nonce 3 = initS key nonce n := by kernel_rfl
theorem load_key (key : List UInt8) : loadAt S0 4 key 32 = setMany S0 4 key 8 := loadAt_many S0 4 key 8 (by decide) (by decide) 8 (Nat.le_refl _)
theorem load_nonce (key nonce : List UInt8) (n : UInt32) : loadAt ((setMany S0 4 key 8).set 12 n) 13 nonce 12 = initS key nonce n := by
  rw [← init_is]
  refine loadAt_many _ 13 nonce 3 (by simp [setMany_len, S0_len]) (fun k hk => ?_) 3 (Nat.le_refl _)
  obtain rfl | rfl | rfl : k = 0 ∨ k = 1 ∨ k = 2 := by omega
  all_goals kernel_rfl

theorem q_u8_mod (c : UInt8) : (c.toNat : Int) % 4294967296 = (c.toNat : Int) := by have := c.toNat_lt; omega
theorem q_u8_wrap (c : UInt8) : IntKind.u32.wrap (c.toNat : Int) = (c.toNat : Int) := by rw [IntKind.wrap_u32, q_u8_mod]
theorem q_shl_u8 (n : Nat) (c : UInt8) : ((c.toNat : Int) * 2 ^ n) % 4294967296 = wd (shl n (u8w c)) := by rw [← wd_u8w, wd_shl']
theorem q_shl_u8w (n : Nat) (c : UInt8) : IntKind.u32.wrap ((c.toNat : Int) * 2 ^ n) = wd (shl n (u8w c)) := by rw [IntKind.wrap_u32, q_shl_u8]
theorem load_at (i n : Nat) (hi : i < 4 * n) (hn : n ≤ 16) : ∃ d r : Nat, Hid (d = i / 4) ∧ Hid (r = i % 4) ∧ d < n ∧ r < 4 ∧ (i : Int).tdiv 4 = d ∧ (i : Int).tmod 4 = r ∧ IntKind.i64.wrap (d : Int) = d ∧ IntKind.i64.wrap (r : Int) = r ∧
    IntKind.i64.wrap ((r : Int) * 8) = (r : Int) * 8 ∧ ((r : Int) * 8).toNat = r * 8 ∧ 0 ≤ (r : Int) * 8 ∧ (r : Int) * 8 ≤ 32 ∧ (d : Int) < n := by
  refine ⟨i / 4, i % 4, rfl, rfl, by omega, by omega, by rw [Int.tdiv_eq_ediv_of_nonneg (by omega)]; omega, by rw [Int.tmod_eq_emod_of_nonneg (by omega)]; omega, IntWalk.i64_in _ ⟨by omega, by omega⟩, IntWalk.i64_in _ ⟨by omega, by omega⟩, IntWalk.i64_in _ ⟨by omega, by omega⟩, by omega, by omega, by omega, by omega⟩

attribute [local go_sem] wd_add wd_addw wd_xor wd_or wd_not wd_mod wd_wrap q_u8_mod q_u8_wrap q_shl_u8 q_shl_u8w
set_option maxHeartbeats 2000000 in
set_option maxRecDepth 20000 in
theorem loadP_any (g o n cn : Nat) (t : TypeId) (v : List UInt32) (p c : Nat) (tp : TypeId) (b : List UInt8) (w : World) (hv : WB w g t v) (hb : BT w p tp b) (hgp : p ≠ g) (hn : o + n ≤ v.length) (hl : b.length ≤ 4 * n) (hn16 : n ≤ 16) :
    Calls Tryd.prog 31 #[.slice (some ⟨g, o, none⟩) n cn, .slice (some ⟨p, 0, none⟩) b.length c] w fun e w' => e = .returned (.tuple #[]) ∧ WB w' g t (loadAt v o b b.length) ∧ w.grownBy w' (some g) := by
  have HV := Lib.hid hv
  have HB := Lib.hid hb
  have HN := Lib.hid (And.intro hgp (And.intro hn (And.intro hl hn16)))
  obtain ⟨N, hN⟩ : ∃ N, N = b.length := ⟨_, rfl⟩
  rw [← hN]
  have HL := Lib.hid hN
  have hN64 : N ≤ 64 := by omega
  clear hv hb hgp hn hl hn16 hN
  go_enter Tryd.func31, Tryd.ntmps31
  go_wp2
  have hg0 := Lib.hid (World.grownBy.refl w (some g))
  go_loopw [4, 5, 8] (fun _ _ i wr => ∃ k : Nat, k ≤ N ∧ i = .int .i64 k ∧ Hid (WB wr g t (loadAt v o b k)) ∧ Hid (BT wr p tp b) ∧ Hid (w.grownBy wr (some g))) (fun _ _ i _ => N - (intOf i).toNat)
  case atStart => exact ⟨0, by omega, rfl, HV, HB, hg0⟩
  case round =>
    clear HV HB hg0
    obtain ⟨k, hk, rfl, hv, hb, hg⟩ := hrel
    obtain ⟨wo, hwo⟩ : ∃ wo : World, wo = wr := ⟨_, rfl⟩
    subst hwo
    by_cases hlt : k < N
    · have i1 : (k : Int) < (N : Int) := by omega
      obtain ⟨d, z, hd, hz, hdn, hz4, e1, e2, e3, e4, e5, e6, e7, e8, e9⟩ := load_at k n (by have := HL.out; have := HN.out; omega) HN.out.2.2.2
      have c1 := hv.out.cell (o + d) (by rw [loadAt_len]; have := HN.out; omega)
      have f1 := hv.out.frozen (o + d)
      have c2 := hb.out.cell k (by rw [← HL.out]; exact hlt)
      go_wp2
      go_still_tail 13, (by kernel_rfl)
      change wpList _ _ _ _ _ wo.drew
      go_wp2
      go_roundw
      case rel =>
        refine ⟨k + 1, by omega, by go_num, ?_, ?_, grown_step hg.out (grown_setd _ _ _ _)⟩
        · have := (hv.out.set_ (o + d) (at_ (loadAt v o b k) (o + d) ||| shl (z * 8) (u8w (byte b k)))).drew
          rw [Nat.mul_comm, hd.out, hz.out] at this ⊢
          exact this
        · exact (hb.out.grown (grown_setd _ _ _ _) (by have := HN.out.1; simp; exact this))
      case measure => simp [intOf]; omega
    · have hkN : k = N := by omega
      rw [hkN] at hv
      have i1 : ¬ (k : Int) < (N : Int) := by omega
      go_wp2
      go_end0
      exact ⟨rfl, hv.out, hg.out⟩
end Go.Proofs.YtbpphdmkfjdhnaaDoor
