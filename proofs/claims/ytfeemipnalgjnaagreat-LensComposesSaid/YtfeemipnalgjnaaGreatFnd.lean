/-
 The program's find, null, valueOf, and Go's binary search over cells, by contracts.
-/
import Derived.Test.YtfeemipnalgjnaaGreatHb
import Derived.Test.YtfeemipnalgjnaaGreatRowL
namespace Go.Proofs.YtfeemipnalgjnaaGreat
open Go.RowKit

def cmpI (a b : Int) : Int := if a < b then -1 else if b < a then 1 else 0
theorem cmpI_lt (a b : Int) : cmpI a b < 0 ↔ a < b := by
 unfold cmpI
 split
 ·
  simp_all
 ·
  split <;> simp_all
theorem cmpI_eq (a b : Int) : cmpI a b = 0 ↔ a = b := by
 unfold cmpI
 split
 ·
  constructor
  ·
   intro h; cases h
  ·
   intro h; omega
 ·
  split
  ·
   constructor
   ·
    intro h; cases h
   ·
    intro h; omega
  ·
   constructor
   ·
    intro h; omega
   ·
    intro h; rfl
theorem isNaN_any (a : Int) (w : World) : Calls Tryz.prog 117 #[.int .i64 a] w fun e w' => e = .returned (.bool false) ∧ w' = w := by
 go_enter Tryz.func117, Tryz.ntmps117
 go_wp2
 go_ret
 exact ⟨by simp, rfl⟩
theorem Cmp_any (a b : Int) (z : Int) (w : World) (hz : cmpI a b = z) : Calls Tryz.prog 113 #[.int .i64 a, .int .i64 b] w fun e w' => e = .returned (.int .i64 z) ∧ w' = w := by
 by_cases h1 : a < b
 ·
  obtain rfl : z = -1 := by rw [← hz, cmpI, if_pos h1]
  clear hz
  go_enter Tryz.func113, Tryz.ntmps113
  go_wp2_with (go_at_call 117; refine (isNaN_any _ _).mono ?_; rintro e w1 ⟨rfl, rfl⟩)
  go_ret
  exact ⟨rfl, rfl⟩
 ·
  by_cases h2 : b < a
  ·
   obtain rfl : z = 1 := by rw [← hz, cmpI, if_neg h1, if_pos h2]
   clear hz
   go_enter Tryz.func113, Tryz.ntmps113
   go_wp2_with (go_at_call 117; refine (isNaN_any _ _).mono ?_; rintro e w1 ⟨rfl, rfl⟩)
   go_ret
   exact ⟨rfl, rfl⟩
  ·
   obtain rfl : z = 0 := by rw [← hz, cmpI, if_neg h1, if_neg h2]
   clear hz
   go_enter Tryz.func113, Tryz.ntmps113
   go_wp2_with (go_at_call 117; refine (isNaN_any _ _).mono ?_; rintro e w1 ⟨rfl, rfl⟩)
   go_ret
   exact ⟨rfl, rfl⟩
theorem find1_any (q : Ce) (i : Int) (w : World) : Calls Tryz.prog 112 #[.agg #[.int .i64 q.id, .bool q.v.b, .int .i64 q.v.n, .string q.v.s], .int .i64 i] w fun e w' => e = .returned (.int .i64 (cmpI q.id i)) ∧ Below w.heap.size w w' := by
 go_enter Tryz.func112, Tryz.ntmps112
 go_wp2_with (go_at_call 113; refine (Cmp_any _ _ _ _ rfl).mono ?_; rintro e w1 ⟨rfl, rfl⟩)
 go_ret
 exact ⟨rfl, al1 _ _⟩

set_option maxHeartbeats 4000000 in
set_option maxRecDepth 20000 in
theorem Bin_any (A : Option Addr) (n c : Nat) (r : List Ce) (i : Int) (w : World) (hn : n = r.length) (hs : Ces w w.heap.size A r) (hl : n ≤ 1000000) (hi : Inc r) :
  Calls Tryz.prog 111 #[.slice A n c, .int .i64 i, .func (.func 112) #[] #[]] w fun e w' => e = .returned (.tuple #[.int .i64 (posL r i : Nat), .bool (fndL r i)]) ∧ Below w.heap.size w w' := by
 have HN := Li hn
 have HS := Li hs
 have HI := Li hi
 clear hn hs hi
 go_enter Tryz.func111, Tryz.ntmps111
 go_wp2
 go_loopw [9, 10] (fun x y wr => ∃ a b : Nat, a ≤ b ∧ b ≤ n ∧ x = .int .i64 a ∧ y = .int .i64 b ∧ Hid (a ≤ posL r i ∧ posL r i ≤ b) ∧ Hid (Below w.heap.size w wr)) (fun x y _ => ((intOf y) - (intOf x)).toNat)
 case atStart => exact ⟨0, n, Nat.zero_le _, Nat.le_refl _, rfl, rfl, ⟨Nat.zero_le _, by rw [HN.out]; exact posL_le⟩, Below.refl _ _⟩
 case round =>
  obtain ⟨a, b, hab, hbn, rfl, rfl, hp, hbel⟩ := hrel
  by_cases hlt : a < b
  ·
   have i1 : (a : Int) < (b : Int) := by omega
   obtain ⟨q, hq⟩ := getE_of (l := r) (k := (a + b) / 2) (by rw [← HN.out]; omega)
   obtain ⟨g, off, rfl, hg, c0, c1, c2, c3⟩ := (HS.out.below hbel.out).one hq
   have hps := pos_lt (i := i) HI.out hq
   have HP := Li hps
   clear hq hps
   have HC := Li (cmpI_lt q.id i)
   by_cases hx : cmpI q.id i < 0
   ·
    go_wp2_with (go_at_call 112; refine (find1_any q i _).mono ?_; rintro e w1 ⟨rfl, hb1⟩; have HB1 := Li (below_step hbel.out hbel.out.size hb1); clear hb1)
    go_roundw
    case rel => exact ⟨(a + b) / 2 + 1, b, by omega, hbn, by (first | rfl | go_num), rfl, ⟨by have := HP.out.2 (HC.out.1 hx); omega, hp.out.2⟩, HB1.out⟩
    case measure => simp [intOf]; omega
   ·
    go_wp2_with (go_at_call 112; refine (find1_any q i _).mono ?_; rintro e w1 ⟨rfl, hb1⟩; have HB1 := Li (below_step hbel.out hbel.out.size hb1); clear hb1)
    go_roundw
    case rel => exact ⟨a, (a + b) / 2, by omega, by omega, rfl, by (first | rfl | go_num), ⟨hp.out.1, by have h1 : ¬ q.id < i := (fun h => by have := HC.out.2 h; omega); have := mt HP.out.1 h1; omega⟩, HB1.out⟩
    case measure => simp [intOf]; omega
  ·
   have i1 : ¬ (a : Int) < (b : Int) := by omega
   have HE := Li (show posL r i = a by have := hp.out; omega)
   by_cases hlt2 : a < n
   ·
    have i2 : (a : Int) < (n : Int) := by omega
    obtain ⟨q, hq⟩ := getE_of (l := r) (k := a) (by rw [← HN.out]; omega)
    obtain ⟨g, off, rfl, hg, c0, c1, c2, c3⟩ := (HS.out.below hbel.out).one hq
    have HQ := Li hq
    clear hq
    go_wp2_with (go_at_call 112; refine (find1_any q i _).mono ?_; rintro e w1 ⟨rfl, hb1⟩; have HB1 := Li (below_step hbel.out hbel.out.size hb1); clear hb1)
    go_ret2
    refine ⟨?_, HB1.out⟩
    have hf : fndL r i = decide (cmpI q.id i = 0) := by
     rw [Bool.eq_iff_iff, fnd_iff, HE.out, HQ.out]
     simp [cmpI_eq]
    rw [HE.out, hf]
    first | rfl | simp
   ·
    have i2 : ¬ (a : Int) < (n : Int) := by omega
    go_wp2
    go_ret2
    refine ⟨?_, hbel.out⟩
    have hf : fndL r i = false := by
     rw [Bool.eq_false_iff]
     intro h
     have := fndL_lt h
     rw [HE.out, ← HN.out] at this
     omega
    rw [HE.out, hf]
    rfl
end Go.Proofs.YtfeemipnalgjnaaGreat
