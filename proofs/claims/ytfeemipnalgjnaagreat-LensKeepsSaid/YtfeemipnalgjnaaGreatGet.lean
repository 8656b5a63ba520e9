/-
 The reference's Get by a contract.
-/
import Derived.Test.YtfeemipnalgjnaaGreatHb
import Derived.Test.YtfeemipnalgjnaaGreatEqC
namespace Go.Proofs.YtfeemipnalgjnaaGreat
open Go.RowKit

theorem get_drop {r : List Ce} {k : Nat} {f : Ce} {i : Int} {z : Va} (hd : r.drop k = f :: r.drop (k + 1)) (h : getL (r.drop k) i = z) (hne : ¬ f.id = i) : getL (r.drop (k + 1)) i = z := by
 rw [hd, getL, if_neg hne] at h
 exact h
set_option maxHeartbeats 4000000 in
set_option maxRecDepth 20000 in
theorem RGet_any (A : Option Addr) (n c : Nat) (r : List Ce) (i : Int) (w : World) (hn : n = r.length) (hs : Ces w w.heap.size A r) (hl : n ≤ 1000000) :
  Calls Tryz.prog 29 #[.agg #[.slice A n c], .int .i64 i] w fun e w' => e = (getL r i).ret ∧ Below w.heap.size w w' := by
 have HN := Li hn
 have HS := Li hs
 obtain ⟨z, hz⟩ : ∃ z, getL r i = z := ⟨_, rfl⟩
 rw [hz]
 have HZ := Li hz
 clear hn hs hz
 have R0 := Li ((CB.new w 30 [.slice A n c]).alloc (.cells #[.bool false, .int .i64 0, .string ⟨#[]⟩] 62))
 have T0 := Li (CB.new1 w (.cells #[.slice A n c] 30) 62 [.bool false, .int .i64 0, .string ⟨#[]⟩])
 have B0 := Li (al2 w (.cells #[.slice A n c] 30) (.cells #[.bool false, .int .i64 0, .string ⟨#[]⟩] 62))
 go_enter Tryz.func29, Tryz.ntmps29
 go_wp2
 go_loopw [5] (fun j wr => ∃ k : Nat, k ≤ n ∧ j = .int .i64 k ∧ Hid (CB wr w.heap.size 30 [.slice A n c]) ∧ Hid (CB wr (w.heap.size + 1) 62 [.bool false, .int .i64 0, .string ⟨#[]⟩]) ∧ Hid (Below w.heap.size w wr) ∧ Hid (getL (r.drop k) i = z)) (fun j _ => n - (intOf j).toNat)
 case atStart => exact ⟨0, by omega, rfl, R0, T0, B0, HZ⟩
 case round =>
  obtain ⟨k, hk, rfl, R1, T1, B1, HG⟩ := hrel
  have r0 := R1.out.cell 0 rfl
  have zR := R1.out.lt
  have zT := T1.out.lt
  by_cases hlt : k < n
  ·
   have i1 : (k : Int) < (n : Int) := by omega
   obtain ⟨f, hf⟩ := getE_of (l := r) (k := k) (by rw [← HN.out]; exact hlt)
   obtain ⟨b, off, rfl, hb, c0, c1, c2, c3⟩ := (HS.out.below B1.out).one hf
   have HD := Li (drop_cons hf)
   clear hf
   by_cases he : f.id = i
   ·
    have j1 : (f.id == i) = true := by simpa using he
    have HV := Li (show f.v = z by rw [← HG.out, HD.out, getL, if_pos he])
    clear he
    go_wp2_with ((with_reducible show wpList _ _ _ (Oper.mk none (.store _ _ _) _ _ _ _ :: _) _ _); go_loud (refine wpList_store_cb rfl 62 (.tmp 4) (.tmp 26) rfl (w.heap.size + 1) [.bool f.v.b, .int .i64 f.v.n, .string f.v.s] rfl rfl 62 [.bool false, .int .i64 0, .string ⟨#[]⟩] 3 T1.out sizeVa rfl rfl (one_va _ _ _) ?_; intro s2 hc2 hg2 hz2; have E2 := Li hc2; have F2 := Li (below_grown B1.out hg2 B1.out.size (by omega)); clear hc2 hg2))
    refine bodyPost_ret (res_cell1 Tryz.results29 rfl E2.out Tryz.underlying62 sizeVa rfl) rfl ⟨?_, F2.out⟩
    rw [← HV.out]
   ·
    have j1 : (f.id == i) = false := by simpa using he
    have HG2 := Li (get_drop HD.out HG.out he)
    clear he
    go_wp2
    go_roundw
    case rel => exact ⟨k + 1, by omega, by go_num, R1, T1, B1, HG2⟩
    case measure => simp [intOf]; omega
  ·
   have i1 : ¬ (k : Int) < (n : Int) := by omega
   have HV := Li (show z = Va.nul by rw [← HG.out, List.drop_eq_nil_of_le (by rw [← HN.out]; omega)]; rfl)
   go_wp2_with ((with_reducible show wpList _ _ _ (Oper.mk none (.store _ _ _) _ _ _ _ :: _) _ _); go_loud (refine wpList_store_cb rfl 62 (.tmp 4) (.tmp 27) rfl (w.heap.size + 1) [.bool true, .int .i64 0, .string ⟨#[]⟩] rfl rfl 62 [.bool false, .int .i64 0, .string ⟨#[]⟩] 3 T1.out sizeVa rfl rfl (one_va _ _ _) ?_; intro s2 hc2 hg2 hz2; have E2 := Li hc2; have F2 := Li (below_grown B1.out hg2 B1.out.size (by omega)); clear hc2 hg2))
   refine bodyPost_ret (res_cell1 Tryz.results29 rfl E2.out Tryz.underlying62 sizeVa rfl) rfl ⟨?_, F2.out⟩
   rw [HV.out]
   rfl
end Go.Proofs.YtfeemipnalgjnaaGreat
