/-
  The program's clip at the quadrant 1: by a contract.
-/
import Derived.Test.YtlndpclgljfloaaClp
namespace Go.Proofs.Ytlndpclgljfloaa
open Go.RowKit
set_option maxHeartbeats 8000000 in
set_option maxRecDepth 20000 in
theorem clip_1 (x y u v s : Nat) (w : World) (hs0 : 0 < s) (hs : s < 2 ^ 31) (ho : Hb.Wd.ok ⟨x, y, u, v⟩ (2 * s)) :
    Calls Try.prog 41 #[.agg (qdV 1).toArray, .agg (wdV ⟨x, y, u, v⟩).toArray, .int .u32 s] w fun e w' => e = .returned (ClpR ⟨x, y, u, v⟩ s 1) ∧ Below w.heap.size w w' := by
  obtain ⟨o1, o2, o3, o4⟩ := ho
  simp only at o1 o2 o3 o4
  obtain ⟨oy, hoy⟩ : ∃ oy, max y s = oy := ⟨_, rfl⟩
  have fy := mx hoy
  obtain ⟨ou, hou⟩ : ∃ ou, min u (s - 1) = ou := ⟨_, rfl⟩
  have fu := mn1 hs0 hou
  obtain ⟨ov, hov⟩ : ∃ ov, min v (2 * s - 1) = ov := ⟨_, rfl⟩
  have fv := mn2 hs0 hov
  have hO : Hb.clipO ⟨x, y, u, v⟩ s 1 = ⟨x, oy, ou, ov⟩ := by
    unfold Hb.clipO
    simp [Hb.colQ, Hb.rowQ]
    omega
  have hBl : Hb.clipB ⟨x, y, u, v⟩ s 1 = (decide (x ≤ ou) && decide (oy ≤ ov)) := by unfold Hb.clipB; rw [hO]
  have FU := Li fu
  have FV := Li fv
  have FY := Li fy
  obtain ⟨a1, a2⟩ := bd2 hou
  obtain ⟨a3, a4⟩ := bd2 hov
  obtain ⟨a7, a8⟩ := bd1 hoy
  by_cases h1 : x ≤ ou
  · by_cases h2 : oy ≤ ov
    · have hB : Hb.clipB ⟨x, y, u, v⟩ s 1 = true := by rw [hBl, decide_eq_true h1, decide_eq_true h2]; rfl
      rw [ClpR_yes hB]
      have c1 := Li (fun W : World => q2_any x oy s W (by clear hB hBl hO hou hov fu fv hoy fy; omega) (by clear hB hBl hO hou hov fu fv hoy fy; omega))
      have c2 := Li (fun W : World => q2_any ou ov s W (by clear hB hBl hO hou hov fu fv hoy fy; omega) (by clear hB hBl hO hou hov fu fv hoy fy; omega))
      obtain ⟨r1, hr1⟩ : ∃ r1, min x ou = r1 := ⟨_, rfl⟩
      obtain ⟨r2, hr2⟩ : ∃ r2, min (oy - s) (ov - s) = r2 := ⟨_, rfl⟩
      obtain ⟨r3, hr3⟩ : ∃ r3, max x ou = r3 := ⟨_, rfl⟩
      obtain ⟨r4, hr4⟩ : ∃ r4, max (oy - s) (ov - s) = r4 := ⟨_, rfl⟩
      have hI : Hb.clipI ⟨x, y, u, v⟩ s 1 = ⟨r1, r2, r3, r4⟩ := by
        rw [← hr1, ← hr2, ← hr3, ← hr4]
        unfold Hb.clipI
        rw [hO]
        rfl
      rw [hI]
      have M13 := Li (mm hr1 hr3)
      have M24 := Li (mm hr2 hr4)
      generalize (oy - s) = g1 at *
      generalize (ov - s) = g3 at *
      clear hI hB hBl hO hou hov fu fv fy hoy hr1 hr2 hr3 hr4
      show Calls Try.prog 41 #[.agg #[.int .u32 0, .int .u32 1, .func (.func 43) #[] #[], .func (.func 44) #[] #[]], .agg #[.int .u32 x, .int .u32 y, .int .u32 u, .int .u32 v], .int .u32 s] w _
      go_enter Try.func41, Try.ntmps41
      go_upto_region 1 with fail
      go_quiet (fail)
      go_upto_region 2 with fail
      have fy := FY.out
      go_region
      clear fy
      go_upto_region 3 with fail
      have fu := FU.out
      have fv := FV.out
      go_region
      clear fu fv
      go_upto_region 8 with (first | (go_at_call 43; (with_reducible refine Calls.mono (c1.out _) ?_); rintro e w5 ⟨rfl, hw5⟩; subst w5) | (go_at_call 43; (with_reducible refine Calls.mono (c2.out _) ?_); rintro e w5 ⟨rfl, hw5⟩; subst w5))
      obtain ⟨m1, m3⟩ := M13.out
      obtain ⟨m2, m4⟩ := M24.out
      go_wp2_with fail
      refine bodyPost_ret (v := .tuple #[.agg (wdV ⟨r1, r2, r3, r4⟩).toArray, .bool true]) (res_cell2 (T := 88) (l := wdV ⟨r1, r2, r3, r4⟩) rfl rfl rfl ?_ Try.underlying88 info88) rfl ⟨rfl, ?_⟩
      · refine CB.set_ (l := [.int .u32 r1, .int .u32 r2, .int .u32 r3, .int .u32 0]) ?_ 3 (.int .u32 r4)
        refine CB.set_ (l := [.int .u32 r1, .int .u32 r2, .int .u32 0, .int .u32 0]) ?_ 2 (.int .u32 r3)
        refine CB.set_ (l := [.int .u32 r1, .int .u32 0, .int .u32 0, .int .u32 0]) ?_ 1 (.int .u32 r2)
        refine CB.set_ (l := [.int .u32 0, .int .u32 0, .int .u32 0, .int .u32 0]) ?_ 0 (.int .u32 r1)
        exact (CB.new2 w _ _ 88 ZW).drewN _
      · refine Below.setCell ?_ (p := ⟨w.heap.size + 1 + 1, 3, none⟩) (by show w.heap.size ≤ w.heap.size + 1 + 1; omega) _
        refine Below.setCell ?_ (p := ⟨w.heap.size + 1 + 1, 2, none⟩) (by show w.heap.size ≤ w.heap.size + 1 + 1; omega) _
        refine Below.setCell ?_ (p := ⟨w.heap.size + 1 + 1, 1, none⟩) (by show w.heap.size ≤ w.heap.size + 1 + 1; omega) _
        refine Below.setCell ?_ (p := ⟨w.heap.size + 1 + 1, 0, none⟩) (by show w.heap.size ≤ w.heap.size + 1 + 1; omega) _
        exact below_drewN (al3 w _ _ _) _
    · have hB : Hb.clipB ⟨x, y, u, v⟩ s 1 = false := by rw [hBl, decide_eq_false h2, Bool.and_false]
      rw [ClpR_no hB]
      clear hB hBl hO hou hov fu fv fy hoy
      show Calls Try.prog 41 #[.agg #[.int .u32 0, .int .u32 1, .func (.func 43) #[] #[], .func (.func 44) #[] #[]], .agg #[.int .u32 x, .int .u32 y, .int .u32 u, .int .u32 v], .int .u32 s] w _
      go_enter Try.func41, Try.ntmps41
      go_upto_region 1 with fail
      go_quiet (fail)
      go_upto_region 2 with fail
      have fy := FY.out
      go_region
      clear fy
      go_upto_region 3 with fail
      have fu := FU.out
      have fv := FV.out
      go_region
      clear fu fv
      go_wp2_with fail
      refine bodyPost_ret (v := .tuple #[.agg (ZW).toArray, .bool false]) (res_cell2 (T := 88) (l := ZW) rfl rfl rfl ?_ Try.underlying88 info88) rfl ⟨rfl, ?_⟩
      · refine CB.set_ (l := [.int .u32 0, .int .u32 0, .int .u32 0, .int .u32 0]) ?_ 3 (.int .u32 0)
        refine CB.set_ (l := [.int .u32 0, .int .u32 0, .int .u32 0, .int .u32 0]) ?_ 2 (.int .u32 0)
        refine CB.set_ (l := [.int .u32 0, .int .u32 0, .int .u32 0, .int .u32 0]) ?_ 1 (.int .u32 0)
        refine CB.set_ (l := [.int .u32 0, .int .u32 0, .int .u32 0, .int .u32 0]) ?_ 0 (.int .u32 0)
        exact (CB.new2 w _ _ 88 ZW).drewN _
      · refine Below.setCell ?_ (p := ⟨w.heap.size + 1 + 1, 3, none⟩) (by show w.heap.size ≤ w.heap.size + 1 + 1; omega) _
        refine Below.setCell ?_ (p := ⟨w.heap.size + 1 + 1, 2, none⟩) (by show w.heap.size ≤ w.heap.size + 1 + 1; omega) _
        refine Below.setCell ?_ (p := ⟨w.heap.size + 1 + 1, 1, none⟩) (by show w.heap.size ≤ w.heap.size + 1 + 1; omega) _
        refine Below.setCell ?_ (p := ⟨w.heap.size + 1 + 1, 0, none⟩) (by show w.heap.size ≤ w.heap.size + 1 + 1; omega) _
        exact below_drewN (al3 w _ _ _) _
  · have hB : Hb.clipB ⟨x, y, u, v⟩ s 1 = false := by rw [hBl, decide_eq_false h1, Bool.false_and]
    rw [ClpR_no hB]
    clear hB hBl hO hou hov fu fv fy hoy
    show Calls Try.prog 41 #[.agg #[.int .u32 0, .int .u32 1, .func (.func 43) #[] #[], .func (.func 44) #[] #[]], .agg #[.int .u32 x, .int .u32 y, .int .u32 u, .int .u32 v], .int .u32 s] w _
    go_enter Try.func41, Try.ntmps41
    go_upto_region 1 with fail
    go_quiet (fail)
    go_upto_region 2 with fail
    have fy := FY.out
    go_region
    clear fy
    go_upto_region 3 with fail
    have fu := FU.out
    have fv := FV.out
    go_region
    clear fu fv
    go_wp2_with fail
    refine bodyPost_ret (v := .tuple #[.agg (ZW).toArray, .bool false]) (res_cell2 (T := 88) (l := ZW) rfl rfl rfl ?_ Try.underlying88 info88) rfl ⟨rfl, ?_⟩
    · refine CB.set_ (l := [.int .u32 0, .int .u32 0, .int .u32 0, .int .u32 0]) ?_ 3 (.int .u32 0)
      refine CB.set_ (l := [.int .u32 0, .int .u32 0, .int .u32 0, .int .u32 0]) ?_ 2 (.int .u32 0)
      refine CB.set_ (l := [.int .u32 0, .int .u32 0, .int .u32 0, .int .u32 0]) ?_ 1 (.int .u32 0)
      refine CB.set_ (l := [.int .u32 0, .int .u32 0, .int .u32 0, .int .u32 0]) ?_ 0 (.int .u32 0)
      exact (CB.new2 w _ _ 88 ZW).drewN _
    · refine Below.setCell ?_ (p := ⟨w.heap.size + 1 + 1, 3, none⟩) (by show w.heap.size ≤ w.heap.size + 1 + 1; omega) _
      refine Below.setCell ?_ (p := ⟨w.heap.size + 1 + 1, 2, none⟩) (by show w.heap.size ≤ w.heap.size + 1 + 1; omega) _
      refine Below.setCell ?_ (p := ⟨w.heap.size + 1 + 1, 1, none⟩) (by show w.heap.size ≤ w.heap.size + 1 + 1; omega) _
      refine Below.setCell ?_ (p := ⟨w.heap.size + 1 + 1, 0, none⟩) (by show w.heap.size ≤ w.heap.size + 1 + 1; omega) _
      exact below_drewN (al3 w _ _ _) _
end Go.Proofs.Ytlndpclgljfloaa
