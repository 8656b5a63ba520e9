/-
 divided, undivided, connected, and the closures of dividing and connecting, by contracts.
-/
import Derived.Test.YtfeemipnalgjnaaGreatHd
import Derived.Test.YtfeemipnalgjnaaGreatClo
namespace Go.Proofs.YtfeemipnalgjnaaGreat
open Go.RowKit

/-- two results that lie in blocks -/
theorem res_cells2 {fn : Func} {p u : Tmp} {ty ty' T T' : TypeId} {tmps : Array Value} {P : Program} {w : World} {g g' : Nat} {l l' : List Value} {fs fs' : Array Go.Field} {n n' : Nat} (h : fn.results = #[.cell p ty, .cell u ty']) (hp : tmps.getD p undef = .pointer (some ⟨g, 0, none⟩)) (hx : tmps.getD u undef = .pointer (some ⟨g', 0, none⟩))
  (hg : CB w g T l) (hg' : CB w g' T' l') (hu : P.underlying ty = some (.struct fs)) (hi : (P.info? ty).map (·.size) = some n) (hl : l.length = n) (hu' : P.underlying ty' = some (.struct fs')) (hi' : (P.info? ty').map (·.size) = some n') (hl' : l'.length = n') :
  (results fn tmps).run P w = .ok (.tuple #[.agg l.toArray, .agg l'.toArray]) w := by
 rw [Array.getD_eq_getD_getElem?] at hp hx
 simp only [results, h]
 simp [hp, hx, asAddr, run_loadVar_row _ _ _ _ _ (0, 0) _ hg hu rfl (by rw [hi]; simp [hl]), run_loadVar_row _ _ _ _ _ (0, 0) _ hg' hu' rfl (by rw [hi']; simp [hl'])]

set_option maxHeartbeats 4000000 in
set_option maxRecDepth 20000 in
theorem divided_any (t : Va) (sep : ByteArray) (w : World) (hG : GV w) (ht : t.s.size ≤ 1000) :
  Calls Tryz.prog 90 #[.agg #[.bool t.b, .int .i64 t.n, .string t.s], .string sep] w fun e w' => e = .returned (.tuple #[.agg #[.bool (divP t sep).1.b, .int .i64 (divP t sep).1.n, .string (divP t sep).1.s], .agg #[.bool (divP t sep).2.b, .int .i64 (divP t sep).2.n, .string (divP t sep).2.s]]) ∧ Below w.heap.size w w' := by
 have HT := Li ht
 have HGV := Li hG
 have P0 := Li (((CB.new w 62 [.bool t.b, .int .i64 t.n, .string t.s]).alloc (.cells #[.bool false, .int .i64 0, .string ⟨#[]⟩] 62)).alloc (.cells #[.bool false, .int .i64 0, .string ⟨#[]⟩] 62))
 have U0 := Li ((CB.new1 w (.cells #[.bool t.b, .int .i64 t.n, .string t.s] 62) 62 [.bool false, .int .i64 0, .string ⟨#[]⟩]).alloc (.cells #[.bool false, .int .i64 0, .string ⟨#[]⟩] 62))
 have V0 := Li (CB.new2 w (.cells #[.bool t.b, .int .i64 t.n, .string t.s] 62) (.cells #[.bool false, .int .i64 0, .string ⟨#[]⟩] 62) 62 [.bool false, .int .i64 0, .string ⟨#[]⟩])
 have B0 := Li (al3 w (.cells #[.bool t.b, .int .i64 t.n, .string t.s] 62) (.cells #[.bool false, .int .i64 0, .string ⟨#[]⟩] 62) (.cells #[.bool false, .int .i64 0, .string ⟨#[]⟩] 62))
 clear ht hG
 obtain ⟨qa, hqa⟩ : ∃ qa : ByteArray, ⟨(Lib.cut t.s.data.toList sep.data.toList).1.toArray⟩ = qa := ⟨_, rfl⟩
 obtain ⟨qb, hqb⟩ : ∃ qb : ByteArray, ⟨(Lib.cut t.s.data.toList sep.data.toList).2.1.toArray⟩ = qb := ⟨_, rfl⟩
 cases hf : (Lib.cut t.s.data.toList sep.data.toList).2.2 with
 | false =>
  have HQ : Hid ((Ending.returned (.tuple #[.string ⟨(Lib.cut t.s.data.toList sep.data.toList).1.toArray⟩, .string ⟨(Lib.cut t.s.data.toList sep.data.toList).2.1.toArray⟩, .bool (Lib.cut t.s.data.toList sep.data.toList).2.2])) = .returned (.tuple #[.string qa, .string qb, .bool false])) := by
   show _ = _
   rw [hqa, hqb, hf]
  have HD := Li (show divP t sep = (t, Va.nul) by unfold divP; rw [hf]; rfl)
  clear hqa hqb hf
  go_enter Tryz.func90, Tryz.ntmps90
  go_upto_region 3 with (go_at_call 105; obtain ⟨m, hm⟩ := HGV.out.up B0.out; refine (Tryz.strings_Cut t.s sep m _ (by have := HT.out; omega) hm).mono ?_; rintro e w1 ⟨rfl, q, rfl⟩; rw [HQ.out]; have B1 := Li (below_drewN B0.out q); have P1 := Li (P0.out.drewN q); have U1 := Li (U0.out.drewN q); have V1 := Li (V0.out.drewN q); clear hm)
  have P0 := P1
  have U0 := U1
  have V0 := V1
  have BB := B1
  generalize (((w.alloc (.cells #[.bool t.b, .int .i64 t.n, .string t.s] 62)).alloc (.cells #[.bool false, .int .i64 0, .string ⟨#[]⟩] 62)).alloc (.cells #[.bool false, .int .i64 0, .string ⟨#[]⟩] 62)).drewN q = W0 at *
  have P0 := Li P0.out.dr
  have U0 := Li U0.out.dr
  have V0 := Li V0.out.dr
  have BB := Li BB.out.drew
  refine wp_region_held_drew (S := fun w' => Hid (CB w' w.heap.size 62 [.bool t.b, .int .i64 t.n, .string t.s])) (by kernel_rfl) (Li P0.out) (fun hHeld => ?_)
  revert hHeld P0 U0 V0 BB
  generalize W0.drew = X0
  intro P0 U0 V0 BB hHeld
  refine htf 0 (fun _ h => And.intro (h.out.c3) (h.out.lt)) ?_
  refine rd1 1 fun KK hK => ?_
  go_simp
  go_at_call 86
  refine (null_any _).mono ?_
  rintro e v1 ⟨rfl, hb8⟩
  have P0 := Li (P0.out.up hb8)
  have U0 := Li (U0.out.up hb8)
  have V0 := Li (V0.out.up hb8)
  have BB := Li (below_step BB.out BB.out.size hb8)
  clear hb8
  go_wp2_with fail
  refine hK.out _ _ (Li P0.out) (fun hHeld => ?_)
  clear hK KK
  try simp only [pnz]
  refine rd1 2 fun KK hK => ?_
  refine step_store_cb rfl 62 (.tmp 4) (.tmp 19) rfl (w.heap.size + 1) [.bool t.b, .int .i64 t.n, .string t.s] rfl rfl 62 [.bool false, .int .i64 0, .string ⟨#[]⟩] 3 U0.out sizeVa rfl rfl (one_va _ _ _) ?_
  intro s2 hc2 hg2 hz2
  have P0 := Li (P0.out.grown hg2 (by intro h; injection h with h; omega))
  have V0 := Li (V0.out.grown hg2 (by intro h; injection h with h; omega))
  have U0 := Li hc2
  have BB := Li (below_grown BB.out hg2 BB.out.size (by omega))
  refine hK.out _ _ (Li P0.out) (fun hHeld => ?_)
  clear hK KK
  try simp only [pnz]
  refine rd1 3 fun KK hK => ?_
  refine step_store_cb rfl 62 (.tmp 5) (.tmp 20) rfl (w.heap.size + 1 + 1) [.bool true, .int .i64 0, .string ⟨#[]⟩] rfl rfl 62 [.bool false, .int .i64 0, .string ⟨#[]⟩] 3 V0.out sizeVa rfl rfl (one_va _ _ _) ?_
  intro s3 hc3 hg3 hz3
  have P0 := Li (P0.out.grown hg3 (by intro h; injection h with h; omega))
  have U0 := Li (U0.out.grown hg3 (by intro h; injection h with h; omega))
  have V0 := Li hc3
  have BB := Li (below_grown BB.out hg3 BB.out.size (by omega))
  refine hK.out _ _ (Li P0.out) (fun hHeld => ?_)
  clear hK KK
  try simp only [pnz]
  refine wpAnyH_done (by kernel_rfl) ?_ _
  go_wp2_with fail
  refine bodyPost_ret (res_cells2 Tryz.results90 rfl rfl U0.out V0.out Tryz.underlying62 sizeVa rfl Tryz.underlying62 sizeVa rfl) rfl ⟨by rw [HD.out]; rfl, BB.out⟩
 | true =>
  have HQ : Hid ((Ending.returned (.tuple #[.string ⟨(Lib.cut t.s.data.toList sep.data.toList).1.toArray⟩, .string ⟨(Lib.cut t.s.data.toList sep.data.toList).2.1.toArray⟩, .bool (Lib.cut t.s.data.toList sep.data.toList).2.2])) = .returned (.tuple #[.string qa, .string qb, .bool true])) := by
   show _ = _
   rw [hqa, hqb, hf]
  have HD := Li (show divP t sep = (⟨false, 0, qa⟩, ⟨false, 0, qb⟩) by unfold divP; rw [hf, hqa, hqb]; rfl)
  clear hqa hqb hf
  go_enter Tryz.func90, Tryz.ntmps90
  go_wp2_with (first | (go_at_call 105; obtain ⟨m, hm⟩ := HGV.out.up B0.out; refine (Tryz.strings_Cut t.s sep m _ (by have := HT.out; omega) hm).mono ?_; rintro e w1 ⟨rfl, q, rfl⟩; rw [HQ.out]; have B1 := Li (below_drewN B0.out q); have P1 := Li (P0.out.drewN q); have U1 := Li (U0.out.drewN q); have V1 := Li (V0.out.drewN q); clear hm) | ((with_reducible show wpList _ _ _ (Oper.mk none (.store _ _ _) _ _ _ _ :: _) _ _); (with_reducible show wpList _ _ _ (Oper.mk none (.store _ (.tmp 4) _) _ _ _ _ :: _) _ _); refine wpList_store_cb rfl 62 (.tmp 4) (.tmp 22) rfl (w.heap.size + 1) [.bool false, .int .i64 0, .string qa] rfl rfl 62 [.bool false, .int .i64 0, .string ⟨#[]⟩] 3 U1.out sizeVa rfl rfl (one_va _ _ _) ?_; intro s1 hc1 hg1 hz1; have U2 := Li hc1; have V2 := Li (V1.out.grown hg1 (by intro h; injection h with h; omega)); have B2 := Li (below_grown B1.out hg1 B1.out.size (by omega)); clear hc1 hg1 hz1) | ((with_reducible show wpList _ _ _ (Oper.mk none (.store _ _ _) _ _ _ _ :: _) _ _); (with_reducible show wpList _ _ _ (Oper.mk none (.store _ (.tmp 5) _) _ _ _ _ :: _) _ _); refine wpList_store_cb rfl 62 (.tmp 5) (.tmp 24) rfl (w.heap.size + 1 + 1) [.bool false, .int .i64 0, .string qb] rfl rfl 62 [.bool false, .int .i64 0, .string ⟨#[]⟩] 3 V2.out sizeVa rfl rfl (one_va _ _ _) ?_; intro s2 hc2 hg2 hz2; have V3 := Li hc2; have U3 := Li (U2.out.grown hg2 (by intro h; injection h with h; omega)); have B3 := Li (below_grown B2.out hg2 B2.out.size (by omega)); clear hc2 hg2 hz2))
  refine bodyPost_ret (res_cells2 Tryz.results90 rfl rfl U3.out V3.out Tryz.underlying62 sizeVa rfl Tryz.underlying62 sizeVa rfl) rfl ⟨by rw [HD.out], B3.out⟩
end Go.Proofs.YtfeemipnalgjnaaGreat
