/-
 The law's own places, by a contract.
-/
import Derived.Test.YtfeemipnalgjnaaGreatHd
import Derived.Test.YtfeemipnalgjnaaGreatHd
import Derived.Test.YtfeemipnalgjnaaGreatSml
namespace Go.Proofs.YtfeemipnalgjnaaGreat
open Go.RowKit

theorem sizeI3 : (Tryz.prog.info? 55).map (·.size) = some 3 := by kernel_rfl
theorem one_i3 (a b c : Int) : ∀ u ∈ [Value.int .i64 a, .int .i64 b, .int .i64 c], u.oneCell' = true := by
 intro u hu
 simp only [List.mem_cons, List.not_mem_nil, or_false] at hu
 rcases hu with rfl | rfl | rfl <;> rfl
theorem tmod_in {b : Int} {n : Nat} (hb : 0 ≤ b ∧ b ≤ 255) (hn : n ≤ 1000) : 0 ≤ Int.tmod b ((n : Int) + 1) ∧ Int.tmod b ((n : Int) + 1) ≤ n := by
 have h1 := Int.tmod_nonneg ((n : Int) + 1) hb.1
 have h2 := Int.tmod_lt_of_pos b (show 0 < (n : Int) + 1 by omega)
 omega
theorem res_cellA {fn : Func} {p : Tmp} {ty T E : TypeId} {tmps : Array Value} {P : Program} {w : World} {g : Nat} {l : List Value} {n k : Nat} (h : fn.results = #[.cell p ty]) (hp : tmps.getD p undef = .pointer (some ⟨g, 0, none⟩))
  (hg : CB w g T l) (hu : P.underlying ty = some (.array k E)) (hi : (P.info? ty).map (·.size) = some n) (hl : l.length = n) : (results fn tmps).run P w = .ok (.agg l.toArray) w := by
 rw [Array.getD_eq_getD_getElem?] at hp
 simp only [results, h]
 simp [hp, asAddr, run_loadVar_row _ _ _ _ _ (0, 0) _ hg hu rfl (by rw [hi]; simp [hl])]
set_option maxHeartbeats 4000000 in
set_option maxRecDepth 20000 in
theorem places_any (b0 b1 b2 : Int) (n : Nat) (w : World) (h0 : 0 ≤ b0 ∧ b0 ≤ 255) (h1 : 0 ≤ b1 ∧ b1 ≤ 255) (h2 : 0 ≤ b2 ∧ b2 ≤ 255) (hn : n ≤ 1000) :
  Calls Tryz.prog 27 #[.agg #[.int .u8 b0, .int .u8 b1, .int .u8 b2], .int .i64 n] w fun e w' => e = .returned (.agg #[.int .i64 (Int.tmod b0 (n + 1)), .int .i64 (Int.tmod b1 (n + 1)), .int .i64 (Int.tmod b2 (n + 1))]) ∧ Below w.heap.size w w' := by
 have U0 := Li ((CB.new w 54 [.int .u8 b0, .int .u8 b1, .int .u8 b2]).alloc (.cells #[.int .i64 0, .int .i64 0, .int .i64 0] 55))
 have R0 := Li (CB.new1 w (.cells #[.int .u8 b0, .int .u8 b1, .int .u8 b2] 54) 55 [.int .i64 0, .int .i64 0, .int .i64 0])
 have B0 := Li (al2 w (.cells #[.int .u8 b0, .int .u8 b1, .int .u8 b2] 54) (.cells #[.int .i64 0, .int .i64 0, .int .i64 0] 55))
 have hwx : IntKind.i64.wrap ((n : Int) + 1) = (n : Int) + 1 := IntWalk.i64_in _ (by omega)
 have c0 : IntKind.i64.wrap b0 = b0 := IntWalk.i64_in _ (by omega)
 have c1 : IntKind.i64.wrap b1 = b1 := IntWalk.i64_in _ (by omega)
 have c2 : IntKind.i64.wrap b2 = b2 := IntWalk.i64_in _ (by omega)
 have m0 : IntKind.i64.wrap (Int.tmod b0 ((n : Int) + 1)) = Int.tmod b0 ((n : Int) + 1) := IntWalk.i64_in _ (by have := tmod_in h0 hn; omega)
 have m1 : IntKind.i64.wrap (Int.tmod b1 ((n : Int) + 1)) = Int.tmod b1 ((n : Int) + 1) := IntWalk.i64_in _ (by have := tmod_in h1 hn; omega)
 have m2 : IntKind.i64.wrap (Int.tmod b2 ((n : Int) + 1)) = Int.tmod b2 ((n : Int) + 1) := IntWalk.i64_in _ (by have := tmod_in h2 hn; omega)
 have hz : ¬ (n : Int) + 1 = 0 := by omega
 have hz' : ((n : Int) + 1 == 0) = false := by simpa using hz
 clear h0 h1 h2 hn
 go_enter Tryz.func27, Tryz.ntmps27
 go_upto_region 1 with fail
 have zU := U0.out.lt
 have zR := R0.out.lt
 replace U0 := Li U0.out.dr
 replace R0 := Li R0.out.dr
 replace B0 := Li B0.out.drew
 refine wp_region_held_drew (S := fun w' => Hid (CB w' w.heap.size 54 [.int .u8 b0, .int .u8 b1, .int .u8 b2])) (by kernel_rfl) U0 (fun hHeld => ?_)
 revert hHeld U0 R0 B0 zU zR
 generalize ((w.alloc (.cells #[.int .u8 b0, .int .u8 b1, .int .u8 b2] 54)).alloc (.cells #[.int .i64 0, .int .i64 0, .int .i64 0] 55)).drew = X0
 intro zU zR U0 R0 B0 hHeld
 refine htk 0 ?_
 refine htf 1 (fun _ h => And.intro h.out.c3 h.out.lt) ?_
 refine htk 2 ?_
 refine htk 3 ?_
 refine htk 4 ?_
 refine htk 5 ?_
 refine htk 6 ?_
 refine htf 7 (fun _ h => And.intro h.out.c3 h.out.lt) ?_
 refine htk 8 ?_
 refine htk 9 ?_
 refine htk 10 ?_
 refine htk 11 ?_
 refine htk 12 ?_
 refine htf 13 (fun _ h => And.intro h.out.c3 h.out.lt) ?_
 refine htk 14 ?_
 refine htk 15 ?_
 refine htk 16 ?_
 refine htk 17 ?_
 refine htk 18 ?_
 refine rd1 19 fun KK hK => ?_
 refine step_store_cb rfl 55 (.tmp 4) (.tmp 23) rfl (w.heap.size + 1) [.int .i64 (Int.tmod b0 (n + 1)), .int .i64 (Int.tmod b1 (n + 1)), .int .i64 (Int.tmod b2 (n + 1))] rfl rfl 55 [.int .i64 0, .int .i64 0, .int .i64 0] 3 R0.out sizeI3 rfl rfl (one_i3 _ _ _) ?_
 intro v6 hc6 hg6 hz6
 replace U0 := Li (U0.out.grown hg6 (by intro h; injection h with h; omega))
 refine hK.out _ _ (U0) (fun hHeld => ?_)
 clear hK KK
 try simp only [pnz]
 refine wpAnyH_done (by kernel_rfl) ?_ _
 go_wp2_with fail
 refine bodyPost_ret (res_cellA Tryz.results27 rfl hc6 Tryz.underlying55 sizeI3 rfl) rfl ⟨rfl, below_grown B0.out hg6 B0.out.size (by omega)⟩
end Go.Proofs.YtfeemipnalgjnaaGreat
