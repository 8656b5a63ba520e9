/-
 The program's find, null, valueOf, by contracts.
-/
import Derived.Test.YtfeemipnalgjnaaGreatHb
import Derived.Test.YtfeemipnalgjnaaGreatFnd
import Derived.Test.YtfeemipnalgjnaaGreatCat
namespace Go.Proofs.YtfeemipnalgjnaaGreat
open Go.RowKit

set_option maxHeartbeats 1000000 in
set_option maxRecDepth 20000 in
theorem find_any (A : Option Addr) (n c : Nat) (r : List Ce) (i : Int) (w : World) (hn : n = r.length) (hs : Ces w w.heap.size A r) (hl : n ≤ 1000000) (hi : Inc r) :
  Calls Tryz.prog 103 #[.agg #[.slice A n c], .int .i64 i] w fun e w' => e = .returned (.tuple #[.int .i64 (posL r i : Nat), .bool (fndL r i)]) ∧ Below w.heap.size w w' := by
 have HN := Li hn
 have HS := Li hs
 have B0 := Li (al1 w (.cells #[.slice A n c] 30))
 clear hs hn
 go_enter Tryz.func103, Tryz.ntmps103
 go_wp2_with (go_at_call 111; refine (Bin_any A n c r i _ HN.out (HS.out.up B0.out) hl hi).mono ?_; rintro e w1 ⟨rfl, hb1⟩; have HB1 := Li (below_step B0.out B0.out.size hb1); clear hb1)
 go_ret2
 exact ⟨rfl, HB1.out⟩

set_option maxRecDepth 20000 in
theorem null_any (w : World) : Calls Tryz.prog 86 #[] w fun e w' => e = .returned (.agg #[.bool true, .int .i64 0, .string ⟨#[]⟩]) ∧ Below w.heap.size w w' := by
 go_enter Tryz.func86, Tryz.ntmps86
 go_wp2_with ((with_reducible show wpList _ _ _ (Oper.mk none (.store _ _ _) _ _ _ _ :: _) _ _); refine wpList_store_cb rfl 62 (.tmp 0) (.tmp 1) rfl w.heap.size [.bool true, .int .i64 0, .string ⟨#[]⟩] rfl rfl 62 [.bool false, .int .i64 0, .string ⟨#[]⟩] 3 (CB.new w _ _) sizeVa rfl rfl (one_va _ _ _) ?_; intro w1 hc1 hg1 hz1)
 exact bodyPost_ret (res_cell1 Tryz.results86 rfl hc1 Tryz.underlying62 sizeVa rfl) rfl ⟨rfl, below_grown (al1 w _) hg1 (by rw [asz]; omega) (Nat.le_refl _)⟩

/-- a value as it is returned -/
abbrev Va.ret (v : Va) : Ending := .returned (.agg #[.bool v.b, .int .i64 v.n, .string v.s])
set_option maxHeartbeats 2000000 in
set_option maxRecDepth 20000 in
theorem valueOf_any (A : Option Addr) (n c : Nat) (r : List Ce) (i : Int) (w : World) (hn : n = r.length) (hs : Ces w w.heap.size A r) (hl : n ≤ 1000000) (hi : Inc r) :
  Calls Tryz.prog 88 #[.agg #[.slice A n c], .int .i64 i] w fun e w' => e = (getL r i).ret ∧ Below w.heap.size w w' := by
 have HN := Li hn
 have HS := Li hs
 have B0 := Li (al2 w (.cells #[.slice A n c] 30) (.cells #[.bool false, .int .i64 0, .string ⟨#[]⟩] 62))
 have R0 := Li ((CB.new w 30 [.slice A n c]).alloc (.cells #[.bool false, .int .i64 0, .string ⟨#[]⟩] 62))
 have V0 := Li (CB.new1 w (.cells #[.slice A n c] 30) 62 [.bool false, .int .i64 0, .string ⟨#[]⟩])
 have HG := Li (get_pos (i := i) hi)
 clear hs hn
 cases hf : fndL r i with
 | false =>
  have HE := Li (show getL r i = Va.nul by have := HG.out; rw [hf] at this; exact this)
  go_enter Tryz.func88, Tryz.ntmps88
  go_wp2_with (first | (go_at_call 103; refine (find_any A n c r i _ HN.out (HS.out.up B0.out) hl hi).mono ?_; rintro e w1 ⟨rfl, hb1⟩; rw [hf]; have B1 := Li (below_step B0.out B0.out.size hb1); have V1 := Li (V0.out.up hb1); clear hb1) | (go_at_call 86; refine (null_any _).mono ?_; rintro e w2 ⟨rfl, hb2⟩; have B2 := Li (below_step B1.out B1.out.size hb2); have V2 := Li (V1.out.up hb2); clear hb2) | ((with_reducible show wpList _ _ _ (Oper.mk none (.store _ _ _) _ _ _ _ :: _) _ _); refine wpList_store_cb rfl 62 (.tmp 4) (.tmp 15) rfl (w.heap.size + 1) [.bool true, .int .i64 0, .string ⟨#[]⟩] rfl rfl 62 [.bool false, .int .i64 0, .string ⟨#[]⟩] 3 V2.out sizeVa rfl rfl (one_va _ _ _) ?_; intro w3 hc3 hg3 hz3))
  refine bodyPost_ret (res_cell1 Tryz.results88 rfl hc3 Tryz.underlying62 sizeVa rfl) rfl ⟨by rw [HE.out]; rfl, ?_⟩
  exact below_grown B2.out hg3 B2.out.size (by omega)
 | true =>
  have hk := fndL_lt hf
  obtain ⟨q, hq⟩ := getE_of (l := r) hk
  have HE := Li (show getL r i = q.v by have := HG.out; rw [hf, if_pos rfl, hq] at this; exact this)
  have i1 : ((posL r i : Nat) : Int) < (n : Int) := by have := HN.out; omega
  obtain ⟨p, hp⟩ : ∃ p, posL r i = p := ⟨_, rfl⟩
  rw [hp] at hq i1
  have HP := Li hp
  have HQ := Li hq
  clear hp hk hq
  go_enter Tryz.func88, Tryz.ntmps88
  go_wp2_with (first | (go_at_call 103; refine (find_any A n c r i _ HN.out (HS.out.up B0.out) hl hi).mono ?_; rintro e w1 ⟨rfl, hb1⟩; rw [hf, HP.out]; have B1 := Li (below_step B0.out B0.out.size hb1); have V1 := Li (V0.out.up hb1); have R1 := Li (R0.out.up hb1); have zV1 := V1.out.lt; have zR1 := R1.out.lt; have r10 := R1.out.cell 0 rfl; obtain ⟨g, off, eA, hg, c0, c1, c2, c3⟩ := (HS.out.below B1.out).one HQ.out; subst eA; clear hb1) | ((with_reducible show wpList _ _ _ (Oper.mk none (.store _ _ _) _ _ _ _ :: _) _ _); refine wpList_store_cb rfl 62 (.tmp 4) (.tmp 21) rfl (w.heap.size + 1) [.bool q.v.b, .int .i64 q.v.n, .string q.v.s] rfl rfl 62 [.bool false, .int .i64 0, .string ⟨#[]⟩] 3 V1.out sizeVa rfl rfl (one_va _ _ _) ?_; intro w3 hc3 hg3 hz3))
  refine bodyPost_ret (res_cell1 Tryz.results88 rfl hc3 Tryz.underlying62 sizeVa rfl) rfl ⟨by rw [HE.out], ?_⟩
  exact below_grown B1.out hg3 B1.out.size (by omega)
end Go.Proofs.YtfeemipnalgjnaaGreat
