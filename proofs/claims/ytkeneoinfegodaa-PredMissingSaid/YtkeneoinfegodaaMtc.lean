/-
  The program's Match, by a contract.
-/
import Derived.Test.YtkeneoinfegodaaEvl
import Derived.Test.YtkeneoinfegodaaHd
namespace Go.Proofs.Ytkeneoinfegodaa
open Go.RowKit
set_option maxHeartbeats 400000 in
set_option maxRecDepth 20000 in
theorem Match_any (A : Option Addr) (n c : Nat) (r : List Ce) (hn : n = r.length) (hl : n ≤ 9223372036854775807) (p : Pr) (w : World) (hp : PrAt w w.heap.size p) (hs : Ces w w.heap.size A r) :
    Calls Try.prog 17 #[.agg #[.int .i64 p.op, .int .i64 p.id, .int .i64 p.lo, .int .i64 p.hi, .slice p.S p.set.length p.sc, .string p.tx, .slice p.K p.kids.length p.kc], .agg #[.slice A n c]] w fun e w' => e = .returned (.bool (ev r p == 1)) ∧ Below w.heap.size w w' := by
  have HE := Li (fun X h1 h2 => Eval_any A n c r hn hl p X h1 h2)
  obtain ⟨op, id, lo, hi, S, sc, set, tx, K, kc, ks⟩ := p
  show Calls Try.prog 17 #[.agg #[.int .i64 op, .int .i64 id, .int .i64 lo, .int .i64 hi, .slice S set.length sc, .string tx, .slice K ks.length kc], .agg #[.slice A n c]] w _
  have HP := Li hp
  have HS := Li hs
  have B0 := Li (al2 w (.cells #[.int .i64 op, .int .i64 id, .int .i64 lo, .int .i64 hi, .slice S set.length sc, .string tx, .slice K ks.length kc] 25) (.cells #[.slice A n c] 29))
  have P0 := Li ((CB.new w 25 [.int .i64 op, .int .i64 id, .int .i64 lo, .int .i64 hi, .slice S set.length sc, .string tx, .slice K ks.length kc]).alloc (.cells #[.slice A n c] 29))
  have R0 := Li (CB.new1 w (.cells #[.int .i64 op, .int .i64 id, .int .i64 lo, .int .i64 hi, .slice S set.length sc, .string tx, .slice K ks.length kc] 25) 29 [.slice A n c])
  obtain ⟨t, ht⟩ : ∃ t, ev r (.mk op id lo hi S sc set tx K kc ks) = t := ⟨_, rfl⟩
  rw [ht]
  have HT := Li ht
  have p0 := P0.out.c7
  have zp := P0.out.lt
  have r0 := R0.out.c1
  have zr := R0.out.lt
  clear hp hs ht hn
  go_enter Try.func17, Try.ntmps17
  go_wp2_with (go_at_call 13; refine ((show Calls Try.prog 13 #[.agg #[.int .i64 op, .int .i64 id, .int .i64 lo, .int .i64 hi, .slice S set.length sc, .string tx, .slice K ks.length kc], .agg #[.slice A n c]] _ fun e w' => e = .returned (.int .i64 (ev r (.mk op id lo hi S sc set tx K kc ks))) ∧ Below _ _ w' from HE.out _ (PrAt.up HP.out B0.out) (RowAt.up HS.out B0.out))).mono ?_; rintro e w1 ⟨rfl, hb1⟩; rw [HT.out]; have B1 := Li (below_step B0.out B0.out.size hb1); clear hb1)
  go_ret
  exact ⟨rfl, B1.out⟩

end Go.Proofs.Ytkeneoinfegodaa
