/-
  Pair, the program's and the reference's, by contracts.
-/
import Derived.Test.YtdpkbhhmhmffnaaDoorTops
import Derived.Deep.RegionHeld3
import Derived.Outline
namespace Go.Proofs.YtdpkbhhmhmffnaaDoor
open Go.RowKit

/-- the blocks of a call of Pair: the two digests, the result -/
structure PW (w wr : World) (B C D : Nat) (l r : List UInt8) : Prop where
  ll : BT wr B 24 l
  rr : BT wr C 24 r
  oo : BT wr D 24 (List.replicate 32 0)
  low : B < C ∧ C < D
  bel : Below B w wr
theorem PW.up {w wr w' : World} {B C D : Nat} {l r : List UInt8} (s : PW w wr B C D l r) (hb : Below wr.heap.size wr w') : PW w w' B C D l r :=
  ⟨s.ll.up hb, s.rr.up hb, s.oo.up hb, s.low, s.bel.trans (hb.mono (by have := s.ll.lt; omega))⟩
theorem PW.drew {w wr : World} {B C D : Nat} {l r : List UInt8} (s : PW w wr B C D l r) : PW w wr.drew B C D l r := ⟨s.ll, s.rr, s.oo, s.low, s.bel.drew⟩
theorem pw_new (w : World) (l r : List UInt8) : PW w (((w.alloc (.cells (cb l).toArray 24)).alloc (.cells (cb r).toArray 24)).alloc (.cells (cb (List.replicate 32 0)).toArray 24)) w.heap.size (w.heap.size + 1) (w.heap.size + 1 + 1) l r := by
  have z : ∀ (w : World) (o : Obj), (w.alloc o).heap.size = w.heap.size + 1 := fun w o => by simp
  have e1 : BT (w.alloc (.cells (cb l).toArray 24)) w.heap.size 24 l := heap_alloc_new w _
  have e2 : BT ((w.alloc (.cells (cb l).toArray 24)).alloc (.cells (cb r).toArray 24)) (w.heap.size + 1) 24 r := by
    have := heap_alloc_new (w.alloc (.cells (cb l).toArray 24)) (.cells (cb r).toArray 24)
    rwa [z] at this
  have e3 : BT (((w.alloc (.cells (cb l).toArray 24)).alloc (.cells (cb r).toArray 24)).alloc (.cells (cb (List.replicate 32 0)).toArray 24)) (w.heap.size + 1 + 1) 24 (List.replicate 32 0) := by
    have := heap_alloc_new ((w.alloc (.cells (cb l).toArray 24)).alloc (.cells (cb r).toArray 24)) (.cells (cb (List.replicate 32 0)).toArray 24)
    rwa [z, z] at this
  exact ⟨(e1.alloc _).alloc _, e2.alloc _, e3, ⟨by omega, by omega⟩, (((below_alloc _).alloc (by simp) _).alloc (by simp; omega) _)⟩

theorem sumP_dg (A : Option Addr) (n cap : Nat) (b : List UInt8) (w : World) (hn : n = b.length) (G : Glob w) (hb : Shows w w.heap.size A b) (hbc : n ≤ cap ∧ cap ≤ 9223372036854775807) (hbl : b.length ≤ 1000000) :
    Calls Tryd.prog 9 #[.slice A n cap] w fun e w' => ∃ dg : List UInt8, e = .returned (.agg (cb dg).toArray) ∧ dg.length = 32 ∧ Hid (dg = digestOf [] b) ∧ Below w.heap.size w w' :=
  (sumP_is A n cap b w hn G hb hbc hbl).mono (fun _ _ h => ⟨_, h.1, digestOf_len _ _, Lib.hid rfl, h.2⟩)

set_option maxHeartbeats 1000000 in
set_option maxRecDepth 20000 in
theorem pairP_any (l r : List UInt8) (A : Option Addr) (cap : Nat) (b : List UInt8) (w : World) (ll : l.length = 32) (lr : r.length = 32) (G : Glob w) (hb : Shows w w.heap.size A b) (hc : b.length ≤ 999000) :
    Calls Tryd.prog 15 #[.agg (cb l).toArray, .agg (cb r).toArray, .slice A b.length cap] w fun e w' => e = .returned (.agg (cb (digestOf [] (1 :: (l ++ r ++ b)))).toArray) ∧ Below w.heap.size w w' := by
  have HG := Lib.hid G
  have HS := Lib.hid hb
  have HLL := Lib.hid ll
  have HLR := Lib.hid lr
  have HP := Lib.hid (pw_new w l r)
  clear G hb ll lr
  go_enter Tryd.func15, Tryd.ntmps15
  go_wp2_with fail
  change Code.wp _ _ _ _ (((w.alloc (.cells (cb l).toArray 24)).alloc (.cells (cb r).toArray 24)).alloc (.cells (cb (List.replicate 32 0)).toArray 24))
  generalize (((w.alloc (.cells (cb l).toArray 24)).alloc (.cells (cb r).toArray 24)).alloc (.cells (cb (List.replicate 32 0)).toArray 24)) = W at HP ⊢
  generalize hB : w.heap.size = B at HS HP ⊢
  have HB := Lib.hid hB
  clear hB
  generalize B + 1 = C at HP ⊢
  generalize C + 1 = D at HP ⊢
  have HSd : Hid (Shows W.drew W.drew.heap.size A b) := (show Shows W W.heap.size A b from (HS.out.below HP.out.bel).more (by have := HP.out.ll.lt; omega))
  have HGW : Hid (Glob W.drew) := by
    have g := HG.out.below HP.out.bel (HB.out ▸ HG.out.size)
    exact ⟨g.iv, g.order, g.size⟩
  have HPd : Hid (PW w W.drew B C D l r) := HP.out.drew
  go_region_with (first
    | (go_at_call 25; refine (pair_concat W.drew 1 1 rfl B C 24 l r HP.out.drew.ll HP.out.drew.rr HLL.out HLR.out A b.length cap b rfl HSd.out hc _ _ (by simp) (by simp)).mono ?_; rintro e w2 ⟨A2, c2, n2, rfl, hn2, hs2, hc2, hb2⟩)
    | (go_at_call 9; refine (sumP_dg A2 n2 c2 (1 :: (l ++ r ++ b)) w2 hn2.out (HGW.out.up hb2.out) hs2.out hc2.out (by have h1 := HLL.out; have h2 := HLR.out; simp [h1, h2]; omega)).mono ?_; rintro e w3 ⟨dg, rfl, hl3, hdg, hb3⟩; have hst := ret_cb (P := Tryd.prog) ((HPd.out.up hb2.out).up hb3).oo hl3; have hP3 : Hid (PW w w3 B C D l r) := Lib.hid ((HPd.out.up hb2.out).up hb3); have hsz : (cb dg).length = 32 := (cb_len dg).trans hl3; have hl3' := Lib.hid hl3; clear hl3))
  all_goals
    have hb5 : (w3.setCells D 0 (cb dg)).heap[D]? = some (.cells (cb dg).toArray 24 (0, 0)) := setCells_block hP3.out.oo (by rw [List.size_toArray, cb_len, cb_len, hl3'.out, List.length_replicate])
    have hbel : Below B w (w3.setCells D 0 (cb dg)) := hP3.out.bel.grown (setCells_grown D _ 0 _) (by have := hP3.out.ll.lt; omega) (fun k hk => by have := hP3.out.low; injection hk with hk; omega)
    generalize w3.setCells D 0 (cb dg) = w11 at hb5 hbel ⊢
    clear hst hsz
    go_wp2
    refine bodyPost_ret (v := .agg (cb dg).toArray) (results_cell_row Tryd.results15 _ w11 D 24 _ (0, 0) _ rfl hb5 Tryd.underlying24 rfl (by rw [info24D]; simp [cb_len, hl3'.out])) rfl ⟨by rw [← hdg.out], by rw [HB.out]; exact hbel⟩
end Go.Proofs.YtdpkbhhmhmffnaaDoor
