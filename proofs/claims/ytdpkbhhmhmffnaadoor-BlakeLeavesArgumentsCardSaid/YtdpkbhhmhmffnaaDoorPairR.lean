/-
  Pair, the reference's, by contracts.
-/
import Derived.Test.YtdpkbhhmhmffnaaDoorPair
namespace Go.Proofs.YtdpkbhhmhmffnaaDoor
open Go.RowKit

theorem pr_new (w : World) (l r : List UInt8) : PW w ((((w.alloc (.cells (cb l).toArray 24)).alloc (.cells (cb r).toArray 24)).alloc (.cells (cb (List.replicate 32 0)).toArray 24)).alloc (.cells #[.int .u8 1] 5)) w.heap.size (w.heap.size + 1) (w.heap.size + 1 + 1) l r ∧ BT ((((w.alloc (.cells (cb l).toArray 24)).alloc (.cells (cb r).toArray 24)).alloc (.cells (cb (List.replicate 32 0)).toArray 24)).alloc (.cells #[.int .u8 1] 5)) (w.heap.size + 1 + 1 + 1) 5 [1] := by
  have h := pw_new w l r
  have e := heap_alloc_new (((w.alloc (.cells (cb l).toArray 24)).alloc (.cells (cb r).toArray 24)).alloc (.cells (cb (List.replicate 32 0)).toArray 24)) (.cells #[.int .u8 1] 5)
  have z : ∀ (w : World) (o : Obj), (w.alloc o).heap.size = w.heap.size + 1 := fun w o => by simp
  rw [z, z, z] at e
  exact ⟨h.up (below_alloc _), e⟩

theorem sumR_dg (A : Option Addr) (n cap : Nat) (b : List UInt8) (w : World) (hn : n = b.length) (hb : Shows w w.heap.size A b) (hbl : b.length ≤ 1000000) :
    Calls Tryd.prog 10 #[.slice A n cap] w fun e w' => ∃ dg : List UInt8, e = .returned (.agg (cb dg).toArray) ∧ dg.length = 32 ∧ Hid (dg = digestOf [] b) ∧ Below w.heap.size w w' :=
  (sumR_is A n cap b w hn hb hbl).mono (fun _ _ h => ⟨_, h.1, digestOf_len _ _, Lib.hid rfl, h.2⟩)

/-- what an append leaves of the blocks of a call of Pair -/
theorem PW.append {w wr w' : World} {B C D E : Nat} {l r : List UInt8} {v : Value} (s : PW w wr B C D l r) (hg : wr.grownBy w' v.ownBlock) (hE : D < E) (ho : ∀ k, v.ownBlock = some k → E ≤ k) : PW w w' B C D l r := by
  have lo := s.low
  exact ⟨s.ll.grown hg (fun e => by have := ho _ e.symm; omega), s.rr.grown hg (fun e => by have := ho _ e.symm; omega), s.oo.grown hg (fun e => by have := ho _ e.symm; omega), s.low, s.bel.grown hg (by have := s.ll.lt; omega) (fun k hk => by have := ho _ hk; omega)⟩
theorem owns_own {w : World} {E : Nat} {v : Value} {l : List UInt8} (h : Owns w E v l) (k : Nat) (hk : v.ownBlock = some k) : E ≤ k := by
  rcases h.shape with ⟨rfl, _⟩ | ⟨g, cap, rfl, hb, _⟩
  · simp [Value.ownBlock] at hk
  · have := own_at hk
    omega

set_option maxHeartbeats 1000000 in
set_option maxRecDepth 20000 in
theorem pairR_any (l r : List UInt8) (A : Option Addr) (cap : Nat) (b : List UInt8) (w : World) (ll : l.length = 32) (lr : r.length = 32) (hb : Shows w w.heap.size A b) (hc : b.length ≤ 999000) :
    Calls Tryd.prog 16 #[.agg (cb l).toArray, .agg (cb r).toArray, .slice A b.length cap] w fun e w' => e = .returned (.agg (cb (digestOf [] (1 :: (l ++ r ++ b)))).toArray) ∧ Below w.heap.size w w' := by
  have HS := Lib.hid hb
  have HLL := Lib.hid ll
  have HLR := Lib.hid lr
  have HP := Lib.hid (pr_new w l r).1
  have HX := Lib.hid (pr_new w l r).2
  clear hb ll lr
  go_enter Tryd.func16, Tryd.ntmps16
  go_wp2_with (first
    | (at_builtin; (with_reducible show wpList _ _ _ _ _ _); refine wpList_growM rfl (.tmp 9) (.tmp 10) _ rfl Tryd.underlying22 info5 (w.heap.size + 1 + 1 + 1) (.slice (some ⟨w.heap.size + 1 + 1 + 1, 0, none⟩) 1 1) [1] (some ⟨w.heap.size, 0, none⟩) 32 l 32 (w.heap.size + 1) 33 HLL.out.symm (by simp [HLL.out]) rfl rfl (bt_owns1 HX.out rfl (by decide) (Nat.le_refl _)) (HP.out.ll.shows (by omega)) (by simp [HLL.out]) (by have := HX.out.lt; simp) ?_; intro A2 c2 w2 ho2 hg2; have hP2 : Hid (PW w w2 w.heap.size (w.heap.size + 1) (w.heap.size + 1 + 1) l r) := HP.out.append (E := w.heap.size + 1 + 1 + 1) hg2.out (by omega) (fun k hk => by have := own_at hk; omega))
    | (at_builtin; (with_reducible show wpList _ _ _ _ _ _); refine wpList_growM rfl (.tmp 12) (.tmp 13) _ rfl Tryd.underlying22 info5 (w.heap.size + 1 + 1 + 1) (.slice A2 33 c2) ([1] ++ l) (some ⟨w.heap.size + 1, 0, none⟩) 32 r 32 (w.heap.size + 1 + 1) 65 HLR.out.symm (by simp [HLL.out, HLR.out]) rfl rfl ho2.out (hP2.out.rr.shows (by omega)) (by simp [HLL.out, HLR.out]) (by have := hP2.out.oo.lt; omega) ?_; intro A3 c3 w3 ho3 hg3; have hP3 : Hid (PW w w3 w.heap.size (w.heap.size + 1) (w.heap.size + 1 + 1) l r) := hP2.out.append (E := w.heap.size + 1 + 1 + 1) hg3.out (by omega) (owns_own ho2.out))
    | (at_builtin; (with_reducible show wpList _ _ _ _ _ _); refine wpList_growM rfl (.tmp 15) (.tmp 16) _ rfl Tryd.underlying22 info5 (w.heap.size + 1 + 1 + 1) (.slice A3 65 c3) ([1] ++ l ++ r) A b.length b cap w.heap.size ([1] ++ l ++ r ++ b).length rfl rfl rfl rfl ho3.out (HS.out.below hP3.out.bel) (by simp [HLL.out, HLR.out]; omega) (by have := hP3.out.oo.lt; omega) ?_; intro A4 c4 w4 ho4 hg4; have hP4 : Hid (PW w w4 w.heap.size (w.heap.size + 1) (w.heap.size + 1 + 1) l r) := hP3.out.append (E := w.heap.size + 1 + 1 + 1) hg4.out (by omega) (owns_own ho3.out))
    | (go_at_call 10; refine (sumR_dg A4 _ c4 ([1] ++ l ++ r ++ b) w4 (by simp <;> omega) (Owns.shows ho4.out).2.2 (by simp [HLL.out, HLR.out]; omega)).mono ?_; rintro e w5 ⟨dg, rfl, hl5, hdg, hb5⟩; have hP5 : Hid (PW w w5 w.heap.size (w.heap.size + 1) (w.heap.size + 1 + 1) l r) := Lib.hid (hP4.out.up hb5); have hl5' := Lib.hid hl5; clear hl5)
    | ((with_reducible show wpList _ _ _ _ _ _); refine wpList_store_all rfl 24 (.tmp 6) (.tmp 18) rfl (w.heap.size + 1 + 1) (cb dg) rfl rfl 24 (cb (List.replicate 32 0)).toArray 32 hP5.out.oo info24D (by simp [cb]) (by rw [cb_len, hl5'.out]) (cb_one _) ?_; intro w6 hb6 hg6 hz6; have HZ6 := Lib.hid hz6; clear hz6))
  refine bodyPost_ret (v := .agg (cb dg).toArray) (results_cell_row Tryd.results16 _ w6 (w.heap.size + 1 + 1) 24 _ (0, 0) _ rfl hb6 Tryd.underlying24 rfl (by rw [info24D]; simp [cb_len, hl5'.out])) rfl ⟨by rw [hdg.out]; simp, ?_⟩
  exact hP5.out.bel.grown hg6 (by have := hP5.out.ll.lt; omega) (fun k hk => by injection hk with hk; omega)
end Go.Proofs.YtdpkbhhmhmffnaaDoor
