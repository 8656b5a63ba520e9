/-
  Sum, Leaf, Pair and Equal, by contracts.
-/
import Derived.Test.YtmdokldbggingaaDoorKeyedP
import Derived.Test.YtmdokldbggingaaDoorKeyedR
import Derived.Test.YtmdokldbggingaaDoorParts
import Derived.Deep.RegionWith
import Derived.Outline
namespace Go.Proofs.YtmdokldbggingaaDoor
open Go.RowKit

/-- a result that lies in the caller's block: stored there and read again -/
theorem ret_cb {P : Program} {w : World} {g : Nat} {l : List UInt8} (h : BT w g 68 (List.replicate 32 0)) (hl : l.length = 32) : (storeCells ⟨g, 0, none⟩ (cb l)).run P w = .ok () (w.setCells g 0 (cb l)) := store_cb h hl

set_option maxRecDepth 20000 in
theorem sumP_any (A : Option Addr) (cap : Nat) (b : List UInt8) (w : World) (G : Glob w) (hb : Shows w w.heap.size A b) (hbc : b.length ≤ cap) (hc : cap ≤ 9223372036854775807) (hbl : b.length ≤ 140737488355328) :
    Calls Tryd.prog 48 #[.slice A b.length cap] w fun e w' => e = .returned (.agg (cb (digestOf [] b)).toArray) ∧ Below w.heap.size w w' := by
  have HG := Lib.hid G
  have HS := Lib.hid hb
  clear G hb
  go_enter Tryd.func48, Tryd.ntmps48
  go_wp2_with (first
    | (go_at_call 51; refine (keyedP_any none 0 [] A cap b _ (HG.out.up (below_alloc _)) Shows.nil ((HS.out.below (below_alloc _)).more (by simp)) (by simp) hbc (by decide) hc hbl).mono ?_; rintro e w2 ⟨rfl, hb2⟩)
    | ((with_reducible show wpList _ _ _ _ _ _); refine wpList_store_all rfl 68 (.tmp 2) (.tmp 4) rfl w.heap.size (cb (digestOf [] b)) rfl rfl 68 (cb (List.replicate 32 0)).toArray 32 ((bt_new (w := w) (n := 32) rfl rfl).below hb2 (by simp)) info24D (by simp [cb]) (by rw [cb_len, digestOf_len]) (cb_one _) ?_; intro w5 hb5 hg5 hz5; have HZ5 := Lib.hid hz5; clear hz5))
  refine bodyPost_ret (v := .agg (cb (digestOf [] b)).toArray) (results_cell_row Tryd.results48 _ w5 w.heap.size 68 _ (0, 0) _ rfl hb5 Tryd.underlying68 rfl (by rw [info24D]; simp [cb_len, digestOf_len])) rfl ⟨rfl, ?_⟩
  exact ((below_alloc _).trans (hb2.mono (by simp))).grown hg5 (by have := hb2.size; simp at this; omega) (fun k hk => by injection hk with hk; omega)

set_option maxRecDepth 20000 in
theorem sumR_any (A : Option Addr) (cap : Nat) (b : List UInt8) (w : World) (hb : Shows w w.heap.size A b) (hc : b.length ≤ 1000000) :
    Calls Tryd.prog 50 #[.slice A b.length cap] w fun e w' => e = .returned (.agg (cb (digestOf [] b)).toArray) ∧ Below w.heap.size w w' := by
  have HS := Lib.hid hb
  clear hb
  go_enter Tryd.func50, Tryd.ntmps50
  go_wp2_with (first
    | (go_at_call 53; refine (keyedR_any none 0 [] A cap b _ Shows.nil ((HS.out.below (below_alloc _)).more (by simp)) (by simp) (by decide) hc).mono ?_; rintro e w2 ⟨rfl, hb2⟩)
    | ((with_reducible show wpList _ _ _ _ _ _); refine wpList_store_all rfl 68 (.tmp 2) (.tmp 4) rfl w.heap.size (cb (digestOf [] b)) rfl rfl 68 (cb (List.replicate 32 0)).toArray 32 ((bt_new (w := w) (n := 32) rfl rfl).below hb2 (by simp)) info24D (by simp [cb]) (by rw [cb_len, digestOf_len]) (cb_one _) ?_; intro w5 hb5 hg5 hz5; have HZ5 := Lib.hid hz5; clear hz5))
  refine bodyPost_ret (v := .agg (cb (digestOf [] b)).toArray) (results_cell_row Tryd.results50 _ w5 w.heap.size 68 _ (0, 0) _ rfl hb5 Tryd.underlying68 rfl (by rw [info24D]; simp [cb_len, digestOf_len])) rfl ⟨rfl, ?_⟩
  exact ((below_alloc _).trans (hb2.mono (by simp))).grown hg5 (by have := hb2.size; simp at this; omega) (fun k hk => by injection hk with hk; omega)

theorem sumP_is (A : Option Addr) (n cap : Nat) (b : List UInt8) (w : World) (hn : n = b.length) (G : Glob w) (hb : Shows w w.heap.size A b) (hbc : n ≤ cap ∧ cap ≤ 9223372036854775807) (hbl : b.length ≤ 1000000) :
    Calls Tryd.prog 48 #[.slice A n cap] w fun e w' => e = .returned (.agg (cb (digestOf [] b)).toArray) ∧ Below w.heap.size w w' := by
  subst hn
  exact sumP_any A cap b w G hb hbc.1 hbc.2 (by omega)
theorem sumR_is (A : Option Addr) (n cap : Nat) (b : List UInt8) (w : World) (hn : n = b.length) (hb : Shows w w.heap.size A b) (hbl : b.length ≤ 1000000) :
    Calls Tryd.prog 50 #[.slice A n cap] w fun e w' => e = .returned (.agg (cb (digestOf [] b)).toArray) ∧ Below w.heap.size w w' := by
  subst hn
  exact sumR_any A cap b w hb hbl

set_option maxHeartbeats 1000000 in
set_option maxRecDepth 20000 in
theorem leafP_any (A : Option Addr) (cap : Nat) (b : List UInt8) (w : World) (G : Glob w) (hb : Shows w w.heap.size A b) (hc : b.length ≤ 999000) :
    Calls Tryd.prog 42 #[.slice A b.length cap] w fun e w' => e = .returned (.agg (cb (digestOf [] (0 :: b))).toArray) ∧ Below w.heap.size w w' := by
  have HG := Lib.hid G
  have HS := Lib.hid hb
  clear G hb
  go_enter Tryd.func42, Tryd.ntmps42
  go_wp2_with (first
    | (go_at_call 49; refine (leaf_concat (w.alloc (.cells (cb (List.replicate 32 0)).toArray 68)) 0 0 rfl A b.length cap b rfl ((HS.out.below (below_alloc _)).more (by simp)) hc _ _ (by simp) (by simp)).mono ?_; rintro e w2 ⟨A2, c2, n2, rfl, hn2, hs2, hc2, hb2⟩; have hbw : Hid (Below w.heap.size w w2) := (below_alloc _).trans (hb2.out.mono (by simp)); have hr2 : Hid (BT w2 w.heap.size 68 (List.replicate 32 0)) := (bt_new (w := w) (n := 32) rfl rfl).below hb2.out (by simp))
    | (go_at_call 48; refine (sumP_is A2 n2 c2 (0 :: b) w2 hn2.out (HG.out.up hbw.out) hs2.out hc2.out (by simp; omega)).mono ?_; rintro e w3 ⟨rfl, hb3⟩)
    | ((with_reducible show wpList _ _ _ _ _ _); refine wpList_store_all rfl 68 (.tmp 2) (.tmp 7) rfl w.heap.size (cb (digestOf [] (0 :: b))) rfl rfl 68 (cb (List.replicate 32 0)).toArray 32 (hr2.out.up hb3) info24D (by simp [cb]) (by rw [cb_len, digestOf_len]) (cb_one _) ?_; intro w5 hb5 hg5 hz5; have HZ5 := Lib.hid hz5; clear hz5))
  refine bodyPost_ret (v := .agg (cb (digestOf [] (0 :: b))).toArray) (results_cell_row Tryd.results42 _ w5 w.heap.size 68 _ (0, 0) _ rfl hb5 Tryd.underlying68 rfl (by rw [info24D]; simp [cb_len, digestOf_len])) rfl ⟨rfl, ?_⟩
  exact (hbw.out.trans (hb3.mono hbw.out.size)).grown hg5 (by have := hb3.size; have := hr2.out.lt; omega) (fun k hk => by injection hk with hk; omega)

theorem bt_owns1 {w : World} {B g n : Nat} {l : List UInt8} (h : BT w g 5 l) (hn : n = l.length) (hl : l.length ≤ 1000) (hB : B ≤ g) : Owns w B (.slice (some ⟨g, 0, none⟩) n n) l := bt_owns h hn hl hB
set_option maxHeartbeats 1000000 in
set_option maxRecDepth 20000 in
theorem leafR_any (A : Option Addr) (cap : Nat) (b : List UInt8) (w : World) (hb : Shows w w.heap.size A b) (hc : b.length ≤ 999000) :
    Calls Tryd.prog 44 #[.slice A b.length cap] w fun e w' => e = .returned (.agg (cb (digestOf [] (0 :: b))).toArray) ∧ Below w.heap.size w w' := by
  have HS := Lib.hid hb
  clear hb
  have hX : Hid (BT ((w.alloc (.cells (cb (List.replicate 32 0)).toArray 68)).alloc (.cells #[.int .u8 0] 5)) (w.heap.size + 1) 5 [0]) := by
    have e2 := heap_alloc_new (w.alloc (.cells (cb (List.replicate 32 0)).toArray 68)) (.cells #[.int .u8 0] 5)
    have z : ∀ (w : World) (o : Obj), (w.alloc o).heap.size = w.heap.size + 1 := fun w o => by simp
    rw [z] at e2
    exact e2
  have hb0 : Hid (Below w.heap.size w ((w.alloc (.cells (cb (List.replicate 32 0)).toArray 68)).alloc (.cells #[.int .u8 0] 5))) := (below_alloc _).alloc (by simp) _
  have hr0 : Hid (BT ((w.alloc (.cells (cb (List.replicate 32 0)).toArray 68)).alloc (.cells #[.int .u8 0] 5)) w.heap.size 68 (List.replicate 32 0)) := (bt_new (w := w) (n := 32) rfl rfl).alloc _
  go_enter Tryd.func44, Tryd.ntmps44
  go_wp2_with (first
    | (at_builtin; refine wpList_growM rfl (.tmp 5) (.tmp 6) _ rfl Tryd.underlying22 info5 (w.heap.size + 1) (.slice (some ⟨w.heap.size + 1, 0, none⟩) 1 1) [0] A b.length b cap w.heap.size (0 :: b).length rfl rfl rfl rfl (bt_owns1 hX.out rfl (by decide) (Nat.le_refl _)) (HS.out.below hb0.out) (by simp; omega) (by simp) ?_; intro A2 c2 w2 ho2 hg2; have hbw : Hid (Below w.heap.size w w2) := hb0.out.grown hg2.out hb0.out.size (fun k hk => by have := own_at hk; omega); have hr2 : Hid (BT w2 w.heap.size 68 (List.replicate 32 0)) := hr0.out.grown hg2.out (fun e => by have := own_at e.symm; omega))
    | (go_at_call 50; refine (sumR_is A2 _ c2 (0 :: b) w2 (by simp) (Owns.shows ho2.out).2.2 (by simp; omega)).mono ?_; rintro e w3 ⟨rfl, hb3⟩)
    | ((with_reducible show wpList _ _ _ _ _ _); refine wpList_store_all rfl 68 (.tmp 2) (.tmp 8) rfl w.heap.size (cb (digestOf [] (0 :: b))) rfl rfl 68 (cb (List.replicate 32 0)).toArray 32 (hr2.out.up hb3) info24D (by simp [cb]) (by rw [cb_len, digestOf_len]) (cb_one _) ?_; intro w5 hb5 hg5 hz5; have HZ5 := Lib.hid hz5; clear hz5))
  refine bodyPost_ret (v := .agg (cb (digestOf [] (0 :: b))).toArray) (results_cell_row Tryd.results44 _ w5 w.heap.size 68 _ (0, 0) _ rfl hb5 Tryd.underlying68 rfl (by rw [info24D]; simp [cb_len, digestOf_len])) rfl ⟨rfl, ?_⟩
  exact (hbw.out.trans (hb3.mono hbw.out.size)).grown hg5 (by have := hb3.size; have := hr2.out.lt; omega) (fun k hk => by injection hk with hk; omega)
end Go.Proofs.YtmdokldbggingaaDoor
