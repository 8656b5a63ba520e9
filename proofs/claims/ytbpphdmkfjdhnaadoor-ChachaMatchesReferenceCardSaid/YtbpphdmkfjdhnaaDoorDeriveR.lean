/-
  The reference's Derive, by a contract.
-/
import Derived.Test.YtbpphdmkfjdhnaaDoorDeriveP
import Derived.Test.YtbpphdmkfjdhnaaDoorKeyedR
namespace Go.Proofs.YtbpphdmkfjdhnaaDoor
open Go.RowKit

theorem keyedR_is (K : Option Addr) (n capk : Nat) (key : List UInt8) (A : Option Addr) (cap : Nat) (b : List UInt8) (w : World) (hn : key.length = 32) (hk : Shows w w.heap.size K key) (hb : Shows w w.heap.size A b) (_hbc : b.length ≤ cap ∧ cap ≤ 9223372036854775807) (hbl : b.length ≤ 1000000) (h32 : n = 32 ∧ capk = 32 := by exact ⟨rfl, rfl⟩) :
    Calls Tryd.prog 27 #[.slice K n capk, .slice A b.length cap] w fun e w' => e = .returned (.agg (cb (digestOf key b)).toArray) ∧ Below w.heap.size w w' := by
  obtain ⟨rfl, rfl⟩ := h32
  rw [← hn]
  exact keyedR_any K key.length key A cap b w hk hb (by omega) (by omega) hbl
attribute [local irreducible] digestOf Lib.bytesWorld
set_option maxHeartbeats 600000 in
set_option maxRecDepth 20000 in
theorem deriveR_any (key l : List UInt8) (s : ByteArray) (w : World) (hk : key.length = 32) (hl : s.data.toList = l) (h6 : l.length ≤ 1000000) :
    Calls Tryd.prog 18 #[.agg (cb key).toArray, .string s] w fun e w' => e = .returned (.agg (cb (digestOf key l)).toArray) ∧ Below w.heap.size w w' := by
  have HL := Lib.hid (And.intro hk hl)
  have hb0 : Hid (BT (w.alloc (.cells (cb key).toArray 26)) w.heap.size 26 key) := heap_alloc_new w _
  clear hk hl
  go_enter Tryd.func18, Tryd.ntmps18
  generalize hw0 : w.alloc (.cells (cb key).toArray 26) = w0 at *
  have hw0b : Hid (Below w.heap.size w w0) := by rw [← hw0]; exact below_alloc _
  go_wp2_with (first
    | ((with_reducible show wpList _ _ _ _ _ _); refine wpList_bytesOf rfl (.tmp 6) rfl s l rfl HL.out.2 h6 ?_; intro c1 w1 hc1 hs1 hb1; have HR1 : Hid (BT w1 w0.heap.size 26 (List.replicate 32 0)) := Lib.hid ((bt_new (w := w0) (n := 32) (t := 26) rfl rfl).up hb1.out); have HB1 : Hid (Below w0.heap.size w0 w1) := Lib.hid ((below_alloc _).trans (hb1.out.mono (by simp))); have hs2 := shows_at (g' := w0.heap.size + 1) (by simp) hs1; clear hs1 hb1)
    | (go_at_call 27; (refine (keyedR_is (some ⟨w.heap.size, 0, none⟩) 32 32 key _ c1 l w1 HL.out.1 ((hb0.out.up HB1.out).shows (hb0.out.up HB1.out).lt) hs2.out hc1.out h6).mono ?_); rintro e w2 ⟨rfl, hb2⟩; have HR2 := Lib.hid (HR1.out.up hb2); have HB2 : Hid (Below w0.heap.size w0 w2) := Lib.hid (HB1.out.trans (hb2.mono HB1.out.size)); clear hb2)
    | ((with_reducible show wpList _ _ _ _ _ _); refine wpList_store_all rfl 26 (.tmp 4) (.tmp 8) rfl w0.heap.size (cb (digestOf key l)) rfl rfl 26 _ 32 HR2.out infoK (by simp [cb]) (by rw [cb_len, digestOf_len]) (cb_one _) ?_; intro w9 hb9 hg9 hz9; have HZ9 := Lib.hid hz9; clear hz9))
  have hbel : Below w.heap.size w w9 := (hw0b.out.trans (HB2.out.mono hw0b.out.size)).grown hg9 (by have := hw0b.out.size; have := HB2.out.size; omega) (fun k hk => by injection hk with hk; have := hw0b.out.size; omega)
  exact bodyPost_ret (v := .agg (cb (digestOf key l)).toArray) (results_cell_row Tryd.results18 _ w9 w0.heap.size 26 _ (0, 0) _ rfl hb9 Tryd.underlying26 rfl (by rw [infoK]; simp [cb_len, digestOf_len])) rfl ⟨rfl, hbel⟩
end Go.Proofs.YtbpphdmkfjdhnaaDoor
