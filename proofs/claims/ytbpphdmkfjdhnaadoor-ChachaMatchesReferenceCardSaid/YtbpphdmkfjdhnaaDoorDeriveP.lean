/-
  The program's Derive, by a contract.
-/
import Derived.Test.YtbpphdmkfjdhnaaDoorInitP
import Derived.Test.YtbpphdmkfjdhnaaDoorKeyedP
import Derived.Lib.ConvBytes
import Derived.Laws.AppendOwn
namespace Go.Proofs.YtbpphdmkfjdhnaaDoor
open Go.RowKit

theorem bytes_below (w : World) (s : ByteArray) : Below w.heap.size w (Lib.bytesWorld w 5 s) := by
  refine ⟨?_, ?_, ?_, by rw [Lib.bytesWorld_size]; omega, fun k hk => Lib.bytesWorld_at_old w _ s k hk⟩ <;>
    simp [Lib.bytesWorld, World.freeze, World.alloc, World.drew, -World.alloc_eq, -World.drew_eq]
theorem bytes_shows (w : World) (s : ByteArray) (l : List UInt8) (hl : s.data.toList = l) : Shows (Lib.bytesWorld w 5 s) (Lib.bytesWorld w 5 s).heap.size (some ⟨w.heap.size, 0, none⟩) l := fun _ => by
  refine ⟨w.heap.size, 0, rfl, by rw [Lib.bytesWorld_size]; omega, fun i c hi => ?_⟩
  have hlt := (List.getElem?_eq_some_iff.1 hi).1
  have hs : s.size = l.length := by rw [← hl, str_len]
  rw [Nat.zero_add, Lib.bytesWorld_cell w _ s i (by omega), hl]
  simp [List.getD, hi]
/-- []byte(s) -/
theorem wpList_bytesOf {w : World} {ops : Array Oper} {rest : List Oper} {o : Oper} {a : Act} {Q : Exit → Act → World → Prop} (hgd : o.guard = none) (x : Operand) (ho : o.op = .convert 9 22 x) (s : ByteArray) (l : List UInt8) (hx : a.eval x = .string s) (hl : s.data.toList = l) (h6 : l.length ≤ 1000000)
    (hK : ∀ c w', Hid (l.length ≤ c ∧ c ≤ 9223372036854775807) → Hid (Shows w' w'.heap.size (some ⟨w.heap.size, 0, none⟩) l) → Hid (Below w.heap.size w w') → wpList Tryd.prog ops Q rest (a.put o.dst (.slice (some ⟨w.heap.size, 0, none⟩) l.length c)) w') : wpList Tryd.prog ops Q (o :: rest) a w := by
  have hr := Lib.run_convert_string_bytes (P := Tryd.prog) w 9 22 5 s Tryd.underlying9 Tryd.underlying22 Tryd.underlying5
  have hs : s.size = l.length := by rw [← hl, str_len]
  refine wpList_plain hgd fun K hK' => ?_
  unfold Oper.wp execOp
  simp only [ho, hx, Sem.run_bind, hr, Result.andThen_ok, Sem.run_pure]
  rw [hs]
  refine hK' _ _ (hK _ _ ?_ (bytes_shows w s l hl) (bytes_below w s))
  have h1 := grownCap_ge w s.size 0 5
  have h2 := grownCap_le_maxLen w s.size 0 5 (by simp only [maxLen]; omega)
  simp only [maxLen] at h2
  rw [hs] at h1 h2
  exact ⟨h1, h2⟩

theorem keyedP_is (K : Option Addr) (n capk : Nat) (key : List UInt8) (A : Option Addr) (cap : Nat) (b : List UInt8) (w : World) (hn : key.length = 32) (G : Glob w) (hk : Shows w w.heap.size K key) (hb : Shows w w.heap.size A b) (hbc : b.length ≤ cap ∧ cap ≤ 9223372036854775807) (hbl : b.length ≤ 1000000) (h32 : n = 32 ∧ capk = 32 := by exact ⟨rfl, rfl⟩) :
    Calls Tryd.prog 26 #[.slice K n capk, .slice A b.length cap] w fun e w' => e = .returned (.agg (cb (digestOf key b)).toArray) ∧ Below w.heap.size w w' := by
  obtain ⟨rfl, rfl⟩ := h32
  rw [← hn]
  exact keyedP_any K key.length key A cap b w G hk hb (by omega) hbc.1 (by omega) hbc.2 (by omega)
theorem shows_at {w : World} {B g g' : Nat} {l : List UInt8} (e : g = g') (h : Hid (Shows w B (some ⟨g, 0, none⟩) l)) : Hid (Shows w B (some ⟨g', 0, none⟩) l) := e ▸ h
theorem infoK : (Tryd.prog.info? 26).map (·.size) = some 32 := by kernel_rfl
theorem digestOf_lenQ (key b : List UInt8) : (digestOf key b).length = 32 := digestOf_len key b
attribute [local irreducible] digestOf Lib.bytesWorld
set_option maxHeartbeats 600000 in
set_option maxRecDepth 20000 in
theorem deriveP_any (key l : List UInt8) (s : ByteArray) (w : World) (hk : key.length = 32) (hl : s.data.toList = l) (h6 : l.length ≤ 1000000) (G : Glob w) :
    Calls Tryd.prog 17 #[.agg (cb key).toArray, .string s] w fun e w' => e = .returned (.agg (cb (digestOf key l)).toArray) ∧ Below w.heap.size w w' := by
  have HL := Lib.hid (And.intro hk hl)
  have HG := Lib.hid G
  have hb0 : Hid (BT (w.alloc (.cells (cb key).toArray 26)) w.heap.size 26 key) := heap_alloc_new w _
  clear hk hl G
  go_enter Tryd.func17, Tryd.ntmps17
  generalize hw0 : w.alloc (.cells (cb key).toArray 26) = w0 at *
  have hw0b : Hid (Below w.heap.size w w0) := by rw [← hw0]; exact below_alloc _
  go_wp2_with (first
    | ((with_reducible show wpList _ _ _ _ _ _); refine wpList_bytesOf rfl (.tmp 6) rfl s l rfl HL.out.2 h6 ?_; intro c1 w1 hc1 hs1 hb1; have HR1 : Hid (BT w1 w0.heap.size 26 (List.replicate 32 0)) := Lib.hid ((bt_new (w := w0) (n := 32) (t := 26) rfl rfl).up hb1.out); have HB1 : Hid (Below w0.heap.size w0 w1) := Lib.hid ((below_alloc _).trans (hb1.out.mono (by simp))); have hs2 := shows_at (g' := w0.heap.size + 1) (by simp) hs1; clear hs1 hb1)
    | (go_at_call 26; (refine (keyedP_is (some ⟨w.heap.size, 0, none⟩) 32 32 key _ c1 l w1 HL.out.1 (HG.out.up (hw0b.out.trans (HB1.out.mono hw0b.out.size))) ((hb0.out.up HB1.out).shows (hb0.out.up HB1.out).lt) hs2.out hc1.out h6).mono ?_); rintro e w2 ⟨rfl, hb2⟩; have HR2 := Lib.hid (HR1.out.up hb2); have HB2 : Hid (Below w0.heap.size w0 w2) := Lib.hid (HB1.out.trans (hb2.mono HB1.out.size)); clear hb2)
    | ((with_reducible show wpList _ _ _ _ _ _); refine wpList_store_all rfl 26 (.tmp 4) (.tmp 8) rfl w0.heap.size (cb (digestOf key l)) rfl rfl 26 _ 32 HR2.out infoK (by simp [cb]) (by rw [cb_len, digestOf_len]) (cb_one _) ?_; intro w9 hb9 hg9 hz9; have HZ9 := Lib.hid hz9; clear hz9))
  have hbel : Below w.heap.size w w9 := (hw0b.out.trans (HB2.out.mono hw0b.out.size)).grown hg9 (by have := hw0b.out.size; have := HB2.out.size; omega) (fun k hk => by injection hk with hk; have := hw0b.out.size; omega)
  exact bodyPost_ret (v := .agg (cb (digestOf key l)).toArray) (results_cell_row Tryd.results17 _ w9 w0.heap.size 26 _ (0, 0) _ rfl hb9 Tryd.underlying26 rfl (by rw [infoK]; simp [cb_len, digestOf_len])) rfl ⟨rfl, hbel⟩
end Go.Proofs.YtbpphdmkfjdhnaaDoor
