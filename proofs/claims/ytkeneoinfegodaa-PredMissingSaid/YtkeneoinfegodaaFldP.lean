/-
  The program's Field, by a contract.
-/
import Derived.Test.YtkeneoinfegodaaSch
import Derived.Laws.ResultCell
import Derived.Outline
namespace Go.Proofs.Ytkeneoinfegodaa
open Go.RowKit

/-- a result that lies in a block, and a bool -/
theorem res_cell {fn : Func} {p u : Tmp} {ty T : TypeId} {tmps : Array Value} {P : Program} {w : World} {g : Nat} {l : List Value} {fs : Array Go.Field} {n : Nat} {x : Value} (h : fn.results = #[.cell p ty, .tmp u]) (hp : tmps.getD p undef = .pointer (some ⟨g, 0, none⟩)) (hx : tmps.getD u undef = x)
    (hg : CB w g T l) (hu : P.underlying ty = some (.struct fs)) (hi : (P.info? ty).map (·.size) = some n) (hl : l.length = n) :
    (results fn tmps).run P w = .ok (.tuple #[.agg l.toArray, x]) w := by
  rw [results_cell_tmp h, hp, hx]
  simp [asAddr, run_loadVar_row _ _ _ _ _ (0, 0) _ hg hu rfl (by rw [hi]; simp [hl])]
theorem res_cell1 {fn : Func} {p : Tmp} {ty T : TypeId} {tmps : Array Value} {P : Program} {w : World} {g : Nat} {l : List Value} {fs : Array Go.Field} {n : Nat} (h : fn.results = #[.cell p ty]) (hp : tmps.getD p undef = .pointer (some ⟨g, 0, none⟩))
    (hg : CB w g T l) (hu : P.underlying ty = some (.struct fs)) (hi : (P.info? ty).map (·.size) = some n) (hl : l.length = n) :
    (results fn tmps).run P w = .ok (.agg l.toArray) w := by
  rw [Array.getD_eq_getD_getElem?] at hp
  simp only [results, h]
  simp [hp, asAddr, run_loadVar_row _ _ _ _ _ (0, 0) _ hg hu rfl (by rw [hi]; simp [hl])]

theorem fld_fin {l : List Fd} {k : Nat} {i : Int} {f : Fd} (hd : l.drop k = f :: l.drop (k + 1)) (hgo : field (l.drop k) i = field l i) (hf : f.id = i) : field l i = some f := by
  rw [← hgo, hd, field, if_pos hf]
theorem fld_go {l : List Fd} {k : Nat} {i : Int} {f : Fd} (hd : l.drop k = f :: l.drop (k + 1)) (hgo : field (l.drop k) i = field l i) (hf : ¬ f.id = i) : field (l.drop (k + 1)) i = field l i := by
  rw [← hgo, hd, field, if_neg hf]
theorem fld_end {l : List Fd} {k : Nat} {i : Int} (hk : l.length ≤ k) (hgo : field (l.drop k) i = field l i) : field l i = none := by
  rw [← hgo, List.drop_of_length_le hk, field]
theorem fld_some {l : List Fd} {i : Int} {f : Fd} (h : field l i = some f) : (Ending.returned (.tuple #[.agg f.cells.toArray, .bool true])) = .returned (.tuple #[(fieldD l i).val, .bool (hasF l i)]) := by
  unfold fieldD hasF
  rw [h]
  rfl
theorem fld_none {l : List Fd} {i : Int} (h : field l i = none) : (Ending.returned (.tuple #[.agg Fd.zero.cells.toArray, .bool false])) = .returned (.tuple #[(fieldD l i).val, .bool (hasF l i)]) := by
  unfold fieldD hasF
  rw [h]
  rfl

set_option maxHeartbeats 1000000 in
set_option maxRecDepth 20000 in
theorem Field_any (A : Option Addr) (n c : Nat) (x : Int) (l : List Fd) (i : Int) (w : World) (hn : n = l.length) (hs : Fds w w.heap.size A l) (hl : n ≤ 9223372036854775807) :
    Calls Try.prog 62 #[.agg #[.slice A n c, .int .i64 x], .int .i64 i] w fun e w' => e = .returned (.tuple #[(fieldD l i).val, .bool (hasF l i)]) ∧ Below w.heap.size w w' := by
  have HN := Lib.hid hn
  have HS := Lib.hid hs
  clear hn hs
  go_enter Try.func62, Try.ntmps62
  go_wp2
  go_loopw [11] (fun j wr => ∃ k : Nat, k ≤ n ∧ j = .int .i64 k ∧ Hid (CB wr (w.heap.size + 1) 60 Fd.zero.cells) ∧ Hid (Below w.heap.size w wr) ∧ Hid (field (l.drop k) i = field l i)) (fun j _ => n - (intOf j).toNat)
  case atStart => exact ⟨0, by omega, rfl, CB.new1 w _ 60 Fd.zero.cells, al2 _ _ _, rfl⟩
  case round =>
    obtain ⟨k, hk, rfl, hcb, hbel, hgo⟩ := hrel
    by_cases hlt : k < n
    · have i1 : (k : Int) < (n : Int) := by omega
      obtain ⟨f, hf⟩ := getD_of (l := l) (k := k) (by rw [← HN.out]; exact hlt)
      obtain ⟨b, off, rfl, hb, c0, c1, c2, c3⟩ := (HS.out.below hbel.out).one hf
      have hd := Lib.hid (drop_cons hf)
      have hsz : w.heap.size + 1 < wr.heap.size := hcb.out.lt
      by_cases he : f.id = i
      · have e1 : (f.id == i) = true := by simpa using he
        have HE := Lib.hid he
        clear he hf
        go_wp2_with ((with_reducible show wpList _ _ _ _ _ _); refine wpList_store_cb rfl 60 (.tmp 4) (.tmp 19) rfl (w.heap.size + 1) f.cells rfl rfl 60 Fd.zero.cells 4 (hcb.out.alloc _) sizeF rfl rfl (one_f f) ?_; intro w1 hc1 hg1 hz1)
        refine bodyPost_ret (res_cell Try.results62 rfl rfl hc1 Try.underlying60 sizeF rfl) rfl ⟨fld_some (fld_fin hd.out hgo.out HE.out), ?_⟩
        exact below_grown (hbel.out.alloc (by omega) _) hg1 (by simp; omega) (by omega)
      · have e1 : (f.id == i) = false := by simpa using he
        have HE := Lib.hid he
        clear he hf
        go_wp2
        go_roundw
        case rel => exact ⟨k + 1, by omega, by go_num, hcb.out.alloc _, hbel.out.alloc (by omega) _, fld_go hd.out hgo.out HE.out⟩
        case measure => simp [intOf]; omega
    · have i1 : ¬ (k : Int) < (n : Int) := by omega
      have hsz : w.heap.size + 1 < wr.heap.size := hcb.out.lt
      go_wp2_with ((with_reducible show wpList _ _ _ _ _ _); refine wpList_store_cb rfl 60 (.tmp 4) (.tmp 21) rfl (w.heap.size + 1) Fd.zero.cells rfl rfl 60 Fd.zero.cells 4 hcb.out sizeF rfl rfl (one_f Fd.zero) ?_; intro w1 hc1 hg1 hz1)
      refine bodyPost_ret (res_cell Try.results62 rfl rfl hc1 Try.underlying60 sizeF rfl) rfl ⟨fld_none (fld_end (by rw [← HN.out]; omega) hgo.out), ?_⟩
      exact below_grown hbel.out hg1 (by omega) (by omega)
end Go.Proofs.Ytkeneoinfegodaa
