/-
  slices.Backward over fields: what the iterator yields. By a contract.
-/
import Derived.Test.YtpgbpfdedpppeaaNmdP
import Derived.RangeFuncNested
import Derived.RangeFuncBound
import Derived.RangeFuncCalls
import Derived.RangeFuncLeaves
import Derived.Shelf.Abstract
import Derived.Shelf.RegionOpen
import Derived.OwnWalkIn
import Derived.TacticsInMore
import Derived.LoopNIn
import Derived.LoopIn
namespace Go.Proofs.Ytpgbpfdedpppeaa
open Go.RowKit Go.Shelf
attribute [local go_sem] Oper.semAt_some

def upto {α : Type} (f : Nat → α) (k : Nat) : List α := (List.range k).map f
theorem upto_succ {α : Type} (f : Nat → α) (k : Nat) : upto f (k + 1) = upto f k ++ [f k] := by simp [upto, List.range_succ]
theorem upto_length {α : Type} (f : Nat → α) (k : Nat) : (upto f k).length = k := by simp [upto]
/-- what comes in round j -/
def backAt (l : List Fd) (j : Nat) : Nat × Fd := (l.length - 1 - j, l.getD (l.length - 1 - j) Fd.zero)
theorem back_names (l : List Fd) : (upto (backAt l) l.length).map (fun p => p.2) = l.reverse := by
  apply List.ext_getElem?
  intro i
  unfold upto
  rw [List.map_map, List.getElem?_map]
  by_cases hi : i < l.length
  · rw [List.getElem?_range hi, List.getElem?_reverse hi]
    simp only [Option.map_some, Function.comp, backAt]
    rw [List.getD_eq_getElem?_getD, List.getElem?_eq_getElem (by omega)]
    rfl
  · rw [List.getElem?_eq_none (by simp; omega), List.getElem?_eq_none (by simp; omega)]
    rfl

/-- The fields l can be read at address A, in block b. -/
def FdsIn (w : World) (b : Nat) (A : Option Addr) (l : List Fd) : Prop := 0 < l.length → ∃ off, A = some ⟨b, off, none⟩ ∧ b < w.heap.size ∧ ∀ i f, l[i]? = some f → At w b (off + i * 4) f.cells
/-- what a round keeps: the row's block and the iterator's own box -/
structure KB (b Bs : Nat) (W W' : World) : Prop where
  row : W'.heap[b]? = W.heap[b]?
  box : W'.heap[Bs]? = W.heap[Bs]?
theorem KB.refl (n Bs : Nat) (W : World) : KB n Bs W W := ⟨rfl, rfl⟩
theorem KB.trans {n Bs : Nat} {A B C : World} (h : KB n Bs A B) (k : KB n Bs B C) : KB n Bs A C := ⟨k.row.trans h.row, k.box.trans h.box⟩
theorem KB.cell {n Bs : Nat} {A B : World} (h : KB n Bs A B) : B.cell? ⟨Bs, 0, none⟩ = A.cell? ⟨Bs, 0, none⟩ := by
  unfold World.cell?
  simp only [h.box]
theorem KB.cellR {n Bs : Nat} {A B : World} (h : KB n Bs A B) (o : Nat) : B.cell? ⟨n, o, none⟩ = A.cell? ⟨n, o, none⟩ := by
  unfold World.cell?
  simp only [h.row]
theorem FdsIn.kept {w w' : World} {b Bs : Nat} {A : Option Addr} {l : List Fd} (h : FdsIn w b A l) (hk : KB b Bs w w') : FdsIn w' b A l := fun hl => by
  obtain ⟨off, e, hlt, hc⟩ := h hl
  refine ⟨off, e, ?_, fun i f hi => (hc i f hi).keep fun j => hk.cellR _⟩
  have h1 : w.heap[b]? = some (w.heap[b]'hlt) := Array.getElem?_eq_getElem hlt
  rw [← hk.row] at h1
  exact (Array.getElem?_eq_some_iff.1 h1).1
theorem FdsIn.one {w : World} {b : Nat} {A : Option Addr} {l : List Fd} {f : Fd} (h : FdsIn w b A l) {i : Nat} (hi : l[i]? = some f) : ∃ off, A = some ⟨b, off, none⟩ ∧ w.cell? ⟨b, off + i * 4, none⟩ = some (.int .i64 f.id) ∧ w.cell? ⟨b, off + i * 4 + 1, none⟩ = some (.string f.nm) ∧
    w.cell? ⟨b, off + i * 4 + 2, none⟩ = some (.int .i64 f.ty) ∧ w.cell? ⟨b, off + i * 4 + 3, none⟩ = some (.int .i64 f.pa) := by
  obtain ⟨off, e, hlt, hc⟩ := h (by have := (List.getElem?_eq_some_iff.1 hi).1; omega)
  exact ⟨off, e, hc i f hi 0 _ rfl, hc i f hi 1 _ rfl, hc i f hi 2 _ rfl, hc i f hi 3 _ rfl⟩
theorem kb_put {b Bs : Nat} {w : World} (hb : b < w.heap.size) (hB : Bs < w.heap.size) (W : World) (l : Nat) (o o' : Obj) (hl : w.heap.size ≤ l) (ho : W.heap[l]? = some o) (_ : o.isCells = false) (_ : o.isWalk = false) : KB b Bs W (W.putObj l o') := by
  have hlt := (Array.getElem?_eq_some_iff.1 ho).1
  exact ⟨(grownBy_putObj' W l o').block b (by omega) (by simp; omega), (grownBy_putObj' W l o').block Bs (by omega) (by simp; omega)⟩

def encF (x : Nat × Fd) : Array Value := #[Value.int .i64 (x.1 : Int), .agg #[.int .i64 x.2.id, .string x.2.nm, .int .i64 x.2.ty, .int .i64 x.2.pa]]

set_option maxRecDepth 100000 in
set_option maxHeartbeats 2000000 in
theorem back1_in (F : Fence) (n : Nat) (hf : F.fn 67) (hro : F.round = none) (hn : 1 ≤ n) (y Bs b cap : Nat) (A : Option Addr) (l : List Fd) (hreach : l.length ≤ 140737488351232) (J Jx : List (Nat × Fd) → World → Prop)
    (hY : ∀ pre x W, J pre W → pre.length < l.length → YieldAt F (n - 1) Try.prog y (encF x) W fun e W' =>
      (e = .returned (.bool true) ∧ J (pre ++ [x]) W' ∧ KB b Bs W W') ∨ (e = .returned (.bool false) ∧ Jx (pre ++ [x]) W'))
    (W : World) (hBs : W.cell? ⟨Bs, 0, none⟩ = some (.slice A l.length cap)) (hc : FdsIn W b A l) (h0 : J [] W) :
    CallsIn F n Try.prog 67 #[.func (.yield y) #[] #[], .pointer (some ⟨Bs, 0, none⟩)] W fun e W' => (∃ v, e = .returned v) ∧
      ((∃ ys, ys = upto (backAt l) l.length ∧ J ys W') ∨ (∃ pre, (∃ k, k ≤ l.length ∧ pre = upto (backAt l) k) ∧ Jx pre W')) := by
  refine callsIn_of_wp Try.func67 rfl hf ?_ hro
  simp only [Try.ntmps67, List.size_toArray, List.length_cons, List.length_nil, Nat.reduceAdd, Nat.reduceSub, Array.replicate_succ, Array.replicate_zero, List.push_toArray, List.append_toArray, List.nil_append, List.cons_append]
  obtain ⟨N, hN⟩ : ∃ N, N = l.length := ⟨_, rfl⟩
  have HN := Lib.hid hN
  rw [← hN] at hBs hreach ⊢
  clear hN
  have HY := Lib.hid hY
  have HC := Lib.hid hc
  clear hY hc
  gi_wp2
  gi_loopw [3] (fun i wr => ∃ k m : Nat, k + m = N ∧ i = .int .i64 ((m : Int) - 1) ∧ J (upto (backAt l) k) wr ∧ Hid (KB b Bs W wr))
    (fun i _ => ((intOf i) + 1).toNat)
  case atStart => exact ⟨0, N, by omega, rfl, h0, KB.refl _ _ _⟩
  case round =>
    obtain ⟨k, m, hk, rfl, hJs, hnx⟩ := hrel
    cases m with
    | zero =>
      gi_wp2
      go_end0
      exact ⟨⟨_, rfl⟩, .inl ⟨_, by rw [show N = k by omega], hJs⟩⟩
    | succ m =>
      have e : (((m + 1 : Nat) : Int) - 1) = (m : Int) := by omega
      rw [e]
      have hm : m < l.length := by have := HN.out; omega
      obtain ⟨f, hf'⟩ := getD_of hm
      obtain ⟨off, rfl, c0, c1, c2, c3⟩ := (HC.out.kept hnx.out).one hf'
      have hbx : wr.cell? ⟨Bs, 0, none⟩ = some (.slice (some ⟨b, off, none⟩) N cap) := hnx.out.cell.trans hBs
      obtain ⟨fn, tmps, assign, body, hy, hR⟩ := HY.out _ (m, f) wr hJs (by rw [upto_length]; have := HN.out; omega)
      have hfk : Hid (backAt l k = (m, f)) := by
        show _ = _
        unfold backAt
        rw [show l.length - 1 - k = m by have := HN.out; omega, List.getD_eq_getElem?_getD, hf']
        rfl
      simp only [encF] at hy
      have i0 : 0 ≤ (m : Int) := by omega
      have i1 : (m : Int) < (N : Int) := by omega
      clear hm hf'
      gi_wp2
      refine hR.mono ?_
      rintro e W3 (⟨rfl, hJ3, hk3⟩ | ⟨rfl, hJx3⟩)
      · gi_wp2
        go_roundw
        case rel => exact ⟨k + 1, m, by omega, (by first | rfl | go_num), by rw [upto_succ, hfk.out]; exact hJ3, hnx.out.trans hk3⟩
        case measure => simp [intOf]
      · gi_wp2
        refine bodyPost_ret (results_none rfl _ _ _) rfl ?_
        exact ⟨⟨_, rfl⟩, .inr ⟨_, ⟨k + 1, by have := HN.out; omega, by rw [upto_succ, hfk.out]⟩, hJx3⟩⟩

set_option maxHeartbeats 1000000 in
theorem back_in (F : Fence) (n : Nat) (hf : F.fn 45) (hro : F.round = none) (a : Option Addr) (len cap : Nat) (w : World) :
    CallsIn F n Try.prog 45 #[.slice a len cap] w fun e w' => e = .returned (.func (.func 67) #[] #[.pointer (some ⟨w.heap.size, 0, none⟩)]) ∧ w' = w.alloc (.cells #[.slice a len cap] 28) := by
  refine callsIn_of_wp Try.func45 rfl hf ?_ hro
  simp only [Try.ntmps45, List.size_toArray, List.length_cons, List.length_nil, Nat.reduceAdd, Nat.reduceSub, Array.replicate_succ, Array.replicate_zero, List.push_toArray, List.append_toArray, List.nil_append, List.cons_append]
  gi_wp2
  go_ret
  exact ⟨rfl, rfl⟩

theorem back_stops (F : Fence) (n : Nat) (hf : F.fn 67) (hro : F.round = none) (hn : 1 ≤ n) (Bs b cap : Nat) (A : Option Addr) (l : List Fd) (hreach : l.length ≤ 140737488351232) (w : World) (hBs : Bs < w.heap.size)
    (hc : w.cell? ⟨Bs, 0, none⟩ = some (.slice A l.length cap)) (hI : FdsIn w b A l) (hb : b < w.heap.size) :
    SeqStopsK F n Try.prog 67 #[.pointer (some ⟨Bs, 0, none⟩)] encF (KB b Bs) (fun ys => ys = upto (backAt l) l.length)
      (fun pre => ∃ k, k ≤ l.length ∧ pre = upto (backAt l) k) l.length w := fun y J Jx W hW _ _ hY h0 => by
  have hc' := (hW.cell (p := ⟨Bs, 0, none⟩) hBs).trans hc
  exact back1_in F n hf hro hn y Bs b cap A l hreach J Jx hY W hc' (hI.kept (Bs := Bs) ⟨hW.block b hb, hW.block Bs hBs⟩) h0
end Go.Proofs.Ytpgbpfdedpppeaa
