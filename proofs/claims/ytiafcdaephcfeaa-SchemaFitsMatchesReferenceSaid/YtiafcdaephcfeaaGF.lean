/-
  Layer 6's contracts and plain theorems, texts of layer 6's own claims put together: BackP PathP FindP.
-/
import Derived.Test.YtiafcdaephcfeaaGA
import Derived.RangeFuncNested
import Derived.RangeFuncBound
import Derived.RangeFuncCalls
import Derived.RangeFuncLeaves
import Derived.Shelf.Abstract
import Derived.Shelf.RegionOpen
import Derived.OwnWalkIn
import Derived.TacticsInMore
import Derived.LoopNIn
import Derived.LoopIn
import Derived.Test.YtiafcdaephcfeaaLays
import Derived.Maps.AppendAt
namespace Go.Proofs.Ytiafcdaephcfeaa
open Go.RowKit Go.Shelf
attribute [local go_sem] Oper.semAt_some

def upto {α : Type} (f : Nat → α) (k : Nat) : List α := (List.range k).map f
theorem upto_succ {α : Type} (f : Nat → α) (k : Nat) : upto f (k + 1) = upto f k ++ [f k] := by simp [upto, List.range_succ]
theorem upto_length {α : Type} (f : Nat → α) (k : Nat) : (upto f k).length = k := by simp [upto]
/-- what comes in round j -/
def backAt (l : List Fd) (j : Nat) : Nat × Fd := (l.length - 1 - j, l.getD (l.length - 1 - j) Fd.zero)
theorem back_names (l : List Fd) : (upto (backAt l) l.length).map (fun p => p.2) = l.reverse := by
  apply List.ext_getElem?
  intro i
  unfold upto
  rw [List.map_map, List.getElem?_map]
  by_cases hi : i < l.length
  · rw [List.getElem?_range hi, List.getElem?_reverse hi]
    simp only [Option.map_some, Function.comp, backAt]
    rw [List.getD_eq_getElem?_getD, List.getElem?_eq_getElem (by omega)]
    rfl
  · rw [List.getElem?_eq_none (by simp; omega), List.getElem?_eq_none (by simp; omega)]
    rfl

/-- The fields l can be read at address A, in block b. -/
def FdsIn (w : World) (b : Nat) (A : Option Addr) (l : List Fd) : Prop := 0 < l.length → ∃ off, A = some ⟨b, off, none⟩ ∧ b < w.heap.size ∧ ∀ i f, l[i]? = some f → At w b (off + i * 4) f.cells
/-- what a round keeps: the row's block and the iterator's own box -/
structure KB (b Bs : Nat) (W W' : World) : Prop where
  row : W'.heap[b]? = W.heap[b]?
  box : W'.heap[Bs]? = W.heap[Bs]?
theorem KB.refl (n Bs : Nat) (W : World) : KB n Bs W W := ⟨rfl, rfl⟩
theorem KB.trans {n Bs : Nat} {A B C : World} (h : KB n Bs A B) (k : KB n Bs B C) : KB n Bs A C := ⟨k.row.trans h.row, k.box.trans h.box⟩
theorem KB.cell {n Bs : Nat} {A B : World} (h : KB n Bs A B) : B.cell? ⟨Bs, 0, none⟩ = A.cell? ⟨Bs, 0, none⟩ := by
  unfold World.cell?
  simp only [h.box]
theorem KB.cellR {n Bs : Nat} {A B : World} (h : KB n Bs A B) (o : Nat) : B.cell? ⟨n, o, none⟩ = A.cell? ⟨n, o, none⟩ := by
  unfold World.cell?
  simp only [h.row]
theorem FdsIn.kept {w w' : World} {b Bs : Nat} {A : Option Addr} {l : List Fd} (h : FdsIn w b A l) (hk : KB b Bs w w') : FdsIn w' b A l := fun hl => by
  obtain ⟨off, e, hlt, hc⟩ := h hl
  refine ⟨off, e, ?_, fun i f hi => (hc i f hi).keep fun j => hk.cellR _⟩
  have h1 : w.heap[b]? = some (w.heap[b]'hlt) := Array.getElem?_eq_getElem hlt
  rw [← hk.row] at h1
  exact (Array.getElem?_eq_some_iff.1 h1).1
theorem FdsIn.one {w : World} {b : Nat} {A : Option Addr} {l : List Fd} {f : Fd} (h : FdsIn w b A l) {i : Nat} (hi : l[i]? = some f) : ∃ off, A = some ⟨b, off, none⟩ ∧ w.cell? ⟨b, off + i * 4, none⟩ = some (.int .i64 f.id) ∧ w.cell? ⟨b, off + i * 4 + 1, none⟩ = some (.string f.nm) ∧
    w.cell? ⟨b, off + i * 4 + 2, none⟩ = some (.int .i64 f.ty) ∧ w.cell? ⟨b, off + i * 4 + 3, none⟩ = some (.int .i64 f.pa) := by
  obtain ⟨off, e, hlt, hc⟩ := h (by have := (List.getElem?_eq_some_iff.1 hi).1; omega)
  exact ⟨off, e, hc i f hi 0 _ rfl, hc i f hi 1 _ rfl, hc i f hi 2 _ rfl, hc i f hi 3 _ rfl⟩
theorem kb_put {b Bs : Nat} {w : World} (hb : b < w.heap.size) (hB : Bs < w.heap.size) (W : World) (l : Nat) (o o' : Obj) (hl : w.heap.size ≤ l) (ho : W.heap[l]? = some o) (_ : o.isCells = false) (_ : o.isWalk = false) : KB b Bs W (W.putObj l o') := by
  have hlt := (Array.getElem?_eq_some_iff.1 ho).1
  exact ⟨(grownBy_putObj' W l o').block b (by omega) (by simp; omega), (grownBy_putObj' W l o').block Bs (by omega) (by simp; omega)⟩

def encF (x : Nat × Fd) : Array Value := #[Value.int .i64 (x.1 : Int), .agg #[.int .i64 x.2.id, .string x.2.nm, .int .i64 x.2.ty, .int .i64 x.2.pa]]

set_option maxRecDepth 100000 in
set_option maxHeartbeats 2000000 in
theorem back1_in (F : Fence) (n : Nat) (hf : F.fn 53) (hro : F.round = none) (hn : 1 ≤ n) (y Bs b cap : Nat) (A : Option Addr) (l : List Fd) (hreach : l.length ≤ 140737488351232) (J Jx : List (Nat × Fd) → World → Prop)
    (hY : ∀ pre x W, J pre W → pre.length < l.length → YieldAt F (n - 1) Try.prog y (encF x) W fun e W' =>
      (e = .returned (.bool true) ∧ J (pre ++ [x]) W' ∧ KB b Bs W W') ∨ (e = .returned (.bool false) ∧ Jx (pre ++ [x]) W'))
    (W : World) (hBs : W.cell? ⟨Bs, 0, none⟩ = some (.slice A l.length cap)) (hc : FdsIn W b A l) (h0 : J [] W) :
    CallsIn F n Try.prog 53 #[.func (.yield y) #[] #[], .pointer (some ⟨Bs, 0, none⟩)] W fun e W' => (∃ v, e = .returned v) ∧
      ((∃ ys, ys = upto (backAt l) l.length ∧ J ys W') ∨ (∃ pre, (∃ k, k ≤ l.length ∧ pre = upto (backAt l) k) ∧ Jx pre W')) := by
  refine callsIn_of_wp Try.func53 rfl hf ?_ hro
  simp only [Try.ntmps53, List.size_toArray, List.length_cons, List.length_nil, Nat.reduceAdd, Nat.reduceSub, Array.replicate_succ, Array.replicate_zero, List.push_toArray, List.append_toArray, List.nil_append, List.cons_append]
  obtain ⟨N, hN⟩ : ∃ N, N = l.length := ⟨_, rfl⟩
  have HN := Lib.hid hN
  rw [← hN] at hBs hreach ⊢
  clear hN
  have HY := Lib.hid hY
  have HC := Lib.hid hc
  clear hY hc
  gi_wp2
  gi_loopw [3] (fun i wr => ∃ k m : Nat, k + m = N ∧ i = .int .i64 ((m : Int) - 1) ∧ J (upto (backAt l) k) wr ∧ Hid (KB b Bs W wr))
    (fun i _ => ((intOf i) + 1).toNat)
  case atStart => exact ⟨0, N, by omega, rfl, h0, KB.refl _ _ _⟩
  case round =>
    obtain ⟨k, m, hk, rfl, hJs, hnx⟩ := hrel
    cases m with
    | zero =>
      gi_wp2
      go_end0
      exact ⟨⟨_, rfl⟩, .inl ⟨_, by rw [show N = k by omega], hJs⟩⟩
    | succ m =>
      have e : (((m + 1 : Nat) : Int) - 1) = (m : Int) := by omega
      rw [e]
      have hm : m < l.length := by have := HN.out; omega
      obtain ⟨f, hf'⟩ := getD_of hm
      obtain ⟨off, rfl, c0, c1, c2, c3⟩ := (HC.out.kept hnx.out).one hf'
      have hbx : wr.cell? ⟨Bs, 0, none⟩ = some (.slice (some ⟨b, off, none⟩) N cap) := hnx.out.cell.trans hBs
      obtain ⟨fn, tmps, assign, body, hy, hR⟩ := HY.out _ (m, f) wr hJs (by rw [upto_length]; have := HN.out; omega)
      have hfk : Hid (backAt l k = (m, f)) := by
        show _ = _
        unfold backAt
        rw [show l.length - 1 - k = m by have := HN.out; omega, List.getD_eq_getElem?_getD, hf']
        rfl
      simp only [encF] at hy
      have i0 : 0 ≤ (m : Int) := by omega
      have i1 : (m : Int) < (N : Int) := by omega
      clear hm hf'
      gi_wp2
      refine hR.mono ?_
      rintro e W3 (⟨rfl, hJ3, hk3⟩ | ⟨rfl, hJx3⟩)
      · gi_wp2
        go_roundw
        case rel => exact ⟨k + 1, m, by omega, (by first | rfl | go_num), by rw [upto_succ, hfk.out]; exact hJ3, hnx.out.trans hk3⟩
        case measure => simp [intOf]
      · gi_wp2
        refine bodyPost_ret (results_none rfl _ _ _) rfl ?_
        exact ⟨⟨_, rfl⟩, .inr ⟨_, ⟨k + 1, by have := HN.out; omega, by rw [upto_succ, hfk.out]⟩, hJx3⟩⟩

set_option maxHeartbeats 1000000 in
theorem back_in (F : Fence) (n : Nat) (hf : F.fn 30) (hro : F.round = none) (a : Option Addr) (len cap : Nat) (w : World) :
    CallsIn F n Try.prog 30 #[.slice a len cap] w fun e w' => e = .returned (.func (.func 53) #[] #[.pointer (some ⟨w.heap.size, 0, none⟩)]) ∧ w' = w.alloc (.cells #[.slice a len cap] 29) := by
  refine callsIn_of_wp Try.func30 rfl hf ?_ hro
  simp only [Try.ntmps30, List.size_toArray, List.length_cons, List.length_nil, Nat.reduceAdd, Nat.reduceSub, Array.replicate_succ, Array.replicate_zero, List.push_toArray, List.append_toArray, List.nil_append, List.cons_append]
  gi_wp2
  go_ret
  exact ⟨rfl, rfl⟩

theorem back_stops (F : Fence) (n : Nat) (hf : F.fn 53) (hro : F.round = none) (hn : 1 ≤ n) (Bs b cap : Nat) (A : Option Addr) (l : List Fd) (hreach : l.length ≤ 140737488351232) (w : World) (hBs : Bs < w.heap.size)
    (hc : w.cell? ⟨Bs, 0, none⟩ = some (.slice A l.length cap)) (hI : FdsIn w b A l) (hb : b < w.heap.size) :
    SeqStopsK F n Try.prog 53 #[.pointer (some ⟨Bs, 0, none⟩)] encF (KB b Bs) (fun ys => ys = upto (backAt l) l.length)
      (fun pre => ∃ k, k ≤ l.length ∧ pre = upto (backAt l) k) l.length w := fun y J Jx W hW _ _ hY h0 => by
  have hc' := (hW.cell (p := ⟨Bs, 0, none⟩) hBs).trans hc
  exact back1_in F n hf hro hn y Bs b cap A l hreach J Jx hY W hc' (hI.kept (Bs := Bs) ⟨hW.block b hb, hW.block Bs hBs⟩) h0
end Go.Proofs.Ytiafcdaephcfeaa
namespace Go.Proofs.Ytiafcdaephcfeaa
open Go.RowKit Go.Shelf
attribute [local go_sem] Oper.semAt_some

/-- the bytes of a field's path -/
def pathB (line : List Fd) : List UInt8 := Lib.join (line.reverse.map (·.nm.data.toList)) [46]
def pathOf (l : List Fd) (i : Int) : ByteArray := ⟨(pathB (anc l 8 true i).1).toArray⟩
theorem anc_len (l : List Fd) : ∀ (m : Nat) (fi : Bool) (i : Int), (anc l m fi i).1.length ≤ m
  | 0, _, _ => Nat.le_refl _
  | m + 1, fi, i => by
    unfold anc
    split
    · simp
    · split
      · simp
      · simp only [List.length_cons]
        have := anc_len l m false (by assumption : Fd).pa
        omega
theorem fieldG_mem {fi : Bool} : ∀ {l : List Fd} {i : Int} {f : Fd}, fieldG fi l i = some f → f ∈ l ∧ f.id = i ∧ (fi = true ∨ f.ty = 6)
  | [], _, _, h => by simp [fieldG] at h
  | g :: r, i, f, h => by
    unfold fieldG at h
    split at h
    · next hg => cases h; exact ⟨by simp, hg⟩
    · have := fieldG_mem h; exact ⟨by simp [this.1], this.2⟩
theorem anc_mem (l : List Fd) : ∀ (m : Nat) (fi : Bool) (i : Int), ∀ f ∈ (anc l m fi i).1, f ∈ l
  | 0, _, _ => by simp [anc]
  | m + 1, fi, i => by
    intro f hf
    unfold anc at hf
    split at hf
    · simp at hf
    · split at hf
      · simp at hf
      · next g hg =>
        simp only [List.mem_cons] at hf
        rcases hf with rfl | hf
        · exact (fieldG_mem hg).1
        · exact anc_mem l m false g.pa f hf
theorem cb_own {β : Type} (B : Nat) (t : TypeId) (f : β → List Value) : Go.Own (fun s W => CB W B t (f s)) := fun s X Y row hs hg hrow =>
  CB.grown hs hg (fun e' => by obtain ⟨o, ho, hc⟩ := hrow B e'.symm; rw [show X.heap[B]? = _ from hs] at ho; cases ho; cases hc)
theorem ownFrom_size {β : Type} (m B : Nat) : OwnFrom B (fun (_ : β) W => m ≤ W.heap.size) := fun _ _ _ _ hs hg _ => Nat.le_trans hs hg.size
theorem row_mono {W : World} {B B' : Nat} {e : TypeId} {k n : Nat} {v : Value} {xs : List Value} (h : W.ownsRow B e k v n xs) (hB : B' ≤ B) : W.ownsRow B' e k v n xs :=
  ⟨h.1, h.2.imp id fun ⟨g, cap, cur, h1, h2, h3⟩ => ⟨g, cap, cur, h1, by omega, h3⟩⟩
theorem infoStr : (Try.prog.info? 9).map (fun i => (i.zero, i.size, i.bytes)) = some (some (.string ⟨#[]⟩), 1, 16) := by kernel_rfl

theorem nms_snoc (pre : List (Nat × Fd)) (p : Nat × Fd) : (pre ++ [p]).map (fun q => Value.string q.2.nm) = pre.map (fun q => Value.string q.2.nm) ++ [.string p.2.nm] := by simp
theorem nms_get {W : World} {base A c : Nat} {v : Value} {xs : List ByteArray} (_ : A = c) (h : W.ownsRow base 9 1 v xs.length (xs.map Value.string)) : (v = .slice none 0 0 ∧ xs = []) ∨ ∃ g cap, v = .slice (some ⟨g, 0, none⟩) xs.length cap ∧ g < W.heap.size ∧ xs.length ≤ cap ∧ ∀ (j : Nat) x, xs[j]? = some x → W.cell? ⟨g, 0 + j, none⟩ = some (.string x) := by
  have h2 := h.2
  rcases h2 with ⟨e, h0⟩ | ⟨g, cap, cur, e, hb, hg, hn, hm, hs, ht⟩
  · exact .inl ⟨e, List.eq_nil_of_length_eq_zero h0⟩
  · refine .inr ⟨g, cap, e, (Array.getElem?_eq_some_iff.1 hg).1, hn, fun j x hj => ?_⟩
    have := World.ownsRow.cells h (g := g) (by rw [e]; rfl) j (.string x) (by rw [List.getElem?_map, hj]; rfl)
    rwa [Addr.add_lit] at this
theorem join_len : ∀ (xs : List (List UInt8)) (B : Nat), (∀ x ∈ xs, x.length ≤ B) → (Lib.join xs [46]).length ≤ xs.length * (B + 1)
  | [], _, _ => by simp [Lib.join]
  | [x], B, h => by
    have := h x (by simp)
    simp [Lib.join_one]
    omega
  | x :: y :: r, B, h => by
    have h1 := h x (by simp)
    have h2 := join_len (y :: r) B (fun z hz => h z (by simp at hz ⊢; right; exact hz))
    have e : Lib.join (x :: y :: r) [46] = x ++ ([46] ++ Lib.join (y :: r) [46]) := by rw [Lib.join_cons, Lib.join_cons]; simp [Lib.joinTail]
    rw [e]
    simp only [List.length_append, List.length_cons, List.length_nil] at h2 ⊢
    have : (r.length + 1 + 1) * (B + 1) = (r.length + 1) * (B + 1) + (B + 1) := by rw [Nat.add_mul (r.length + 1) 1, Nat.one_mul]
    omega

theorem Join_row (base : Nat) (v : Value) (xs : List ByteArray) (w : World) (h : w.ownsRow base 9 1 v xs.length (xs.map Value.string)) (hN : xs.length ≤ 8) (hB : ∀ x ∈ xs, x.size ≤ 1000000) :
    Calls Try.prog 31 #[v, .string ⟨#[46]⟩] w fun e w' => e = .returned (.string ⟨(Lib.join (xs.map (·.data.toList)) [46]).toArray⟩) ∧ Below w.heap.size w w' := by
  rcases nms_get (A := 0) (c := 0) rfl h with ⟨rfl, rfl⟩ | ⟨g, cap, rfl, hg, hc, hcells⟩
  · refine (Try.strings_Join_none none 0 ⟨#[46]⟩ w).mono ?_
    rintro e w' ⟨rfl, rfl⟩
    exact ⟨rfl, Below.refl _ _⟩
  · refine Try.strings_Join g 0 cap xs ⟨#[46]⟩ w hcells hg (by omega) hc ?_
    have h1 := join_len (xs.map (·.data.toList)) 1000000 (fun y hy => by
      obtain ⟨x, hx, rfl⟩ := List.mem_map.1 hy
      have := hB x hx
      rw [Array.length_toList]
      exact this)
    rw [List.length_map] at h1
    show (Lib.join _ [46]).length ≤ _
    have : xs.length * (1000000 + 1) ≤ 8 * (1000000 + 1) := Nat.mul_le_mul_right _ hN
    omega

set_option maxRecDepth 100000 in
set_option maxHeartbeats 8000000 in
theorem Path_any (A : Option Addr) (n c : Nat) (x : Int) (l : List Fd) (i : Int) (w : World) (hn : n = l.length) (hs : Fds w w.heap.size A l) (hl : n ≤ 9223372036854775807) (hsz : ∀ f ∈ l, f.nm.size ≤ 1000000) :
    Calls Try.prog 14 #[.agg #[.slice A n c, .int .i64 x], .int .i64 i] w fun e w' => e = .returned (.string (pathOf l i)) ∧ Below w.heap.size w w' := by
  refine (callsIn_wide (n := 6)).1 ?_
  have HN := Lib.hid hn
  have HS := Lib.hid hs
  have HM := Lib.hid hsz
  clear hn hs hsz
  refine callsIn_of_wp_marks Try.func14 rfl trivial ?_ rfl
  simp only [Try.ntmps14, List.size_toArray, List.length_cons, List.length_nil, Nat.reduceAdd, Nat.reduceSub, Array.replicate_succ, Array.replicate_zero, List.push_toArray, List.append_toArray, List.nil_append, List.cons_append]
  have HS2 := Lib.hid ((HS.out.below (al2 w (.cells #[.slice A n c, .int .i64 x] 31) (.cells #[.slice none 0 0] 66))).more (show w.heap.size ≤ ((w.alloc (.cells #[.slice A n c, .int .i64 x] 31)).alloc (.cells #[.slice none 0 0] 66)).heap.size by rw [asz, asz]; omega))
  gi_wp2_with (first | (refine ⟨trivial, ?_⟩; gi_at_call 29; refine (callsIn_wide.2 (ancestry_any _ n c l i _ HN.out HS2.out hl)).mono ?_; rintro e w5 ⟨⟨A5, c5, rfl, hf5⟩, hb5⟩; have HF5 := Lib.hid hf5; have HB5 := Lib.hid hb5; clear hf5 hb5) | (refine ⟨trivial, ?_⟩; gi_at_call 30; refine (back_in Fence.wide (6 - 1) trivial rfl _ _ _ _).mono ?_; rintro e w' ⟨rfl, rfl⟩))
  have HL8 := Lib.hid (anc_len l 8 true i)
  have HMM := Lib.hid (anc_mem l 8 true i)
  have hz5 : w.heap.size + 1 < w5.heap.size := by have := HB5.out.size; rw [asz, asz] at this; omega
  have hbx0 : Boxed w5 (w.heap.size + 1) 66 (.slice none 0 0) := by
    have h0 : Boxed ((w.alloc (.cells #[.slice A n c, .int .i64 x] 31)).alloc (.cells #[.slice none 0 0] 66)) (w.heap.size + 1) 66 (.slice none 0 0) := by
      have := Boxed.new (w.alloc (.cells #[.slice A n c, .int .i64 x] 31)) 66 (.slice none 0 0)
      rwa [asz] at this
    exact (HB5.out.block _ (by rw [asz, asz]; omega)).trans h0
  have hB0 : Below w.heap.size w w5 := (al2 w _ _).trans (HB5.out.mono (by rw [asz, asz]; omega))
  obtain ⟨b5, hb5, hne5, hin5⟩ : ∃ b5, b5 < w5.heap.size ∧ b5 ≠ w.heap.size + 1 ∧ FdsIn w5 b5 A5 (anc l 8 true i).1 := by
    rcases HF5.out.shape with ⟨hv, h0⟩ | ⟨g, cap, hv, hbg, hlt, hcap, hm⟩
    · refine ⟨w.heap.size, by omega, by omega, ?_⟩
      intro h
      have h0' := congrArg List.length h0
      simp at h0'
      rw [h0'] at h
      simp at h
    · rw [asz, asz] at hbg
      refine ⟨g, hlt, by omega, fun h => ?_⟩
      obtain ⟨_, _, _, hrow⟩ := HF5.out.row
      obtain ⟨b, off, e, hb, hc⟩ := hrow (by simpa using h)
      injection hv with hv1
      rw [hv1] at e
      injection e with e
      injection e with e1 e2
      subst e1
      refine ⟨off, by rw [hv1, e2], hb, fun i f hi => hc i f.cells (by rw [List.getElem?_map, hi]; rfl)⟩
  have hp0 : Hid (pathOf l i = ⟨(pathB (anc l 8 true i).1).toArray⟩) := rfl
  generalize (anc l 8 true i).1 = line at *
  generalize (decide ((anc l 8 true i).2 = 0)) = okb at *
  have hW0z : (w5.alloc (.cells #[.slice A5 line.length c5] 29)).heap.size = w5.heap.size + 1 := asz _ _
  have hbxI : (w5.alloc (.cells #[.slice A5 line.length c5] 29)).cell? ⟨w5.heap.size, 0, none⟩ = some (.slice A5 line.length c5) := (Boxed.new w5 29 (.slice A5 line.length c5)).cell
  have hbx1 := hbx0.alloc (.cells #[.slice A5 line.length c5] 29)
  have hin6 : FdsIn (w5.alloc (.cells #[.slice A5 line.length c5] 29)) b5 A5 line := fun h => by
    obtain ⟨off, e, hlt, hc⟩ := hin5 h
    exact ⟨off, e, by rw [hW0z]; omega, fun i f hi => (hc i f hi).below (al1 _ _) hlt⟩
  have hB1 : Below w.heap.size w (w5.alloc (.cells #[.slice A5 line.length c5] 29)) := hB0.alloc (by omega) _
  generalize (w5.alloc (.cells #[.slice A5 line.length c5] 29)) = w0 at hbxI hbx1 hin6 hW0z hB1 ⊢
  have HQ := Lib.hid hin6
  clear hin5 hin6 hbx0 hB0 HF5 HB5
  obtain ⟨i9, hi9, hz9, hs9, hb9⟩ := info_parts infoStr
  refine wpIn_rangeFunc_ownH rfl (by decide) (gf := 53) (lb := #[.pointer (some ⟨w5.heap.size, 0, none⟩)]) rfl trivial (enters_of Try.func53 (by kernel_rfl) rfl)
    (back_stops Fence.wide (6 - 1) trivial rfl (by omega) w5.heap.size b5 c5 A5 line (by have := HL8.out; omega) w0 (by omega) hbxI HQ.out (by omega)) KB.trans (kb_put (by omega) (by omega)) (Below.refl _ _) (fun _ => rfl)
    (fun pre W => (∃ v, Boxed W (w.heap.size + 1) 66 v ∧ W.ownsRow w0.heap.size 9 1 v pre.length (pre.map fun q => Value.string q.2.nm) ∧ True) ∧ (Below w.heap.size w W ∧ w0.heap.size ≤ W.heap.size))
    (fun _ _ _ => False)
    (OwnFrom.and (Own.from (holdsRow_own w0.heap.size (w.heap.size + 1) 66 9 1 (fun pre : List (Nat × Fd) => pre.length) (fun pre => pre.map fun q => Value.string q.2.nm) (fun _ _ => True)) _) (OwnFrom.and (ownFrom_below (Nat.le_refl _) (by omega)) (ownFrom_size _ _)))
    (fun _ _ _ _ _ hs _ _ => hs)
    ⟨⟨_, hbx1, World.ownsRow_nil _ _ _ _, trivial⟩, hB1, Nat.le_refl _⟩
    (fun p a' W => ∃ Bx, w.heap.size + 1 < Bx ∧ CB W Bx 50 p.2.cells ∧ a' = { tmps := #[.agg #[.slice A n c, .int .i64 x], .int .i64 i, .pointer (some ⟨w.heap.size, 0, none⟩), undef, .string ⟨#[]⟩, .pointer (some ⟨w.heap.size + 1, 0, none⟩), .slice A5 line.length c5, .bool okb, undef, .pointer (some ⟨Bx, 0, none⟩), .tuple #[.slice A5 line.length c5, .bool okb], .pointer (some ⟨w.heap.size, 0, none⟩), .slice A n c, .int .i64 i, .tuple #[.slice A5 line.length c5, .bool okb], .slice A5 line.length c5, .bool okb, .slice A5 line.length c5, .func (.func 53) #[] #[.pointer (some ⟨w5.heap.size, 0, none⟩)], .int .i64 (p.1 : Int), .agg #[.int .i64 p.2.id, .string p.2.nm, .int .i64 p.2.ty, .int .i64 p.2.pa], undef, undef, undef, undef, undef, undef, undef], defers := [] })
    (fun p a' _ X Y row hs hg hr => by obtain ⟨Bx, h1, h2, h3⟩ := hs; exact ⟨Bx, h1, cb_own Bx 50 (fun (_ : Unit) => p.2.cells) () X Y row h2 hg (fun r e => (hr r e).2), h3⟩)
    ?assign ?body ?done ?stop
  case assign =>
    rintro y pre p W K ⟨⟨v, hv, hr, _⟩, hB, hz⟩ hK
    have HV := Lib.hid hv
    have HR := Lib.hid hr
    clear hv hr
    simp only [encF]
    gi_wp2
    exact hK _ _ ((KeepsOthers.alloc _ _).from _) ⟨Below.heap_alloc _ _ _ (by omega), Below.heap_alloc _ _ _ (by omega)⟩ ⟨⟨v, HV.out.alloc _, World.ownsRow.alloc HR.out _, trivial⟩, hB.alloc hB.size _, by rw [asz]; omega⟩ ⟨W.heap.size, HV.out.lt, CB.new W 50 p.2.cells, rfl⟩
  case body =>
    rintro y pre p a' W hy ⟨r, hr⟩ ⟨⟨v, hv, hrow, _⟩, hB, hz⟩ ⟨Bx, hBx, hX, rfl⟩ hlt
    have cv := hv.cell
    have cx := hX.cell 1 rfl
    have HV := Lib.hid hv
    have HR := Lib.hid hrow
    clear hrow hv
    have hp8 : pre.length ≤ 8 := by have := HL8.out; omega
    have hm1 : pre.length + 1 ≤ maxLen := by simp only [maxLen]; omega
    have hz1 : w0.heap.size ≤ (W.alloc (.cells #[.string p.2.nm] 9)).heap.size := by rw [asz]; omega
    have h1c : ∀ u ∈ [Value.string p.2.nm], u.oneCell' = true := by simp [Value.oneCell']
    gi_wp2_with (gi_at_builtin; refine wpListIn_append_own _ rfl (.tmp 21) (.tmp 24) 66 rfl w0.heap.size 9 i9 (.string ⟨#[]⟩) 1 16 Try.underlying66 hi9 hz9 hs9 hb9 rfl (by decide) v pre.length _ rfl (World.ownsRow.alloc HR.out _) ⟨W.heap.size, 0, none⟩ 1 1 [.string p.2.nm] rfl rfl (cell_one_new _ _ _) h1c hm1 (by omega) hz1 ?_; intro v' w1 hown' hgrow _; obtain ⟨g', cap', rfl⟩ := ownsRow_succ hown'; have HO := Lib.hid hown'; have HG := Lib.hid hgrow; obtain ⟨hv1, hv2, hr2, hk2, hb2⟩ := Boxed.appended (n₀ := 0) HV.out (by decide) (row_mono HR.out (Nat.zero_le _)) (Nat.zero_le _) (Nat.zero_le _) (row_mono hown' (Nat.zero_le _)) hgrow; have hc1 := hv1.cell; have hf1 := hv1.frozen; clear hown' hgrow hr2 hb2)
    have hbl : ∀ k, k < w0.heap.size → k ≠ w.heap.size + 1 → (w1.setCell ⟨w.heap.size + 1, 0, none⟩ (.slice (some ⟨g', 0, none⟩) (pre.length + 1) cap')).heap[k]? = W.heap[k]? := fun k hk hne => by
      refine (Below.heap_setCell _ _ _ k hne).trans ((HG.out.block k (by rw [asz]; omega) (fun e => ?_)).trans (Below.heap_alloc _ _ _ (by omega)))
      have := (World.ownsRow.lt HR.out k e.symm).1
      omega
    refine ⟨hk2.from _, ⟨hbl _ (by omega) hne5, hbl _ (by omega) (by omega)⟩, ⟨_, hv2, ?_, trivial⟩, ?_, ?_⟩
    · have := HO.out.kept (grownBy_setCell' w1 (w.heap.size + 1) (.slice (some ⟨g', 0, none⟩) (pre.length + 1) cap')) (.inr (hv1.not_row (by decide) HO.out).symm)
      rw [nms_snoc, List.length_append]
      exact this
    · refine ((hB.alloc hB.size _).grown HG.out (by rw [asz]; omega) (fun k hk => ?_)).setCell (p := ⟨w.heap.size + 1, 0, none⟩) (by show w.heap.size ≤ w.heap.size + 1; omega) _
      have := (World.ownsRow.lt HR.out k hk).1
      omega
    · have := HG.out.size
      rw [asz] at this
      simp [World.setCell]
      omega
  case done =>
    rintro D ys W hD rfl ⟨⟨v, hv, hrow, _⟩, hB, hz⟩ hK
    have cv := hv.cell
    have hnm : ((upto (backAt line) line.length).map fun q => Value.string q.2.nm) = (line.reverse.map (·.nm)).map Value.string := by
      rw [← back_names line]
      simp
    have hln : (upto (backAt line) line.length).length = (line.reverse.map (·.nm)).length := by rw [upto_length]; simp
    rw [hnm, hln] at hrow
    have HJ := Lib.hid (Join_row w0.heap.size v (line.reverse.map (·.nm)) W hrow (by simpa using HL8.out) (fun z hz => by
      obtain ⟨f, hf, rfl⟩ := List.mem_map.1 hz
      exact HM.out f (HMM.out f (by simpa using hf))))
    have HD := Lib.hid hD
    have HK := Lib.hid hK
    clear hrow hnm hln hK hD
    gi_wp2_with (refine ⟨trivial, ?_⟩; gi_at_call 31; refine (callsIn_wide.2 HJ.out).mono ?_; rintro e w7 ⟨rfl, hb7⟩; have HB7 := Lib.hid hb7; clear hb7)
    have hK7 : w7.heap[D]? = some (.deferred (some [])) := (HB7.out.block D (Array.getElem?_eq_some_iff.1 HK.out).1).trans HK.out
    refine ⟨by simp, .inl ⟨_, _, rfl, run_takeDeferred hK7, ?_⟩⟩
    have hb8 : Below w.heap.size w w7 := hB.trans (HB7.out.mono (by omega))
    refine ⟨_, results_tmp rfl _ _ _, ?_, hb8.trans (belowK_b (w := w) (Nat.le_refl _) w7 D _ _ (by have := HD.out; omega) hK7 rfl rfl)⟩
    rw [hp0.out]
    unfold pathB
    simp [Function.comp_def]
  case stop =>
    rintro D c pre W _ _ h _
    exact h.elim
end Go.Proofs.Ytiafcdaephcfeaa
namespace Go.Proofs.Ytiafcdaephcfeaa
open Go.RowKit

/-- the first field whose path is p -/
def findGo (q : Fd → ByteArray) (p : ByteArray) : List Fd → Option Int
  | [] => none
  | f :: r => if sameB (q f) p then some f.id else findGo q p r
def leafL (l : List Fd) : List Int := (l.filter fun f => !(f.ty == 6)).map (·.id)
def ic (l : List Int) : List (List Value) := l.map fun i => [Value.int .i64 i]
theorem infoI : (Try.prog.info? 3).map (fun i => (i.zero, i.size, i.bytes)) = some (some (.int .i64 0), 1, 8) := by kernel_rfl
theorem ic_snoc (l : List Int) (i : Int) : ic (l ++ [i]) = ic l ++ [[Value.int .i64 i]] := by simp [ic]
theorem ic_len (l : List Int) : (ic l).length = l.length := by simp [ic]
set_option maxHeartbeats 1000000 in
set_option maxRecDepth 20000 in
theorem Find_any (A : Option Addr) (n c : Nat) (x : Int) (l : List Fd) (p : ByteArray) (w : World) (hn : n = l.length) (hs : Fds w w.heap.size A l) (hl : n ≤ 9223372036854775807) (hsz : ∀ f ∈ l, f.nm.size ≤ 1000000) :
    Calls Try.prog 12 #[.agg #[.slice A n c, .int .i64 x], .string p] w fun e w' => e = .returned (.tuple #[.int .i64 ((findGo (fun f => pathOf l f.id) p l).getD 0), .bool (findGo (fun f => pathOf l f.id) p l).isSome]) ∧ Below w.heap.size w w' := by
  have HN := Lib.hid hn
  have HS := Lib.hid hs
  have HM := Lib.hid hsz
  clear hn hs hsz
  go_enter Try.func12, Try.ntmps12
  go_wp2
  go_loopw [11] (fun j wr => ∃ k : Nat, k ≤ n ∧ j = .int .i64 k ∧ Hid (CB wr w.heap.size 31 [.slice A n c, .int .i64 x]) ∧ Hid (Below w.heap.size w wr) ∧ Hid (findGo (fun f => pathOf l f.id) p (l.drop k) = findGo (fun f => pathOf l f.id) p l)) (fun j _ => n - (intOf j).toNat)
  case atStart => exact ⟨0, by omega, rfl, CB.new _ _ _, al1 _ _, rfl⟩
  case round =>
    obtain ⟨k, hk, rfl, hcb, hbel, hgo⟩ := hrel
    have hz := hcb.out.lt
    by_cases hlt : k < n
    · have i1 : (k : Int) < (n : Int) := by omega
      obtain ⟨f, hf⟩ := getD_of (l := l) (k := k) (by rw [← HN.out]; exact hlt)
      obtain ⟨b, off, rfl, hb, c0, c1, c2, c3⟩ := (HS.out.below hbel.out).one hf
      have hd := Lib.hid (drop_cons hf)
      have d0 := hcb.out.cell 0 rfl
      have d1 := hcb.out.cell 1 rfl
      have HS2 := Lib.hid ((HS.out.below (hbel.out.alloc (by omega) (.cells #[.int .i64 f.id, .string f.nm, .int .i64 f.ty, .int .i64 f.pa] 50))).more (show w.heap.size ≤ (wr.alloc (.cells #[.int .i64 f.id, .string f.nm, .int .i64 f.ty, .int .i64 f.pa] 50)).heap.size by rw [asz]; omega))
      clear hf
      cases hq : sameB (pathOf l f.id) p with
      | true =>
        have q1 : ((pathOf l f.id).toList == p.toList) = true := hq
        have HE := Lib.hid (show findGo (fun f => pathOf l f.id) p l = some f.id by rw [← hgo.out, hd.out, findGo, if_pos hq])
        clear hq
        obtain ⟨pp, hpp⟩ : ∃ pp, pathOf l f.id = pp := ⟨_, rfl⟩
        rw [hpp] at q1
        have HP := Lib.hid hpp
        clear hpp
        go_wp2_with (go_at_call 14; refine (Path_any _ n c x l f.id _ HN.out HS2.out hl HM.out).mono ?_; rintro e w5 ⟨rfl, hb5⟩; rw [HP.out]; have HB5 := Lib.hid hb5; have hcc := (bcell hb5).1 wr.heap.size 0 (by rw [asz]; omega); clear hb5)
        go_ret2
        refine ⟨by rw [HE.out]; rfl, below_step (hbel.out.alloc (by omega) _) (by rw [asz]; omega) HB5.out⟩
      | false =>
        have q1 : ((pathOf l f.id).toList == p.toList) = false := hq
        have HE := Lib.hid (show findGo (fun f => pathOf l f.id) p (l.drop (k + 1)) = findGo (fun f => pathOf l f.id) p l by rw [← hgo.out, hd.out, findGo, hq]; rfl)
        clear hq
        obtain ⟨pp, hpp⟩ : ∃ pp, pathOf l f.id = pp := ⟨_, rfl⟩
        rw [hpp] at q1
        have HP := Lib.hid hpp
        clear hpp
        go_wp2_with (go_at_call 14; refine (Path_any _ n c x l f.id _ HN.out HS2.out hl HM.out).mono ?_; rintro e w5 ⟨rfl, hb5⟩; rw [HP.out]; have HB5 := Lib.hid hb5; clear hb5)
        go_roundw
        case rel => exact ⟨k + 1, by omega, by go_num, (hcb.out.alloc _).up HB5.out, below_step (hbel.out.alloc (by omega) _) (by rw [asz]; omega) HB5.out, HE.out⟩
        case measure => simp [intOf]; omega
    · have i1 : ¬ (k : Int) < (n : Int) := by omega
      have HE := Lib.hid (show findGo (fun f => pathOf l f.id) p l = none by rw [← hgo.out, List.drop_of_length_le (by rw [← HN.out]; omega), findGo])
      go_wp2
      go_ret2
      exact ⟨by rw [HE.out]; rfl, hbel.out⟩

theorem leaf_yes {l : List Fd} {k : Nat} {f : Fd} (h : l.take (k + 1) = l.take k ++ [f]) (ht : f.ty = 6) : leafL (l.take (k + 1)) = leafL (l.take k) := by
  unfold leafL
  rw [h, List.filter_append]
  simp [ht]
theorem leaf_no {l : List Fd} {k : Nat} {f : Fd} (h : l.take (k + 1) = l.take k ++ [f]) (ht : ¬ f.ty = 6) : leafL (l.take (k + 1)) = leafL (l.take k) ++ [f.id] := by
  unfold leafL
  rw [h, List.filter_append]
  simp [ht]
theorem leaf_len (l : List Fd) : (leafL l).length ≤ l.length := by
  unfold leafL
  rw [List.length_map]
  exact List.length_filter_le _ _

/-- whether a schema is valid, as the program looks -/
def vldP (s : Sc) : Bool := decide (s.fs.length ≤ 64 ∧ s.next ≤ 1073741824) && numGo s.next 0 s.fs && typsB s.fs && plcsB s.fs && namGo [] s.fs
theorem Fds.up1 {w : World} {A : Option Addr} {l : List Fd} (h : Fds w w.heap.size A l) {w' : World} (hb : Below w.heap.size w w') : Fds w' w'.heap.size A l := h.up hb
set_option maxHeartbeats 1000000 in
set_option maxRecDepth 20000 in
theorem Valid_sc (A : Option Addr) (n c : Nat) (x : Int) (l : List Fd) (w : World) (hn : n = l.length) (hc : n ≤ c) (hs : Fds w w.heap.size A l) (hl : c ≤ 9223372036854775807) (hsz : ∀ f ∈ l, f.nm.size ≤ 9223372036854775807) :
    Calls Try.prog 15 #[.agg #[.slice A n c, .int .i64 x]] w fun e w' => e = .returned (.bool (vldP ⟨l, x⟩)) ∧ Below w.heap.size w w' := by
  have HN := Lib.hid hn
  have HS := Lib.hid hs
  have HM := Lib.hid hsz
  have hn2 : n ≤ 9223372036854775807 := by omega
  clear hn hs hsz
  obtain ⟨z1, h1⟩ : ∃ z, decide (n ≤ 64 ∧ x ≤ 1073741824) = z := ⟨_, rfl⟩
  obtain ⟨z2, h2⟩ : ∃ z, numGo x 0 l = z := ⟨_, rfl⟩
  obtain ⟨z3, h3⟩ : ∃ z, typsB l = z := ⟨_, rfl⟩
  obtain ⟨z4, h4⟩ : ∃ z, plcsB l = z := ⟨_, rfl⟩
  obtain ⟨z5, h5⟩ : ∃ z, namGo [] l = z := ⟨_, rfl⟩
  have HE : Hid (vldP ⟨l, x⟩ = (z1 && z2 && z3 && z4 && z5)) := by show _ = _; unfold vldP; simp only; rw [← HN.out, h1, h2, h3, h4, h5]
  have H1 := Lib.hid h1
  have H2 := Lib.hid h2
  have H3 := Lib.hid h3
  have H4 := Lib.hid h4
  have H5 := Lib.hid h5
  clear h1 h2 h3 h4 h5
  cases z1 with
  | false =>
    go_enter Try.func15, Try.ntmps15
    go_wp2_with (first | (go_at_call 28; refine (limited_any _ n c x false _ H1.out hn2).mono ?_; rintro e w1 ⟨rfl, hb1⟩; have HB1 := Lib.hid ((al1 w _).trans (hb1.mono (by rw [asz]; omega))); have d0 := ((CB.new w 31 [.slice A n c, .int .i64 x]).up hb1).cell 0 rfl; have d1 := ((CB.new w 31 [.slice A n c, .int .i64 x]).up hb1).cell 1 rfl; have HC1 := Lib.hid ((CB.new w 31 [.slice A n c, .int .i64 x]).up hb1); clear hb1) | (go_at_call 32; refine (numbered_any _ n c x l _ HN.out (HS.out.up HB1.out) hn2).mono ?_; rintro e w2 ⟨rfl, hb2⟩; rw [H2.out]; have HB2 := Lib.hid (below_step HB1.out HB1.out.size hb2); have d0 := (HC1.out.up hb2).cell 0 rfl; have d1 := (HC1.out.up hb2).cell 1 rfl; have HC2 := Lib.hid (HC1.out.up hb2); clear hb2) | (go_at_call 33; refine (typed_any _ n c l _ HN.out (HS.out.up HB2.out) hn2).mono ?_; rintro e w3 ⟨rfl, hb3⟩; rw [H3.out]; have HB3 := Lib.hid (below_step HB2.out HB2.out.size hb3); have d0 := (HC2.out.up hb3).cell 0 rfl; have d1 := (HC2.out.up hb3).cell 1 rfl; have HC3 := Lib.hid (HC2.out.up hb3); clear hb3) | (go_at_call 26; refine (placed_any _ n c l _ HN.out (HS.out.up HB3.out) hn2).mono ?_; rintro e w4 ⟨rfl, hb4⟩; rw [H4.out]; have HB4 := Lib.hid (below_step HB3.out HB3.out.size hb4); have d0 := (HC3.out.up hb4).cell 0 rfl; clear hb4) | (go_at_call 27; refine (named_any _ n c l _ HN.out hc (HS.out.up HB4.out) hl HM.out).mono ?_; rintro e w5 ⟨rfl, hb5⟩; rw [H5.out]; have HB5 := Lib.hid (below_step HB4.out HB4.out.size hb5); clear hb5))
    go_ret
    exact ⟨by rw [HE.out]; rfl, HB1.out⟩
  | true =>
    cases z2 with
    | false =>
      go_enter Try.func15, Try.ntmps15
      go_wp2_with (first | (go_at_call 28; refine (limited_any _ n c x true _ H1.out hn2).mono ?_; rintro e w1 ⟨rfl, hb1⟩; have HB1 := Lib.hid ((al1 w _).trans (hb1.mono (by rw [asz]; omega))); have d0 := ((CB.new w 31 [.slice A n c, .int .i64 x]).up hb1).cell 0 rfl; have d1 := ((CB.new w 31 [.slice A n c, .int .i64 x]).up hb1).cell 1 rfl; have HC1 := Lib.hid ((CB.new w 31 [.slice A n c, .int .i64 x]).up hb1); clear hb1) | (go_at_call 32; refine (numbered_any _ n c x l _ HN.out (HS.out.up HB1.out) hn2).mono ?_; rintro e w2 ⟨rfl, hb2⟩; rw [H2.out]; have HB2 := Lib.hid (below_step HB1.out HB1.out.size hb2); have d0 := (HC1.out.up hb2).cell 0 rfl; have d1 := (HC1.out.up hb2).cell 1 rfl; have HC2 := Lib.hid (HC1.out.up hb2); clear hb2) | (go_at_call 33; refine (typed_any _ n c l _ HN.out (HS.out.up HB2.out) hn2).mono ?_; rintro e w3 ⟨rfl, hb3⟩; rw [H3.out]; have HB3 := Lib.hid (below_step HB2.out HB2.out.size hb3); have d0 := (HC2.out.up hb3).cell 0 rfl; have d1 := (HC2.out.up hb3).cell 1 rfl; have HC3 := Lib.hid (HC2.out.up hb3); clear hb3) | (go_at_call 26; refine (placed_any _ n c l _ HN.out (HS.out.up HB3.out) hn2).mono ?_; rintro e w4 ⟨rfl, hb4⟩; rw [H4.out]; have HB4 := Lib.hid (below_step HB3.out HB3.out.size hb4); have d0 := (HC3.out.up hb4).cell 0 rfl; clear hb4) | (go_at_call 27; refine (named_any _ n c l _ HN.out hc (HS.out.up HB4.out) hl HM.out).mono ?_; rintro e w5 ⟨rfl, hb5⟩; rw [H5.out]; have HB5 := Lib.hid (below_step HB4.out HB4.out.size hb5); clear hb5))
      go_ret
      exact ⟨by rw [HE.out]; rfl, HB2.out⟩
    | true =>
      cases z3 with
      | false =>
        go_enter Try.func15, Try.ntmps15
        go_wp2_with (first | (go_at_call 28; refine (limited_any _ n c x true _ H1.out hn2).mono ?_; rintro e w1 ⟨rfl, hb1⟩; have HB1 := Lib.hid ((al1 w _).trans (hb1.mono (by rw [asz]; omega))); have d0 := ((CB.new w 31 [.slice A n c, .int .i64 x]).up hb1).cell 0 rfl; have d1 := ((CB.new w 31 [.slice A n c, .int .i64 x]).up hb1).cell 1 rfl; have HC1 := Lib.hid ((CB.new w 31 [.slice A n c, .int .i64 x]).up hb1); clear hb1) | (go_at_call 32; refine (numbered_any _ n c x l _ HN.out (HS.out.up HB1.out) hn2).mono ?_; rintro e w2 ⟨rfl, hb2⟩; rw [H2.out]; have HB2 := Lib.hid (below_step HB1.out HB1.out.size hb2); have d0 := (HC1.out.up hb2).cell 0 rfl; have d1 := (HC1.out.up hb2).cell 1 rfl; have HC2 := Lib.hid (HC1.out.up hb2); clear hb2) | (go_at_call 33; refine (typed_any _ n c l _ HN.out (HS.out.up HB2.out) hn2).mono ?_; rintro e w3 ⟨rfl, hb3⟩; rw [H3.out]; have HB3 := Lib.hid (below_step HB2.out HB2.out.size hb3); have d0 := (HC2.out.up hb3).cell 0 rfl; have d1 := (HC2.out.up hb3).cell 1 rfl; have HC3 := Lib.hid (HC2.out.up hb3); clear hb3) | (go_at_call 26; refine (placed_any _ n c l _ HN.out (HS.out.up HB3.out) hn2).mono ?_; rintro e w4 ⟨rfl, hb4⟩; rw [H4.out]; have HB4 := Lib.hid (below_step HB3.out HB3.out.size hb4); have d0 := (HC3.out.up hb4).cell 0 rfl; clear hb4) | (go_at_call 27; refine (named_any _ n c l _ HN.out hc (HS.out.up HB4.out) hl HM.out).mono ?_; rintro e w5 ⟨rfl, hb5⟩; rw [H5.out]; have HB5 := Lib.hid (below_step HB4.out HB4.out.size hb5); clear hb5))
        go_ret
        exact ⟨by rw [HE.out]; rfl, HB3.out⟩
      | true =>
        cases z4 with
        | false =>
          go_enter Try.func15, Try.ntmps15
          go_wp2_with (first | (go_at_call 28; refine (limited_any _ n c x true _ H1.out hn2).mono ?_; rintro e w1 ⟨rfl, hb1⟩; have HB1 := Lib.hid ((al1 w _).trans (hb1.mono (by rw [asz]; omega))); have d0 := ((CB.new w 31 [.slice A n c, .int .i64 x]).up hb1).cell 0 rfl; have d1 := ((CB.new w 31 [.slice A n c, .int .i64 x]).up hb1).cell 1 rfl; have HC1 := Lib.hid ((CB.new w 31 [.slice A n c, .int .i64 x]).up hb1); clear hb1) | (go_at_call 32; refine (numbered_any _ n c x l _ HN.out (HS.out.up HB1.out) hn2).mono ?_; rintro e w2 ⟨rfl, hb2⟩; rw [H2.out]; have HB2 := Lib.hid (below_step HB1.out HB1.out.size hb2); have d0 := (HC1.out.up hb2).cell 0 rfl; have d1 := (HC1.out.up hb2).cell 1 rfl; have HC2 := Lib.hid (HC1.out.up hb2); clear hb2) | (go_at_call 33; refine (typed_any _ n c l _ HN.out (HS.out.up HB2.out) hn2).mono ?_; rintro e w3 ⟨rfl, hb3⟩; rw [H3.out]; have HB3 := Lib.hid (below_step HB2.out HB2.out.size hb3); have d0 := (HC2.out.up hb3).cell 0 rfl; have d1 := (HC2.out.up hb3).cell 1 rfl; have HC3 := Lib.hid (HC2.out.up hb3); clear hb3) | (go_at_call 26; refine (placed_any _ n c l _ HN.out (HS.out.up HB3.out) hn2).mono ?_; rintro e w4 ⟨rfl, hb4⟩; rw [H4.out]; have HB4 := Lib.hid (below_step HB3.out HB3.out.size hb4); have d0 := (HC3.out.up hb4).cell 0 rfl; clear hb4) | (go_at_call 27; refine (named_any _ n c l _ HN.out hc (HS.out.up HB4.out) hl HM.out).mono ?_; rintro e w5 ⟨rfl, hb5⟩; rw [H5.out]; have HB5 := Lib.hid (below_step HB4.out HB4.out.size hb5); clear hb5))
          go_ret
          exact ⟨by rw [HE.out]; rfl, HB4.out⟩
        | true =>
          cases z5 with
          | false =>
            go_enter Try.func15, Try.ntmps15
            go_wp2_with (first | (go_at_call 28; refine (limited_any _ n c x true _ H1.out hn2).mono ?_; rintro e w1 ⟨rfl, hb1⟩; have HB1 := Lib.hid ((al1 w _).trans (hb1.mono (by rw [asz]; omega))); have d0 := ((CB.new w 31 [.slice A n c, .int .i64 x]).up hb1).cell 0 rfl; have d1 := ((CB.new w 31 [.slice A n c, .int .i64 x]).up hb1).cell 1 rfl; have HC1 := Lib.hid ((CB.new w 31 [.slice A n c, .int .i64 x]).up hb1); clear hb1) | (go_at_call 32; refine (numbered_any _ n c x l _ HN.out (HS.out.up HB1.out) hn2).mono ?_; rintro e w2 ⟨rfl, hb2⟩; rw [H2.out]; have HB2 := Lib.hid (below_step HB1.out HB1.out.size hb2); have d0 := (HC1.out.up hb2).cell 0 rfl; have d1 := (HC1.out.up hb2).cell 1 rfl; have HC2 := Lib.hid (HC1.out.up hb2); clear hb2) | (go_at_call 33; refine (typed_any _ n c l _ HN.out (HS.out.up HB2.out) hn2).mono ?_; rintro e w3 ⟨rfl, hb3⟩; rw [H3.out]; have HB3 := Lib.hid (below_step HB2.out HB2.out.size hb3); have d0 := (HC2.out.up hb3).cell 0 rfl; have d1 := (HC2.out.up hb3).cell 1 rfl; have HC3 := Lib.hid (HC2.out.up hb3); clear hb3) | (go_at_call 26; refine (placed_any _ n c l _ HN.out (HS.out.up HB3.out) hn2).mono ?_; rintro e w4 ⟨rfl, hb4⟩; rw [H4.out]; have HB4 := Lib.hid (below_step HB3.out HB3.out.size hb4); have d0 := (HC3.out.up hb4).cell 0 rfl; clear hb4) | (go_at_call 27; refine (named_any _ n c l _ HN.out hc (HS.out.up HB4.out) hl HM.out).mono ?_; rintro e w5 ⟨rfl, hb5⟩; rw [H5.out]; have HB5 := Lib.hid (below_step HB4.out HB4.out.size hb5); clear hb5))
            go_ret
            exact ⟨by rw [HE.out]; rfl, HB5.out⟩
          | true =>
            go_enter Try.func15, Try.ntmps15
            go_wp2_with (first | (go_at_call 28; refine (limited_any _ n c x true _ H1.out hn2).mono ?_; rintro e w1 ⟨rfl, hb1⟩; have HB1 := Lib.hid ((al1 w _).trans (hb1.mono (by rw [asz]; omega))); have d0 := ((CB.new w 31 [.slice A n c, .int .i64 x]).up hb1).cell 0 rfl; have d1 := ((CB.new w 31 [.slice A n c, .int .i64 x]).up hb1).cell 1 rfl; have HC1 := Lib.hid ((CB.new w 31 [.slice A n c, .int .i64 x]).up hb1); clear hb1) | (go_at_call 32; refine (numbered_any _ n c x l _ HN.out (HS.out.up HB1.out) hn2).mono ?_; rintro e w2 ⟨rfl, hb2⟩; rw [H2.out]; have HB2 := Lib.hid (below_step HB1.out HB1.out.size hb2); have d0 := (HC1.out.up hb2).cell 0 rfl; have d1 := (HC1.out.up hb2).cell 1 rfl; have HC2 := Lib.hid (HC1.out.up hb2); clear hb2) | (go_at_call 33; refine (typed_any _ n c l _ HN.out (HS.out.up HB2.out) hn2).mono ?_; rintro e w3 ⟨rfl, hb3⟩; rw [H3.out]; have HB3 := Lib.hid (below_step HB2.out HB2.out.size hb3); have d0 := (HC2.out.up hb3).cell 0 rfl; have d1 := (HC2.out.up hb3).cell 1 rfl; have HC3 := Lib.hid (HC2.out.up hb3); clear hb3) | (go_at_call 26; refine (placed_any _ n c l _ HN.out (HS.out.up HB3.out) hn2).mono ?_; rintro e w4 ⟨rfl, hb4⟩; rw [H4.out]; have HB4 := Lib.hid (below_step HB3.out HB3.out.size hb4); have d0 := (HC3.out.up hb4).cell 0 rfl; clear hb4) | (go_at_call 27; refine (named_any _ n c l _ HN.out hc (HS.out.up HB4.out) hl HM.out).mono ?_; rintro e w5 ⟨rfl, hb5⟩; rw [H5.out]; have HB5 := Lib.hid (below_step HB4.out HB4.out.size hb5); clear hb5))
            go_ret
            exact ⟨by rw [HE.out]; rfl, HB5.out⟩
end Go.Proofs.Ytiafcdaephcfeaa
