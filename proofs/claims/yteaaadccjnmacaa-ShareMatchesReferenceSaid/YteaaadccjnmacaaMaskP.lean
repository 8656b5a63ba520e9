/-
  The program's maskAt: a range over slices.Backward. By contracts.
-/
import Derived.Test.YteaaadccjnmacaaNewF
import Derived.Test.YteaaadccjnmacaaPoly
import Derived.RangeFuncNested
import Derived.RangeFuncBound
import Derived.RangeFuncCalls
import Derived.RangeFuncLeaves
import Derived.Shelf.Abstract
import Derived.Shelf.RegionOpen
import Derived.OwnWalkIn
import Derived.TacticsInMore
import Derived.LoopNIn
import Derived.LoopIn
namespace Go.Proofs.Yteaaadccjnmacaa
open Go.RowKit Go.Shelf
attribute [local go_sem] Oper.semAt_some u8_xor

def upto {α : Type} (f : Nat → α) (k : Nat) : List α := (List.range k).map f
theorem upto_succ {α : Type} (f : Nat → α) (k : Nat) : upto f (k + 1) = upto f k ++ [f k] := by simp [upto, List.range_succ]
theorem upto_length {α : Type} (f : Nat → α) (k : Nat) : (upto f k).length = k := by simp [upto]
/-- what comes in round j -/
def backAt (c : List UInt8) (j : Nat) : Nat × UInt8 := (c.length - 1 - j, byte c (c.length - 1 - j))

/-- what a round keeps: all below n, and the iterator's own box -/
structure KB (n Bs : Nat) (W W' : World) : Prop where
  bel : Below n W W'
  box : W'.heap[Bs]? = W.heap[Bs]?
theorem KB.refl (n Bs : Nat) (W : World) : KB n Bs W W := ⟨Below.refl _ _, rfl⟩
theorem KB.trans {n Bs : Nat} {A B C : World} (h : KB n Bs A B) (k : KB n Bs B C) : KB n Bs A C := ⟨h.bel.trans k.bel, k.box.trans h.box⟩
theorem KB.cell {n Bs : Nat} {A B : World} (h : KB n Bs A B) : B.cell? ⟨Bs, 0, none⟩ = A.cell? ⟨Bs, 0, none⟩ := by
  unfold World.cell?
  simp only [h.box]
theorem kb_put {n Bs : Nat} {w : World} (hn : n ≤ w.heap.size) (hB : Bs < w.heap.size) (W : World) (l : Nat) (o o' : Obj) (hl : w.heap.size ≤ l) (ho : W.heap[l]? = some o) (hc : o.isCells = false) (hw : o.isWalk = false) : KB n Bs W (W.putObj l o') := by
  refine ⟨belowK_b hn W l o o' hl ho hc hw, ?_⟩
  have hlt := (Array.getElem?_eq_some_iff.1 ho).1
  exact (grownBy_putObj' W l o').block Bs (by omega) (by simp; omega)

set_option maxRecDepth 100000 in
set_option maxHeartbeats 2000000 in
theorem back1_in (F : Fence) (n : Nat) (hf : F.fn 39) (hro : F.round = none) (hn : 1 ≤ n) (l Bs n₀ cap : Nat) (A : Option Addr) (c : List UInt8) (hreach : c.length ≤ 140737488351232) (J Jx : List (Nat × UInt8) → World → Prop)
    (hY : ∀ pre x W, J pre W → pre.length < c.length → YieldAt F (n - 1) Try.prog l #[.int .i64 (x.1 : Int), .int .u8 (x.2.toNat : Int)] W fun e W' =>
      (e = .returned (.bool true) ∧ J (pre ++ [x]) W' ∧ KB n₀ Bs W W') ∨ (e = .returned (.bool false) ∧ Jx (pre ++ [x]) W'))
    (W : World) (hBs : W.cell? ⟨Bs, 0, none⟩ = some (.slice A c.length cap)) (hc : Shows W n₀ A c) (h0 : J [] W) :
    CallsIn F n Try.prog 39 #[.func (.yield l) #[] #[], .pointer (some ⟨Bs, 0, none⟩)] W fun e W' => (∃ v, e = .returned v) ∧
      ((∃ ys, ys = upto (backAt c) c.length ∧ J ys W') ∨ (∃ pre, (∃ k, k ≤ c.length ∧ pre = upto (backAt c) k) ∧ Jx pre W')) := by
  refine callsIn_of_wp Try.func39 rfl hf ?_ hro
  simp only [Try.ntmps39, List.size_toArray, List.length_cons, List.length_nil, Nat.reduceAdd, Nat.reduceSub, Array.replicate_succ, Array.replicate_zero, List.push_toArray, List.append_toArray, List.nil_append, List.cons_append]
  obtain ⟨N, hN⟩ : ∃ N, N = c.length := ⟨_, rfl⟩
  have HN := Lib.hid hN
  rw [← hN] at hBs hreach ⊢
  clear hN
  have HY := Lib.hid hY
  have HC := Lib.hid hc
  clear hY hc
  gi_wp2
  gi_loopw [3] (fun i wr => ∃ k m : Nat, k + m = N ∧ i = .int .i64 ((m : Int) - 1) ∧ J (upto (backAt c) k) wr ∧ Hid (KB n₀ Bs W wr))
    (fun i _ => ((intOf i) + 1).toNat)
  case atStart => exact ⟨0, N, by omega, rfl, h0, KB.refl _ _ _⟩
  case round =>
    obtain ⟨k, m, hk, rfl, hJs, hnx⟩ := hrel
    cases m with
    | zero =>
      gi_wp2
      go_end0
      exact ⟨⟨_, rfl⟩, .inl ⟨_, by rw [show N = k by omega], hJs⟩⟩
    | succ m =>
      have e : (((m + 1 : Nat) : Int) - 1) = (m : Int) := by omega
      rw [e]
      have hm : m < c.length := by have := HN.out; omega
      obtain ⟨b, off, rfl, hb, hcell⟩ := HC.out (by omega)
      have hcx : wr.cell? ⟨b, off + m, none⟩ = some (.int .u8 ((byte c m).toNat : Int)) := (hnx.out.bel.cell (p := ⟨b, off + m, none⟩) hb).trans (hcell m _ (byte_get hm))
      have hbx : wr.cell? ⟨Bs, 0, none⟩ = some (.slice (some ⟨b, off, none⟩) N cap) := hnx.out.cell.trans hBs
      obtain ⟨fn, tmps, assign, body, hy, hR⟩ := HY.out _ (m, byte c m) wr hJs (by rw [upto_length]; have := HN.out; omega)
      have hfk : backAt c k = (m, byte c m) := by
        unfold backAt
        rw [show c.length - 1 - k = m by have := HN.out; omega]
      dsimp only at hy
      have i0 : 0 ≤ (m : Int) := by omega
      have i1 : (m : Int) < (N : Int) := by omega
      clear hcell hm
      gi_wp2
      refine hR.mono ?_
      rintro e W3 (⟨rfl, hJ3, hk3⟩ | ⟨rfl, hJx3⟩)
      · gi_wp2
        go_roundw
        case rel => exact ⟨k + 1, m, by omega, (by first | rfl | go_num), by rw [upto_succ, hfk]; exact hJ3, hnx.out.trans hk3⟩
        case measure => simp [intOf]
      · gi_wp2
        refine bodyPost_ret (results_none rfl _ _ _) rfl ?_
        exact ⟨⟨_, rfl⟩, .inr ⟨_, ⟨k + 1, by have := HN.out; omega, by rw [upto_succ, hfk]⟩, hJx3⟩⟩

set_option maxHeartbeats 1000000 in
theorem back_in (F : Fence) (n : Nat) (hf : F.fn 38) (hro : F.round = none) (a : Option Addr) (len cap : Nat) (w : World) :
    CallsIn F n Try.prog 38 #[.slice a len cap] w fun e w' => e = .returned (.func (.func 39) #[] #[.pointer (some ⟨w.heap.size, 0, none⟩)]) ∧ w' = w.alloc (.cells #[.slice a len cap] 22) := by
  refine callsIn_of_wp Try.func38 rfl hf ?_ hro
  simp only [Try.ntmps38, List.size_toArray, List.length_cons, List.length_nil, Nat.reduceAdd, Nat.reduceSub, Array.replicate_succ, Array.replicate_zero, List.push_toArray, List.append_toArray, List.nil_append, List.cons_append]
  gi_wp2
  go_ret
  exact ⟨rfl, rfl⟩

theorem back_stops (F : Fence) (n : Nat) (hf : F.fn 39) (hro : F.round = none) (hn : 1 ≤ n) (Bs n₀ cap : Nat) (A : Option Addr) (c : List UInt8) (hreach : c.length ≤ 140737488351232) (w : World) (hBs : Bs < w.heap.size) (hn₀ : n₀ ≤ w.heap.size)
    (hc : w.cell? ⟨Bs, 0, none⟩ = some (.slice A c.length cap)) (hI : Shows w n₀ A c) :
    SeqStopsK F n Try.prog 39 #[.pointer (some ⟨Bs, 0, none⟩)] (fun x : Nat × UInt8 => #[Value.int .i64 (x.1 : Int), Value.int .u8 (x.2.toNat : Int)]) (KB n₀ Bs) (fun ys => ys = upto (backAt c) c.length)
      (fun pre => ∃ k, k ≤ c.length ∧ pre = upto (backAt c) k) c.length w := fun l J Jx W hW _ _ hY h0 => by
  have hc' := (hW.cell (p := ⟨Bs, 0, none⟩) hBs).trans hc
  exact back1_in F n hf hro hn l Bs n₀ cap A c hreach J Jx hY W hc' (hI.below (hW.mono hn₀)) h0

/-- the value at x of the polynomial with the coefficients c of x^1, x^2, .. -/
def maskV (x : UInt8) (c : List UInt8) : UInt8 := c.foldr (fun a y => gmul (y ^^^ a) x) 0
def maskF (x : UInt8) (pre : List (Nat × UInt8)) : UInt8 := pre.foldl (fun y p => gmul (y ^^^ p.2) x) 0
theorem maskF_snoc (x : UInt8) (pre : List (Nat × UInt8)) (p : Nat × UInt8) : maskF x (pre ++ [p]) = gmul (maskF x pre ^^^ p.2) x := by simp [maskF]
theorem maskF_all (x : UInt8) (c : List UInt8) : maskF x (upto (backAt c) c.length) = maskV x c := by
  have h : (upto (backAt c) c.length).map (·.2) = c.reverse := by
    apply List.ext_getElem?
    intro i
    unfold upto
    rw [List.map_map, List.getElem?_map]
    by_cases hi : i < c.length
    · rw [List.getElem?_range hi, List.getElem?_reverse hi]
      simp only [Option.map_some, Function.comp, backAt]
      exact (byte_get (by omega)).symm
    · rw [List.getElem?_eq_none (by simp; omega), List.getElem?_eq_none (by simp; omega)]
      rfl
  unfold maskF maskV
  rw [← List.foldl_reverse, ← h, List.foldl_map]
theorem maskV_ev (x : UInt8) (c : List UInt8) : maskV x c = gmul (ev c x) x := by
  induction c with
  | nil => simp [maskV, ev, zero_gmul]
  | cons a c ih => simp only [maskV, List.foldr_cons, ev] at ih ⊢; rw [ih]

theorem keeps_drewN (W : World) (n : Nat) : KeepsOthers W (W.drewN n) := ⟨Nat.le_refl _, fun _ _ h _ => h⟩

set_option maxRecDepth 100000 in
set_option maxHeartbeats 4000000 in
theorem maskAt_any (x : UInt8) (A : Option Addr) (cap : Nat) (c : List UInt8) (g : Nat) (w : World) (hF : FB w g) (hc : Shows w w.heap.size A c) (hreach : c.length ≤ 140737488351232) :
    Calls Try.prog 35 #[.int .u8 (x.toNat : Int), .slice A c.length cap, .func (.func 27) #[.pointer (some ⟨g, 0, none⟩)] #[]] w fun e w' => e = .returned (.int .u8 ((maskV x c).toNat : Int)) ∧ Below w.heap.size w w' := by
  refine (callsIn_wide (n := 6)).1 ?_
  have HF := Lib.hid hF
  have HC := Lib.hid hc
  clear hF hc
  refine callsIn_of_wp_marks Try.func35 rfl trivial ?_ rfl
  simp only [Try.ntmps35, List.size_toArray, List.length_cons, List.length_nil, Nat.reduceAdd, Nat.reduceSub, Array.replicate_succ, Array.replicate_zero, List.push_toArray, List.append_toArray, List.nil_append, List.cons_append]
  gi_wp2_with (refine ⟨trivial, ?_⟩; gi_at_call 38; refine (back_in Fence.wide (6 - 1) trivial rfl _ _ _ _).mono ?_; rintro e w' ⟨rfl, rfl⟩)
  have z : ∀ (w : World) (o : Obj), (w.alloc o).heap.size = w.heap.size + 1 := fun w o => by simp
  have b1 := Boxed.new w 5 (.int .u8 (x.toNat : Int))
  have b2 := Boxed.new (w.alloc (.cells #[.int .u8 (x.toNat : Int)] 5)) 46 (.func (.func 27) #[.pointer (some ⟨g, 0, none⟩)] #[])
  have b3 := Boxed.new ((w.alloc (.cells #[.int .u8 (x.toNat : Int)] 5)).alloc (.cells #[.func (.func 27) #[.pointer (some ⟨g, 0, none⟩)] #[]] 46)) 5 (.int .u8 0)
  have b4 := Boxed.new (((w.alloc (.cells #[.int .u8 (x.toNat : Int)] 5)).alloc (.cells #[.func (.func 27) #[.pointer (some ⟨g, 0, none⟩)] #[]] 46)).alloc (.cells #[.int .u8 0] 5)) 22 (.slice A c.length cap)
  have c1 := ((b1.alloc (.cells #[.func (.func 27) #[.pointer (some ⟨g, 0, none⟩)] #[]] 46)).alloc (.cells #[.int .u8 0] 5)).alloc (.cells #[.slice A c.length cap] 22)
  have c2 := (b2.alloc (.cells #[.int .u8 0] 5)).alloc (.cells #[.slice A c.length cap] 22)
  have c3 := b3.alloc (.cells #[.slice A c.length cap] 22)
  have hb : Below w.heap.size w ((((w.alloc (.cells #[.int .u8 (x.toNat : Int)] 5)).alloc (.cells #[.func (.func 27) #[.pointer (some ⟨g, 0, none⟩)] #[]] 46)).alloc (.cells #[.int .u8 0] 5)).alloc (.cells #[.slice A c.length cap] 22)) :=
    (((below_alloc _).alloc (by rw [z]; omega) _).alloc (by rw [z, z]; omega) _).alloc (by rw [z, z, z]; omega) _
  rw [z, z] at b3
  rw [z, z, z] at b4
  rw [z] at b2 c2
  rw [z, z] at c3
  have hsz : ((((w.alloc (.cells #[.int .u8 (x.toNat : Int)] 5)).alloc (.cells #[.func (.func 27) #[.pointer (some ⟨g, 0, none⟩)] #[]] 46)).alloc (.cells #[.int .u8 0] 5)).alloc (.cells #[.slice A c.length cap] 22)).heap.size = w.heap.size + 1 + 1 + 1 + 1 := by rw [z, z, z, z]
  generalize ((((w.alloc (.cells #[.int .u8 (x.toNat : Int)] 5)).alloc (.cells #[.func (.func 27) #[.pointer (some ⟨g, 0, none⟩)] #[]] 46)).alloc (.cells #[.int .u8 0] 5)).alloc (.cells #[.slice A c.length cap] 22)) = w0 at c1 c2 c3 b4 hb hsz ⊢
  clear b1 b2 b3
  refine wpIn_rangeFunc_ownG rfl (by decide) (gf := 39) (lb := #[.pointer (some ⟨w.heap.size + 1 + 1 + 1, 0, none⟩)]) rfl trivial (enters_of Try.func39 (by kernel_rfl) rfl)
    (back_stops Fence.wide (6 - 1) trivial rfl (by omega) (w.heap.size + 1 + 1 + 1) w.heap.size cap A c hreach w0 (by rw [hsz]; omega) (by rw [hsz]; omega) b4.cell (HC.out.below hb)) KB.trans (kb_put (by rw [hsz]; omega) (by rw [hsz]; omega)) (Below.refl _ _) (fun _ => rfl)
    (fun pre W => (W.cell? ⟨w.heap.size + 1 + 1, 0, none⟩ = some (.int .u8 ((maskF x pre).toNat : Int)) ∧ W.frozen? ⟨w.heap.size + 1 + 1, 0, none⟩ = false ∧ W.cell? ⟨w.heap.size, 0, none⟩ = some (.int .u8 (x.toNat : Int)) ∧ W.cell? ⟨w.heap.size + 1, 0, none⟩ = some (.func (.func 27) #[.pointer (some ⟨g, 0, none⟩)] #[])) ∧ Below w.heap.size w W)
    (fun _ _ _ => False)
    (OwnFrom.and (Own.from (fun s A B row hs hg hr => ⟨cell_kept hs.1 hg hr, (frozen_kept hs.1 hg hr).trans hs.2.1, cell_kept hs.2.2.1 hg hr, cell_kept hs.2.2.2 hg hr⟩) _) (ownFrom_below (Nat.le_refl _) (by rw [hsz]; omega)))
    (fun _ _ _ _ _ hs _ _ => hs)
    ⟨⟨c3.cell, c3.frozen, c1.cell, c2.cell⟩, hb⟩
    (fun p => { tmps := #[.int .u8 (x.toNat : Int), .slice A c.length cap, .func (.func 27) #[.pointer (some ⟨g, 0, none⟩)] #[], .pointer (some ⟨w.heap.size, 0, none⟩), undef, .pointer (some ⟨w.heap.size + 1, 0, none⟩), .int .u8 0, .pointer (some ⟨w.heap.size + 1 + 1, 0, none⟩), undef, .int .u8 (p.2.toNat : Int), .slice A c.length cap, .func (.func 39) #[] #[.pointer (some ⟨w.heap.size + 1 + 1 + 1, 0, none⟩)], .int .i64 (p.1 : Int), .int .u8 (p.2.toNat : Int), undef, undef, undef, undef, undef, undef, undef], defers := [] }) ?assign ?body ?done ?stop
  case assign =>
    intro l x W K hK
    gi_wp2
    exact hK
  case body =>
    rintro l pre p W ⟨⟨hc, hf, hx, hm⟩, hB⟩ _
    have hFW := Lib.hid (HF.out.below hB HF.out.lt)
    gi_wp2_with (refine ⟨trivial, ?_⟩; gi_at_call 27; refine (CallsIn.inRound l (callsIn_wide.2 (mul_is g (maskF x pre ^^^ p.2) x _ _ W (xor_nat _ _) rfl hFW.out))).mono ?_; rintro e w' ⟨rfl, m, rfl⟩)
    have hk : KeepsOthers W ((W.drewN m).setCell ⟨w.heap.size + 1 + 1, 0, none⟩ (.int .u8 ((gmul (maskF x pre ^^^ p.2) x).toNat : Int))) := (keeps_drewN W m).trans (KeepsOthers.setCell _ _ _)
    have hd := below_drewN (Below.refl w.heap.size W) m
    have hbx : Below w.heap.size W ((W.drewN m).setCell ⟨w.heap.size + 1 + 1, 0, none⟩ (.int .u8 ((gmul (maskF x pre ^^^ p.2) x).toNat : Int))) := hd.setCell (p := ⟨w.heap.size + 1 + 1, 0, none⟩) (by show w.heap.size ≤ w.heap.size + 1 + 1; omega) _
    refine ⟨hk.from _, ⟨hbx, ?_⟩, ⟨?_, ?_, ?_, ?_⟩, hB.trans hbx⟩
    · exact Below.heap_setCell (W.drewN m) _ _ _ (by show w.heap.size + 1 + 1 + 1 ≠ w.heap.size + 1 + 1; omega)
    · rw [maskF_snoc]
      exact World.cell?_setCell_same' _ _ _ (by show (W.cell? _).isSome = true; rw [hc]; rfl)
    · rw [World.frozen?_setCell]
      exact hf
    · exact (World.cell?_setCell_other _ _ _ _ (fun e => by have := congrArg Addr.block e; simp at this; omega)).trans hx
    · exact (World.cell?_setCell_other _ _ _ _ (fun e => by have := congrArg Addr.block e; simp at this)).trans hm
  case done =>
    rintro D ys W hD rfl ⟨⟨hc, _⟩, hB⟩ hK
    rw [maskF_all] at hc
    gi_wp2
    refine ⟨by simp, .inl ⟨_, _, rfl, run_takeDeferred hK, ?_⟩⟩
    exact ⟨_, results_tmp rfl _ _ _, rfl, hB.trans (belowK_b (w := w) (Nat.le_refl _) W D _ _ (by omega) hK rfl rfl)⟩
  case stop =>
    rintro D c pre W _ _ h _
    exact h.elim
theorem maskAt_is (x : UInt8) (A : Option Addr) (n cap : Nat) (c : List UInt8) (g : Nat) (z : Int) (w : World) (hz : z = (x.toNat : Int)) (hn : n = c.length) (hF : FB w g) (hc : Shows w w.heap.size A c) (hreach : c.length ≤ 140737488351232) :
    Calls Try.prog 35 #[.int .u8 z, .slice A n cap, .func (.func 27) #[.pointer (some ⟨g, 0, none⟩)] #[]] w fun e w' => e = .returned (.int .u8 ((maskV x c).toNat : Int)) ∧ Below w.heap.size w w' := by
  subst hz hn
  exact maskAt_any x A cap c g w hF hc hreach
end Go.Proofs.Yteaaadccjnmacaa
