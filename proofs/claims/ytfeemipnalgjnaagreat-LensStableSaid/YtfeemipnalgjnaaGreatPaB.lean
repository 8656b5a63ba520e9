/-
 slices.Backward of lenses, pathOf's closure back, by contracts.
-/
import Derived.Test.YtfeemipnalgjnaaGreatHb
import Derived.Test.YtfeemipnalgjnaaGreatPaF
import Derived.Test.YtfeemipnalgjnaaGreatGF
import Derived.RangeFuncNested
import Derived.RangeFuncBound
import Derived.RangeFuncCalls
import Derived.RangeFuncLeaves
import Derived.Shelf.Abstract
import Derived.Shelf.RegionOpen
import Derived.OwnWalkIn
import Derived.TacticsInMore
import Derived.LoopNIn
import Derived.LoopIn
namespace Go.Proofs.YtfeemipnalgjnaaGreat
open Go.RowKit Go.Shelf
attribute [local go_sem] Oper.semAt_some

/-- the places of a row, last one first -/
def bk (N k : Nat) : List (Fin N) := ((List.finRange N).reverse).take k
theorem bk_len {N k : Nat} (h : k ≤ N) : (bk N k).length = k := by
 unfold bk
 simp
 omega
theorem bk_succ {N k m : Nat} (h : k + (m + 1) = N) : bk N (k + 1) = bk N k ++ [⟨m, by omega⟩] := by
 unfold bk
 rw [List.take_add_one]
 congr 1
 rw [List.getElem?_reverse (by simp; omega)]
 simp only [List.length_finRange]
 rw [show N - 1 - k = m by omega, List.getElem?_eq_getElem (by simp; omega)]
 simp
def LsIn (w : World) (b : Nat) (A : Option Addr) (N : Nat) (fb : Fin N → Value × Value) : Prop := 0 < N → ∃ off, A = some ⟨b, off, none⟩ ∧ b < w.heap.size ∧ ∀ i : Fin N, w.cell? ⟨b, off + i.1 * 2, none⟩ = some (fb i).1 ∧ w.cell? ⟨b, off + i.1 * 2 + 1, none⟩ = some (fb i).2
theorem LsIn.kept {w w' : World} {b Bs N : Nat} {A : Option Addr} {fb : Fin N → Value × Value} (h : LsIn w b A N fb) (hk : KB b Bs w w') : LsIn w' b A N fb := fun hl => by
 obtain ⟨off, e, hlt, hc⟩ := h hl
 refine ⟨off, e, ?_, fun i => ⟨(hk.cellR _).trans (hc i).1, (hk.cellR _).trans (hc i).2⟩⟩
 have h1 : w.heap[b]? = some (w.heap[b]'hlt) := Array.getElem?_eq_getElem hlt
 rw [← hk.row] at h1
 exact (Array.getElem?_eq_some_iff.1 h1).1
def encL {N : Nat} (fb : Fin N → Value × Value) (i : Fin N) : Array Value := #[.int .i64 (i.1 : Int), .agg #[(fb i).1, (fb i).2]]

set_option maxRecDepth 100000 in
set_option maxHeartbeats 2000000 in
theorem backL1_in (F : Fence) (n : Nat) (hf : F.fn 93) (hro : F.round = none) (hn : 1 ≤ n) (y Bs b cap : Nat) (A : Option Addr) (N : Nat) (fb : Fin N → Value × Value) (hreach : N ≤ 140737488351232) (J Jx : List (Fin N) → World → Prop)
  (hY : ∀ pre x W, J pre W → pre.length < N → YieldAt F (n - 1) Tryz.prog y (encL fb x) W fun e W' =>
   (e = .returned (.bool true) ∧ J (pre ++ [x]) W' ∧ KB b Bs W W') ∨ (e = .returned (.bool false) ∧ Jx (pre ++ [x]) W'))
  (W : World) (hBs : W.cell? ⟨Bs, 0, none⟩ = some (.slice A N cap)) (hc : LsIn W b A N fb) (h0 : J [] W) :
  CallsIn F n Tryz.prog 93 #[.func (.yield y) #[] #[], .pointer (some ⟨Bs, 0, none⟩)] W fun e W' => (∃ v, e = .returned v) ∧
   ((∃ ys, ys = bk N N ∧ J ys W') ∨ (∃ pre, (∃ k, k ≤ N ∧ pre = bk N k) ∧ Jx pre W')) := by
 refine callsIn_of_wp Tryz.func93 rfl hf ?_ hro
 simp only [Tryz.ntmps93, List.size_toArray, List.length_cons, List.length_nil, Nat.reduceAdd, Nat.reduceSub, Array.replicate_succ, Array.replicate_zero, List.push_toArray, List.append_toArray, List.nil_append, List.cons_append]
 have HY := Li hY
 have HC := Li hc
 clear hY hc
 gi_wp2
 gi_loopw [3] (fun i wr => ∃ k m : Nat, k + m = N ∧ i = .int .i64 ((m : Int) - 1) ∧ J (bk N k) wr ∧ Hid (KB b Bs W wr))
  (fun i _ => ((intOf i) + 1).toNat)
 case atStart => exact ⟨0, N, by omega, rfl, h0, KB.refl _ _ _⟩
 case round =>
  obtain ⟨k, m, hk, rfl, hJs, hnx⟩ := hrel
  cases m with
  | zero =>
   gi_wp2
   go_end0
   obtain rfl : k = N := by omega
   exact ⟨⟨_, rfl⟩, .inl ⟨_, rfl, hJs⟩⟩
  | succ m =>
   have e : (((m + 1 : Nat) : Int) - 1) = (m : Int) := by omega
   rw [e]
   have hm : m < N := by omega
   obtain ⟨off, rfl, _, hcc⟩ := (HC.out.kept hnx.out) (by omega)
   have hbx : wr.cell? ⟨Bs, 0, none⟩ = some (.slice (some ⟨b, off, none⟩) N cap) := hnx.out.cell.trans hBs
   obtain ⟨fn, tmps, assign, body, hy, hR⟩ := HY.out _ ⟨m, hm⟩ wr hJs (by rw [bk_len (by omega)]; omega)
   have hfk := Li (bk_succ hk)
   have c0 : wr.cell? ⟨b, off + m * 2, none⟩ = some (fb ⟨m, hm⟩).1 := (hcc ⟨m, hm⟩).1
   have c1 : wr.cell? ⟨b, off + m * 2 + 1, none⟩ = some (fb ⟨m, hm⟩).2 := (hcc ⟨m, hm⟩).2
   simp only [encL] at hy
   have i0 : 0 ≤ (m : Int) := by omega
   have i1 : (m : Int) < (N : Int) := by omega
   clear hcc
   gi_wp2
   refine hR.mono ?_
   rintro e W3 (⟨rfl, hJ3, hk3⟩ | ⟨rfl, hJx3⟩)
   ·
    gi_wp2
    go_roundw
    case rel => exact ⟨k + 1, m, by omega, (by first | rfl | go_num), by rw [hfk.out]; exact hJ3, hnx.out.trans hk3⟩
    case measure => simp [intOf]
   ·
    gi_wp2
    refine bodyPost_ret (results_none rfl _ _ _) rfl ?_
    exact ⟨⟨_, rfl⟩, .inr ⟨_, ⟨k + 1, by omega, by rw [hfk.out]⟩, hJx3⟩⟩
set_option maxHeartbeats 1000000 in
theorem backL_in (F : Fence) (n : Nat) (hf : F.fn 77) (hro : F.round = none) (a : Option Addr) (len cap : Nat) (w : World) :
  CallsIn F n Tryz.prog 77 #[.slice a len cap] w fun e w' => e = .returned (.func (.func 93) #[] #[.pointer (some ⟨w.heap.size, 0, none⟩)]) ∧ w' = w.alloc (.cells #[.slice a len cap] 101) := by
 refine callsIn_of_wp Tryz.func77 rfl hf ?_ hro
 simp only [Tryz.ntmps77, List.size_toArray, List.length_cons, List.length_nil, Nat.reduceAdd, Nat.reduceSub, Array.replicate_succ, Array.replicate_zero, List.push_toArray, List.append_toArray, List.nil_append, List.cons_append]
 gi_wp2
 go_ret
 exact ⟨rfl, rfl⟩
theorem backL_stops (F : Fence) (n : Nat) (hf : F.fn 93) (hro : F.round = none) (hn : 1 ≤ n) (Bs b cap : Nat) (A : Option Addr) (N : Nat) (fb : Fin N → Value × Value) (hreach : N ≤ 140737488351232) (w : World) (hBs : Bs < w.heap.size)
  (hc : w.cell? ⟨Bs, 0, none⟩ = some (.slice A N cap)) (hI : LsIn w b A N fb) (hb : b < w.heap.size) :
  SeqStopsK F n Tryz.prog 93 #[.pointer (some ⟨Bs, 0, none⟩)] (encL fb) (KB b Bs) (fun ys => ys = bk N N)
   (fun pre => ∃ k, k ≤ N ∧ pre = bk N k) N w := fun y J Jx W hW _ _ hY h0 => by
 have hc' := (hW.cell (p := ⟨Bs, 0, none⟩) hBs).trans hc
 exact backL1_in F n hf hro hn y Bs b cap A N fb hreach J Jx hY W hc' (hI.kept (Bs := Bs) ⟨hW.block b hb, hW.block Bs hBs⟩) h0

/-- the backs of lenses, last one first -/
def runB : List (Cl × Cl) → List Ce → List Ce
 | [], r => r
 | k :: K, r => k.2.ap (runB K r)
def runX {N : Nat} (kf : Fin N → Cl) (pre : List (Fin N)) (r : List Ce) : List Ce := pre.foldl (fun q i => (kf i).ap q) r
theorem runX_snoc {N : Nat} (kf : Fin N → Cl) (pre : List (Fin N)) (x : Fin N) (r : List Ce) : runX kf (pre ++ [x]) r = (kf x).ap (runX kf pre r) := by
 unfold runX
 rw [List.foldl_append]
 rfl
theorem foldl_rb {N : Nat} (kf : Fin N → Cl) : ∀ (pre : List (Fin N)) (j : Nat) (r : List Ce), RBn j r → RBn (j + pre.length) (pre.foldl (fun q i => (kf i).ap q) r)
 | [], _, _, h => h
 | x :: pre, j, r, h => by
  have := foldl_rb kf pre (j + 1) _ (ap_rb (kf x) h)
  rw [List.length_cons, show j + (pre.length + 1) = j + 1 + pre.length by omega]
  exact this
theorem runX_rb {N : Nat} (kf : Fin N → Cl) (pre : List (Fin N)) (r : List Ce) (h : RBn 0 r) : RBn pre.length (runX kf pre r) := by
 have := foldl_rb kf pre 0 r h
 rw [Nat.zero_add] at this
 exact this
theorem runB_foldr : ∀ (ks : List (Cl × Cl)) (r : List Ce), runB ks r = ks.foldr (fun k q => k.2.ap q) r
 | [], _ => rfl
 | k :: K, r => by
  show k.2.ap (runB K r) = _
  rw [runB_foldr]
  rfl
theorem runX_all (ks : List (Cl × Cl)) (r : List Ce) : runX (fun i : Fin ks.length => (ks[i.1]).2) (bk ks.length ks.length) r = runB ks r := by
 unfold runX bk
 rw [List.take_of_length_le (by simp), List.foldl_reverse, runB_foldr]
 have e : ks = (List.finRange ks.length).map (fun i => ks[i.1]) := by
  apply List.ext_getElem
  ·
   simp
  ·
   intro i h1 h2
   simp
 conv => rhs; rw [e]
 rw [List.foldr_map]
theorem cbs_keep {W W' : World} {g : Nat} {t : TypeId} {l : List Value} {row : Option Nat} (h : CB W g t l) (hg : W.grownBy W' row) (hr : ∀ r, row = some r → ∃ o : Obj, W.heap[r]? = some o ∧ o.isCells = false) : CB W' g t l := h.grown hg (fun e => by
 obtain ⟨o, ho, hc⟩ := hr g e.symm
 unfold CB at h
 rw [h] at ho
 cases ho
 cases hc)
theorem own_keep {W W' : World} {E : TypeId} {k base : Nat} {v : Value} {LV : List (List Value)} {row : Option Nat} (h : Own E k W base v LV) (hg : W.grownBy W' row) (hr : ∀ r, row = some r → ∃ o : Obj, W.heap[r]? = some o ∧ o.isCells = false) : Own E k W' base v LV := by
 refine h.kept hg ?_
 rcases h.1.2 with ⟨rfl, _⟩ | ⟨g, cap, cur, rfl, _, hgc, _⟩
 ·
  exact .inl rfl
 ·
  refine .inr (fun e => ?_)
  obtain ⟨o, ho, hc⟩ := hr g e.symm
  rw [hgc] at ho
  cases ho
  cases hc
theorem rows_keep {W W' : World} {base : Nat} {A A' : Option Addr} {c c' : Nat} {r q : List Ce} {row : Option Nat} (h : RowS W base A c r A' c' q) (hg : W.grownBy W' row) (hr : ∀ r, row = some r → ∃ o : Obj, W.heap[r]? = some o ∧ o.isCells = false) : RowS W' base A c r A' c' q := h.imp id fun h => own_keep h hg hr
theorem keeps_below {W W' : World} (hb : Below W.heap.size W W') : KeepsOthers W W' := ⟨hb.size, fun k _o hk _ => (hb.block k (Array.getElem?_eq_some_iff.1 hk).1).trans hk⟩

set_option maxHeartbeats 8000000 in
set_option maxRecDepth 20000 in
theorem pathB_any (g : Nat) (A2 : Option Addr) (c2 N : Nat) (LV : List (List Value)) (ks : List (Cl × Cl)) (A : Option Addr) (n c : Nat) (r : List Ce) (w : World) (hg : CB w g 101 [.slice A2 N c2]) (hL : RowAt 2 w w.heap.size A2 LV) (hK : LsAt w LV ks) (hG : GV w) (hN : N = ks.length) (hN3 : N ≤ 300) (hn : n = r.length) (hs : Ces w w.heap.size A r) (hc : n ≤ c) (hcm : c ≤ 9223372036854775807) (hr : RBn 0 r) :
  Calls Tryz.prog 76 #[.agg #[.slice A n c], .pointer (some ⟨g, 0, none⟩)] w fun e w' => RetD w w' A c r (runB ks r) e ∧ Below w.heap.size w w' := by
 subst hN
 obtain ⟨fb, hfb⟩ : ∃ fb : Fin ks.length → Value × Value, ∀ i : Fin ks.length, LV[i.1]? = some [(fb i).1, (fb i).2] ∧ Cl.At w (fb i).1 (ks[i.1]).1 ∧ Cl.At w (fb i).2 (ks[i.1]).2 := by
  have h : ∀ i : Fin ks.length, ∃ p : Value × Value, LV[i.1]? = some [p.1, p.2] ∧ Cl.At w p.1 (ks[i.1]).1 ∧ Cl.At w p.2 (ks[i.1]).2 := fun i => by
   obtain ⟨f, b, h1, h2, h3⟩ := LsAt.get LV ks hK i.1 (ks[i.1]) (List.getElem?_eq_getElem i.2)
   exact ⟨(f, b), h1, h2, h3⟩
  exact ⟨fun i => (h i).choose, fun i => (h i).choose_spec⟩
 obtain ⟨gb, hgb, hin⟩ : ∃ gb, gb < w.heap.size ∧ LsIn w gb A2 ks.length fb := by
  by_cases h0 : 0 < ks.length
  ·
   obtain ⟨b, off, e, hb, hat⟩ := hL (by rw [hK.len]; exact h0)
   exact ⟨b, hb, fun _ => ⟨off, e, hb, fun i => ⟨hat i.1 _ (hfb i).1 0 _ rfl, hat i.1 _ (hfb i).1 1 _ rfl⟩⟩⟩
  ·
   exact ⟨g, hg.lt, fun h => absurd h h0⟩
 refine (callsIn_wide (n := 6)).1 ?_
 have HFB := Li hfb
 have HGv := Li hG
 have HNr := Li hn
 have HS := Li hs
 have hgl := hg.lt
 have HRc := Li (show r.length ≤ c by omega)
 have HB := Li hr
 have B0 := Li (al2 w (.cells #[.slice A n c] 30) (.cells #[.slice none 0 0] 30))
 have R0 := Li ((CB.new w 30 [.slice A n c]).alloc (.cells #[.slice none 0 0] 30))
 have T0 := Li (CB.new1 w (.cells #[.slice A n c] 30) 30 [.slice none 0 0])
 have G0 := Li (hg.up B0.out)
 have g00 := G0.out.cell 0 rfl
 have zg0 := G0.out.lt
 have HIN := Li hin
 clear hfb hG hn hs hr hg hL hK hin
 refine callsIn_of_wp_marks Tryz.func76 rfl trivial ?_ rfl
 simp only [Tryz.ntmps76, List.size_toArray, List.length_cons, List.length_nil, Nat.reduceAdd, Nat.reduceSub, Array.replicate_succ, Array.replicate_zero, List.push_toArray, List.append_toArray, List.nil_append, List.cons_append]
 gi_wp2_with (refine ⟨trivial, ?_⟩; gi_at_call 77; refine (backL_in Fence.wide (6 - 1) trivial rfl _ _ _ _).mono ?_; rintro e w' ⟨rfl, rfl⟩)
 obtain ⟨N, hNN⟩ : ∃ N, N = ks.length := ⟨_, rfl⟩
 have hG0 : ((w.alloc (.cells #[.slice A n c] 30)).alloc (.cells #[.slice none 0 0] 30)).heap.size = w.heap.size + 1 + 1 := by rw [asz, asz]
 have Bz := Li (al_up2 B0.out (.cells #[.slice A2 ks.length c2] 101))
 have Rz := Li (R0.out.alloc (.cells #[.slice A2 ks.length c2] 101))
 have Tz := Li (T0.out.alloc (.cells #[.slice A2 ks.length c2] 101))
 have Xz := Li (cb_at _ (w.heap.size + 1 + 1) hG0.symm 101 [.slice A2 ks.length c2])
 have HI2 := Li (show LsIn (((w.alloc (.cells #[.slice A n c] 30)).alloc (.cells #[.slice none 0 0] 30)).alloc (.cells #[.slice A2 ks.length c2] 101)) gb A2 ks.length fb from HIN.out.kept (Bs := gb) ⟨Bz.out.block gb hgb, Bz.out.block gb hgb⟩)
 have zz : (((w.alloc (.cells #[.slice A n c] 30)).alloc (.cells #[.slice none 0 0] 30)).alloc (.cells #[.slice A2 ks.length c2] 101)).heap.size = w.heap.size + 1 + 1 + 1 := by rw [asz, asz, asz]
 clear B0 R0 T0 G0 g00 zg0 hG0 HIN hNN
 generalize (((w.alloc (.cells #[.slice A n c] 30)).alloc (.cells #[.slice none 0 0] 30)).alloc (.cells #[.slice A2 ks.length c2] 101)) = w0 at *
 refine wpIn_rangeFunc_ownH rfl (by decide) (gf := 93) (lb := #[.pointer (some ⟨w.heap.size + 1 + 1, 0, none⟩)]) rfl trivial (enters_of Tryz.func93 (by kernel_rfl) rfl)
  (backL_stops Fence.wide (6 - 1) trivial rfl (by omega) (w.heap.size + 1 + 1) gb c2 A2 ks.length fb (by omega) w0 (by omega) (Xz.out.cell 0 rfl) HI2.out (by omega)) KB.trans (kb_put (by omega) (by omega)) (Below.refl _ _) (fun _ => rfl)
  (fun pre W => (∃ (A' : Option Addr) (c' : Nat) (q : List Ce), q = runX (fun i : Fin ks.length => (ks[i.1]).2) pre r ∧ CB W w.heap.size 30 [.slice A' q.length c'] ∧ RowS W w.heap.size A c r A' c' q ∧ CB W (w.heap.size + 1) 30 [.slice none 0 0]) ∧ (Below w.heap.size w W ∧ w0.heap.size ≤ W.heap.size))
  (fun _ _ _ => False)
  (fun pre X Y row hs hg hr => by
   obtain ⟨⟨A', c', q, hq, h1, h2, h3⟩, h4, h5⟩ := hs
   have hr' : ∀ r, row = some r → ∃ o : Obj, X.heap[r]? = some o ∧ o.isCells = false := fun r e => (hr r e).2
   exact ⟨⟨A', c', q, hq, cbs_keep h1 hg hr', rows_keep h2 hg hr', cbs_keep h3 hg hr'⟩, h4.grown hg (Nat.le_trans (by omega) h5) (fun k e => Nat.le_trans (by omega) (hr k e).1), Nat.le_trans h5 hg.size⟩)
  (fun _ _ _ _ _ hs _ _ => hs)
  ⟨⟨A, c, r, rfl, by rw [← HNr.out]; exact Rz.out, .inl ⟨rfl, rfl, rfl⟩, Tz.out⟩, Bz.out, Nat.le_refl _⟩
  (fun p a' W => ∃ Bx, w.heap.size + 1 + 1 < Bx ∧ CB W Bx 73 [(fb p).1, (fb p).2] ∧ a' = { tmps := #[.agg #[.slice A n c], .pointer (some ⟨g, 0, none⟩), .pointer (some ⟨w.heap.size, 0, none⟩), .pointer (some ⟨w.heap.size + 1, 0, none⟩), undef, .pointer (some ⟨Bx, 0, none⟩), .slice A2 ks.length c2, .func (.func 93) #[] #[.pointer (some ⟨w.heap.size + 1 + 1, 0, none⟩)], .int .i64 (p.1 : Int), .agg #[(fb p).1, (fb p).2], undef, undef, undef, undef, undef], defers := [] })
  (fun p a' _ X Y row hs hg hr => by obtain ⟨Bx, h1, h2, h3⟩ := hs; exact ⟨Bx, h1, cbs_keep h2 hg (fun r e => (hr r e).2), h3⟩)
  ?assign ?body ?done ?stop
 case assign =>
  rintro y pre p W K ⟨⟨A', c', q, hq, h1, h2, h3⟩, hB, hz⟩ hK
  have H1 := Li h1
  have H2 := Li h2
  have H3 := Li h3
  have hf1 := (HFB.out p).2.1.one
  have hv1 := (HFB.out p).2.2.one
  have hfs := fun (a : Addr) (mo : Mode) (W : World) => run_store Tryz.prog W a (fb p).1 mo hf1
  have hvs := fun (a : Addr) (mo : Mode) (W : World) => run_store Tryz.prog W a (fb p).2 mo hv1
  clear h1 h2 h3
  simp only [encL]
  gi_wp2
  have ha := al1 W (.cells #[(fb p).1, (fb p).2] 73)
  exact hK _ _ ((KeepsOthers.alloc _ _).from _) ⟨Below.heap_alloc _ _ _ (by omega), Below.heap_alloc _ _ _ (by omega)⟩ ⟨⟨A', c', q, hq, H1.out.up ha, H2.out.up ha, H3.out.up ha⟩, hB.alloc hB.size _, by rw [asz]; omega⟩ ⟨W.heap.size, by omega, CB.new W 73 [(fb p).1, (fb p).2], rfl⟩
 case body =>
  rintro y pre p a' W hy ⟨rr, hrr⟩ ⟨⟨A', c', q, hq, h1, h2, h3⟩, hB, hz⟩ ⟨Bx, hBx, hX, rfl⟩ hlt
  have H1 := Li h1
  have H2 := Li h2
  have H3 := Li h3
  have HQ := Li hq
  have x0 := hX.cell 0 rfl
  have x1 := hX.cell 1 rfl
  have r0 := h1.cell 0 rfl
  have zX := hX.lt
  have zR := h1.lt
  obtain ⟨f, cs, hfv, he, hcall⟩ := (Cl.does (HFB.out p).2.2 HGv.out).up hB
  have hrb := runX_rb (fun i : Fin ks.length => (ks[i.1]).2) pre r HB.out
  rw [← hq] at hrb
  have HCall := Li (hcall W A' q.length c' q (Below.refl _ _) rfl (h2.ces (HS.out.up hB) HRc.out hcm).1 (h2.ces (HS.out.up hB) HRc.out hcm).2.1 (h2.ces (HS.out.up hB) HRc.out hcm).2.2 (hrb.rb (by omega)))
  rw [hfv] at x1
  clear h1 h2 h3 hq hcall hrb hX
  gi_wp2_with (refine ⟨trivial, ?_⟩; (with_reducible show CallsIn _ _ _ _ _ _ _); refine (CallsIn.inRound y (callsIn_wide.2 HCall.out)).mono ?_; rintro e w7 ⟨⟨A7, c7, rfl, hd7⟩, hb7⟩; have HB7 := Li hb7; have HD7 := Li hd7; have H17 := Li (H1.out.up hb7); have z17 := H17.out.lt; have h170 := H17.out.cell 0 rfl; have h17f := H17.out.frozen 0; clear hb7 hd7)
  have hlt7 := HB7.out.size
  refine ⟨((keeps_below HB7.out).trans (KeepsOthers.setCell _ _ _)).from _, ⟨(Below.heap_setCell w7 ⟨w.heap.size, 0, none⟩ _ gb (by show gb ≠ w.heap.size; omega)).trans (HB7.out.block gb (by omega)), (Below.heap_setCell w7 ⟨w.heap.size, 0, none⟩ _ (w.heap.size + 1 + 1) (by show w.heap.size + 1 + 1 ≠ w.heap.size; omega)).trans (HB7.out.block _ (by omega))⟩, ⟨A7, c7, _, by rw [runX_snoc, ← HQ.out], H17.out.set_ 0 _, ((H2.out.next HB7.out hB.size HD7.out)).grow H17.out (grown_set _ _ _ _), (H3.out.up HB7.out).grown (grown_set w7 w.heap.size 0 _) (by intro h; injection h with h; omega)⟩, (hB.trans (HB7.out.mono hB.size)).setCell (p := ⟨w.heap.size, 0, none⟩) (Nat.le_refl _) _, ?_⟩
  have e : (w7.setCell ⟨w.heap.size, 0, none⟩ (.slice A7 ((ks[p.1]).2.ap q).length c7)).heap.size = w7.heap.size := by simp [World.setCell]
  rw [e]
  omega
 case done =>
  rintro D ys W hD rfl ⟨⟨A', c', q, hq, h1, h2, h3⟩, hB, hz⟩ hK
  rw [runX_all] at hq
  subst hq
  have r0 := h1.cell 0 rfl
  have zR := h1.lt
  have t0 := h3.cell 0 rfl
  have tf := h3.frozen 0
  have zT := h3.lt
  have H1 := Li h1
  have H2 := Li h2
  have H3 := Li h3
  have HD := Li hD
  have HK := Li hK
  clear h1 h2 h3 hK hD
  gi_wp2
  have hK9 : (W.setCell ⟨w.heap.size + 1, 0, none⟩ (.slice A' (runB ks r).length c')).heap[D]? = some (.deferred (some [])) := (Below.heap_setCell W ⟨w.heap.size + 1, 0, none⟩ _ D (by show D ≠ w.heap.size + 1; have := HD.out; omega)).trans HK.out
  have T9 : CB (W.setCell ⟨w.heap.size + 1, 0, none⟩ (.slice A' (runB ks r).length c')) (w.heap.size + 1) 30 [.slice A' (runB ks r).length c'] := H3.out.set_ 0 _
  have S9 := H2.out.grow H3.out (grown_set W (w.heap.size + 1) 0 (.slice A' (runB ks r).length c'))
  have B9 := hB.setCell (p := ⟨w.heap.size + 1, 0, none⟩) (by show w.heap.size ≤ w.heap.size + 1; omega) (.slice A' (runB ks r).length c')
  generalize (W.setCell ⟨w.heap.size + 1, 0, none⟩ (.slice A' (runB ks r).length c')) = W9 at hK9 T9 S9 B9 ⊢
  have hgr := grownBy_putObj' W9 D (.deferred none)
  have hrow : ∀ q, some D = some q → ∃ o : Obj, W9.heap[q]? = some o ∧ o.isCells = false := fun q e => by
   injection e with e
   subst e
   exact ⟨_, hK9, rfl⟩
  refine ⟨by simp, .inl ⟨_, _, rfl, run_takeDeferred hK9, ?_⟩⟩
  refine ⟨_, res_cell1 Tryz.results76 rfl (cbs_keep T9 hgr hrow) Tryz.underlying30 sizeRw rfl, ⟨A', c', rfl, rows_keep S9 hgr hrow⟩, B9.trans (belowK_b (w := w) (Nat.le_refl _) W9 D _ _ (by have := HD.out; omega) hK9 rfl rfl)⟩
 case stop =>
  rintro D c pre W _ _ h _
  exact h.elim
end Go.Proofs.YtfeemipnalgjnaaGreat
