/-
  The program's Order: by a contract.
-/
import Derived.Test.YtlndpclgljfloaaCoo
import Derived.Test.YtlndpclgljfloaaStb
import Derived.Test.YtlndpclgljfloaaHi3
import Derived.Deep.CutRange
import Derived.Deep.DeepCutAuto
import Derived.BigRegion
namespace Go.Proofs.Ytlndpclgljfloaa
open Go.RowKit

theorem fill_at {f : Nat → Value} {L : List Nat} {n j : Nat} (hL : L.length = n) (hj : j < n) : ((L.take j ++ List.replicate (n - j) 0).map f)[j]? = some (f 0) := by
  have hrep : List.replicate (n - j) 0 = 0 :: List.replicate (n - (j + 1)) 0 := by rw [show n - j = (n - (j + 1)) + 1 by omega]; rfl
  have htl : (L.take j).length = j := by rw [List.length_take]; omega
  rw [hrep, List.map_append, List.getElem?_append_right (by rw [List.length_map, htl]; exact Nat.le_refl _), List.length_map, htl, Nat.sub_self]; rfl
theorem fill_step {f : Nat → Value} {L : List Nat} {n j c : Nat} (hL : L.length = n) (hc : L[j]? = some c) (hj : j < n) : ((L.take j ++ List.replicate (n - j) 0).map f).set j (f c) = (L.take (j + 1) ++ List.replicate (n - (j + 1)) 0).map f := by
  have hrep : List.replicate (n - j) 0 = 0 :: List.replicate (n - (j + 1)) 0 := by rw [show n - j = (n - (j + 1)) + 1 by omega]; rfl
  have htl : (L.take j).length = j := by rw [List.length_take]; omega
  rw [List.take_add_one, hc, hrep, List.map_append, List.set_append_right _ _ (by rw [List.length_map, htl]; exact Nat.le_refl _), List.length_map, htl, Nat.sub_self]
  simp
theorem fill_end {L : List Nat} {n : Nat} (hL : L.length = n) : L.take n ++ List.replicate (n - n) 0 = L := by
  rw [List.take_of_length_le (by omega), Nat.sub_self]; simp
/-- the coordinates of rows, their places on the curve -/
def cosL (rs : List Hr) (i K : Int) : List Nat := rs.map fun r => cooL (lsH rs) i K r.l
def plcL (rs : List Hr) (i1 i2 K : Int) : List Nat := List.zipWith (ixV K) (cosL rs i1 K) (cosL rs i2 K)
theorem info3b : (Try.prog.info? 3).map (fun i => (i.zero, i.size, i.bytes)) = some (some (.int .i64 0), 1, 8) := by kernel_rfl
theorem info24b : (Try.prog.info? 24).map (fun i => (i.zero, i.size, i.bytes)) = some (some (.int .u64 0), 1, 8) := by kernel_rfl
theorem mk_ints (n : Nat) (hn : n ≤ 1000000) (W : World) : (Instr.makeSlice 46 (.int .i64 (n : Int)) (.int .i64 (n : Int))).run Try.prog W = .ok (.slice (some ⟨W.heap.size, 0, none⟩) n n) (W.alloc (.cells (Array.replicate n (iV 0)) 3)) := by
  have := run_make_row' 46 3 (.int .i64 0) 8 Try.underlying46 info3b rfl .i64 .i64 n (by omega) (by omega) W
  rw [made_rep] at this
  rw [this, List.toArray_replicate]
  rfl
theorem mk_u64s (n : Nat) (hn : n ≤ 1000000) (W : World) : (Instr.makeSlice 50 (.int .i64 (n : Int)) (.int .i64 (n : Int))).run Try.prog W = .ok (.slice (some ⟨W.heap.size, 0, none⟩) n n) (W.alloc (.cells (Array.replicate n (uV 0)) 24)) := by
  have := run_make_row' 50 24 (.int .u64 0) 8 Try.underlying50 info24b rfl .i64 .i64 n (by omega) (by omega) W
  rw [made_rep] at this
  rw [this, List.toArray_replicate]
  rfl
theorem new_rep {f : Nat → Value} (w : World) (t : TypeId) (L : List Nat) (n : Nat) : CB (w.alloc (.cells (Array.replicate n (f 0)) t)) w.heap.size t ((L.take 0 ++ List.replicate (n - 0) 0).map f) := by
  have e : Array.replicate n (f 0) = ((L.take 0 ++ List.replicate (n - 0) 0).map f).toArray := by simp
  rw [e]
  exact CB.new w t _
theorem new_rep1 {f : Nat → Value} (w : World) (o : Obj) (t : TypeId) (L : List Nat) (n : Nat) : CB ((w.alloc o).alloc (.cells (Array.replicate n (f 0)) t)) (w.heap.size + 1) t ((L.take 0 ++ List.replicate (n - 0) 0).map f) := by
  have := new_rep (f := f) (w.alloc o) t L n
  rwa [asz] at this
theorem new_rep2 {f : Nat → Value} (w : World) (o o' : Obj) (t : TypeId) (L : List Nat) (n : Nat) : CB (((w.alloc o).alloc o').alloc (.cells (Array.replicate n (f 0)) t)) (w.heap.size + 1 + 1) t ((L.take 0 ++ List.replicate (n - 0) 0).map f) := by
  have := new_rep (f := f) ((w.alloc o).alloc o') t L n
  rwa [asz, asz] at this
/-- what Order works on: the coordinates, the rows' numbers, their places -/
structure OrS (w : World) (gx gy db pb qb n : Nat) (xs ys P : List Nat) (i j : Nat) (X : World) : Prop where
  bel : Below w.heap.size w X
  x : CB X gx 22 (xs.map u32V)
  y : CB X gy 22 (ys.map u32V)
  d : CB X db 3 (((List.range n).take i ++ List.replicate (n - i) 0).map iV)
  p : CB X pb 50 [.slice (some ⟨qb, 0, none⟩) n n]
  q : CB X qb 24 ((P.take j ++ List.replicate (n - j) 0).map uV)
  d0 : w.heap.size ≤ db
  q0 : w.heap.size ≤ qb
theorem CB.ne_ {w : World} {g g' : Nat} {t t' : TypeId} {l l' : List Value} (h : CB w g t l) (h' : CB w g' t' l') (ht : t ≠ t') : some g ≠ some g' := fun e => by
  injection e with e
  unfold CB at h h'
  rw [e, h'] at h
  have := Option.some.inj h
  injection this with _ h3
  exact ht h3.symm
section
variable {w X X' : World} {gx gy db pb qb n i j : Nat} {xs ys P : List Nat}
theorem OrS.up (h : OrS w gx gy db pb qb n xs ys P i j X) (hb : Below X.heap.size X X') : OrS w gx gy db pb qb n xs ys P i j X' :=
  ⟨below_step h.bel h.bel.size hb, h.x.up hb, h.y.up hb, h.d.up hb, h.p.up hb, h.q.up hb, h.d0, h.q0⟩
theorem OrS.setd (h : OrS w gx gy db pb qb n xs ys P i j X) (hi : i < n) : OrS w gx gy db pb qb n xs ys P (i + 1) j (X.setCell ⟨db, i, none⟩ (.int .i64 i)) := by
  have g := grown_set X db i (iV i)
  refine ⟨below_grown h.bel g h.bel.size h.d0, h.x.grown g (h.x.ne_ h.d (by decide)), h.y.grown g (h.y.ne_ h.d (by decide)), ?_, h.p.grown g (h.p.ne_ h.d (by decide)), h.q.grown g (h.q.ne_ h.d (by decide)), h.d0, h.q0⟩
  have := h.d.set_ i (iV i)
  rw [fill_step (f := iV) (by simp) (show (List.range n)[i]? = some i by simp [hi]) hi] at this
  exact this
theorem OrS.setq (h : OrS w gx gy db pb qb n xs ys P i j X) {c : Nat} (hl : P.length = n) (hc : P[j]? = some c) (hj : j < n) : OrS w gx gy db pb qb n xs ys P i (j + 1) (X.setCell ⟨qb, j, none⟩ (.int .u64 c)) := by
  have g := grown_set X qb j (uV c)
  refine ⟨below_grown h.bel g h.bel.size h.q0, h.x.grown g (h.x.ne_ h.q (by decide)), h.y.grown g (h.y.ne_ h.q (by decide)), h.d.grown g (h.d.ne_ h.q (by decide)), h.p.grown g (h.p.ne_ h.q (by decide)), ?_, h.d0, h.q0⟩
  have := h.q.set_ j (uV c)
  rw [fill_step (f := uV) hl hc hj] at this
  exact this
theorem OrS.done (h : OrS w gx gy db pb qb n xs ys P n n X) (hl : P.length = n) (hn : n ≤ 1000000) : SoS w db pb qb n P (List.range n) X := by
  have hd := h.d
  have hq := h.q
  rw [fill_end (by simp)] at hd
  rw [fill_end hl] at hq
  exact ⟨h.bel, hd, h.p, hq, by simp, hl, by simp, h.d0, hn⟩
end
theorem zip_at {xs ys P : List Nat} {K : Int} {n j : Nat} (hP : P = List.zipWith (ixV K) xs ys) (hx : xs.length = n) (hy : ys.length = n) (hj : j < n) : ∃ a b, xs[j]? = some a ∧ ys[j]? = some b ∧ P[j]? = some (ixV K a b) := by
  subst hP
  refine ⟨xs[j]'(by omega), ys[j]'(by omega), List.getElem?_eq_getElem _, List.getElem?_eq_getElem _, ?_⟩
  rw [List.getElem?_zipWith, List.getElem?_eq_getElem (by omega), List.getElem?_eq_getElem (by omega)]
set_option maxHeartbeats 8000000 in
set_option maxRecDepth 20000 in
theorem Order_ok (A : Option Addr) (n c : Nat) (rs : List Hr) (i1 i2 K : Int) (w : World) (hn : n = rs.length) (hs : RwsAt w w.heap.size A rs) (hl : n ≤ 1000000) (hf : FitR rs) (hK : isOB K = true) (hsort : SortAt n) :
    Calls Try.prog 18 #[.slice A n c, .agg #[.int .i64 i1, .int .i64 i2], .int .i64 K] w fun e w' => (∃ (g : Nat) (D : List Nat), e = .returned (.tuple #[.slice (some ⟨g, 0, none⟩) n n, .int .i64 0]) ∧ w.heap.size ≤ g ∧ CB w' g 3 (D.map iV) ∧ D.Perm (List.range n) ∧ D.Pairwise (Rk (plcL rs i1 i2 K))) ∧ Below w.heap.size w w' := by
  obtain ⟨xs, hxs⟩ : ∃ xs, cosL rs i1 K = xs := ⟨_, rfl⟩
  obtain ⟨ys, hys⟩ : ∃ ys, cosL rs i2 K = ys := ⟨_, rfl⟩
  obtain ⟨P, hP⟩ : ∃ P, plcL rs i1 i2 K = P := ⟨_, rfl⟩
  rw [hP]
  have hxl : xs.length = n := by rw [← hxs, hn]; unfold cosL; rw [List.length_map]
  have hyl : ys.length = n := by rw [← hys, hn]; unfold cosL; rw [List.length_map]
  have hPe : P = List.zipWith (ixV K) xs ys := by rw [← hP, ← hxs, ← hys]; rfl
  have hPl : P.length = n := by rw [hPe, List.length_zipWith, hxl, hyl]; omega
  have HXL := Li hxl
  have HYL := Li hyl
  have HPE := Li hPe
  have HPL := Li hPl
  have HC1 := Li (fun W : World => fun (hb : Below w.heap.size w W) => by have := coord_any A n c rs i1 K W hn (hs.up hb) hl hf; rw [show (rs.map fun r => cooL (lsH rs) i1 K r.l) = xs from hxs] at this; exact this)
  have HC2 := Li (fun W : World => fun (hb : Below w.heap.size w W) => by have := coord_any A n c rs i2 K W hn (hs.up hb) hl hf; rw [show (rs.map fun r => cooL (lsH rs) i2 K r.l) = ys from hys] at this; exact this)
  have J0 := Li hK
  have HSO := Li hsort
  have I1 := Li (CB.new w 45 [.int .i64 i1, .int .i64 i2])
  have B1 := Li (al1 w (.cells #[.int .i64 i1, .int .i64 i2] 45))
  clear hn hs hf hK hsort hxs hys hP hxl hyl hPe hPl
  go_enter Try.func18, Try.ntmps18
  go_upto_region 3 with (go_at_call 26; refine (isOrder_any _ _).mono ?_; rintro e w1 ⟨rfl, hw1⟩; subst w1; rw [J0.out])
  have I2 := Li (show CB (w.alloc (.cells #[.int .i64 i1, .int .i64 i2] 45)).drew w.heap.size 45 [.int .i64 i1, .int .i64 i2] from I1.out)
  have B2 := Li (show Below w.heap.size w (w.alloc (.cells #[.int .i64 i1, .int .i64 i2] 45)).drew from B1.out.drew)
  clear I1 B1
  refine wp_region_held_drew (S := fun Z => Hid (CB Z w.heap.size 45 [.int .i64 i1, .int .i64 i2])) (by kernel_rfl) I2 (fun hHeld => ?_)
  revert hHeld I2 B2
  generalize (w.alloc (.cells #[.int .i64 i1, .int .i64 i2] 45)).drew = Y
  intro I2 B2 hHeld
  refine htk 0 ?_
  refine htk 1 ?_
  refine htf 2 (fun _ h => And.intro h.out.c2 h.out.lt) ?_
  refine htk 3 ?_
  refine htk 5 ?_
  refine htk 6 ?_
  refine htf 7 (fun _ h => And.intro h.out.c2 h.out.lt) ?_
  refine htk 8 ?_
  refine rd1 4 fun KK hK => ?_
  go_simp
  go_at_call 33
  refine Calls.mono (HC1.out Y B2.out) ?_
  rintro e Y2 ⟨⟨gx, rfl, hgx, hcx⟩, hb⟩
  have X2 := Li hcx
  have I3 := Li (I2.out.up hb)
  have B3 := Li (below_step B2.out B2.out.size hb)
  clear hcx hb I2
  go_wp2_with fail
  refine hK.out _ _ I3 (fun hHeld => ?_)
  clear hK KK
  try simp only [pnz]
  refine rd1 9 fun KK hK => ?_
  go_simp
  go_at_call 33
  refine Calls.mono (HC2.out Y2 B3.out) ?_
  rintro e Y3 ⟨⟨gy, rfl, hgy, hcy⟩, hb⟩
  have X3 := Li (X2.out.up hb)
  have YY3 := Li hcy
  have I4 := Li (I3.out.up hb)
  have B4 := Li (below_step B3.out B3.out.size hb)
  clear hcy hb I3 X2
  go_wp2_with fail
  refine hK.out _ _ I4 (fun hHeld => ?_)
  clear hK KK
  try simp only [pnz]
  refine htk 10 ?_
  refine htk 11 ?_
  refine wpAnyH_done (by kernel_rfl) ?_ _
  have hmk1 := mk_ints n hl
  have hmk2 := mk_u64s n hl
  go_upto_region 4 with fail
  go_cut [10, 11] from 26 to 31 (fun x y wx => ∃ db pb qb : Nat, x = .slice (some ⟨db, 0, none⟩) n n ∧ y = .pointer (some ⟨pb, 0, none⟩) ∧ Hid (OrS w gx gy db pb qb n xs ys P 0 0 wx))
  case first =>
    have hY3 := B4.out.size
    have hS0 : w.heap.size ≤ Y3.heap.size := hY3
    have hS1 : w.heap.size ≤ Y3.heap.size + 1 := by omega
    have hS2 : w.heap.size ≤ Y3.heap.size + 1 + 1 := by omega
    go_region
    all_goals (go_wp2_with fail; go_meet)
    all_goals (
      first
        | (with_reducible exact ⟨Y3.heap.size, Y3.heap.size + 1 + 1, Y3.heap.size + 1, rfl, rfl, Li ⟨below_step B4.out hY3 (al3 Y3 _ _ _).drew, (((X3.out.alloc _).alloc _).alloc _).dr, (((YY3.out.alloc _).alloc _).alloc _).dr, CB.dr (((new_rep (f := iV) Y3 _ _ n).alloc _).alloc _), CB.dr (CB.new2 Y3 _ _ _ [_]), CB.dr ((new_rep1 (f := uV) Y3 _ _ _ n).alloc _), hS0, hS1⟩⟩)
        | (with_reducible exact ⟨Y3.heap.size, Y3.heap.size + 1, Y3.heap.size + 1 + 1, rfl, rfl, Li ⟨below_step B4.out hY3 (al3 Y3 _ _ _).drew, (((X3.out.alloc _).alloc _).alloc _).dr, (((YY3.out.alloc _).alloc _).alloc _).dr, CB.dr (((new_rep (f := iV) Y3 _ _ n).alloc _).alloc _), CB.dr ((CB.new1 Y3 _ _ [_]).alloc _), CB.dr (new_rep2 (f := uV) Y3 _ _ _ _ n), hS0, hS2⟩⟩)
        | (with_reducible exact ⟨Y3.heap.size + 1, Y3.heap.size + 1 + 1, Y3.heap.size, rfl, rfl, Li ⟨below_step B4.out hY3 (al3 Y3 _ _ _).drew, (((X3.out.alloc _).alloc _).alloc _).dr, (((YY3.out.alloc _).alloc _).alloc _).dr, CB.dr ((new_rep1 (f := iV) Y3 _ _ _ n).alloc _), CB.dr (CB.new2 Y3 _ _ _ [_]), CB.dr (((new_rep (f := uV) Y3 _ _ n).alloc _).alloc _), hS1, hS0⟩⟩)
        | (with_reducible exact ⟨Y3.heap.size + 1 + 1, Y3.heap.size + 1, Y3.heap.size, rfl, rfl, Li ⟨below_step B4.out hY3 (al3 Y3 _ _ _).drew, (((X3.out.alloc _).alloc _).alloc _).dr, (((YY3.out.alloc _).alloc _).alloc _).dr, CB.dr (new_rep2 (f := iV) Y3 _ _ _ _ n), CB.dr ((CB.new1 Y3 _ _ [_]).alloc _), CB.dr (((new_rep (f := uV) Y3 _ _ n).alloc _).alloc _), hS2, hS0⟩⟩)
        | (with_reducible exact ⟨Y3.heap.size + 1, Y3.heap.size, Y3.heap.size + 1 + 1, rfl, rfl, Li ⟨below_step B4.out hY3 (al3 Y3 _ _ _).drew, (((X3.out.alloc _).alloc _).alloc _).dr, (((YY3.out.alloc _).alloc _).alloc _).dr, CB.dr ((new_rep1 (f := iV) Y3 _ _ _ n).alloc _), CB.dr (((CB.new Y3 _ [_]).alloc _).alloc _), CB.dr (new_rep2 (f := uV) Y3 _ _ _ _ n), hS1, hS2⟩⟩)
        | (with_reducible exact ⟨Y3.heap.size + 1 + 1, Y3.heap.size, Y3.heap.size + 1, rfl, rfl, Li ⟨below_step B4.out hY3 (al3 Y3 _ _ _).drew, (((X3.out.alloc _).alloc _).alloc _).dr, (((YY3.out.alloc _).alloc _).alloc _).dr, CB.dr (new_rep2 (f := iV) Y3 _ _ _ _ n), CB.dr (((CB.new Y3 _ [_]).alloc _).alloc _), CB.dr ((new_rep1 (f := uV) Y3 _ _ _ n).alloc _), hS2, hS1⟩⟩))
  case rest =>
    obtain ⟨db, pb, qb, rfl, rfl, HO⟩ := hcut
    clear X3 YY3 I4 B4 hmk1 hmk2
    go_wp2_with fail
    go_loopw [34] (fun s34 wr => ∃ j : Nat, j ≤ n ∧ s34 = .int .i64 j ∧ Hid (OrS w gx gy db pb qb n xs ys P j j wr)) (fun s34 _ => n - (intOf s34).toNat)
    case atStart => exact ⟨0, by omega, rfl, HO⟩
    case round =>
      clear HO
      obtain ⟨j, hj, rfl, HO⟩ := hrel
      by_cases hjn : j < n
      · have j1 : (j : Int) < (n : Int) := by omega
        have c0 := HO.out.d.cell j (fill_at (f := iV) (by simp) hjn)
        have f0 := HO.out.d.frozen j
        have z0 := HO.out.d.lt
        go_upto_region 9 with fail
        clear c0 f0 z0
        have H1 := Li ((HO.out.setd hjn).up (bd _))
        clear HO
        obtain ⟨a, b, ha, hb, hc⟩ := zip_at HPE.out HXL.out HYL.out hjn
        have HA := Li ha
        have HB := Li hb
        have HC := Li hc
        clear ha hb hc
        have xa : (xs.map u32V)[j]? = some (.int .u32 a) := by rw [List.getElem?_map, HA.out]; rfl
        have yb : (ys.map u32V)[j]? = some (.int .u32 b) := by rw [List.getElem?_map, HB.out]; rfl
        have XA := Li xa
        have YB := Li yb
        clear xa yb
        have PP := Li (And.intro H1.out.p (And.intro H1.out.x H1.out.y))
        refine wp_region_held_drew (S := fun Z => Hid (CB Z pb 50 [.slice (some ⟨qb, 0, none⟩) n n] ∧ CB Z gx 22 (xs.map u32V) ∧ CB Z gy 22 (ys.map u32V))) (by kernel_rfl) PP (fun hHeld => ?_)
        revert hHeld PP H1
        generalize (wr.setCell ⟨db, j, none⟩ (.int .i64 j)).drew = Y
        intro H1 PP hHeld
        refine htf 0 (fun _ h => And.intro h.out.1.c1 h.out.1.lt) ?_
        refine htk 1 ?_
        refine htk 2 ?_
        refine htk 3 ?_
        refine htk 4 ?_
        refine htk 5 ?_
        refine htf 6 (fun _ h => And.intro (h.out.2.1.cell j XA.out) h.out.2.1.lt) ?_
        refine htk 7 ?_
        refine htk 8 ?_
        refine htk 9 ?_
        refine htf 10 (fun _ h => And.intro (h.out.2.2.cell j YB.out) h.out.2.2.lt) ?_
        refine rd1 11 fun KK hK => ?_
        go_simp
        go_at_call 11
        refine Calls.mono (Index_any K a b Y) ?_
        rintro e Y2 ⟨rfl, hb2⟩
        have H2 := Li (H1.out.up hb2)
        clear hb2 H1
        have PP := Li (And.intro H2.out.p (And.intro H2.out.x H2.out.y))
        go_wp2_with fail
        refine hK.out _ _ PP (fun hHeld => ?_)
        clear hK KK
        try simp only [pnz]
        clear PP
        refine htk 12 ?_
        refine htk 13 ?_
        refine htk 14 ?_
        refine htk 15 ?_
        have q1 := H2.out.q.lt
        have q2 := H2.out.q.frozen j
        have q3 := H2.out.q.cell j (fill_at (f := uV) HPL.out hjn)
        refine rd1 16 fun KK hK => ?_
        go_simp
        have H3 := Li (H2.out.setq HPL.out HC.out hjn)
        have PP := Li (And.intro H3.out.p (And.intro H3.out.x H3.out.y))
        refine hK.out _ _ PP (fun hHeld => ?_)
        clear hK KK
        try simp only [pnz]
        refine wpAnyH_done (by kernel_rfl) ?_ _
        clear q1 q2 q3
        go_wp2_with fail
        go_roundw
        case rel => first | exact ⟨j + 1, by omega, by go_num, H3⟩ | ((repeat apply Exists.intro); exact ⟨⟨j + 1, by omega, by go_num, H3⟩, rfl⟩)
        case measure => first | (simp [intOf]; done) | (simp [intOf]; omega)
      · obtain rfl : j = n := by omega
        have HE := Li (HO.out.done HPL.out hl)
        clear HO
        go_wp2_with (go_at_call 34; refine (HSO.out w db pb qb P (List.range j) wr HE.out List.pairwise_lt_range).mono ?_; rintro e w1 ⟨rfl, S', k1, k2, k3, k4⟩; have K1 := Li k1; have K2 := Li k2; have K3 := Li k3; clear k1 k2 k3 k4)
        go_ret2
        exact ⟨⟨db, S', rfl, K3.out.d0, K3.out.d, K1.out, K2.out⟩, K3.out.bel⟩
theorem Order_bad (A : Option Addr) (n c : Nat) (i1 i2 K : Int) (w : World) (hK : isOB K = false) :
    Calls Try.prog 18 #[.slice A n c, .agg #[.int .i64 i1, .int .i64 i2], .int .i64 K] w fun e w' => e = .returned (.tuple #[.slice none 0 0, .int .i64 1]) ∧ Below w.heap.size w w' := by
  have J0 := Li hK
  have B1 := Li (al1 w (.cells #[.int .i64 i1, .int .i64 i2] 45))
  clear hK
  go_enter Try.func18, Try.ntmps18
  go_wp2_with (go_at_call 26; refine (isOrder_any _ _).mono ?_; rintro e w1 ⟨rfl, hw1⟩; subst w1; rw [J0.out])
  go_ret2
  exact ⟨rfl, B1.out⟩
end Go.Proofs.Ytlndpclgljfloaa
