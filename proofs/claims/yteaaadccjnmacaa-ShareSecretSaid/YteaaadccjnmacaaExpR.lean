/-
  The law's explain, by a contract.
-/
import Derived.Test.YteaaadccjnmacaaExpM
import Derived.Test.YteaaadccjnmacaaAtR
import Derived.Test.YteaaadccjnmacaaOwnN
import Derived.Test.YteaaadccjnmacaaDetQ
import Derived.Maps.AppendAt
import Derived.StillTailTactics
namespace Go.Proofs.Yteaaadccjnmacaa
open Go.RowKit

theorem BT.other {w : World} {g k i : Nat} {t : TypeId} {l : List UInt8} (h : BT w g t l) (hk : k ≠ g) (v : Value) : BT (w.setCell ⟨k, i, none⟩ v) g t l := (Below.heap_setCell w ⟨k, i, none⟩ v g (fun e => hk e.symm)).trans h
theorem owns_other {w : World} {B gf n c k i : Nat} {l : List UInt8} (h : Owns w B (.slice (some ⟨gf, 0, none⟩) n c) l) (hk : k ≠ gf) (v : Value) : Owns (w.setCell ⟨k, i, none⟩ v) B (.slice (some ⟨gf, 0, none⟩) n c) l :=
  World.ownsRow.kept h (grown_set w k i v) (.inr (fun e => by have e' : some gf = some k := e; injection e' with e'; exact hk e'.symm))
theorem owns_set {w : World} {B gf n c i : Nat} {l : List UInt8} (h : Owns w B (.slice (some ⟨gf, 0, none⟩) n c) l) (v : UInt8) (hi : i < l.length) : Owns (w.setCell ⟨gf, i, none⟩ (.int .u8 (v.toNat : Int))) B (.slice (some ⟨gf, 0, none⟩) n c) (l.set i v) := by
  obtain ⟨h1, h2⟩ := h
  refine ⟨by simp [cb_len], ?_⟩
  rcases h2 with ⟨e, _⟩ | ⟨g, cap, cur, e, hb, hg, hn, hm, hs, ht⟩
  · cases e
  · injection e with e1 e2 e3
    injection e1 with e1
    injection e1 with e1
    subst e1 e3
    refine .inr ⟨gf, c, cur.setIfInBounds i (.int .u8 (v.toNat : Int)), by rw [List.length_set, e2], hb, setCell_cells _ hg, by rw [List.length_set]; exact hn, hm, by simpa using hs, ?_⟩
    rw [List.length_set, Array.toList_setIfInBounds, List.take_set, ht, cb_set]
theorem owns_blk {w : World} {B gf n c : Nat} {l : List UInt8} (h : Owns w B (.slice (some ⟨gf, 0, none⟩) n c) l) : B ≤ gf ∧ gf < w.heap.size := World.ownsRow.lt h gf rfl
theorem owns_frozen {w : World} {B gf n c : Nat} {l : List UInt8} (h : Owns w B (.slice (some ⟨gf, 0, none⟩) n c) l) (i : Nat) : w.frozen? ⟨gf, i, none⟩ = false := by
  rcases h.2 with ⟨e, _⟩ | ⟨g, cap, cur, e, _, hg, _⟩
  · cases e
  · injection e with e1
    injection e1 with e1
    injection e1 with e1
    subst e1
    simp [World.frozen?, hg]
theorem owns_cell {w : World} {B gf n c i : Nat} {l : List UInt8} (h : Owns w B (.slice (some ⟨gf, 0, none⟩) n c) l) (hi : i < l.length) : w.cell? ⟨gf, i, none⟩ = some (.int .u8 ((byte l i).toNat : Int)) := by
  have := sh_cell h.shows.2.2 i (byte l i) (byte_get hi)
  rwa [Nat.zero_add] at this

/-- what explain's loops keep: the result's block, the polynomial's row, the base's block -/
structure XI (B : Nat) (w0 w : World) (go : Nat) (O : List UInt8) (gf nf cf : Nat) (f : List UInt8) (gb : Nat) (b : List UInt8) : Prop where
  bel : Below B w0 w
  out : BT w go 5 O
  fr : Owns w B (.slice (some ⟨gf, 0, none⟩) nf cf) f
  ba : BT w gb 5 b
  lo : B ≤ go
  lb : B ≤ gb
  n1 : go ≠ gf
  n2 : gb ≠ gf
  n3 : go ≠ gb
section
variable {B go gf nf cf gb : Nat} {w0 w w' : World} {O f b : List UInt8}
theorem XI.top (h : XI B w0 w go O gf nf cf f gb b) : B ≤ w.heap.size := Nat.le_of_lt (Nat.lt_of_le_of_lt h.lo h.out.lt)
theorem XI.up (h : XI B w0 w go O gf nf cf f gb b) (hb : Below w.heap.size w w') : XI B w0 w' go O gf nf cf f gb b :=
  ⟨h.bel.trans (hb.mono h.top), h.out.up hb, row_up h.fr hb, h.ba.up hb, h.lo, h.lb, h.n1, h.n2, h.n3⟩
theorem XI.setf (h : XI B w0 w go O gf nf cf f gb b) (i : Nat) (v : UInt8) (V : Int) (hV : V = (v.toNat : Int)) (hi : i < f.length) : XI B w0 (w.setCell ⟨gf, i, none⟩ (.int .u8 V)) go O gf nf cf (f.set i v) gb b := by
  subst hV
  exact ⟨h.bel.setCell (p := ⟨gf, i, none⟩) (owns_blk h.fr).1 _, h.out.other (Ne.symm h.n1) _, owns_set h.fr v hi, h.ba.other (Ne.symm h.n2) _, h.lo, h.lb, h.n1, h.n2, h.n3⟩
theorem XI.seto (h : XI B w0 w go O gf nf cf f gb b) (i : Nat) (v : UInt8) : XI B w0 (w.setCell ⟨go, i, none⟩ (.int .u8 (v.toNat : Int))) go (O.set i v) gf nf cf f gb b :=
  ⟨h.bel.setCell (p := ⟨go, i, none⟩) h.lo _, h.out.set_ i v, owns_other h.fr h.n1 _, h.ba.other h.n3 _, h.lo, h.lb, h.n1, h.n2, h.n3⟩
theorem XI.setn (h : XI B w0 w go O gf nf cf f gb b) {gn : Nat} (h0 : B ≤ gn) (h1 : gn ≠ go) (h2 : gn ≠ gf) (h3 : gn ≠ gb) (i : Nat) (v : Value) : XI B w0 (w.setCell ⟨gn, i, none⟩ v) go O gf nf cf f gb b :=
  ⟨h.bel.setCell (p := ⟨gn, i, none⟩) h0 _, h.out.other h1 _, owns_other h.fr h2 _, h.ba.other h3 _, h.lo, h.lb, h.n1, h.n2, h.n3⟩
theorem XI.swap (h : XI B w0 w go O gf nf cf f gb b) {gn : Nat} {b' : List UInt8} (h0 : B ≤ gn) (h1 : gn ≠ go) (h2 : gn ≠ gf) (hn : BT w gn 5 b') : XI B w0 w go O gf nf cf f gn b' :=
  ⟨h.bel, h.out, h.fr, hn, h.lo, h0, h.n1, h2, Ne.symm h1⟩
end
/-- append(f, 0) -/
theorem wpList_grow_f {w wr w0 : World} {ops : Array Oper} {rest : List Oper} {o : Oper} {a : Act} {Q : Exit → Act → World → Prop} {B go gf nf cf gb : Nat} {O f b : List UInt8} (hgd : o.guard = none) (d x : Operand)
    (ho : o.op = .call { callee := .builtin .append, args := #[d, x], argTypes := #[22, 22] })
    (hs : a.eval d = .slice (some ⟨gf, 0, none⟩) nf cf) (hx : a.eval x = .slice (some ⟨wr.heap.size, 0, none⟩) 1 1) (hw : w = wr.alloc (.cells #[.int .u8 0] 5)) (hI : XI B w0 wr go O gf nf cf f gb b) (hroom : f.length + 1 ≤ 1000000)
    (hK : ∀ gf' cf' w', XI B w0 w' go O gf' (nf + 1) cf' (f ++ [0]) gb b → wpList Try.prog ops Q rest (a.put o.dst (.slice (some ⟨gf', 0, none⟩) (nf + 1) cf')) w') : wpList Try.prog ops Q (o :: rest) a w := by
  subst hw
  obtain ⟨i, hi, hz0, hsz, hby⟩ := info_parts info5
  have hI2 := hI.up (ba1 wr (.cells #[.int .u8 0] 5))
  have hnf : nf = f.length := hI.fr.shows.1
  subst hnf
  have hnew := heap_alloc_new wr (.cells #[.int .u8 0] 5)
  refine wpList_append_own_at _ hgd d x _ ho B 5 i (.int .u8 0) 1 1 Try.underlying22 hi hz0 hsz hby rfl (by decide) _ f.length (cb f) hs hI2.fr ⟨wr.heap.size, 0, none⟩ 1 1 [.int .u8 0] hx rfl ?_ ?_ (by simp only [maxLen]; omega) (by omega) hI2.top ?_
  · intro j u hj
    rw [Addr.add_lit, Nat.zero_add, cell_of_row _ wr.heap.size j _ _ (0, 0) hnew]
    simpa using hj
  · intro u hu
    have : u = .int .u8 0 := by simpa using hu
    subst this
    rfl
  · intro v' w' g1 g2 _ g4
    have ho' : Owns w' B v' (f ++ [0]) := by unfold Owns; rw [cb_app]; simpa [cb] using g1
    have hbk := owns_blk hI2.fr
    obtain ⟨gf', cf', rfl, hlt⟩ : ∃ gf' cf', v' = .slice (some ⟨gf', 0, none⟩) (f.length + 1) cf' ∧ gf' < w'.heap.size := by
      rcases ho'.shape with ⟨_, e⟩ | ⟨g, cap, e, _, h3, _⟩
      · simp at e
      · exact ⟨g, cap, by rw [e]; simp, h3⟩
    have hgf : gf' = gf ∨ gf' = wr.heap.size + 1 := by
      rcases g4 with e | e
      · left
        have e' : some gf' = some gf := e
        injection e'
      · right
        have e' : some gf' = some (wr.alloc (.cells #[.int .u8 0] 5)).heap.size := e
        injection e' with e'
        rw [e', hz]
    have hgo : go < wr.heap.size := hI.out.lt
    have hgb : gb < wr.heap.size := hI.ba.lt
    have n1 := hI2.n1
    have n2 := hI2.n2
    refine hK gf' cf' w' ⟨hI2.bel.grown g2 hI2.top (fun k hk => by have hk' : some gf = some k := hk; injection hk' with hk'; omega), hI2.out.grown g2 (fun e => by have e' : some go = some gf := e; injection e' with e'; exact n1 e'), ho', hI2.ba.grown g2 (fun e => by have e' : some gb = some gf := e; injection e' with e'; exact n2 e'), hI.lo, hI.lb, by omega, by omega, hI.n3⟩
theorem made_BT (w : World) (N g : Nat) (hg : g = w.heap.size) : BT (w.alloc (.cells (madeCells #[.int .u8 0] N) 5)) g 5 (List.replicate N 0) := by
  subst hg
  have h := heap_alloc_new w (.cells (madeCells #[.int .u8 0] N) 5)
  unfold BT
  rw [h]
  congr 2
  apply Array.ext'
  rw [toList_madeCells_one]
  simp [cb]

def fOf (secret : List UInt8) (l : List Sh) (i : Nat) : List UInt8 := (nwt (byte secret i) (pts l i)).1
theorem pts_take (l : List Sh) (i q : Nat) (s : Sh) (hs : l[q]? = some s) : (pts l i).take (q + 1) = (pts l i).take q ++ [(s.1, byte s.2 i)] := by
  rw [List.take_add_one]
  congr 1
  unfold pts
  rw [List.getElem?_map, hs]
  rfl
/-- the state after q points -/
def nq_ (secret : List UInt8) (l : List Sh) (i q : Nat) : List UInt8 × List UInt8 := nwt (byte secret i) ((pts l i).take q)
theorem nq_zero (secret : List UInt8) (l : List Sh) (i : Nat) : nq_ secret l i 0 = ([byte secret i], [0, 1]) := by simp [nq_, nwt]
theorem nq_succ (secret : List UInt8) (l : List Sh) (i q : Nat) (s : Sh) (hs : l[q]? = some s) : nq_ secret l i (q + 1) = nw (nq_ secret l i q) (s.1, byte s.2 i) := by
  unfold nq_
  rw [pts_take l i q s hs, nwt_snoc]
theorem nq_all (secret : List UInt8) (l : List Sh) (i : Nat) : (nq_ secret l i l.length).1 = fOf secret l i := by
  unfold nq_ fOf
  rw [List.take_of_length_le (by rw [pts_len]; exact Nat.le_refl _)]
theorem nq_inv (secret : List UInt8) (l : List Sh) (i q : Nat) (hz : ∀ s ∈ l, s.1 ≠ 0) (hd : (l.map (·.1)).Nodup) (hq : q ≤ l.length) : 1 ≤ (nq_ secret l i q).1.length ∧ (nq_ secret l i q).1.length ≤ q + 1 ∧ (nq_ secret l i q).2.length = q + 2 := by
  have h : NwI (byte secret i) ((pts l i).take q) (nq_ secret l i q) := by
    refine nwI_all _ _ (fun p hp => ?_) ?_
    · obtain ⟨s, hs, rfl⟩ := List.mem_map.1 (List.mem_of_mem_take hp)
      exact hz s hs
    · rw [List.map_take, pts_xs]
      exact hd.sublist (List.take_sublist _ _)
  have hl : ((pts l i).take q).length = q := by rw [List.length_take, pts_len]; omega
  have h1 := h.fl
  have h2 := h.bl
  rw [hl] at h1 h2
  exact ⟨h.f1, h1, h2⟩

def lenV (v : Value) : Nat := match v with | .slice _ n _ => n | _ => 0
structure OI (w0 w : World) (go NM m k : Nat) (secret : List UInt8) (l : List Sh) (O : List UInt8) : Prop where
  bel : Below w0.heap.size w0 w
  out : BT w go 5 O
  ln : O.length = NM
  ok : ∀ i, i < k → RowOk m O i (fOf secret l i)
  z : ∀ p, k * m ≤ p → byte O p = 0
  lo : w0.heap.size ≤ go
theorem start_XI {w0 wo : World} {go NM m k : Nat} {secret : List UInt8} {l : List Sh} {O : List UInt8} (h : OI w0 wo go NM m k secret l O) (y : UInt8) :
    XI w0.heap.size w0 ((wo.alloc (.cells #[.int .u8 (y.toNat : Int)] 5)).alloc (.cells #[.int .u8 0, .int .u8 1] 5)) go O wo.heap.size 1 1 [y] (wo.heap.size + 1) [0, 1] := by
  have b1 := ba1 wo (.cells #[.int .u8 (y.toNat : Int)] 5)
  have b2 := ba1 (wo.alloc (.cells #[.int .u8 (y.toNat : Int)] 5)) (.cells #[.int .u8 0, .int .u8 1] 5)
  have n2 := heap_alloc_new (wo.alloc (.cells #[.int .u8 (y.toNat : Int)] 5)) (.cells #[.int .u8 0, .int .u8 1] 5)
  have hlt := h.out.lt
  have hle := h.bel.size
  rw [hz] at n2
  refine ⟨step_al (step_al h.bel b1) b2, (h.out.up b1).up b2, row_up ?_ b2, n2, h.lo, by omega, by omega, by omega, by omega⟩
  exact ⟨rfl, .inr ⟨wo.heap.size, 1, _, rfl, hle, heap_alloc_new wo _, Nat.le_refl _, by simp [maxLen], rfl, rfl⟩⟩
attribute [local go_sem] u8_xor
set_option maxHeartbeats 8000000 in
set_option maxRecDepth 100000 in
theorem explain_any (A : Option Addr) (cap : Nat) (secret : List UInt8) (C : Option Addr) (d : Nat) (l : List Sh) (N M P m : Nat) (w : World) (hN : N = secret.length) (hM : M = l.length) (hP : P = m + 1)
    (hs : Shows w w.heap.size A secret) (hl : ShL w w.heap.size C l) (hn : ∀ s ∈ l, s.2.length = N) (hz : ∀ s ∈ l, s.1 ≠ 0) (hd : (l.map (·.1)).Nodup) (hMm : M ≤ m) (hN40 : N ≤ 40) (hm : m ≤ 255) :
    Calls Try.prog 17 #[.slice A N cap, .slice C M d, .int .i64 (P : Int)] w fun e w' => ∃ go O, e = .returned (.slice (some ⟨go, 0, none⟩) (N * m) (N * m)) ∧ BT w' go 5 O ∧ O.length = N * m ∧
      (∀ i, i < N → RowOk m O i (fOf secret l i)) ∧ Below w.heap.size w w' := by
  have HS := Lib.hid hs
  have HL := Lib.hid hl
  have HN := Lib.hid hN
  have HM := Lib.hid hM
  have HNL := Lib.hid hn
  have HQ : Hid (∀ i q, q ≤ M → 1 ≤ (nq_ secret l i q).1.length ∧ (nq_ secret l i q).1.length ≤ q + 1 ∧ (nq_ secret l i q).2.length = q + 2) := fun i q hq => nq_inv secret l i q hz hd (by omega)
  obtain ⟨NM, hNM⟩ : ∃ NM, NM = N * m := ⟨_, rfl⟩
  have HNM := Lib.hid hNM
  have hNM2 : NM ≤ 10200 := by rw [hNM]; exact Nat.le_trans (Nat.mul_le_mul hN40 hm) (by decide)
  have e0 : (P : Int) - 1 = (m : Int) := by omega
  have e1 : (N : Int) * (m : Int) = (NM : Int) := by rw [hNM]; exact (Int.natCast_mul N m).symm
  have hP2 : P ≤ 256 := by omega
  have HP := Lib.hid hP
  rw [← hNM]
  have hmk : ∀ (W : World) (K : Nat), K ≤ 100000 → (Instr.makeSlice 22 (.int .i64 (K : Int)) (.int .i64 (K : Int))).run Try.prog W = .ok (.slice (some ⟨W.heap.size, 0, none⟩) K K) (W.alloc (.cells (madeCells #[.int .u8 0] K) 5)) := fun W K hK => by
    obtain ⟨i, hi, hz0, hsz, hb⟩ := info_parts info5
    have hr := run_make (P := Try.prog) W 22 5 i _ Try.underlying22 hi hz0 .i64 .i64 (K : Int) (K : Int) (by omega) (by omega) (by rw [hb]; omega) (by omega)
    simp only [Int.toNat_natCast, hsz, Nat.mul_one] at hr
    exact hr
  have HMK := Lib.hid hmk
  have hmk0 := hmk w NM (by omega)
  clear hs hl hN hM hn hz hd hNM hmk hP
  go_enter Try.func17, Try.ntmps17
  go_wp2
  have hst : Hid (OI w (w.alloc (.cells (madeCells #[.int .u8 0] NM) 5)) w.heap.size NM m 0 secret l (List.replicate NM 0)) := ⟨below_alloc _, made_BT w NM _ rfl, by simp, fun i hi => absurd hi (by omega), fun p _ => by simp [byte, List.getD_eq_getElem?_getD, List.getElem?_replicate]; split <;> rfl, Nat.le_refl _⟩
  clear hmk0
  generalize w.alloc (.cells (madeCells #[.int .u8 0] NM) 5) = w1 at *
  obtain ⟨go, hgo⟩ : ∃ go, go = w.heap.size := ⟨_, rfl⟩
  have HGO := Lib.hid hgo
  rw [← hgo] at hst ⊢
  clear hgo
  go_loopw [8] (fun i wr => ∃ (k : Nat) (O : List UInt8), k ≤ N ∧ i = .int .i64 k ∧ Hid (OI w wr go NM m k secret l O)) (fun i _ => N - (intOf i).toNat)
  case atStart => exact ⟨0, _, Nat.zero_le _, rfl, hst⟩
  case round =>
    clear hst
    obtain ⟨k, O, hk, rfl, hO⟩ := hrel
    obtain ⟨wo, hwo⟩ : ∃ wo : World, wo = wr := ⟨_, rfl⟩
    subst hwo
    by_cases hlt : k < N
    · have j1 : (k : Int) < (N : Int) := by omega
      have hsh := HS.out.below hO.out.bel
      obtain ⟨b1, off1, rfl, hb1, hcell⟩ := hsh (by have := HN.out; omega)
      have c1 := hcell k _ (byte_get (by rw [← HN.out]; exact hlt))
      clear hcell hsh
      have hX : Hid (XI w.heap.size w ((wo.alloc (.cells #[.int .u8 ((byte secret k).toNat : Int)] 5)).alloc (.cells #[.int .u8 0, .int .u8 1] 5)) go O wo.heap.size 1 1 (nq_ secret l k 0).1 (wo.heap.size + 1) (nq_ secret l k 0).2) := by
        show XI _ _ _ _ _ _ _ _ _ _ _
        rw [nq_zero]
        exact start_XI hO.out _
      go_wp2
      have HOO : Hid (O.length = NM ∧ (∀ i, i < k → RowOk m O i (fOf secret l i)) ∧ ∀ p, k * m ≤ p → byte O p = 0) := ⟨hO.out.ln, hO.out.ok, hO.out.z⟩
      generalize (wo.alloc (.cells #[.int .u8 ((byte secret k).toNat : Int)] 5)).alloc (.cells #[.int .u8 0, .int .u8 1] 5) = w2 at *
      generalize wo.heap.size = g0 at *
      clear c1 hO
      go_loopw [9, 10, 11] (fun u9 u10 i wr => ∃ (q gf cf gb nf nb : Nat), q ≤ M ∧ u9 = .slice (some ⟨gf, 0, none⟩) nf cf ∧ u10 = .slice (some ⟨gb, 0, none⟩) nb nb ∧ i = .int .i64 q ∧ Hid (nb = q + 2) ∧ Hid (XI w.heap.size w wr go O gf nf cf (nq_ secret l k q).1 gb (nq_ secret l k q).2)) (fun _ _ i _ => M - (intOf i).toNat)
      case atStart => exact ⟨0, _, _, _, _, _, Nat.zero_le _, rfl, rfl, rfl, rfl, hX⟩
      case round =>
        clear hX
        obtain ⟨q, gf, cf, gb, nf, nb, hq, rfl, rfl, rfl, hnb, hX⟩ := hrel
        obtain ⟨wi, hwi⟩ : ∃ wi : World, wi = wr := ⟨_, rfl⟩
        subst hwi
        obtain ⟨hf1, hf2, hb2⟩ := HQ.out k q hq
        have hnf : nf = (nq_ secret l k q).1.length := hX.out.fr.shows.1
        have HNF := Lib.hid hnf
        rw [← hnf] at hf1 hf2
        rw [← hnb.out] at hb2
        have hnb3 : nb ≤ 300 := by have := hnb.out; omega
        have HB2 := Lib.hid hb2
        clear hb2 hnf
        by_cases hlq : q < M
        · have j2 : (q : Int) < (M : Int) := by omega
          obtain ⟨s, hs⟩ : ∃ s, l[q]? = some s := ⟨l[q]'(by rw [← HM.out]; exact hlq), by simp⟩
          have hsn := HNL.out s (List.mem_of_getElem? hs)
          obtain ⟨b2, off2, rfl, hbB, d1, A1, n1, d2, hsh1, hle1, hmx1⟩ := (HL.out.below hX.out.bel).one hs
          rw [hsn] at d2 hle1
          obtain ⟨b3, off3, rfl, hb3, hcell⟩ := hsh1 (by rw [hsn]; omega)
          have c3 := hcell k _ (byte_get (by rw [hsn]; exact hlt))
          have HNW : Hid ((nq_ secret l k (q + 1)).1 = nwF (nq_ secret l k q).1 (nq_ secret l k q).2 (s.1, byte s.2 k) ∧ (nq_ secret l k (q + 1)).2 = plin s.1 (nq_ secret l k q).2) := by
            show _ ∧ _
            rw [nq_succ secret l k q s hs]
            exact ⟨rfl, rfl⟩
          clear hcell hsn hs
          obtain ⟨x, v⟩ := s
          simp only at d1 d2 c3 HNW
          generalize byte v k = y at *
          generalize hF : (nq_ secret l k q).1 = f at *
          generalize hG : (nq_ secret l k q).2 = b at *
          obtain ⟨fac, hfac⟩ : ∃ fac, fac = gmul (y ^^^ ev f x) (ginv (ev b x)) := ⟨_, rfl⟩
          have HFAC := Lib.hid hfac
          clear hfac
          have HA1 : Hid (Calls Try.prog 21 #[.slice (some ⟨gf, 0, none⟩) nf cf, .int .u8 (x.toNat : Int)] wi fun e w' => e = .returned (.int .u8 ((ev f x).toNat : Int)) ∧ ∃ m, w' = wi.drewN m) :=
            AtR_any _ nf cf _ f x wi HNF.out hX.out.fr.shows.2.2 (by omega)
          have HA2 : Hid (∀ m1, Calls Try.prog 21 #[.slice (some ⟨gb, 0, none⟩) nb nb, .int .u8 (x.toNat : Int)] (wi.drewN m1) fun e w' => e = .returned (.int .u8 ((ev b x).toNat : Int)) ∧ ∃ m, w' = wi.drewN m) := fun m1 =>
            (AtR_any _ nb nb _ b x (wi.drewN m1) HB2.out.symm ((hX.out.ba.shows hX.out.ba.lt).below (below_drewN (Below.refl _ _) m1)) (by omega)).mono fun e w' ⟨h1, m', h2⟩ => ⟨h1, m1 + m', by rw [h2, World.drewN_drewN]⟩
          clear hF hG
          go_wp2_with (first
            | ((with_reducible show Calls _ 21 #[.slice (some ⟨gf, _, _⟩) _ _, _] _ _); refine HA1.out.mono ?_; rintro e w' ⟨rfl, m1, rfl⟩)
            | ((with_reducible show Calls _ 21 _ _ _); refine (HA2.out m1).mono ?_; rintro e w' ⟨rfl, m2, rfl⟩)
            | (go_at_call 33; refine (invR_any (ev b x) _).mono ?_; rintro e w' ⟨rfl, rfl⟩)
            | (go_at_call 32; refine (mulR_any (y ^^^ ev f x) (ginv (ev b x)) _).mono ?_; rintro e w' ⟨rfl, rfl⟩))
          have hX2 : Hid (XI w.heap.size w (wi.drewN m2) go O gf (nf + 0) cf (f ++ List.replicate 0 0) gb b) := by
            show XI _ _ _ _ _ _ _ _ _ _ _
            rw [List.replicate_zero, List.append_nil, Nat.add_zero]
            exact hX.out.up (below_drewN (Below.refl _ _) m2)
          have hnfb : nf ≤ nb := by have := hnb.out; omega
          have hfac2 : (gmul (y ^^^ ev f x) (ginv (ev b x))) = fac := HFAC.out.symm
          rw [hfac2]
          clear hX HA1 HA2 hfac2 d1 d2 c3
          generalize wi.drewN m2 = w3 at *
          go_loopw [9] (fun u9 wq => ∃ gf cf t : Nat, u9 = .slice (some ⟨gf, 0, none⟩) (nf + t) cf ∧ nf + t ≤ nb ∧ Hid (XI w.heap.size w wq go O gf (nf + t) cf (f ++ List.replicate t 0) gb b)) (fun u _ => nb - lenV u)
          case atStart => exact ⟨gf, cf, 0, rfl, hnfb, hX2⟩
          case round =>
            clear hX2
            obtain ⟨gf, cf, t, rfl, hle, hX⟩ := hrel
            obtain ⟨wq, hwq⟩ : ∃ wq : World, wq = wr := ⟨_, rfl⟩
            subst hwq
            obtain ⟨nt, hnt⟩ : ∃ nt, nt = nf + t := ⟨_, rfl⟩
            have HNT := Lib.hid hnt
            rw [← hnt] at hX hle ⊢
            clear hnt
            by_cases hlb : nt < nb
            · have j3 : (nt : Int) < (nb : Int) := by omega
              have hroom : (f ++ List.replicate t 0).length + 1 ≤ 1000000 := by have := hX.out.fr.shows.1; omega
              go_wp2_with (at_builtin; refine wpList_grow_f (wr := wq) rfl (.tmp 79) (.tmp 80) rfl rfl rfl rfl hX.out hroom ?_; intro gf3 cf3 w4 hX4; have HX4 := Lib.hid hX4; clear hX4)
              go_roundw
              case rel =>
                refine ⟨gf3, cf3, t + 1, by rw [HNT.out]; rfl, by have := HNT.out; omega, ?_⟩
                have e : f ++ List.replicate (t + 1) (0 : UInt8) = f ++ List.replicate t 0 ++ [0] := by rw [List.replicate_succ', List.append_assoc]
                show XI _ _ _ _ _ _ _ _ _ _ _
                rw [e, show nf + (t + 1) = nt + 1 by rw [HNT.out]; rfl]
                exact HX4.out
              case measure => simp [lenV]; omega
            · have hen : nt = nb := by omega
              subst hen
              clear hle hlb
              have HFB : Hid (∀ p, byte (f ++ List.replicate t 0) p = byte f p) := fun p => by
                by_cases hp : p < f.length
                · exact byte_of (by rw [List.getElem?_append_left hp]; exact byte_get hp)
                · rw [byte_out (l := f) (by omega)]
                  by_cases hp2 : p < f.length + t
                  · exact byte_of (by rw [List.getElem?_append_right (by omega), List.getElem?_replicate, if_pos (by omega)])
                  · exact byte_out (by simp; omega)
              have HFL : Hid ((f ++ List.replicate t 0).length = nt) := hX.out.fr.shows.1.symm
              go_wp2
              go_loopw [15] (fun i wq => ∃ (j : Nat) (g : List UInt8), j ≤ nt ∧ i = .int .i64 j ∧ Hid (g.length = nt) ∧ Hid (∀ p, p < j → byte g p = byte f p ^^^ gmul fac (byte b p)) ∧ Hid (∀ p, j ≤ p → byte g p = byte f p) ∧ Hid (XI w.heap.size w wq go O gf nt cf g gb b)) (fun i _ => nt - (intOf i).toNat)
              case atStart => exact ⟨0, _, Nat.zero_le _, rfl, HFL, fun p hp => absurd hp (Nat.not_lt_zero _), fun p _ => HFB.out p, hX⟩
              case round =>
                clear hX HFB HFL
                obtain ⟨j, g, hj, rfl, hgl, hg1, hg2, hX⟩ := hrel
                obtain ⟨wx, hwx⟩ : ∃ wx : World, wx = wr := ⟨_, rfl⟩
                subst hwx
                by_cases hlj : j < nt
                · have j4 : (j : Int) < (nt : Int) := by omega
                  have d1 := owns_cell hX.out.fr (i := j) (by rw [hgl.out]; exact hlj)
                  have d2 := hX.out.ba.cell j (by rw [HB2.out]; exact hlj)
                  have d3 := owns_frozen hX.out.fr j
                  have HGJ := hg2.out j (Nat.le_refl _)
                  have HX5 : ∀ V : Int, V = ((byte g j ^^^ gmul fac (byte b j)).toNat : Int) → Hid (XI w.heap.size w (wx.setCell ⟨gf, j, none⟩ (.int .u8 V)) go O gf nt cf (g.set j (byte g j ^^^ gmul fac (byte b j))) gb b) := fun V hV => hX.out.setf j _ V hV (by rw [hgl.out]; exact hlj)
                  have HX6 := Lib.hid HX5
                  have HNG : Hid ((∀ p, p < j + 1 → byte (g.set j (byte g j ^^^ gmul fac (byte b j))) p = byte f p ^^^ gmul fac (byte b p)) ∧ (∀ p, j + 1 ≤ p → byte (g.set j (byte g j ^^^ gmul fac (byte b j))) p = byte f p)) := by
                    refine ⟨fun p hp => ?_, fun p hp => ?_⟩
                    · rw [byte_set _ _ _ _ (by rw [hgl.out]; exact hlj)]
                      split
                      · rename_i e
                        subst e
                        rw [HGJ]
                      · exact hg1.out p (by omega)
                    · rw [byte_set _ _ _ _ (by rw [hgl.out]; exact hlj), if_neg (by omega)]
                      exact hg2.out p (by omega)
                  clear HX5 HGJ
                  generalize hyg : byte g j = yg at *
                  generalize hyb : byte b j = yb at *
                  clear hyg hyb
                  go_wp2
                  go_still_tail 14, (by kernel_rfl)
                  still_call (mulR_any fac yb _)
                  repeat still_step
                  refine wpStill_nil ?_
                  change wpList _ _ _ _ _ wx.drew
                  go_wp2_with fail
                  go_roundw
                  case rel => exact ⟨j + 1, g.set j (yg ^^^ gmul fac yb), by omega, by go_num, (show _ = _ by rw [List.length_set]; exact hgl.out), HNG.out.1, HNG.out.2, (HX6.out _ (by simp)).out.up (Below.drew (Below.refl _ _))⟩
                  case measure => simp [intOf]; omega
                · have hjn : j = nt := by omega
                  subst hjn
                  have HF1 : Hid (g = nwF f b (x, y)) := by
                    have hbl := HB2.out
                    have hfl := HNF.out
                    refine ext_byte ?_ (fun p hp => ?_)
                    · rw [nwF, padd_len, pscale_len, hgl.out, hbl]
                      omega
                    · rw [nwF, byte_padd, byte_pscale, hg1.out p (by rw [← hgl.out]; exact hp), HFAC.out]
                  clear hg1 hg2
                  have hmk2 : (Instr.makeSlice 22 (.int .i64 ((j : Int) + 1)) (.int .i64 ((j : Int) + 1))).run Try.prog wx = .ok (.slice (some ⟨wx.heap.size, 0, none⟩) (j + 1) (j + 1)) (wx.alloc (.cells (madeCells #[.int .u8 0] (j + 1)) 5)) := by
                    have h := HMK.out wx (j + 1) (by omega)
                    rw [show ((j + 1 : Nat) : Int) = (j : Int) + 1 by omega] at h
                    exact h
                  have hN0 : Hid (BT (wx.alloc (.cells (madeCells #[.int .u8 0] (j + 1)) 5)) wx.heap.size 5 (List.replicate (j + 1) 0)) := made_BT wx (j + 1) _ rfl
                  have hX7 : Hid (XI w.heap.size w (wx.alloc (.cells (madeCells #[.int .u8 0] (j + 1)) 5)) go O gf j cf g gb b) := hX.out.up (ba1 _ _)
                  have HD : Hid (w.heap.size ≤ wx.heap.size ∧ wx.heap.size ≠ go ∧ wx.heap.size ≠ gf ∧ wx.heap.size ≠ gb) := by
                    have h1 := hX.out.top
                    have h2 := hX.out.out.lt
                    have h3 := hX.out.ba.lt
                    have h4 := (owns_blk hX.out.fr).2
                    exact ⟨h1, by omega, by omega, by omega⟩
                  go_wp2
                  clear hmk2 hX
                  generalize wx.alloc (.cells (madeCells #[.int .u8 0] (j + 1)) 5) = wy at *
                  generalize wx.heap.size = gn at *
                  go_loopw [17] (fun i wq => ∃ (i' : Nat) (L : List UInt8), i' ≤ j ∧ i = .int .i64 i' ∧ Hid (L.length = j + 1) ∧ Hid (BT wq gn 5 L) ∧
                    Hid (∀ p, byte L p = (if p < i' then gmul x (byte b p) else 0) ^^^ (if 1 ≤ p ∧ p ≤ i' then byte b (p - 1) else 0)) ∧ Hid (XI w.heap.size w wq go O gf j cf g gb b)) (fun i _ => j - (intOf i).toNat)
                  case atStart =>
                    refine ⟨0, _, Nat.zero_le _, rfl, by simp [Hid], hN0, fun p => ?_, hX7⟩
                    rw [if_neg (by omega), if_neg (by omega)]
                    simp [byte, List.getD_eq_getElem?_getD, List.getElem?_replicate]
                    split <;> rfl
                  case round =>
                    clear hN0 hX7
                    obtain ⟨i', L, hi', rfl, hLl, hLb, hLv, hX⟩ := hrel
                    obtain ⟨wz, hwz⟩ : ∃ wz : World, wz = wr := ⟨_, rfl⟩
                    subst hwz
                    by_cases hli : i' < j
                    · have j5 : (i' : Int) < (j : Int) := by omega
                      have j6 : (i' : Int) < (j : Int) + 1 := by omega
                      have j7 : (i' : Int) + 1 < (j : Int) + 1 := by omega
                      have d1 := hLb.out.cell i' (by rw [hLl.out]; omega)
                      have d2 := hX.out.ba.cell i' (by rw [HB2.out]; exact hli)
                      have d3 := hLb.out.frozen i'
                      obtain ⟨v1, hv1⟩ : ∃ v1, v1 = byte L i' ^^^ gmul x (byte b i') := ⟨_, rfl⟩
                      have HV1 := Lib.hid hv1
                      clear hv1
                      have d4 : Hid (byte (L.set i' v1) (i' + 1) = 0) := by
                        show _ = _
                        rw [byte_set _ _ _ _ (by rw [hLl.out]; omega), if_neg (by omega), hLv.out, if_neg (by omega), if_neg (by omega)]
                        rfl
                      have HX8 : Hid (∀ V : Int, V = (v1.toNat : Int) → BT (wz.setCell ⟨gn, i', none⟩ (.int .u8 V)).drew gn 5 (L.set i' v1) ∧ XI w.heap.size w (wz.setCell ⟨gn, i', none⟩ (.int .u8 V)).drew go O gf j cf g gb b) := fun V hV => by
                        subst hV
                        exact ⟨(hLb.out.set_ i' v1).drew, (hX.out.setn HD.out.1 HD.out.2.1 HD.out.2.2.1 HD.out.2.2.2 i' _).up (Below.drew (Below.refl _ _))⟩
                      have HNG : Hid (∀ p, byte ((L.set i' v1).set (i' + 1) (byte b i')) p = (if p < i' + 1 then gmul x (byte b p) else 0) ^^^ (if 1 ≤ p ∧ p ≤ i' + 1 then byte b (p - 1) else 0)) := fun p => by
                        rw [byte_set _ _ _ _ (by rw [List.length_set, hLl.out]; omega)]
                        split
                        · rename_i e
                          subst e
                          rw [if_neg (by omega), if_pos (by omega), UInt8.zero_xor]
                          rfl
                        · rw [byte_set _ _ _ _ (by rw [hLl.out]; omega)]
                          split
                          · rename_i e1 e2
                            subst e2
                            have a1 : (if i' < i' then gmul x (byte b i') else 0) = 0 := if_neg (by omega)
                            have a2 : (if i' < i' + 1 then gmul x (byte b i') else 0) = gmul x (byte b i') := if_pos (by omega)
                            have a3 : (if 1 ≤ i' ∧ i' ≤ i' then byte b (i' - 1) else 0) = (if 1 ≤ i' ∧ i' ≤ i' + 1 then byte b (i' - 1) else 0) := by
                              by_cases h1 : 1 ≤ i'
                              · rw [if_pos (by omega), if_pos (by omega)]
                              · rw [if_neg (by omega), if_neg (by omega)]
                            rw [HV1.out, hLv.out, a1, a2, a3, UInt8.zero_xor]
                            exact UInt8.xor_comm _ _
                          · rename_i e1 e2
                            rw [hLv.out]
                            congr 1
                            · by_cases h1 : p < i'
                              · rw [if_pos h1, if_pos (by omega)]
                              · rw [if_neg h1, if_neg (by omega)]
                            · by_cases h1 : 1 ≤ p ∧ p ≤ i'
                              · rw [if_pos h1, if_pos (by omega)]
                              · rw [if_neg h1, if_neg (by omega)]
                      generalize hyg : byte L i' = yg at *
                      generalize hyb : byte b i' = yb at *
                      have HYB := Lib.hid hyb
                      clear hyg hyb
                      go_wp2
                      go_still_tail 14, (by kernel_rfl)
                      still_call (mulR_any x yb _)
                      repeat still_step
                      refine wpStill_nil ?_
                      change wpList _ _ _ _ _ wz.drew
                      go_wp2_with fail
                      have HX9 := Lib.hid (HX8.out _ (show (((yg.toNat ^^^ (gmul x yb).toNat : Nat)) : Int) = _ by rw [HV1.out]; simp))
                      clear d1 d2 d3 HX8 hLb hX
                      generalize (wz.setCell ⟨gn, i', none⟩ (.int .u8 (((yg.toNat ^^^ (gmul x yb).toNat : Nat)) : Int))).drew = wk at *
                      have d1 := HX9.out.1.cell (i' + 1) (by rw [List.length_set, hLl.out]; omega)
                      rw [d4.out] at d1
                      have d2 := HX9.out.2.ba.cell i' (by rw [HB2.out]; exact hli)
                      rw [HYB.out] at d2
                      have d3 := HX9.out.1.frozen (i' + 1)
                      have j8 : (0 : Int) ≤ (i' : Int) + 1 := by omega
                      have j9 : ((i' : Int) + 1).toNat = i' + 1 := by omega
                      have j10 : IntKind.i64.wrap ((i' : Int) + 1) = (i' : Int) + 1 := IntWalk.i64_in _ ⟨by omega, by omega⟩
                      go_still_tail 14, (by kernel_rfl)
                      change wpList _ _ _ _ _ wk.drew
                      go_wp2_with fail
                      have HZX : Hid (bits BinOp.xor IntKind.u8 0 (yb.toNat : Int) = (yb.toNat : Int)) := by
                        have h := u8_xor 0 yb
                        rw [UInt8.zero_xor] at h
                        exact h
                      have HX10 : Hid (∀ V : Int, V = (yb.toNat : Int) → BT (wk.setCell ⟨gn, i' + 1, none⟩ (.int .u8 V)).drew gn 5 ((L.set i' v1).set (i' + 1) yb) ∧ XI w.heap.size w (wk.setCell ⟨gn, i' + 1, none⟩ (.int .u8 V)).drew go O gf j cf g gb b) := fun V hV => by
                        subst hV
                        exact ⟨(HX9.out.1.set_ (i' + 1) yb).drew, (HX9.out.2.setn HD.out.1 HD.out.2.1 HD.out.2.2.1 HD.out.2.2.2 (i' + 1) _).up (Below.drew (Below.refl _ _))⟩
                      go_roundw
                      case rel => exact ⟨i' + 1, (L.set i' v1).set (i' + 1) yb, by omega, by go_num, (show _ = _ by rw [List.length_set, List.length_set]; exact hLl.out), (HX10.out _ HZX.out).1, HNG, (HX10.out _ HZX.out).2⟩
                      case measure => simp [intOf]; omega
                    · have hij : i' = j := by omega
                      have HXS : Hid (XI w.heap.size w wz go O gf j cf (nq_ secret l k (q + 1)).1 gn (nq_ secret l k (q + 1)).2) := by
                        show XI _ _ _ _ _ _ _ _ _ _ _
                        rw [HNW.out.1, HNW.out.2]
                        have hbl := HB2.out
                        have e : L = plin x b := by
                          refine ext_byte (by rw [hLl.out, plin_len, hbl]) (fun p hp => ?_)
                          rw [hLl.out] at hp
                          rw [plin, byte_padd, byte_pscale, hLv.out, UInt8.xor_comm]
                          congr 1
                          · cases p with
                            | zero => rw [if_neg (by omega)]; rfl
                            | succ p => rw [if_pos (by omega)]; rfl
                          · by_cases h1 : p < i'
                            · rw [if_pos h1]
                            · rw [if_neg h1, byte_out (by omega), gmul_zero]
                        rw [← HF1.out, ← e]
                        exact hX.out.swap HD.out.1 HD.out.2.1 HD.out.2.2.1 hLb.out
                      go_wp2
                      go_roundw
                      case rel => exact ⟨q + 1, gf, cf, gn, j, j + 1, by omega, rfl, rfl, by go_num, (show _ = _ by rw [hnb.out]), HXS⟩
                      case measure => simp [intOf]; omega
        · have hqM : q = M := by omega
          subst hqM
          have j2 : ¬ (q : Int) < (q : Int) := by omega
          have HFO : Hid ((nq_ secret l k q).1 = fOf secret l k) := by
            have := nq_all secret l k
            rwa [← HM.out] at this
          have hnfP : nf ≤ P := by have := HP.out; omega
          have hnfm : nf ≤ m + 1 := by omega
          have hrow : Hid (k * m + m ≤ NM) := by
            show _ ≤ _
            rw [HNM.out, ← Nat.succ_mul]
            exact Nat.mul_le_mul_right m hlt
          obtain ⟨KM, hKM⟩ : ∃ KM, KM = k * m := ⟨_, rfl⟩
          have e5 : (k : Int) * (m : Int) = (KM : Int) := by rw [hKM]; exact (Int.natCast_mul k m).symm
          rw [← hKM] at hrow HOO
          have HKM := Lib.hid hKM
          have hKM2 : KM ≤ 10200 := by have := hrow.out; omega
          clear hKM hlq HB2 hq
          generalize (nq_ secret l k q).2 = b at *
          generalize (nq_ secret l k q).1 = f at *
          go_wp2
          go_loopw [18] (fun i wq => ∃ (j : Nat) (L : List UInt8), 1 ≤ j ∧ j ≤ nf ∧ i = .int .i64 j ∧ Hid (L.length = NM) ∧ Hid (∀ i, i < k → RowOk m L i (fOf secret l i)) ∧ Hid (∀ t, t + 1 < j → byte L (KM + t) = byte f (t + 1)) ∧
            Hid (∀ p, KM + j ≤ p + 1 → byte L p = 0) ∧ Hid (XI w.heap.size w wq go L gf nf cf f gb b)) (fun i _ => nf - (intOf i).toNat)
          case atStart => exact ⟨1, O, Nat.le_refl _, hf1, rfl, HOO.out.1, HOO.out.2.1, fun t ht => absurd ht (by omega), fun p hp => HOO.out.2.2 p (by omega), hX⟩
          case round =>
            clear hX
            obtain ⟨j, L, h1j, hjn, rfl, hLl, hLo, hLf, hLz, hX⟩ := hrel
            obtain ⟨wz, hwz⟩ : ∃ wz : World, wz = wr := ⟨_, rfl⟩
            subst hwz
            by_cases hlj : j < nf
            · have j3 : (j : Int) < (nf : Int) := by omega
              have j4 : (j : Int) < (P : Int) := by omega
              obtain ⟨T, hT⟩ : ∃ T, T + 1 = KM + j := ⟨KM + j - 1, by omega⟩
              have e6 : (KM : Int) + (j : Int) - 1 = (T : Int) := by omega
              have hTN : T < NM := by have := hrow.out; omega
              have j5 : (T : Int) < (NM : Int) := by omega
              have d1 := owns_cell hX.out.fr (i := j) (by rw [← HNF.out]; exact hlj)
              have d2 := hX.out.out.cell T (by rw [hLl.out]; exact hTN)
              have d3 := hX.out.out.frozen T
              have HXO := Lib.hid (hX.out.seto T (byte f j))
              have HNG : Hid ((∀ i, i < k → RowOk m (L.set T (byte f j)) i (fOf secret l i)) ∧ (∀ t, t + 1 < j + 1 → byte (L.set T (byte f j)) (KM + t) = byte f (t + 1)) ∧ (∀ p, KM + (j + 1) ≤ p + 1 → byte (L.set T (byte f j)) p = 0)) := by
                refine ⟨fun i hi t ht => ?_, fun t ht => ?_, fun p hp => ?_⟩
                · have hb : i * m + m ≤ KM := by rw [HKM.out, ← Nat.succ_mul]; exact Nat.mul_le_mul_right m hi
                  rw [byte_set _ _ _ _ (by rw [hLl.out]; exact hTN), if_neg (by omega)]
                  exact hLo.out i hi t ht
                · rw [byte_set _ _ _ _ (by rw [hLl.out]; exact hTN)]
                  split
                  · rename_i e
                    rw [show t + 1 = j by omega]
                  · exact hLf.out t (by omega)
                · rw [byte_set _ _ _ _ (by rw [hLl.out]; exact hTN), if_neg (by omega)]
                  exact hLz.out p (by omega)
              clear hT
              go_wp2
              go_roundw
              case rel => exact ⟨j + 1, L.set T (byte f j), by omega, by omega, by go_num, (show _ = _ by rw [List.length_set]; exact hLl.out), HNG.out.1, HNG.out.2.1, HNG.out.2.2, HXO⟩
              case measure => simp [intOf]; omega
            · have hjf : j = nf := by omega
              have j3 : ¬ (j : Int) < (nf : Int) := by omega
              have HOK : Hid (OI w wz go NM m (k + 1) secret l L) := by
                refine ⟨hX.out.bel, hX.out.out, hLl.out, fun i hi => ?_, fun p hp => ?_, hX.out.lo⟩
                · by_cases hik : i < k
                  · exact hLo.out i hik
                  · have : i = k := by omega
                    subst this
                    intro t ht
                    rw [← HFO.out, ← HKM.out]
                    by_cases htj : t + 1 < j
                    · exact hLf.out t htj
                    · rw [hLz.out _ (by omega)]
                      exact (byte_out (by rw [← HNF.out]; omega)).symm
                · rw [Nat.succ_mul, ← HKM.out] at hp
                  exact hLz.out p (by omega)
              go_wp2
              go_roundw
              case rel => exact ⟨k + 1, L, by omega, by go_num, HOK⟩
              case measure => simp [intOf]; omega
    · have hkN : k = N := by omega
      have j1 : ¬ (k : Int) < (N : Int) := by omega
      go_wp2
      go_ret
      refine ⟨go, rfl, O, hO.out.out, hO.out.ln, fun i hi => hO.out.ok i (by omega), hO.out.bel⟩
end Go.Proofs.Yteaaadccjnmacaa
