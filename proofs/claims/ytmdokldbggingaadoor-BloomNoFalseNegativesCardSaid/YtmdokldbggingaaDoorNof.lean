/-
  BloomNoFalseNegatives, walked: every key that was added is found, also in unions with any sketch and after folds.
-/
import Derived.Test.YtmdokldbggingaaDoorBlB
import Derived.Deep.CutRange
namespace Go.Proofs.YtmdokldbggingaaDoor
open Go.RowKit
namespace nofalse

theorem step_make_bytes {P : Program} {w : World} {ops : Array Oper} {o : Oper} {a : Act} {K : Act → World → Prop} {Q : Exit → Act → World → Prop} {F : Prop} (hgd : o.guard = none) (l c : Operand) (t : TypeId) (hop : o.op = Op.makeSlice t l c)
    (h1 : P.underlying t = some (.slice 5)) (h2 : (P.info? 5).map (fun i => (i.zero, i.size, i.bytes)) = some (some (.int .u8 0), 1, 1)) (m : Nat) (hl : a.eval l = .int .i64 (m : Int)) (hc : a.eval c = .int .i64 (m : Int)) (hm : m ≤ 281474976710656)
    (h : ∀ w', CB w' w.heap.size 5 (cb (List.replicate m 0)) → Below w.heap.size w w' → K (a.put o.dst (.slice (some ⟨w.heap.size, 0, none⟩) m m)) w') : if Region.wanted o (yielded ops a.tmps) = true then Oper.wp P o a w K Q else F := by
  rw [if_pos (by simp [Region.wanted, hgd])]
  obtain ⟨i, hi, hz, hs, hb⟩ := info_parts h2
  have hr := run_make (P := P) w t 5 i (.int .u8 0) h1 hi hz .i64 .i64 (m : Int) (m : Int) (by omega) (by omega) (by rw [hb]; omega) (by omega)
  simp only [Int.toNat_natCast] at hr
  unfold Oper.wp
  simp [execOp, hop, hl, hc, hr, Result.andThen]
  refine h _ ?_ ((Below.refl _ _).alloc (Nat.le_refl _) _)
  show Blk _ _ _
  unfold Blk
  rw [heap_alloc_new]
  congr 2
  apply Array.ext'
  rw [hs, Nat.mul_one, show Value.cells (.int .u8 0) = #[.int .u8 0] from rfl, toList_madeCells_one, cb_zeros]
/-- copy(row, src), whatever the source's length is -/
theorem wpList_copy_cut {P : Program} {w : World} {ops : Array Oper} {rest : List Oper} {o : Oper} {a : Act} {Q : Exit → Act → World → Prop} (hgd : o.guard = none) (d s : Operand) (dT sT : TypeId)
    (ho : o.op = .call { callee := .builtin .copy, args := #[d, s], argTypes := #[dT, sT] }) (hu : P.underlying dT = some (.slice 5)) (h2 : (P.info? 5).map (fun i => (i.zero, i.size, i.bytes)) = some (some (.int .u8 0), 1, 1))
    (sp : Option Addr) (m dCap sLen sCap g : Nat) (hd : a.eval d = .slice (some ⟨g, 0, none⟩) m dCap) (l : List UInt8) (hs : a.eval s = .slice sp sLen sCap) (hsl : sLen = l.length)
    (cur : List UInt8) (hg : CB w g 5 (cb cur)) (U : Nat) (hsh : Shows w U sp l) (hcur : cur.length = m)
    (h : ∀ w' v lo, lo.length = m → CB w' g 5 (cb lo) → w.grownBy w' (some g) → w'.heap.size = w.heap.size → wpList P ops Q rest (a.put o.dst v) w') : wpList P ops Q (o :: rest) a w := by
  have hsz := byte_info h2
  subst hsl
  rcases Nat.eq_zero_or_pos l.length with h0 | hpos
  · obtain rfl : l = [] := List.eq_nil_of_length_eq_zero h0
    refine wpList_copy_nothing hgd d s dT sT ho 5 hu hsz _ sp m dCap _ sCap hd hs (by simp) ?_
    exact h w _ cur hcur hg (World.grownBy.refl _ _) rfl
  · obtain ⟨b, off, rfl, hlt, hc⟩ := hsh hpos
    have hmin : (l.take m).length = Nat.min l.length m := by rw [List.length_take]; exact Nat.min_comm _ _
    have hle : (l.take m).length ≤ m := by rw [List.length_take]; exact Nat.min_le_left _ _
    refine wpList_copy_own hgd d s dT sT ho 5 hu hsz g 0 m dCap ⟨b, off, none⟩ l.length sCap hd hs (cb cur).toArray 5 hg (cb (l.take m)) (by rw [cb_len, hmin]) ?_ (by simp only [cb_len, List.size_toArray, Nat.zero_add]; omega) (cb_one _) ?_
    · intro j v hj
      obtain ⟨c, hc1, rfl⟩ := cb_get hj
      have hc2 : l[j]? = some c := by
        rw [List.getElem?_take] at hc1
        split at hc1
        · exact hc1
        · cases hc1
      simpa [Addr.add_lit] using hc j c hc2
    · refine h _ _ (l.take m ++ cur.drop (l.take m).length) (by rw [List.length_append, List.length_drop]; omega) ?_ (grown_setRow _ _ _) (by simp [World.setRow])
      unfold CB
      rw [setRow_heap w g _ _ 5 _ hg]
      congr 2
      simp [cb, List.map_drop]
theorem owns_q {w : World} {B n c : Nat} {A : Option Addr} {l : List UInt8} (h : Owns w B (.slice A n c) l) : n ≤ c ∧ c ≤ 9223372036854775807 := by
  have h1 := Owns.shows h
  exact ⟨by rw [h1.1]; exact h1.2.1, Owns.cap_le h⟩
theorem shows_cb {w : World} {g : Nat} {l : List UInt8} (h : CB w g 5 (cb l)) : Shows w w.heap.size (some ⟨g, 0, none⟩) l := fun _ => ⟨g, 0, rfl, h.lt, fun i c hi => by
  have := h.cell i (v := .int .u8 (c.toNat : Int)) (by simp [cb, hi])
  simpa using this⟩
set_option maxRecDepth 20000 in
theorem long1 (A B : Option Addr) (nk ck n k bm bc fo : Nat) (ks : List Ky) (w : World) (hnk : nk = ks.length) (hks : KsAt w w.heap.size A ks) (hnl : nk ≤ 140737488351232) (G : Glob w) (hl : longB ks = true) : Calls Tryd.prog 4 #[.agg #[.slice A nk ck, .int .u8 n, .int .u8 k], .slice B bm bc, .int .u8 fo] w fun e w' => e = .returned (.bool true) ∧ Below w.heap.size w w' := by
  have HG := Li G
  have HKS := Li hks
  have HNK := Li hnk
  have HL := Li hl
  clear G hks hnk hl
  go_enter Tryd.func4, Tryd.ntmps4
  go_wp2_with (first | (go_at_call 8; refine (sanity_any _ (HG.out.up (al1 w _))).mono ?_; rintro e w1 ⟨rfl, hb⟩; have P1 := Li ((CB.new w 39 [.slice A nk ck, .int .u8 n, .int .u8 k]).up hb); have B1 := Li (below_step (al1 w _) (al1 w _).size hb); obtain ⟨s0, s1, s2⟩ := P1.out.c3; have zs := P1.out.lt; clear hb) | (go_at_call 20; refine (long_any A nk ck ks _ HNK.out (HKS.out.up B1.out) (by omega)).mono ?_; rintro e w1 ⟨rfl, rfl⟩; rw [HL.out]))
  go_ret
  exact ⟨rfl, B1.out⟩
set_option maxRecDepth 20000 in
theorem long2 (A B : Option Addr) (nk ck n k bm bc fo : Nat) (ks : List Ky) (w : World) (hnk : nk = ks.length) (hks : KsAt w w.heap.size A ks) (hnl : nk ≤ 140737488351232) (G : Glob w) (hl : longB ks = false) (hm : 300 < bm) : Calls Tryd.prog 4 #[.agg #[.slice A nk ck, .int .u8 n, .int .u8 k], .slice B bm bc, .int .u8 fo] w fun e w' => e = .returned (.bool true) ∧ Below w.heap.size w w' := by
  have HG := Li G
  have HKS := Li hks
  have HNK := Li hnk
  have HL := Li hl
  have j1 : decide ((300 : Int) < (bm : Int)) = true := decide_eq_true (by omega)
  clear G hks hnk hl hm
  go_enter Tryd.func4, Tryd.ntmps4
  go_wp2_with (first | (go_at_call 8; refine (sanity_any _ (HG.out.up (al1 w _))).mono ?_; rintro e w1 ⟨rfl, hb⟩; have P1 := Li ((CB.new w 39 [.slice A nk ck, .int .u8 n, .int .u8 k]).up hb); have B1 := Li (below_step (al1 w _) (al1 w _).size hb); obtain ⟨s0, s1, s2⟩ := P1.out.c3; have zs := P1.out.lt; clear hb) | (go_at_call 20; refine (long_any A nk ck ks _ HNK.out (HKS.out.up B1.out) (by omega)).mono ?_; rintro e w1 ⟨rfl, rfl⟩; rw [HL.out]))
  go_ret
  exact ⟨rfl, B1.out⟩
theorem nOf_half {e : Nat} (he : e + 1 ≤ 10) : nOf (e + 1) = 2 * nOf e := by
  unfold nOf
  rw [Nat.mod_eq_of_lt (by omega), Nat.mod_eq_of_lt (by omega), Nat.pow_succ]
  omega
/-- the sketch in its box, the set's box -/
structure FS (w : World) (A : Option Addr) (nk ck n k p8 : Nat) (A1 : Option Addr) (c1 : Nat) (K : Int) (m : Nat) (l : List UInt8) (X : World) : Prop where
  b : CB X w.heap.size 39 [.slice A nk ck, .int .u8 n, .int .u8 k]
  f : CB X p8 24 [.int .i64 K, .slice A1 m c1]
  o : Owns X w.heap.size (.slice A1 m c1) l
  d : Below w.heap.size w X
  q : w.heap.size < p8
theorem FS.up {w : World} {A : Option Addr} {nk ck n k p8 : Nat} {A1 : Option Addr} {c1 : Nat} {K : Int} {m : Nat} {l : List UInt8} {X X' : World} (h : FS w A nk ck n k p8 A1 c1 K m l X) (hb : Below X.heap.size X X') : FS w A nk ck n k p8 A1 c1 K m l X' := ⟨h.b.up hb, h.f.up hb, owns_upB h.o hb, below_step h.d h.d.size hb, h.q⟩
/-- .. when another box is written -/
theorem FS.box {w : World} {A : Option Addr} {nk ck n k p8 : Nat} {A1 : Option Addr} {c1 : Nat} {K : Int} {m : Nat} {l : List UInt8} {X X' : World} {p : Nat} {c : List Value} (h : FS w A nk ck n k p8 A1 c1 K m l X) (hg : X.grownBy X' (some p)) (hp : w.heap.size < p) (h8 : p ≠ p8) (hB : CB X p 24 c) : FS w A nk ck n k p8 A1 c1 K m l X' :=
  ⟨h.b.grown hg (by intro h; injection h with h; omega), h.f.grown hg (by intro h'; injection h' with h'; omega), owns_kept h.o hg (.inr (fun e => owns_ne h.o hB (by decide) e.symm)), below_grownM h.d hg h.d.size (by omega), h.q⟩
/-- .. when a row that is not the sketch's is written -/
theorem FS.row {w : World} {A : Option Addr} {nk ck n k p8 : Nat} {A1 : Option Addr} {c1 : Nat} {K : Int} {m : Nat} {l : List UInt8} {X X' : World} {p : Nat} (h : FS w A nk ck n k p8 A1 c1 K m l X) (hg : X.grownBy X' (some p)) (hp : w.heap.size < p) (h8 : p ≠ p8) (ho : (Value.slice A1 m c1).ownBlock ≠ some p) : FS w A nk ck n k p8 A1 c1 K m l X' :=
  ⟨h.b.grown hg (by intro h; injection h with h; omega), h.f.grown hg (by intro h'; injection h' with h'; omega), owns_kept h.o hg (.inr ho), below_grownM h.d hg h.d.size (by omega), h.q⟩
theorem own_new {X : World} {B : Nat} {v : Value} {l : List UInt8} (h : Owns X B v l) {g : Nat} (hg : X.heap.size ≤ g) : v.ownBlock ≠ some g := by
  rcases h.2 with ⟨e, _⟩ | ⟨g', cap, cur, e, _, hc, _⟩
  · rw [e]; simp [Value.ownBlock]
  · rw [e]
    intro h'
    simp [Value.ownBlock] at h'
    have := (Array.getElem?_eq_some_iff.1 hc).1
    omega
theorem Has_is (K : Int) (F : Option Addr) (m d : Nat) (fl : List UInt8) (A : Option Addr) (ca : Nat) (key : List UInt8) (w : World) (hb : (bitsL K m key).all (tb fl) = true) (hm : m = fl.length) (hF : Shows w w.heap.size F fl) (hml : m ≤ 9223372036854775807) (hk : key.length ≤ 999000) (hs : Shows w w.heap.size A key) (G : Glob w) :
    Calls Tryd.prog 18 #[.agg #[.int .i64 K, .slice F m d], .slice A key.length ca] w fun e w' => e = .returned (.bool true) ∧ Below w.heap.size w w' := by
  rw [← hb]
  exact Has_any K F m d fl A ca key w hm hF hml hk hs G
theorem has_of {K m : Nat} {l : List UInt8} {ks : List Ky} (V : validB (K : Int) m = true) (hl : l.length = m) (h : holds K l (ks.map fun x => x.l)) {x : Ky} (hx : x ∈ ks) : (bitsL (K : Int) m x.l).all (tb l) = true := by
  have h1 := h x.l (List.mem_map.2 ⟨x, hx, rfl⟩)
  rw [hl] at h1
  unfold bitsL
  rw [if_pos V]
  exact h1
/-- both sketches in their boxes -/
structure GS (w : World) (A : Option Addr) (nk ck n k p8 : Nat) (A1 : Option Addr) (c1 : Nat) (K : Int) (m : Nat) (l : List UInt8) (p11 : Nat) (A11 : Option Addr) (c11 : Nat) (lu : List UInt8) (X : World) : Prop where
  f : FS w A nk ck n k p8 A1 c1 K m l X
  x : CB X p11 24 [.int .i64 K, .slice A11 m c11]
  s : Shows X X.heap.size A11 lu
theorem GS.up {w : World} {A : Option Addr} {nk ck n k p8 : Nat} {A1 : Option Addr} {c1 : Nat} {K : Int} {m : Nat} {l : List UInt8} {p11 : Nat} {A11 : Option Addr} {c11 : Nat} {lu : List UInt8} {X X' : World} (h : GS w A nk ck n k p8 A1 c1 K m l p11 A11 c11 lu X) (hb : Below X.heap.size X X') : GS w A nk ck n k p8 A1 c1 K m l p11 A11 c11 lu X' := ⟨h.f.up hb, h.x.up hb, h.s.up hb⟩
set_option maxHeartbeats 16000000 in
set_option maxRecDepth 40000 in
theorem main (A B : Option Addr) (nk ck n k bm bc fo : Nat) (ks : List Ky) (w : World) (hnk : nk = ks.length) (hks : KsAt w w.heap.size A ks) (hnl : nk ≤ 140737488351232) (G : Glob w) (bl : List UInt8) (hn : n < 256) (hk : k < 256) (hf : fo < 256) (hB : Shows w w.heap.size B bl) (hbm : bm = bl.length) (hl : longB ks = false) (hm : bm ≤ 300) : Calls Tryd.prog 4 #[.agg #[.slice A nk ck, .int .u8 n, .int .u8 k], .slice B bm bc, .int .u8 fo] w fun e w' => e = .returned (.bool true) ∧ Below w.heap.size w w' := by
  obtain ⟨hl60, hl300⟩ := keys_len hl
  obtain ⟨l0, hl0⟩ : ∃ l0, bldK k n ks = l0 := ⟨_, rfl⟩
  obtain ⟨e0, he0⟩ : ∃ e0, n % 11 = e0 := ⟨_, rfl⟩
  have he10 : e0 ≤ 10 := by omega
  have hne : nOf n = nOf e0 := by
    unfold nOf
    rw [← he0, Nat.mod_mod]
  obtain ⟨K, hK⟩ : ∃ K : Nat, kOf k = K := ⟨_, rfl⟩
  have V := Li (fun e => (by rw [← hK]; exact valid_of k e : validB (K : Int) (nOf e) = true))
  have hb1 : l0.length = nOf e0 := by rw [← hl0, ← hne]; exact bldK_len k n ks
  have hb2 : holds K l0 (ks.map fun x => x.l) := by rw [← hl0, ← hK]; exact holds_bld _ _ _ (nOf_le n).1
  obtain ⟨r, hr⟩ : ∃ r, fo % 12 = r := ⟨_, rfl⟩
  have hr12 : r < 12 := by omega
  have u1 : (fo : Int) % 12 = (r : Int) := by omega
  have u2 : (fo : Int).tmod 12 = (r : Int) := by rw [Int.tmod_eq_emod_of_nonneg (by omega)]; exact u1
  have i1 : ¬ (300 : Int) < (bm : Int) := by omega
  have HG := Li G
  have HKS := Li hks
  have HNK := Li hnk
  have HL := Li hl
  have HB := Li hB
  have HBM := Li hbm
  have H60 : nk ≤ 60 := by omega
  have H300 := Li hl300
  have HK := Li hK
  have HNE := Li hne
  have HL0 := Li hl0
  have HQ0 := Li (And.intro hb1 hb2)
  clear G hks hnk hl hB hbm hl60 hl300 hl0 he0 hne hK hb1 hb2 hr
  go_enter Tryd.func4, Tryd.ntmps4
  go_upto_region 5 with (first
    | (go_at_call 8; refine (sanity_any _ (HG.out.up (al1 w _))).mono ?_; rintro e w1 ⟨rfl, hb⟩; have P1 := Li ((CB.new w 39 [.slice A nk ck, .int .u8 n, .int .u8 k]).up hb); have B1 := Li (below_step (al1 w _) (al1 w _).size hb); obtain ⟨s0, s1, s2⟩ := P1.out.c3; have zs := P1.out.lt; clear hb)
    | (go_at_call 20; refine (long_any A nk ck ks _ HNK.out (HKS.out.up B1.out) (by omega)).mono ?_; rintro e w1 ⟨rfl, rfl⟩; rw [HL.out])
    | (go_at_call 21; refine (build_any A nk ck n k ks _ HNK.out (HKS.out.up B1.out) hn hk (HG.out.up B1.out) HL.out).mono ?_; rintro e w2 ⟨⟨A2, c2, rfl, ho⟩, hb⟩; rw [HL0.out, HNE.out] at ho; rw [HK.out, HNE.out]; have P2 := Li (P1.out.up hb); have B2 := Li (below_step B1.out B1.out.size hb); have O2 := Li ho; have hz2 := hb.size; clear hb ho P1 s0 s1 s2))
  have b2 := al1 w2 (.cells #[.int .i64 K, .slice A2 (nOf e0) c2] 24)
  have F2 := Li (show FS w A nk ck n k w2.heap.size A2 c2 (K : Int) (nOf e0) l0 (w2.alloc (.cells #[.int .i64 K, .slice A2 (nOf e0) c2] 24)) from ⟨P2.out.up b2, CB.new w2 24 [.int .i64 K, .slice A2 (nOf e0) c2], owns_upB (owns_low O2.out B1.out.size) b2, below_step B2.out B2.out.size b2, P2.out.lt⟩)
  clear O2 B2 b2 P2 B1 hz2 zs
  generalize w2.alloc (.cells #[.int .i64 K, .slice A2 (nOf e0) c2] 24) = V0 at *
  generalize w2.heap.size = p8 at *
  go_wp2_with fail
  go_loopw [9] (fun i wr => ∃ (j e : Nat) (A1 : Option Addr) (c1 : Nat) (l : List UInt8), j ≤ r + 1 ∧ e ≤ 10 ∧ i = .int .i64 j ∧ Hid (FS w A nk ck n k p8 A1 c1 (K : Int) (nOf e) l wr) ∧ Hid (l.length = nOf e ∧ holds K l (ks.map fun x => x.l))) (fun i _ => r + 1 - (intOf i).toNat)
  case atStart => exact ⟨0, e0, A2, c2, l0, by omega, he10, rfl, F2, HQ0⟩
  case round =>
    clear F2 HQ0 HL0 HNE
    obtain ⟨j, e, A1, c1, l, hj, he, rfl, PP, HQ⟩ := hrel
    by_cases hjr : j ≤ r
    · have j1 : (j : Int) ≤ (r : Int) := by omega
      obtain ⟨m, hmm⟩ : ∃ m, nOf e = m := ⟨_, rfl⟩
      have HM := Li hmm
      have hm1 : m ≤ 1024 := by have := (nOf_le e).2; omega
      have hm0 : 0 < m := by have := (nOf_le e).1; omega
      have VM := Li (show validB (K : Int) m = true by rw [← hmm]; exact V.out e)
      rw [hmm] at PP HQ
      clear hmm
      have LM := Li (show l.length = m from HQ.out.1)
      obtain ⟨y0, y1⟩ := PP.out.f.c2
      have yt := PP.out.f.lt
      go_upto_region 8 with fail
      clear y0 y1 yt
      go_cut [10] from 27 to 85 (fun x wx => ∃ p10 g : Nat, x = .pointer (some ⟨p10, 0, none⟩) ∧ w.heap.size < g ∧ g ≠ p8 ∧ g ≠ p10 ∧ p10 ≠ p8 ∧ w.heap.size < p10 ∧ (Value.slice A1 m c1).ownBlock ≠ some g ∧ Hid (FS w A nk ck n k p8 A1 c1 (K : Int) m l wx) ∧ Hid (CB wx p10 24 [.int .i64 K, .slice (some ⟨g, 0, none⟩) m m]) ∧ Hid (CB wx g 5 (cb (List.replicate m 0))))
      case first =>
        replace PP := Li (show FS w A nk ck n k p8 A1 c1 (K : Int) m l wr.drew from PP.out.up (bd wr))
        refine wp_region_held_drew (S := fun X => Hid (FS w A nk ck n k p8 A1 c1 (K : Int) m l X)) (by kernel_rfl) PP (fun hHeld => ?_)
        revert hHeld PP
        generalize wr.drew = X4
        intro PP hHeld
        have z8 := PP.out.f.lt
        have zb := PP.out.q
        have zo : ∀ g, X4.heap.size ≤ g → (Value.slice A1 m c1).ownBlock ≠ some g := fun g hg => own_new PP.out.o hg
        have ZO := Li zo
        clear zo
        refine htk 0 ?_
        refine htf 1 (fun _ h => And.intro h.out.f.c2 h.out.f.lt) ?_
        refine htk 2 ?_
        refine htf 3 (fun _ h => And.intro h.out.f.c2 h.out.f.lt) ?_
        refine htk 4 ?_
        refine rd2 5 7 (fun KK hK => ?_) (fun KK hK => ?_)
        · have zs5 : X4.heap.size ≤ X4.heap.size := Nat.le_refl _
          refine step_make_bytes rfl (.tmp 38) (.tmp 38) 22 rfl Tryd.underlying22 info5 m rfl rfl (by omega) ?_
          intro v5 hcb hb
          have K5 := Li hcb
          have zz5 : X4.heap.size ≤ v5.heap.size := Nat.le_trans zs5 hb.size
          replace PP := Li (show FS w A nk ck n k p8 A1 c1 (K : Int) m l v5 from PP.out.up hb)
          clear hb hcb
          refine hK.out _ _ (PP) (fun hHeld => ?_)
          clear hK KK
          try simp only [pnz]
          refine rd2 6 7 (fun KK hK => ?_) (fun KK hK => ?_)
          · go_simp
            have zs6 : X4.heap.size ≤ v5.heap.size := zz5
            have q56 : X4.heap.size < v5.heap.size := K5.out.lt
            go_at_call 22
            refine (sketch_any (K : Int) (some ⟨X4.heap.size, 0, none⟩) m m _).mono ?_
            rintro e v6 ⟨rfl, hb⟩
            have zz6 : X4.heap.size ≤ v6.heap.size := Nat.le_trans zs6 hb.size
            replace K5 := Li (K5.out.up hb)
            replace PP := Li (show FS w A nk ck n k p8 A1 c1 (K : Int) m l v6 from PP.out.up hb)
            clear hb
            go_wp2_with fail
            refine hK.out _ _ (PP) (fun hHeld => ?_)
            clear hK KK
            try simp only [pnz]
            refine rd1 7 fun KK hK => ?_
            go_simp
            have zs7 : X4.heap.size ≤ v6.heap.size := zz6
            have q57 : X4.heap.size < v6.heap.size := K5.out.lt
            have hb := al1 v6 (.cells #[.int .i64 0, .slice none 0 0] 24)
            have K7 := Li (CB.new v6 24 [.int .i64 0, .slice none 0 0])
            have zz7 : X4.heap.size ≤ (v6.alloc (.cells #[.int .i64 0, .slice none 0 0] 24)).heap.size := Nat.le_trans zs7 hb.size
            replace K5 := Li (K5.out.up hb)
            replace PP := Li (show FS w A nk ck n k p8 A1 c1 (K : Int) m l (v6.alloc (.cells #[.int .i64 0, .slice none 0 0] 24)) from PP.out.up hb)
            clear hb
            refine hK.out _ _ (PP) (fun hHeld => ?_)
            clear hK KK
            try simp only [pnz]
            generalize v6.alloc (.cells #[.int .i64 0, .slice none 0 0] 24) = v7 at *
            refine rd1 8 fun KK hK => ?_
            refine step_store_cb rfl 24 (.tmp 10) (.tmp 40) rfl (v6.heap.size) [.int .i64 K, .slice (some ⟨X4.heap.size, 0, none⟩) m m] rfl rfl 24 [.int .i64 0, .slice none 0 0] 2 K7.out infoB rfl rfl oneB ?_
            intro s8 hc hg hz
            replace PP := Li (show FS w A nk ck n k p8 A1 c1 (K : Int) m l s8 from PP.out.box hg (by omega) (by omega) K7.out)
            replace K5 := Li (K5.out.grown hg (by intro h; injection h with h; omega))
            replace K7 := Li hc
            clear hc hg hz
            refine hK.out _ _ (PP) (fun hHeld => ?_)
            clear hK KK
            try simp only [pnz]
            refine wpAnyH_done (by kernel_rfl) ?_ _
            go_wp2_with fail
            go_meet
            exact ⟨v6.heap.size, X4.heap.size, rfl, by omega, by omega, by omega, by omega, by omega, ZO.out _ (by omega), PP, K7, K5⟩
          · go_simp
            have zs7 : X4.heap.size ≤ v5.heap.size := zz5
            have q57 : X4.heap.size < v5.heap.size := K5.out.lt
            have hb := al1 v5 (.cells #[.int .i64 0, .slice none 0 0] 24)
            have K7 := Li (CB.new v5 24 [.int .i64 0, .slice none 0 0])
            have zz7 : X4.heap.size ≤ (v5.alloc (.cells #[.int .i64 0, .slice none 0 0] 24)).heap.size := Nat.le_trans zs7 hb.size
            replace K5 := Li (K5.out.up hb)
            replace PP := Li (show FS w A nk ck n k p8 A1 c1 (K : Int) m l (v5.alloc (.cells #[.int .i64 0, .slice none 0 0] 24)) from PP.out.up hb)
            clear hb
            refine hK.out _ _ (PP) (fun hHeld => ?_)
            clear hK KK
            try simp only [pnz]
            generalize v5.alloc (.cells #[.int .i64 0, .slice none 0 0] 24) = v7 at *
            refine rd1 6 fun KK hK => ?_
            go_simp
            have zs6 : X4.heap.size ≤ v7.heap.size := zz7
            have q56 : X4.heap.size < v7.heap.size := K5.out.lt
            have q76 : v5.heap.size < v7.heap.size := K7.out.lt
            go_at_call 22
            refine (sketch_any (K : Int) (some ⟨X4.heap.size, 0, none⟩) m m _).mono ?_
            rintro e v6 ⟨rfl, hb⟩
            have zz6 : X4.heap.size ≤ v6.heap.size := Nat.le_trans zs6 hb.size
            replace K5 := Li (K5.out.up hb)
            replace K7 := Li (K7.out.up hb)
            replace PP := Li (show FS w A nk ck n k p8 A1 c1 (K : Int) m l v6 from PP.out.up hb)
            clear hb
            go_wp2_with fail
            refine hK.out _ _ (PP) (fun hHeld => ?_)
            clear hK KK
            try simp only [pnz]
            refine rd1 8 fun KK hK => ?_
            refine step_store_cb rfl 24 (.tmp 10) (.tmp 40) rfl (v5.heap.size) [.int .i64 K, .slice (some ⟨X4.heap.size, 0, none⟩) m m] rfl rfl 24 [.int .i64 0, .slice none 0 0] 2 K7.out infoB rfl rfl oneB ?_
            intro s8 hc hg hz
            replace PP := Li (show FS w A nk ck n k p8 A1 c1 (K : Int) m l s8 from PP.out.box hg (by omega) (by omega) K7.out)
            replace K5 := Li (K5.out.grown hg (by intro h; injection h with h; omega))
            replace K7 := Li hc
            clear hc hg hz
            refine hK.out _ _ (PP) (fun hHeld => ?_)
            clear hK KK
            try simp only [pnz]
            refine wpAnyH_done (by kernel_rfl) ?_ _
            go_wp2_with fail
            go_meet
            exact ⟨v5.heap.size, X4.heap.size, rfl, by omega, by omega, by omega, by omega, by omega, ZO.out _ (by omega), PP, K7, K5⟩
        · go_simp
          have zs7 : X4.heap.size ≤ X4.heap.size := Nat.le_refl _
          have hb := al1 X4 (.cells #[.int .i64 0, .slice none 0 0] 24)
          have K7 := Li (CB.new X4 24 [.int .i64 0, .slice none 0 0])
          have zz7 : X4.heap.size ≤ (X4.alloc (.cells #[.int .i64 0, .slice none 0 0] 24)).heap.size := Nat.le_trans zs7 hb.size
          replace PP := Li (show FS w A nk ck n k p8 A1 c1 (K : Int) m l (X4.alloc (.cells #[.int .i64 0, .slice none 0 0] 24)) from PP.out.up hb)
          clear hb
          refine hK.out _ _ (PP) (fun hHeld => ?_)
          clear hK KK
          try simp only [pnz]
          generalize X4.alloc (.cells #[.int .i64 0, .slice none 0 0] 24) = v7 at *
          refine rd1 5 fun KK hK => ?_
          have zs5 : X4.heap.size ≤ v7.heap.size := zz7
          have q75 : X4.heap.size < v7.heap.size := K7.out.lt
          refine step_make_bytes rfl (.tmp 38) (.tmp 38) 22 rfl Tryd.underlying22 info5 m rfl rfl (by omega) ?_
          intro v5 hcb hb
          have K5 := Li hcb
          have zz5 : X4.heap.size ≤ v5.heap.size := Nat.le_trans zs5 hb.size
          replace K7 := Li (K7.out.up hb)
          replace PP := Li (show FS w A nk ck n k p8 A1 c1 (K : Int) m l v5 from PP.out.up hb)
          clear hb hcb
          refine hK.out _ _ (PP) (fun hHeld => ?_)
          clear hK KK
          try simp only [pnz]
          refine rd1 6 fun KK hK => ?_
          go_simp
          have zs6 : X4.heap.size ≤ v5.heap.size := zz5
          have q56 : v7.heap.size < v5.heap.size := K5.out.lt
          have q76 : X4.heap.size < v5.heap.size := K7.out.lt
          go_at_call 22
          refine (sketch_any (K : Int) (some ⟨v7.heap.size, 0, none⟩) m m _).mono ?_
          rintro e v6 ⟨rfl, hb⟩
          have zz6 : X4.heap.size ≤ v6.heap.size := Nat.le_trans zs6 hb.size
          replace K5 := Li (K5.out.up hb)
          replace K7 := Li (K7.out.up hb)
          replace PP := Li (show FS w A nk ck n k p8 A1 c1 (K : Int) m l v6 from PP.out.up hb)
          clear hb
          go_wp2_with fail
          refine hK.out _ _ (PP) (fun hHeld => ?_)
          clear hK KK
          try simp only [pnz]
          refine rd1 8 fun KK hK => ?_
          refine step_store_cb rfl 24 (.tmp 10) (.tmp 40) rfl (X4.heap.size) [.int .i64 K, .slice (some ⟨v7.heap.size, 0, none⟩) m m] rfl rfl 24 [.int .i64 0, .slice none 0 0] 2 K7.out infoB rfl rfl oneB ?_
          intro s8 hc hg hz
          replace PP := Li (show FS w A nk ck n k p8 A1 c1 (K : Int) m l s8 from PP.out.box hg (by omega) (by omega) K7.out)
          replace K5 := Li (K5.out.grown hg (by intro h; injection h with h; omega))
          replace K7 := Li hc
          clear hc hg hz
          refine hK.out _ _ (PP) (fun hHeld => ?_)
          clear hK KK
          try simp only [pnz]
          refine wpAnyH_done (by kernel_rfl) ?_ _
          go_wp2_with fail
          go_meet
          exact ⟨X4.heap.size, v7.heap.size, rfl, by omega, by omega, by omega, by omega, by omega, ZO.out _ (by omega), PP, K7, K5⟩
      case rest =>
        clear PP
        obtain ⟨p10, g, rfl, zg, zg8, zg10, z108, z10, zo, PP, X10, XG⟩ := hcut
        generalize wc = V1 at *
        obtain ⟨y0, y1⟩ := X10.out.c2
        have yt := X10.out.lt
        have yg := XG.out.lt
        go_upto_region 10 with ((with_reducible show wpList _ _ _ _ _ _); refine wpList_copy_cut rfl (.tmp 42) (.tmp 43) _ _ rfl Tryd.underlying22 info5 B m m bm bc g rfl bl rfl HBM.out (List.replicate m 0) XG.out V1.heap.size (HB.out.up PP.out.d) (by simp) ?_; intro w9 v9 lo hlo hcg hg hz; have LO := Li hlo; have X9 := Li hcg; have Q9 := Li (X10.out.grown hg (by intro h; injection h with h; omega)); have P9 := Li (show FS w A nk ck n k p8 A1 c1 (K : Int) m l w9 from PP.out.row hg zg zg8 zo); clear hlo hcg hg hz)
        clear y0 y1 yt yg PP X10 XG
        obtain ⟨y0, y1⟩ := Q9.out.c2
        have yt := Q9.out.lt
        obtain ⟨y2, y3⟩ := P9.out.f.c2
        have yu := P9.out.f.lt
        go_upto_region 11 with (go_at_call 9; refine (Union_ok (K : Int) A1 (some ⟨g, 0, none⟩) m c1 m l lo _ LM.out.symm LO.out.symm (by omega) (Owns.shows P9.out.o).2.2 (shows_cb X9.out) VM.out).mono ?_; rintro e w10 ⟨⟨A11, c11, rfl, ho⟩, hb⟩; have O10 := Li ho; have P10 := Li (P9.out.up hb); clear ho hb)
        clear y0 y1 y2 y3 yt yu
        have b10 := al1 w10 (.cells #[.int .i64 K, .slice A11 m c11] 24)
        have X11 := Li (CB.new w10 24 [.int .i64 K, .slice A11 m c11])
        have PP := Li (show FS w A nk ck n k p8 A1 c1 (K : Int) m l (w10.alloc (.cells #[.int .i64 K, .slice A11 m c11] 24)) from P10.out.up b10)
        have S11 := Li (owns_sh O10.out b10)
        have HU := Li (show holds K (orL l lo) (ks.map fun x => x.l) from holds_or (by rw [LM.out, LO.out]) HQ.out.2)
        have LU := Li (show (orL l lo).length = m by rw [orL_len (by rw [LM.out, LO.out]), LM.out])
        clear b10 P9 P10 O10 Q9 X9
        generalize w10.alloc (.cells #[.int .i64 K, .slice A11 m c11] 24) = V2 at *
        generalize w10.heap.size = p11 at *
        generalize orL l lo = lu at *
        go_wp2_with fail
        go_loopw [13] (fun i wx => ∃ q : Nat, q ≤ nk ∧ i = .int .i64 q ∧ Hid (GS w A nk ck n k p8 A1 c1 (K : Int) m l p11 A11 c11 lu wx)) (fun i _ => nk - (intOf i).toNat)
        case atStart => exact ⟨0, by omega, rfl, Li ⟨PP.out, X11.out, S11.out⟩⟩
        case round =>
          clear PP X11 S11
          obtain ⟨q, hq, rfl, PP⟩ := hrel
          by_cases hqk : q < nk
          · have j2 : (q : Int) < (nk : Int) := by omega
            have j3 : (0 : Int) ≤ (q : Int) := by omega
            obtain ⟨x, hx0⟩ : ∃ x, ks[q]? = some x := ⟨_, List.getElem?_eq_getElem (by rw [← HNK.out]; exact hqk)⟩
            have hxm := List.mem_of_getElem? hx0
            have hx3 := H300.out x hxm
            have HX := Li hx0
            have HF := Li (has_of VM.out LM.out HQ.out.2 hxm)
            have HG2 := Li (has_of VM.out LU.out HU.out hxm)
            have HM2 := Li hxm
            obtain ⟨b, off, hA, _⟩ := HKS.out.row (by rw [← HNK.out]; omega)
            subst hA
            clear hx0 hxm
            obtain ⟨y0, y1, y2⟩ := PP.out.f.b.c3
            have yt := PP.out.f.b.lt
            go_upto_region 16 with fail
            clear y0 y1 y2 yt
            replace PP := Li (PP.out.up (bd _))
            refine wpM.start (D := [0, 0, 2, 0, 12, 16, 33, 64, 192, 256, 256, 1280, 256, 6400, 8448, 17152, 33024, 65792]) (F := [0, 0, 2, 0, 12, 16, 33, 64, 128, 256, 256, 1280, 256, 6400, 8448, 17152, 33024, 65792]) (S := fun X => Hid (GS w (some ⟨b, off, none⟩) nk ck n k p8 A1 c1 (K : Int) m l p11 A11 c11 lu X)) (by kernel_rfl) PP (by kernel_rfl) (by kernel_rfl) (by kernel_rfl) (fun hHeld => ?_)
            revert hHeld PP
            generalize (World.drew _) = X0
            intro PP hHeld
            refine mtf 0 1 (fun _ h => And.intro h.out.f.f.c2 h.out.f.f.lt) ?_
            refine mtk 1 3 ?_
            refine mtf 2 7 (fun _ h => And.intro h.out.f.b.c3 h.out.f.b.lt) ?_
            refine mtk 3 15 ?_
            refine mtk 4 31 ?_
            refine mtf 5 63 (fun _ h => kcell (HKS.out.up h.out.f.d) HX.out) ?_
            refine md1 6 127 fun KK hK => ?_
            go_simp
            go_at_call 18
            refine (Has_is (K : Int) A1 m c1 l x.A x.c x.l _ HF.out LM.out.symm (Owns.shows PP.out.f.o).2.2 (by omega) (by omega) ((HKS.out.up PP.out.f.d).key x HM2.out) (HG.out.up PP.out.f.d)).mono ?_
            rintro e v66 ⟨rfl, hb⟩
            replace PP := Li (PP.out.up hb)
            clear hb
            go_wp2_with fail
            refine hK.out _ _ (PP) (fun hHeld => ?_)
            clear hK KK
            try simp only [pnz]
            refine mtk 7 255 ?_
            refine mtk 8 511 ?_
            refine mtf 9 1023 (fun _ h => And.intro h.out.x.c2 h.out.x.lt) ?_
            refine mtk 10 2047 ?_
            refine mtf 11 4095 (fun _ h => And.intro h.out.f.b.c3 h.out.f.b.lt) ?_
            refine mtk 12 8191 ?_
            refine mtk 13 16383 ?_
            refine mtf 14 32767 (fun _ h => kcell (HKS.out.up h.out.f.d) HX.out) ?_
            refine md1 15 65535 fun KK hK => ?_
            go_simp
            go_at_call 18
            refine (Has_is (K : Int) A11 m c11 lu x.A x.c x.l _ HG2.out LU.out.symm PP.out.s (by omega) (by omega) ((HKS.out.up PP.out.f.d).key x HM2.out) (HG.out.up PP.out.f.d)).mono ?_
            rintro e v75 ⟨rfl, hb⟩
            replace PP := Li (PP.out.up hb)
            clear hb
            go_wp2_with fail
            refine hK.out _ _ (PP) (fun hHeld => ?_)
            clear hK KK
            try simp only [pnz]
            refine mtk 16 131071 ?_
            refine mtk 17 262143 ?_
            refine done_m (of_decide_eq_true (by kernel_rfl)) (of_decide_eq_true (by kernel_rfl)) (by kernel_rfl) ?_
            go_wp2_with fail
            go_roundw
            case rel => exact ⟨q + 1, by omega, by go_num, PP⟩
            case measure => simp [intOf]; omega
          · have j2 : ¬ (q : Int) < (nk : Int) := by omega
            obtain ⟨y0, y1, y2⟩ := PP.out.f.b.c3
            have yt := PP.out.f.b.lt
            go_upto_region 18 with fail
            clear y0 y1 y2 yt
            have PF := Li PP.out.f
            clear PP
            obtain ⟨y0, y1⟩ := PF.out.f.c2
            have yt := PF.out.f.lt
            cases e with
            | zero =>
              have hm1' : m = 1 := by rw [← HM.out]; rfl
              subst hm1'
              go_wp2_with (go_at_call 11; refine (Fold_bad2 (K : Int) A1 c1 _).mono ?_; rintro e w18 ⟨rfl, hb⟩; have P18 := Li (PF.out.up hb); clear hb)
              go_ret
              exact ⟨rfl, below_step P18.out.d P18.out.d.size (al1 _ _)⟩
            | succ e' =>
              obtain ⟨h, hh⟩ : ∃ h, nOf e' = h := ⟨_, rfl⟩
              have HH := Li hh
              have hh0 : 0 < h := by have := (nOf_le e').1; omega
              have HMH := Li (show m = 2 * h by rw [← HM.out, ← hh]; exact nOf_half he)
              clear hh
              go_upto_region 19 with (go_at_call 11; refine (Fold_ok (K : Int) A1 m c1 h l _ LM.out.symm HMH.out hh0 (owns_q PF.out.o).1 (owns_q PF.out.o).2 (by omega) (Owns.shows PF.out.o).2.2 VM.out).mono ?_; rintro e w18 ⟨⟨A18, c18, rfl, ho⟩, hb⟩; have P18 := Li (PF.out.up hb); have O18 := Li (owns_low ho PF.out.d.size); clear ho hb)
              clear y0 y1 yt
              have b18 := al1 w18 (.cells #[.int .i64 K, .slice A18 h c18] 24)
              have X18 := Li (CB.new w18 24 [.int .i64 K, .slice A18 h c18])
              have P19 := Li (P18.out.up b18)
              have O19 := Li (owns_upB O18.out b18)
              have z18 : p8 < w18.heap.size := P18.out.f.lt
              clear b18 P18 O18 PF
              generalize w18.alloc (.cells #[.int .i64 K, .slice A18 h c18] 24) = V3 at *
              generalize w18.heap.size = p14 at *
              obtain ⟨y0, y1⟩ := X18.out.c2
              have yt := X18.out.lt
              have y2 := P19.out.f.frozen 0
              have y3 := P19.out.f.frozen 1
              obtain ⟨y4, y5⟩ := P19.out.f.c2
              have yu := P19.out.f.lt
              go_wp2
              have g1 := grown_setM V3 p8 0 (.int .i64 K)
              have g2 := grown_setM (V3.setCell ⟨p8, 0, none⟩ (.int .i64 K)) p8 1 (.slice A18 h c18)
              have hneO : (Value.slice A18 h c18).ownBlock ≠ some p8 := fun e => owns_ne O19.out P19.out.f (by decide) e.symm
              have hq8 := P19.out.q
              have PN := Li (show FS w A nk ck n k p8 A18 c18 (K : Int) (nOf e') (foldL l) ((V3.setCell ⟨p8, 0, none⟩ (.int .i64 K)).setCell ⟨p8, 1, none⟩ (.slice A18 h c18)) from by
                rw [HH.out]
                exact ⟨(P19.out.b.grown g1 (by intro h; injection h with h; omega)).grown g2 (by intro h; injection h with h; omega), (P19.out.f.set_ 0 (.int .i64 K)).set_ 1 (.slice A18 h c18), owns_kept (owns_kept O19.out g1 (.inr hneO)) g2 (.inr hneO),
                  below_grownM (below_grownM P19.out.d g1 P19.out.d.size (by omega)) g2 (by have := P19.out.d.size; simpa [World.setCell] using this) (by omega), hq8⟩)
              have QN := Li (show (foldL l).length = nOf e' ∧ holds K (foldL l) (ks.map fun x => x.l) from ⟨by rw [HH.out]; exact foldL_len (by rw [LM.out, HMH.out]), holds_fold (n := h) (by rw [LM.out, HMH.out]) hh0 HQ.out.2⟩)
              go_roundw
              case rel => exact ⟨j + 1, e', A18, c18, foldL l, by omega, by omega, by go_num, PN, QN⟩
              case measure => simp [intOf]; omega
    · have j1 : ¬ (j : Int) ≤ (r : Int) := by omega
      go_wp2
      go_ret
      exact ⟨rfl, PP.out.d⟩
theorem walkF (A : Option Addr) (nk ck n k : Nat) (ks : List Ky) (B : Option Addr) (bc : Nat) (bl : List UInt8) (fo : Nat) (w : World) (hnk : nk = ks.length) (hks : KsAt w w.heap.size A ks) (hnl : nk ≤ 140737488351232) (hn : n < 256) (hk : k < 256) (hB : Shows w w.heap.size B bl) (_hlc : bl.length ≤ bc) (_hc : bc ≤ 140737488351232) (hf : fo < 256) (G : Glob w) :
    Calls Tryd.prog 4 #[.agg #[.slice A nk ck, .int .u8 n, .int .u8 k], .slice B bl.length bc, .int .u8 fo] w fun e w' => e = .returned (.bool true) ∧ Below w.heap.size w w' := by
  cases hl : longB ks with
  | true => exact long1 A B nk ck n k bl.length bc fo ks w hnk hks hnl G hl
  | false =>
    by_cases hm : bl.length ≤ 300
    · exact main A B nk ck n k bl.length bc fo ks w hnk hks hnl G bl hn hk hf hB rfl hl hm
    · exact long2 A B nk ck n k bl.length bc fo ks w hnk hks hnl G hl (by omega)
end nofalse
end Go.Proofs.YtmdokldbggingaaDoor
