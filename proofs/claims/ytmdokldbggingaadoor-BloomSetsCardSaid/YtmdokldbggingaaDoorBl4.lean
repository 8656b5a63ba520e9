/-
  The program's Has: by a contract.
-/
import Derived.Test.YtmdokldbggingaaDoorBl3
namespace Go.Proofs.YtmdokldbggingaaDoor
open Go.RowKit Go.Shelf
attribute [local go_sem] Oper.semAt_some

theorem cbs_keep {W W' : World} {g : Nat} {t : TypeId} {l : List Value} {row : Option Nat} (h : CB W g t l) (hg : W.grownBy W' row) (hr : ∀ r, row = some r → ∃ o : Obj, W.heap[r]? = some o ∧ o.isCells = false) : CB W' g t l := h.grown hg (fun e => by
  obtain ⟨o, ho, hc⟩ := hr g e.symm
  unfold CB at h
  rw [h] at ho
  cases ho
  cases hc)
theorem keeps_below {W W' : World} (hb : Below W.heap.size W W') : KeepsOthers W W' := ⟨hb.size, fun k _ hk _ => (hb.block k (Array.getElem?_eq_some_iff.1 hk).1).trans hk⟩
theorem u8_and (x c : Nat) (hx : x < 256) (hc : c < 256) : bits .and .u8 (x : Int) (c : Int) = ((x &&& c : Nat) : Int) := by
  unfold bits
  show IntKind.u8.wrap ((BitVec.ofInt 8 _ &&& BitVec.ofInt 8 _).toNat : Int) = _
  rw [BitVec.toNat_and, BitVec.toNat_ofInt, BitVec.toNat_ofInt, IntKind.wrap_u8]
  have e1 : ((x : Int) % ((2 ^ 8 : Nat) : Int)).toNat = x := by omega
  have e2 : ((c : Int) % ((2 ^ 8 : Nat) : Int)).toNat = c := by omega
  rw [e1, e2]
  have : x &&& c ≤ x := Nat.and_le_left
  omega
theorem u8_or (x c : Nat) (hx : x < 256) (hc : c < 256) : bits .or .u8 (x : Int) (c : Int) = ((x ||| c : Nat) : Int) := by
  unfold bits
  show IntKind.u8.wrap ((BitVec.ofInt 8 _ ||| BitVec.ofInt 8 _).toNat : Int) = _
  rw [BitVec.toNat_or, BitVec.toNat_ofInt, BitVec.toNat_ofInt, IntKind.wrap_u8]
  have e1 : ((x : Int) % ((2 ^ 8 : Nat) : Int)).toNat = x := by omega
  have e2 : ((c : Int) % ((2 ^ 8 : Nat) : Int)).toNat = c := by omega
  rw [e1, e2]
  have := Nat.or_lt_two_pow (n := 8) hx hc
  omega
theorem bit_and (c : UInt8) (v : Nat) : bits .and .u8 ((c.toNat : Int) / 2 ^ v) 1 = ((c.toNat.testBit v).toNat : Int) := by
  have e1 : (c.toNat : Int) / 2 ^ v = ((c.toNat / 2 ^ v : Nat) : Int) := by push_cast; rfl
  have h := u8_and (c.toNat / 2 ^ v) 1 (Nat.lt_of_le_of_lt (Nat.div_le_self _ _) c.toNat_lt) (by decide)
  rw [e1, show ((1 : Int)) = ((1 : Nat) : Int) from rfl, h, Nat.and_one_is_mod, Nat.toNat_testBit]
theorem bitsL_lt {K : Int} {m : Nat} {key : List UInt8} : ∀ j ∈ bitsL K m key, j < 8 * m := fun j hj => by
  unfold bitsL at hj
  split at hj
  · rename_i h
    unfold validB at h
    rw [Bool.and_eq_true] at h
    exact keyB_lt (pow_le h.2).1 j hj
  · cases hj
set_option maxHeartbeats 8000000 in
set_option maxRecDepth 20000 in
theorem Has_any (K : Int) (F : Option Addr) (m d : Nat) (fl : List UInt8) (A : Option Addr) (ca : Nat) (key : List UInt8) (w : World) (hm : m = fl.length) (hF : Shows w w.heap.size F fl) (hml : m ≤ 9223372036854775807) (hk : key.length ≤ 999000) (hs : Shows w w.heap.size A key) (G : Glob w) :
    Calls Tryd.prog 18 #[.agg #[.int .i64 K, .slice F m d], .slice A key.length ca] w fun e w' => e = .returned (.bool ((bitsL K m key).all (tb fl))) ∧ Below w.heap.size w w' := by
  refine (callsIn_wide (n := 6)).1 ?_
  obtain ⟨L, hL⟩ : ∃ L, L = bitsL K m key := ⟨_, rfl⟩
  have HX := Li (show ∀ x : Fin L.length, L[x.1] < 8 * m from fun x => bitsL_lt (K := K) (key := key) _ (by rw [← hL]; exact List.getElem_mem x.2))
  rw [← hL]
  have HLq := Li hL
  have HM := Li hm
  have HF := Li hF
  have B0 := Li (al4 w (.cells #[.int .i64 K, .slice F m d] 24) (.cells #[.bool false] 4) (.cells #[.slice A key.length ca] 22) (.cells #[.int .i64 K, .slice F m d] 24))
  have P0 := Li ((((CB.new w 24 [.int .i64 K, .slice F m d]).alloc (.cells #[.bool false] 4)).alloc (.cells #[.slice A key.length ca] 22)).alloc (.cells #[.int .i64 K, .slice F m d] 24))
  have N0 := Li (((CB.new1 w (.cells #[.int .i64 K, .slice F m d] 24) 4 [.bool false]).alloc (.cells #[.slice A key.length ca] 22)).alloc (.cells #[.int .i64 K, .slice F m d] 24))
  have Q0 := Li ((CB.new2 w (.cells #[.int .i64 K, .slice F m d] 24) (.cells #[.bool false] 4) 22 [.slice A key.length ca]).alloc (.cells #[.int .i64 K, .slice F m d] 24))
  have R0 := Li (show CB ((((w.alloc (.cells #[.int .i64 K, .slice F m d] 24)).alloc (.cells #[.bool false] 4)).alloc (.cells #[.slice A key.length ca] 22)).alloc (.cells #[.int .i64 K, .slice F m d] 24)) (w.heap.size + 1 + 1 + 1) 24 [.int .i64 K, .slice F m d] from by
    have h := CB.new2 (w.alloc (.cells #[.int .i64 K, .slice F m d] 24)) (.cells #[.bool false] 4) (.cells #[.slice A key.length ca] 22) 24 [.int .i64 K, .slice F m d]
    rw [asz] at h
    exact h)
  have S0 := Li (hs.up B0.out)
  have G0 := Li (G.up B0.out)
  clear hm hF hs G hL
  refine callsIn_of_wp_marks Tryd.func18 rfl trivial ?_ rfl
  simp only [Tryd.ntmps18, List.size_toArray, List.length_cons, List.length_nil, Nat.reduceAdd, Nat.reduceSub, Array.replicate_succ, Array.replicate_zero, List.push_toArray, List.append_toArray, List.nil_append, List.cons_append]
  gi_wp2_with (refine ⟨trivial, ?_⟩; gi_at_call 34; refine (callsIn_wide.2 (bitsOf_any A key.length ca K F m d _)).mono ?_; rintro e w' ⟨rfl, rfl⟩)
  have zz : ((((w.alloc (.cells #[.int .i64 K, .slice F m d] 24)).alloc (.cells #[.bool false] 4)).alloc (.cells #[.slice A key.length ca] 22)).alloc (.cells #[.int .i64 K, .slice F m d] 24)).heap.size = w.heap.size + 1 + 1 + 1 + 1 := by rw [asz, asz, asz, asz]
  generalize ((((w.alloc (.cells #[.int .i64 K, .slice F m d] 24)).alloc (.cells #[.bool false] 4)).alloc (.cells #[.slice A key.length ca] 22)).alloc (.cells #[.int .i64 K, .slice F m d] 24)) = w0 at *
  refine wpIn_rangeFunc_ownF rfl (by decide) (gf := 41) (lb := #[.pointer (some ⟨w.heap.size + 1 + 1 + 1, 0, none⟩), .pointer (some ⟨w.heap.size + 1 + 1, 0, none⟩)]) rfl trivial (enters_of Tryd.func41 (by kernel_rfl) rfl)
    (bits_stops (6 - 1) (w.heap.size + 1 + 1 + 1) (w.heap.size + 1 + 1) K F m d A ca key L HLq.out hml hk w0 R0.out Q0.out S0.out G0.out) (fun _ _ => trivial) (fun _ _ _ _ _ _ _ _ => trivial) (Below.refl _ _) (fun _ => rfl)
    (fun pre W => (∀ i ∈ pre, tb fl L[i.1] = true) ∧ CB W w.heap.size 24 [.int .i64 K, .slice F m d] ∧ CB W (w.heap.size + 1) 4 [.bool false] ∧ (Below w.heap.size w W ∧ w0.heap.size ≤ W.heap.size))
    (fun c pre W => (c = .ret ∧ ∃ i ∈ pre, tb fl L[i.1] = false) ∧ CB W (w.heap.size + 1) 4 [.bool false] ∧ (Below w.heap.size w W ∧ w0.heap.size ≤ W.heap.size))
    (fun pre X Y row hs hg hr => ⟨hs.1, cbs_keep hs.2.1 hg (fun r e => (hr r e).2), cbs_keep hs.2.2.1 hg (fun r e => (hr r e).2), hs.2.2.2.1.grown hg (Nat.le_trans (by omega) hs.2.2.2.2) (fun k e => Nat.le_trans (by omega) (hr k e).1), Nat.le_trans hs.2.2.2.2 hg.size⟩)
    (fun c pre X Y row hs hg hr => ⟨hs.1, cbs_keep hs.2.1 hg (fun r e => (hr r e).2), hs.2.2.1.grown hg (Nat.le_trans (by omega) hs.2.2.2) (fun k e => Nat.le_trans (by omega) (hr k e).1), Nat.le_trans hs.2.2.2 hg.size⟩)
    ⟨fun _ h => (by cases h), P0.out, N0.out, B0.out, Nat.le_refl _⟩
    (fun x => { tmps := #[.agg #[.int .i64 K, .slice F m d], .slice A key.length ca, .pointer (some ⟨w.heap.size, 0, none⟩), undef, .pointer (some ⟨w.heap.size + 1, 0, none⟩), .int .i64 (L[x.1] : Nat), .slice A key.length ca, .agg #[.int .i64 K, .slice F m d], .func (.func 41) #[] #[.pointer (some ⟨w.heap.size + 1 + 1 + 1, 0, none⟩), .pointer (some ⟨w.heap.size + 1 + 1, 0, none⟩)], .int .i64 (L[x.1] : Nat), undef, undef, undef, undef, undef, undef, undef, undef, undef, undef, undef], defers := [] })
    ?assign ?body ?done ?stop
  case assign =>
    intro l x W K' hK
    simp only [encB]
    gi_wp2
    simpa using hK
  case body =>
    rintro l pre x W ⟨hI, hP, hc, hB, hz⟩ hlt
    have HI := Li hI
    obtain ⟨p0, p1⟩ := hP.c2
    have zp := hP.lt
    have c0 := hc.cell 0 rfl
    have cf := hc.frozen 0
    have zc := hc.lt
    have HP := Li hP
    have HC := Li hc
    have HW0 := Li hz
    have hjm := HX.out x
    obtain ⟨j, hj⟩ : ∃ j, L[x.1] = j := ⟨_, rfl⟩
    have HJ := Li hj
    rw [hj] at hjm ⊢
    obtain ⟨u, hu⟩ : ∃ u, j / 8 = u := ⟨_, rfl⟩
    obtain ⟨v, hv⟩ : ∃ v, j % 8 = v := ⟨_, rfl⟩
    have hum : u < m := by omega
    have hv8 : v < 8 := by omega
    have q1 : (j : Int) / 8 = (u : Int) := by omega
    have q2 : (j : Int) % 8 = (v : Int) := by omega
    obtain ⟨c, hcu⟩ := getL_of (l := fl) (k := u) (by rw [← HM.out]; exact hum)
    obtain ⟨b, off, rfl, hb, hcell⟩ := (HF.out.below hB) (by rw [← HM.out]; omega)
    have c1 := hcell u c hcu
    have zb : b < W.heap.size := Nat.lt_of_lt_of_le hb hB.size
    have HT := Li (show tb fl j = c.toNat.testBit v by unfold tb; rw [hu, hv, List.getD_eq_getElem?_getD, hcu]; rfl)
    have hbit := bit_and c v
    have i1 : (u : Int) < (m : Int) := by omega
    clear hI hP hc hz hj hu hv hcell hcu
    cases ht : c.toNat.testBit v with
    | false =>
      rw [ht] at hbit
      have HT2 := Li (show tb fl L[x.1] = false by rw [HJ.out, HT.out, ht])
      clear ht
      gi_wp2
      exact ⟨KeepsOthers.setCell _ _ _, ⟨rfl, x, by simp, HT2.out⟩, by simpa using HC.out.set_ 0 (.bool false), hB.setCell (p := ⟨w.heap.size + 1, 0, none⟩) (by show w.heap.size ≤ w.heap.size + 1; omega) _, by simpa [World.setCell] using HW0.out⟩
    | true =>
      rw [ht] at hbit
      have HT2 := Li (show tb fl L[x.1] = true by rw [HJ.out, HT.out, ht])
      clear ht
      gi_wp2
      exact ⟨keeps_below (Below.refl _ _), trivial, fun i hi => (List.mem_append.1 hi).elim (HI.out i) (fun h => by rw [List.mem_singleton] at h; subst h; exact HT2.out), HP.out, HC.out, hB, HW0.out⟩
  case done =>
    rintro D ys W hD rfl ⟨hI, hP, hc, hB, hz⟩ hK
    have c0 := hc.cell 0 rfl
    have cf := hc.frozen 0
    have zc := hc.lt
    have HC := Li hc
    have HK := Li hK
    have HD := Li hD
    have HI := Li hI
    clear hc hK hD hI
    gi_wp2
    have hK9 := (KeepsOthers.setCell W ⟨w.heap.size + 1, 0, none⟩ (.bool true)).same D _ HK.out rfl
    have T9 := (cbs_keep (HC.out.set_ 0 (.bool true)) (grownBy_putObj' _ D (.deferred none)) (fun r e => by cases e; exact ⟨_, hK9, rfl⟩)).cell 0 rfl
    refine ⟨by simp, .inl ⟨_, _, rfl, run_takeDeferred hK9, ?_⟩⟩
    refine ⟨.bool true, ?_, ?_, (hB.setCell (p := ⟨w.heap.size + 1, 0, none⟩) (by show w.heap.size ≤ w.heap.size + 1; omega) _).trans (belowK_b (w := w) (Nat.le_refl _) _ D _ _ (by have := HD.out; omega) hK9 rfl rfl)⟩
    · simp [results, Tryd.results18, go_sem, T9]
    · rw [List.all_eq_true.2 (fun x hx => by
        obtain ⟨k, hk, rfl⟩ := List.getElem_of_mem hx
        exact HI.out ⟨k, hk⟩ (List.mem_finRange _))]
  case stop =>
    rintro D c pre W hD _ ⟨⟨rfl, i, _, hi⟩, hc, hB, hz⟩ hK
    gi_wp2
    have T9 := (cbs_keep hc (grownBy_putObj' _ D (.deferred none)) (fun r e => by cases e; exact ⟨_, hK, rfl⟩)).cell 0 rfl
    refine ⟨by simp, .inl ⟨_, _, rfl, run_takeDeferred hK, ?_⟩⟩
    refine ⟨.bool false, ?_, ?_, hB.trans (belowK_b (w := w) (Nat.le_refl _) W D _ _ (by omega) hK rfl rfl)⟩
    · simp [results, Tryd.results18, go_sem, T9]
    · rw [show L.all (tb fl) = false from List.all_eq_false.2 ⟨_, List.getElem_mem i.2, by rw [hi]; decide⟩]
end Go.Proofs.YtmdokldbggingaaDoor
