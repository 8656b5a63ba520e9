/-
  The program's Path, by a contract.
-/
import Derived.Test.YtpgbpfdedpppeaaBackP
import Derived.Test.YtpgbpfdedpppeaaLays
import Derived.Maps.AppendAt
namespace Go.Proofs.Ytpgbpfdedpppeaa
open Go.RowKit Go.Shelf
attribute [local go_sem] Oper.semAt_some

/-- the bytes of a field's path -/
def pathB (line : List Fd) : List UInt8 := Lib.join (line.reverse.map (·.nm.data.toList)) [46]
def pathOf (l : List Fd) (i : Int) : ByteArray := ⟨(pathB (anc l 8 true i).1).toArray⟩
theorem anc_len (l : List Fd) : ∀ (m : Nat) (fi : Bool) (i : Int), (anc l m fi i).1.length ≤ m
  | 0, _, _ => Nat.le_refl _
  | m + 1, fi, i => by
    unfold anc
    split
    · simp
    · split
      · simp
      · simp only [List.length_cons]
        have := anc_len l m false (by assumption : Fd).pa
        omega
theorem fieldG_mem {fi : Bool} : ∀ {l : List Fd} {i : Int} {f : Fd}, fieldG fi l i = some f → f ∈ l ∧ f.id = i ∧ (fi = true ∨ f.ty = 6)
  | [], _, _, h => by simp [fieldG] at h
  | g :: r, i, f, h => by
    unfold fieldG at h
    split at h
    · next hg => cases h; exact ⟨by simp, hg⟩
    · have := fieldG_mem h; exact ⟨by simp [this.1], this.2⟩
theorem anc_mem (l : List Fd) : ∀ (m : Nat) (fi : Bool) (i : Int), ∀ f ∈ (anc l m fi i).1, f ∈ l
  | 0, _, _ => by simp [anc]
  | m + 1, fi, i => by
    intro f hf
    unfold anc at hf
    split at hf
    · simp at hf
    · split at hf
      · simp at hf
      · next g hg =>
        simp only [List.mem_cons] at hf
        rcases hf with rfl | hf
        · exact (fieldG_mem hg).1
        · exact anc_mem l m false g.pa f hf
theorem cb_own {β : Type} (B : Nat) (t : TypeId) (f : β → List Value) : Go.Own (fun s W => CB W B t (f s)) := fun s X Y row hs hg hrow =>
  CB.grown hs hg (fun e' => by obtain ⟨o, ho, hc⟩ := hrow B e'.symm; rw [show X.heap[B]? = _ from hs] at ho; cases ho; cases hc)
theorem ownFrom_size {β : Type} (m B : Nat) : OwnFrom B (fun (_ : β) W => m ≤ W.heap.size) := fun _ _ _ _ hs hg _ => Nat.le_trans hs hg.size
theorem row_mono {W : World} {B B' : Nat} {e : TypeId} {k n : Nat} {v : Value} {xs : List Value} (h : W.ownsRow B e k v n xs) (hB : B' ≤ B) : W.ownsRow B' e k v n xs :=
  ⟨h.1, h.2.imp id fun ⟨g, cap, cur, h1, h2, h3⟩ => ⟨g, cap, cur, h1, by omega, h3⟩⟩
theorem infoStr : (Try.prog.info? 9).map (fun i => (i.zero, i.size, i.bytes)) = some (some (.string ⟨#[]⟩), 1, 16) := by kernel_rfl

theorem nms_snoc (pre : List (Nat × Fd)) (p : Nat × Fd) : (pre ++ [p]).map (fun q => Value.string q.2.nm) = pre.map (fun q => Value.string q.2.nm) ++ [.string p.2.nm] := by simp
theorem nms_get {W : World} {base A c : Nat} {v : Value} {xs : List ByteArray} (_ : A = c) (h : W.ownsRow base 9 1 v xs.length (xs.map Value.string)) : (v = .slice none 0 0 ∧ xs = []) ∨ ∃ g cap, v = .slice (some ⟨g, 0, none⟩) xs.length cap ∧ g < W.heap.size ∧ xs.length ≤ cap ∧ ∀ (j : Nat) x, xs[j]? = some x → W.cell? ⟨g, 0 + j, none⟩ = some (.string x) := by
  have h2 := h.2
  rcases h2 with ⟨e, h0⟩ | ⟨g, cap, cur, e, hb, hg, hn, hm, hs, ht⟩
  · exact .inl ⟨e, List.eq_nil_of_length_eq_zero h0⟩
  · refine .inr ⟨g, cap, e, (Array.getElem?_eq_some_iff.1 hg).1, hn, fun j x hj => ?_⟩
    have := World.ownsRow.cells h (g := g) (by rw [e]; rfl) j (.string x) (by rw [List.getElem?_map, hj]; rfl)
    rwa [Addr.add_lit] at this
theorem join_len : ∀ (xs : List (List UInt8)) (B : Nat), (∀ x ∈ xs, x.length ≤ B) → (Lib.join xs [46]).length ≤ xs.length * (B + 1)
  | [], _, _ => by simp [Lib.join]
  | [x], B, h => by
    have := h x (by simp)
    simp [Lib.join_one]
    omega
  | x :: y :: r, B, h => by
    have h1 := h x (by simp)
    have h2 := join_len (y :: r) B (fun z hz => h z (by simp at hz ⊢; right; exact hz))
    have e : Lib.join (x :: y :: r) [46] = x ++ ([46] ++ Lib.join (y :: r) [46]) := by rw [Lib.join_cons, Lib.join_cons]; simp [Lib.joinTail]
    rw [e]
    simp only [List.length_append, List.length_cons, List.length_nil] at h2 ⊢
    have : (r.length + 1 + 1) * (B + 1) = (r.length + 1) * (B + 1) + (B + 1) := by rw [Nat.add_mul (r.length + 1) 1, Nat.one_mul]
    omega

theorem Join_row (base : Nat) (v : Value) (xs : List ByteArray) (w : World) (h : w.ownsRow base 9 1 v xs.length (xs.map Value.string)) (hN : xs.length ≤ 8) (hB : ∀ x ∈ xs, x.size ≤ 1000000) :
    Calls Try.prog 46 #[v, .string ⟨#[46]⟩] w fun e w' => e = .returned (.string ⟨(Lib.join (xs.map (·.data.toList)) [46]).toArray⟩) ∧ Below w.heap.size w w' := by
  rcases nms_get (A := 0) (c := 0) rfl h with ⟨rfl, rfl⟩ | ⟨g, cap, rfl, hg, hc, hcells⟩
  · refine (Try.strings_Join_none none 0 ⟨#[46]⟩ w).mono ?_
    rintro e w' ⟨rfl, rfl⟩
    exact ⟨rfl, Below.refl _ _⟩
  · refine Try.strings_Join g 0 cap xs ⟨#[46]⟩ w hcells hg (by omega) hc ?_
    have h1 := join_len (xs.map (·.data.toList)) 1000000 (fun y hy => by
      obtain ⟨x, hx, rfl⟩ := List.mem_map.1 hy
      have := hB x hx
      rw [Array.length_toList]
      exact this)
    rw [List.length_map] at h1
    show (Lib.join _ [46]).length ≤ _
    have : xs.length * (1000000 + 1) ≤ 8 * (1000000 + 1) := Nat.mul_le_mul_right _ hN
    omega

set_option maxRecDepth 100000 in
set_option maxHeartbeats 8000000 in
theorem Path_any (A : Option Addr) (n c : Nat) (x : Int) (l : List Fd) (i : Int) (w : World) (hn : n = l.length) (hs : Fds w w.heap.size A l) (hl : n ≤ 9223372036854775807) (hsz : ∀ f ∈ l, f.nm.size ≤ 1000000) :
    Calls Try.prog 24 #[.agg #[.slice A n c, .int .i64 x], .int .i64 i] w fun e w' => e = .returned (.string (pathOf l i)) ∧ Below w.heap.size w w' := by
  refine (callsIn_wide (n := 6)).1 ?_
  have HN := Lib.hid hn
  have HS := Lib.hid hs
  have HM := Lib.hid hsz
  clear hn hs hsz
  refine callsIn_of_wp_marks Try.func24 rfl trivial ?_ rfl
  simp only [Try.ntmps24, List.size_toArray, List.length_cons, List.length_nil, Nat.reduceAdd, Nat.reduceSub, Array.replicate_succ, Array.replicate_zero, List.push_toArray, List.append_toArray, List.nil_append, List.cons_append]
  have HS2 := Lib.hid ((HS.out.below (al2 w (.cells #[.slice A n c, .int .i64 x] 30) (.cells #[.slice none 0 0] 76))).more (show w.heap.size ≤ ((w.alloc (.cells #[.slice A n c, .int .i64 x] 30)).alloc (.cells #[.slice none 0 0] 76)).heap.size by rw [asz, asz]; omega))
  gi_wp2_with (first | (refine ⟨trivial, ?_⟩; gi_at_call 44; refine (callsIn_wide.2 (ancestry_any _ n c l i _ HN.out HS2.out hl)).mono ?_; rintro e w5 ⟨⟨A5, c5, rfl, hf5⟩, hb5⟩; have HF5 := Lib.hid hf5; have HB5 := Lib.hid hb5; clear hf5 hb5) | (refine ⟨trivial, ?_⟩; gi_at_call 45; refine (back_in Fence.wide (6 - 1) trivial rfl _ _ _ _).mono ?_; rintro e w' ⟨rfl, rfl⟩))
  have HL8 := Lib.hid (anc_len l 8 true i)
  have HMM := Lib.hid (anc_mem l 8 true i)
  have hz5 : w.heap.size + 1 < w5.heap.size := by have := HB5.out.size; rw [asz, asz] at this; omega
  have hbx0 : Boxed w5 (w.heap.size + 1) 76 (.slice none 0 0) := by
    have h0 : Boxed ((w.alloc (.cells #[.slice A n c, .int .i64 x] 30)).alloc (.cells #[.slice none 0 0] 76)) (w.heap.size + 1) 76 (.slice none 0 0) := by
      have := Boxed.new (w.alloc (.cells #[.slice A n c, .int .i64 x] 30)) 76 (.slice none 0 0)
      rwa [asz] at this
    exact (HB5.out.block _ (by rw [asz, asz]; omega)).trans h0
  have hB0 : Below w.heap.size w w5 := (al2 w _ _).trans (HB5.out.mono (by rw [asz, asz]; omega))
  obtain ⟨b5, hb5, hne5, hin5⟩ : ∃ b5, b5 < w5.heap.size ∧ b5 ≠ w.heap.size + 1 ∧ FdsIn w5 b5 A5 (anc l 8 true i).1 := by
    rcases HF5.out.shape with ⟨hv, h0⟩ | ⟨g, cap, hv, hbg, hlt, hcap, hm⟩
    · refine ⟨w.heap.size, by omega, by omega, ?_⟩
      intro h
      have h0' := congrArg List.length h0
      simp at h0'
      rw [h0'] at h
      simp at h
    · rw [asz, asz] at hbg
      refine ⟨g, hlt, by omega, fun h => ?_⟩
      obtain ⟨_, _, _, hrow⟩ := HF5.out.row
      obtain ⟨b, off, e, hb, hc⟩ := hrow (by simpa using h)
      injection hv with hv1
      rw [hv1] at e
      injection e with e
      injection e with e1 e2
      subst e1
      refine ⟨off, by rw [hv1, e2], hb, fun i f hi => hc i f.cells (by rw [List.getElem?_map, hi]; rfl)⟩
  have hp0 : Hid (pathOf l i = ⟨(pathB (anc l 8 true i).1).toArray⟩) := rfl
  generalize (anc l 8 true i).1 = line at *
  generalize (decide ((anc l 8 true i).2 = 0)) = okb at *
  have hW0z : (w5.alloc (.cells #[.slice A5 line.length c5] 28)).heap.size = w5.heap.size + 1 := asz _ _
  have hbxI : (w5.alloc (.cells #[.slice A5 line.length c5] 28)).cell? ⟨w5.heap.size, 0, none⟩ = some (.slice A5 line.length c5) := (Boxed.new w5 28 (.slice A5 line.length c5)).cell
  have hbx1 := hbx0.alloc (.cells #[.slice A5 line.length c5] 28)
  have hin6 : FdsIn (w5.alloc (.cells #[.slice A5 line.length c5] 28)) b5 A5 line := fun h => by
    obtain ⟨off, e, hlt, hc⟩ := hin5 h
    exact ⟨off, e, by rw [hW0z]; omega, fun i f hi => (hc i f hi).below (al1 _ _) hlt⟩
  have hB1 : Below w.heap.size w (w5.alloc (.cells #[.slice A5 line.length c5] 28)) := hB0.alloc (by omega) _
  generalize (w5.alloc (.cells #[.slice A5 line.length c5] 28)) = w0 at hbxI hbx1 hin6 hW0z hB1 ⊢
  have HQ := Lib.hid hin6
  clear hin5 hin6 hbx0 hB0 HF5 HB5
  obtain ⟨i9, hi9, hz9, hs9, hb9⟩ := info_parts infoStr
  refine wpIn_rangeFunc_ownH rfl (by decide) (gf := 67) (lb := #[.pointer (some ⟨w5.heap.size, 0, none⟩)]) rfl trivial (enters_of Try.func67 (by kernel_rfl) rfl)
    (back_stops Fence.wide (6 - 1) trivial rfl (by omega) w5.heap.size b5 c5 A5 line (by have := HL8.out; omega) w0 (by omega) hbxI HQ.out (by omega)) KB.trans (kb_put (by omega) (by omega)) (Below.refl _ _) (fun _ => rfl)
    (fun pre W => (∃ v, Boxed W (w.heap.size + 1) 76 v ∧ W.ownsRow w0.heap.size 9 1 v pre.length (pre.map fun q => Value.string q.2.nm) ∧ True) ∧ (Below w.heap.size w W ∧ w0.heap.size ≤ W.heap.size))
    (fun _ _ _ => False)
    (OwnFrom.and (Own.from (holdsRow_own w0.heap.size (w.heap.size + 1) 76 9 1 (fun pre : List (Nat × Fd) => pre.length) (fun pre => pre.map fun q => Value.string q.2.nm) (fun _ _ => True)) _) (OwnFrom.and (ownFrom_below (Nat.le_refl _) (by omega)) (ownFrom_size _ _)))
    (fun _ _ _ _ _ hs _ _ => hs)
    ⟨⟨_, hbx1, World.ownsRow_nil _ _ _ _, trivial⟩, hB1, Nat.le_refl _⟩
    (fun p a' W => ∃ Bx, w.heap.size + 1 < Bx ∧ CB W Bx 41 p.2.cells ∧ a' = { tmps := #[.agg #[.slice A n c, .int .i64 x], .int .i64 i, .pointer (some ⟨w.heap.size, 0, none⟩), undef, .string ⟨#[]⟩, .pointer (some ⟨w.heap.size + 1, 0, none⟩), .slice A5 line.length c5, .bool okb, undef, .pointer (some ⟨Bx, 0, none⟩), .tuple #[.slice A5 line.length c5, .bool okb], .pointer (some ⟨w.heap.size, 0, none⟩), .slice A n c, .int .i64 i, .tuple #[.slice A5 line.length c5, .bool okb], .slice A5 line.length c5, .bool okb, .slice A5 line.length c5, .func (.func 67) #[] #[.pointer (some ⟨w5.heap.size, 0, none⟩)], .int .i64 (p.1 : Int), .agg #[.int .i64 p.2.id, .string p.2.nm, .int .i64 p.2.ty, .int .i64 p.2.pa], undef, undef, undef, undef, undef, undef, undef], defers := [] })
    (fun p a' _ X Y row hs hg hr => by obtain ⟨Bx, h1, h2, h3⟩ := hs; exact ⟨Bx, h1, cb_own Bx 41 (fun (_ : Unit) => p.2.cells) () X Y row h2 hg (fun r e => (hr r e).2), h3⟩)
    ?assign ?body ?done ?stop
  case assign =>
    rintro y pre p W K ⟨⟨v, hv, hr, _⟩, hB, hz⟩ hK
    have HV := Lib.hid hv
    have HR := Lib.hid hr
    clear hv hr
    simp only [encF]
    gi_wp2
    exact hK _ _ ((KeepsOthers.alloc _ _).from _) ⟨Below.heap_alloc _ _ _ (by omega), Below.heap_alloc _ _ _ (by omega)⟩ ⟨⟨v, HV.out.alloc _, World.ownsRow.alloc HR.out _, trivial⟩, hB.alloc hB.size _, by rw [asz]; omega⟩ ⟨W.heap.size, HV.out.lt, CB.new W 41 p.2.cells, rfl⟩
  case body =>
    rintro y pre p a' W hy ⟨r, hr⟩ ⟨⟨v, hv, hrow, _⟩, hB, hz⟩ ⟨Bx, hBx, hX, rfl⟩ hlt
    have cv := hv.cell
    have cx := hX.cell 1 rfl
    have HV := Lib.hid hv
    have HR := Lib.hid hrow
    clear hrow hv
    have hp8 : pre.length ≤ 8 := by have := HL8.out; omega
    have hm1 : pre.length + 1 ≤ maxLen := by simp only [maxLen]; omega
    have hz1 : w0.heap.size ≤ (W.alloc (.cells #[.string p.2.nm] 9)).heap.size := by rw [asz]; omega
    have h1c : ∀ u ∈ [Value.string p.2.nm], u.oneCell' = true := by simp [Value.oneCell']
    gi_wp2_with (gi_at_builtin; refine wpListIn_append_own _ rfl (.tmp 21) (.tmp 24) 76 rfl w0.heap.size 9 i9 (.string ⟨#[]⟩) 1 16 Try.underlying76 hi9 hz9 hs9 hb9 rfl (by decide) v pre.length _ rfl (World.ownsRow.alloc HR.out _) ⟨W.heap.size, 0, none⟩ 1 1 [.string p.2.nm] rfl rfl (cell_one_new _ _ _) h1c hm1 (by omega) hz1 ?_; intro v' w1 hown' hgrow _; obtain ⟨g', cap', rfl⟩ := ownsRow_succ hown'; have HO := Lib.hid hown'; have HG := Lib.hid hgrow; obtain ⟨hv1, hv2, hr2, hk2, hb2⟩ := Boxed.appended (n₀ := 0) HV.out (by decide) (row_mono HR.out (Nat.zero_le _)) (Nat.zero_le _) (Nat.zero_le _) (row_mono hown' (Nat.zero_le _)) hgrow; have hc1 := hv1.cell; have hf1 := hv1.frozen; clear hown' hgrow hr2 hb2)
    have hbl : ∀ k, k < w0.heap.size → k ≠ w.heap.size + 1 → (w1.setCell ⟨w.heap.size + 1, 0, none⟩ (.slice (some ⟨g', 0, none⟩) (pre.length + 1) cap')).heap[k]? = W.heap[k]? := fun k hk hne => by
      refine (Below.heap_setCell _ _ _ k hne).trans ((HG.out.block k (by rw [asz]; omega) (fun e => ?_)).trans (Below.heap_alloc _ _ _ (by omega)))
      have := (World.ownsRow.lt HR.out k e.symm).1
      omega
    refine ⟨hk2.from _, ⟨hbl _ (by omega) hne5, hbl _ (by omega) (by omega)⟩, ⟨_, hv2, ?_, trivial⟩, ?_, ?_⟩
    · have := HO.out.kept (grownBy_setCell' w1 (w.heap.size + 1) (.slice (some ⟨g', 0, none⟩) (pre.length + 1) cap')) (.inr (hv1.not_row (by decide) HO.out).symm)
      rw [nms_snoc, List.length_append]
      exact this
    · refine ((hB.alloc hB.size _).grown HG.out (by rw [asz]; omega) (fun k hk => ?_)).setCell (p := ⟨w.heap.size + 1, 0, none⟩) (by show w.heap.size ≤ w.heap.size + 1; omega) _
      have := (World.ownsRow.lt HR.out k hk).1
      omega
    · have := HG.out.size
      rw [asz] at this
      simp [World.setCell]
      omega
  case done =>
    rintro D ys W hD rfl ⟨⟨v, hv, hrow, _⟩, hB, hz⟩ hK
    have cv := hv.cell
    have hnm : ((upto (backAt line) line.length).map fun q => Value.string q.2.nm) = (line.reverse.map (·.nm)).map Value.string := by
      rw [← back_names line]
      simp
    have hln : (upto (backAt line) line.length).length = (line.reverse.map (·.nm)).length := by rw [upto_length]; simp
    rw [hnm, hln] at hrow
    have HJ := Lib.hid (Join_row w0.heap.size v (line.reverse.map (·.nm)) W hrow (by simpa using HL8.out) (fun z hz => by
      obtain ⟨f, hf, rfl⟩ := List.mem_map.1 hz
      exact HM.out f (HMM.out f (by simpa using hf))))
    have HD := Lib.hid hD
    have HK := Lib.hid hK
    clear hrow hnm hln hK hD
    gi_wp2_with (refine ⟨trivial, ?_⟩; gi_at_call 46; refine (callsIn_wide.2 HJ.out).mono ?_; rintro e w7 ⟨rfl, hb7⟩; have HB7 := Lib.hid hb7; clear hb7)
    have hK7 : w7.heap[D]? = some (.deferred (some [])) := (HB7.out.block D (Array.getElem?_eq_some_iff.1 HK.out).1).trans HK.out
    refine ⟨by simp, .inl ⟨_, _, rfl, run_takeDeferred hK7, ?_⟩⟩
    have hb8 : Below w.heap.size w w7 := hB.trans (HB7.out.mono (by omega))
    refine ⟨_, results_tmp rfl _ _ _, ?_, hb8.trans (belowK_b (w := w) (Nat.le_refl _) w7 D _ _ (by have := HD.out; omega) hK7 rfl rfl)⟩
    rw [hp0.out]
    unfold pathB
    simp [Function.comp_def]
  case stop =>
    rintro D c pre W _ _ h _
    exact h.elim
end Go.Proofs.Ytpgbpfdedpppeaa
