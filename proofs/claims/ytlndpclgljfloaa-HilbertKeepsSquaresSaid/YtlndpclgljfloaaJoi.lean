/-
  The program's join: by a contract.
-/
import Derived.Test.YtlndpclgljfloaaHi2
import Derived.Test.YtlndpclgljfloaaHbC
import Derived.Laws.OwnMore
namespace Go.Proofs.Ytlndpclgljfloaa
open Go.RowKit

/-- ranges as cells -/
def rgV (p : Nat × Nat) : List Value := [.int .u64 p.1, .int .u64 p.2]
def RgO (w : World) (base : Nat) (v : Value) (l : List (Nat × Nat)) : Prop := Own 58 2 w base v (l.map rgV)
theorem rg_len (l : List (Nat × Nat)) : (l.map rgV).length = l.length := by simp
theorem flat_last (L : List (List Value)) (a b c : Value) (h : ∀ vs ∈ L, vs.length = 2) : (L ++ [[a, b]]).flatten.set (L.length * 2 + 1) c = (L ++ [[a, c]]).flatten := by
  rw [List.flatten_append, List.flatten_append, List.set_append_right _ _ (by rw [flat_len h]; omega), flat_len h, show L.length * 2 + 1 - L.length * 2 = 1 by omega]
  rfl
theorem rg_store {w : World} {base g c : Nat} {l : List (Nat × Nat)} {p q b : Nat} (h : RgO w base (.slice (some ⟨g, 0, none⟩) (l ++ [(p, q)]).length c) (l ++ [(p, q)])) :
    RgO (w.setCell ⟨g, l.length * 2 + 1, none⟩ (.int .u64 b)) base (.slice (some ⟨g, 0, none⟩) (l ++ [(p, b)]).length c) (l ++ [(p, b)]) := by
  have h2 : ∀ vs ∈ l.map rgV, vs.length = 2 := fun vs hv => by
    obtain ⟨x, _, rfl⟩ := List.mem_map.1 hv
    rfl
  have e1 : (l ++ [(p, q)]).map rgV = l.map rgV ++ [[.int .u64 p, .int .u64 q]] := by simp [rgV]
  have e2 : (l ++ [(p, b)]).map rgV = l.map rgV ++ [[.int .u64 p, .int .u64 b]] := by simp [rgV]
  unfold RgO at h ⊢
  rw [e1] at h
  rw [e2]
  have hl : (l ++ [(p, b)]).length = (l ++ [(p, q)]).length := by simp
  have hl2 : (l.map rgV ++ [[Value.int .u64 p, Value.int .u64 b]]).length = (l ++ [(p, q)]).length := by simp
  have hl3 : (l.map rgV ++ [[Value.int .u64 p, Value.int .u64 q]]).length = (l ++ [(p, q)]).length := by simp
  rw [hl]
  refine ⟨?_, fun vs hv => ?_⟩
  · have h1 := h.1
    rw [hl3] at h1
    have h3 := World.ownsRow.stored h1 (l.length * 2 + 1) (.int .u64 b)
    have e3 := flat_last (l.map rgV) (.int .u64 p) (.int .u64 q) (.int .u64 b) h2
    rw [rg_len] at e3
    rw [e3] at h3
    rw [hl2]
    exact h3.1
  · rcases List.mem_append.1 hv with hv | hv
    · exact h2 vs hv
    · rw [List.mem_singleton] at hv; rw [hv]; rfl
theorem rg_last {w : World} {base : Nat} {A : Option Addr} {n c : Nat} {l : List (Nat × Nat)} {p q : Nat} (h : RgO w base (.slice A n c) (l ++ [(p, q)])) :
    ∃ g, A = some ⟨g, 0, none⟩ ∧ n = l.length + 1 ∧ base ≤ g ∧ g < w.heap.size ∧ w.cell? ⟨g, l.length * 2 + 1, none⟩ = some (.int .u64 q) ∧ w.frozen? ⟨g, l.length * 2 + 1, none⟩ = false := by
  rcases h.shape with ⟨_, e⟩ | ⟨g, cap, e, hb, hlt, _, _⟩
  · simp at e
  · injection e with e1 e2 e3
    subst e1
    refine ⟨g, rfl, by rw [e2]; simp, hb, hlt, ?_⟩
    have hx : (l.map rgV ++ [rgV (p, q)]).flatten[l.length * 2 + 1]? = some (.int .u64 q) := by
      have := flat_get (L := l.map rgV ++ [rgV (p, q)]) (k := 2) (fun vs hv => by
        rcases List.mem_append.1 hv with hv | hv
        · obtain ⟨x, _, rfl⟩ := List.mem_map.1 hv; rfl
        · rw [List.mem_singleton] at hv; rw [hv]; rfl) (i := l.length) (vs := rgV (p, q)) (by simp) (j := 1) (v := .int .u64 q) rfl
      exact this
    have hm : (l ++ [(p, q)]).map rgV = l.map rgV ++ [rgV (p, q)] := by simp
    unfold RgO at h
    rw [hm] at h
    have := own_cell h (j := l.length * 2 + 1) (List.getElem?_eq_some_iff.1 hx).1
    exact ⟨this.1.trans hx, this.2⟩
theorem grown_of {w w' : World} {row : Option Nat} (h : Below w.heap.size w w') : w.grownBy w' row := ⟨h.os, h.tape, h.output, h.size, fun i hi _ => h.block i hi⟩
theorem info58 : (Try.prog.info? 58).map (fun i => (i.zero, i.size, i.bytes)) = some (some (.agg #[.int .u64 0, .int .u64 0]), 2, 16) := by kernel_rfl
set_option maxHeartbeats 4000000 in
set_option maxRecDepth 20000 in
theorem join_store (A : Option Addr) (n c : Nat) (l : List (Nat × Nat)) (p q a b B : Nat) (w : World) (h : RgO w B (.slice A n c) (l ++ [(p, q)])) (hq : q + 1 = a) (ha : a < 2 ^ 63) (hn : n ≤ 1000000) :
    Calls Try.prog 39 #[.slice A n c, .agg #[.int .u64 a, .int .u64 b]] w fun e w' => (∃ A' n' c', e = .returned (.slice A' n' c') ∧ RgO w' B (.slice A' n' c') (l ++ [(p, b)])) ∧ w.grownBy w' (Value.slice A n c).ownBlock := by
  obtain ⟨g, rfl, hnl, hB, hlt, hc, hf⟩ := rg_last h
  have H := Li h
  have hnl' : n = (l ++ [(p, q)]).length := by rw [hnl]; simp
  obtain ⟨m, hm⟩ : ∃ m, l.length = m := ⟨_, rfl⟩
  rw [hm] at hc hf hnl
  subst hnl
  subst hq
  have HN := Li hnl'
  have HM := Li hm
  clear h hm hnl'
  go_enter Try.func39, Try.ntmps39
  go_upto_region 2 with fail
  go_quiet (fail)
  go_upto_region 3 with fail
  go_region
  go_wp2
  go_ret
  refine ⟨⟨_, _, _, rfl, ?_⟩, ?_⟩
  · have h2 : RgO ((w.alloc (.cells #[.int .u64 ((q : Int) + 1), .int .u64 b] 58)).drewN (nq + 1)) B (.slice (some ⟨g, 0, none⟩) (l ++ [(p, q)]).length c) (l ++ [(p, q)]) := by
      rw [← HN.out]
      exact (H.out.alloc _).drewN _
    have h3 := rg_store (b := b) h2
    rw [HM.out] at h3
    have e : (l ++ [(p, b)]).length = m + 1 := by rw [List.length_append, HM.out]; rfl
    rw [e] at h3
    exact h3
  · exact grown_step (grown_of (below_drewN (al1 w _) _)) (grown_set _ g _ _)
set_option maxHeartbeats 4000000 in
set_option maxRecDepth 20000 in
theorem join_new (A : Option Addr) (n c : Nat) (l : List (Nat × Nat)) (p q a b B : Nat) (w : World) (h : RgO w B (.slice A n c) (l ++ [(p, q)])) (hq : ¬ q + 1 = a) (_ha : a < 2 ^ 63) (hql : q < 2 ^ 62) (hn : n ≤ 1000000) (hB : B ≤ w.heap.size) :
    Calls Try.prog 39 #[.slice A n c, .agg #[.int .u64 a, .int .u64 b]] w fun e w' => (∃ A' n' c', e = .returned (.slice A' n' c') ∧ RgO w' B (.slice A' n' c') (l ++ [(p, q)] ++ [(a, b)])) ∧ w.grownBy w' (Value.slice A n c).ownBlock := by
  obtain ⟨g, rfl, hnl, hB2, hlt, hc, hf⟩ := rg_last h
  have H := Li h
  have hnl' : n = (l ++ [(p, q)]).length := by rw [hnl]; simp
  obtain ⟨m, hm⟩ : ∃ m, l.length = m := ⟨_, rfl⟩
  rw [hm] at hc hf hnl
  subst hnl
  have HN := Li hnl'
  have HM := Li hm
  have e0 : (((q : Int) + 1) == (a : Int)) = false := beq_false_of_ne (by omega)
  clear h hm hnl' hq
  go_enter Try.func39, Try.ntmps39
  go_upto_region 2 with fail
  go_quiet (fail)
  go_upto_region 5 with fail
  have HO1 := Li (show RgO ((w.alloc (.cells #[.int .u64 a, .int .u64 b] 58)).drewN nq) B (.slice (some ⟨g, 0, none⟩) (m + 1) c) (l ++ [(p, q)]) from ((show RgO w B (.slice (some ⟨g, 0, none⟩) (m + 1) c) (l ++ [(p, q)]) from H.out).alloc _).drewN _)
  have HG1 := Li (grown_of (row := (Value.slice (some ⟨g, 0, none⟩) (m + 1) c).ownBlock) (below_drewN (al1 w (.cells #[.int .u64 a, .int .u64 b] 58)) nq))
  have HC1 := Li (show CB ((w.alloc (.cells #[.int .u64 a, .int .u64 b] 58)).drewN nq) w.heap.size 58 [.int .u64 a, .int .u64 b] from (CB.new w 58 (rgV (a, b))).drewN nq)
  have hB1 : B ≤ ((w.alloc (.cells #[.int .u64 a, .int .u64 b] 58)).drewN nq).heap.size := Nat.le_trans hB HG1.out.size
  have hW1 : w.heap.size < ((w.alloc (.cells #[.int .u64 a, .int .u64 b] 58)).drewN nq).heap.size := by
    show w.heap.size < (w.alloc _).heap.size
    rw [asz]; omega
  revert HO1 HG1 HC1 hB1 hW1
  generalize (w.alloc (.cells #[.int .u64 a, .int .u64 b] 58)).drewN nq = W1
  intro HO1 HG1 HC1 hB1 hW1
  obtain ⟨c0, c1⟩ := (show CB W1 w.heap.size 58 [.int .u64 a, .int .u64 b] from HC1.out).c2
  have hlen : (l ++ [(p, q)]).length ≤ 1000000 := by rw [← HN.out]; exact hn
  go_wp2_with (at_builtin; refine wpList_push (E := 58) (T := 54) (k := 2) rfl (.tmp 29) (.tmp 31) rfl Try.underlying54 info58 rfl (by decide) B (.slice (some ⟨g, 0, none⟩) (m + 1) c) ((l ++ [(p, q)]).map rgV) (rgV (a, b)) W1.heap.size rfl rfl rfl rfl HO1.out rfl (by simp [rgV, Value.oneCell']) (by first | (simp; done) | (simp at hlen ⊢; omega)) (by decide) hB1 ?_; intro A7 c7 w7 ho7 hg7 _; have HO7 := Li ho7; have HG7 := Li hg7; clear ho7 hg7)
  go_ret
  refine ⟨⟨_, _, _, rfl, ?_⟩, grown_step HG1.out HG7.out⟩
  unfold RgO
  rw [List.map_append]
  have e : l.length + 2 = ((l ++ [(p, q)]).map rgV ++ [rgV (a, b)]).length := by simp
  rw [e]
  exact HO7.out
set_option maxHeartbeats 4000000 in
set_option maxRecDepth 20000 in
theorem join_first (A : Option Addr) (n c : Nat) (a b B : Nat) (w : World) (h : RgO w B (.slice A n c) []) (hB : B ≤ w.heap.size) :
    Calls Try.prog 39 #[.slice A n c, .agg #[.int .u64 a, .int .u64 b]] w fun e w' => (∃ A' n' c', e = .returned (.slice A' n' c') ∧ RgO w' B (.slice A' n' c') [(a, b)]) ∧ w.grownBy w' (Value.slice A n c).ownBlock := by
  obtain rfl : n = 0 := by obtain ⟨_, _, e, _, _⟩ := h.slice; injection e
  have H := Li h
  clear h
  go_enter Try.func39, Try.ntmps39
  go_upto_region 2 with fail
  go_quiet (fail)
  go_upto_region 5 with fail
  have HO1 := Li (show RgO ((w.alloc (.cells #[.int .u64 a, .int .u64 b] 58)).drewN nq) B (.slice A 0 c) (([] : List (Nat × Nat))) from ((show RgO w B (.slice A 0 c) [] from H.out).alloc _).drewN _)
  have HG1 := Li (grown_of (row := (Value.slice A 0 c).ownBlock) (below_drewN (al1 w (.cells #[.int .u64 a, .int .u64 b] 58)) nq))
  have HC1 := Li (show CB ((w.alloc (.cells #[.int .u64 a, .int .u64 b] 58)).drewN nq) w.heap.size 58 [.int .u64 a, .int .u64 b] from (CB.new w 58 (rgV (a, b))).drewN nq)
  have hB1 : B ≤ ((w.alloc (.cells #[.int .u64 a, .int .u64 b] 58)).drewN nq).heap.size := Nat.le_trans hB HG1.out.size
  have hW1 : w.heap.size < ((w.alloc (.cells #[.int .u64 a, .int .u64 b] 58)).drewN nq).heap.size := by
    show w.heap.size < (w.alloc _).heap.size
    rw [asz]; omega
  revert HO1 HG1 HC1 hB1 hW1
  generalize (w.alloc (.cells #[.int .u64 a, .int .u64 b] 58)).drewN nq = W1
  intro HO1 HG1 HC1 hB1 hW1
  obtain ⟨c0, c1⟩ := (show CB W1 w.heap.size 58 [.int .u64 a, .int .u64 b] from HC1.out).c2
  go_wp2_with (at_builtin; refine wpList_push (E := 58) (T := 54) (k := 2) rfl (.tmp 29) (.tmp 31) rfl Try.underlying54 info58 rfl (by decide) B (.slice A 0 c) ((([] : List (Nat × Nat))).map rgV) (rgV (a, b)) W1.heap.size rfl rfl rfl rfl HO1.out rfl (by simp [rgV, Value.oneCell']) (by first | (simp; done) | (simp at hlen ⊢; omega)) (by decide) hB1 ?_; intro A7 c7 w7 ho7 hg7 _; have HO7 := Li ho7; have HG7 := Li hg7; clear ho7 hg7)
  go_ret
  refine ⟨⟨_, _, _, rfl, ?_⟩, grown_step HG1.out HG7.out⟩
  unfold RgO
  exact HO7.out
theorem join_any (A : Option Addr) (n c : Nat) (acc : List (Nat × Nat)) (a b B : Nat) (w : World) (h : RgO w B (.slice A n c) acc) (ha : a < 2 ^ 62) (hq : ∀ x ∈ acc, x.2 < 2 ^ 62) (hn : acc.length ≤ 1000000) (hB : B ≤ w.heap.size) :
    Calls Try.prog 39 #[.slice A n c, .agg #[.int .u64 a, .int .u64 b]] w fun e w' => (∃ A' n' c', e = .returned (.slice A' n' c') ∧ RgO w' B (.slice A' n' c') (Hb.joinL acc a b)) ∧ w.grownBy w' (Value.slice A n c).ownBlock := by
  have hnl : n = acc.length := by
    obtain ⟨_, _, e, _, _⟩ := h.slice
    injection e with _ e2 _
    rw [e2, rg_len]
  rcases List.eq_nil_or_concat acc with rfl | ⟨l, ⟨p, q⟩, rfl⟩
  · exact join_first A n c a b B w h hB
  · rw [List.concat_eq_append] at *
    rw [Hb.joinL_snoc]
    split
    · rename_i e
      exact join_store A n c l p q a b B w h e (by omega) (by omega)
    · rename_i e
      exact join_new A n c l p q a b B w h e (by omega) (hq (p, q) (by simp)) (by omega) hB
end Go.Proofs.Ytlndpclgljfloaa
