/-
  slices.Grow of nil and slices.Concat of byte slices, by contracts.
-/
import Derived.Test.YtmdokldbggingaaDoorWordsP
import Derived.WalkSpells
import Derived.LoopTactic
namespace Go.Proofs.YtmdokldbggingaaDoor
open Go.RowKit

set_option maxRecDepth 20000 in
theorem grow_any (n : Nat) (w : World) (hn : n ≤ 1000000) :
    Calls Tryd.prog 52 #[.slice none 0 0, .int .i64 n] w fun e w' => ∃ A c, e = .returned (.slice A 0 c) ∧ Hid (Owns w' w.heap.size (.slice A 0 c) []) ∧ Below w.heap.size w w' := by
  have n1 : (0 : Int) ≤ (n : Int) := by omega
  by_cases h0 : n = 0
  · subst h0
    go_enter Tryd.func52, Tryd.ntmps52
    go_wp2_with fail
    go_ret
    exact ⟨none, 0, rfl, ⟨rfl, .inl ⟨rfl, rfl⟩⟩, Below.refl _ _⟩
  · have hb : Tryd.t5.bytes = 1 := rfl
    have hc : Builtin.nextslicecap n 0 = n := by unfold Builtin.nextslicecap; rw [if_pos (by omega)]
    have n2 : (0 : Int) < (n : Int) := by omega
    have n3 : ¬ (281474976710656 : Int) < (n : Int) := by omega
    have n4 : ¬ 281474976710656 < n := by omega
    have n5 : (n : Int) ≤ 9223372036854775807 := by omega
    go_enter Tryd.func52, Tryd.ntmps52
    go_wp2_with fail
    go_ret
    have hm : n ≤ maxLen := by simp only [maxLen]; omega
    have hge := grownCap_ge w n 0 5
    have hle := grownCap_le_maxLen w n 0 5 hm
    refine ⟨some ⟨w.heap.size, 0, none⟩, grownCap w n 0 5, rfl, ⟨rfl, .inr ⟨w.heap.size, _, _, rfl, Nat.le_refl _, heap_alloc_new w.drew _, Nat.zero_le _, hle, ?_, rfl⟩⟩, (Below.refl _ _).drew.alloc (Nat.le_refl _) _⟩
    have e : (Question.appendCap n 0 5).cut (w.tape w.drawn (Question.appendCap n 0 5)) = grownCap w n 0 5 := rfl
    rw [Array.size_append, size_zeroCells, size_zeroCells, e]
    simp
    omega

/-- append, the length a letter -/
theorem wpList_growM {P : Program} {w : World} {ops : Array Oper} {rest : List Oper} {o : Oper} {a : Act} {Q : Exit → Act → World → Prop} (hgd : o.guard = none) (d x : Operand) (t : TypeId)
    (ho : o.op = .call { callee := .builtin .append, args := #[d, x], argTypes := #[t, t] }) (ht : P.underlying t = some (.slice 5))
    (h2 : (P.info? 5).map (fun i => (i.zero, i.size, i.bytes)) = some (some (.int .u8 0), 1, 1)) (base : Nat) (v : Value) (l : List UInt8) (A : Option Addr) (n : Nat) (p : List UInt8) (c B m : Nat) (hn : n = p.length) (hm : m = (l ++ p).length)
    (hs : a.eval d = v) (hx : a.eval x = .slice A n c) (hr : Owns w base v l) (hp : Shows w B A p) (hroom : l.length + p.length ≤ 140737488355328) (hbase : base ≤ w.heap.size)
    (hK : ∀ A' c' w', Hid (Owns w' base (.slice A' m c') (l ++ p)) → Hid (w.grownBy w' v.ownBlock) → wpList P ops Q rest (a.put o.dst (.slice A' m c')) w') : wpList P ops Q (o :: rest) a w := by
  subst hm hn
  exact wpList_growB hgd d x t ho ht h2 base v l A p c B hs hx hr hp hroom hbase hK
structure Part where
  A : Option Addr
  l : List UInt8
  c : Nat
def Part.val (p : Part) : Value := .slice p.A p.l.length p.c
def tot (ps : List Part) (k : Nat) : Nat := ((ps.take k).map fun p => p.l.length).sum
def cat (ps : List Part) (k : Nat) : List UInt8 := (ps.take k).flatMap fun p => p.l
theorem tot_succ {ps : List Part} {k : Nat} {p : Part} (h : ps[k]? = some p) : tot ps (k + 1) = tot ps k + p.l.length := by
  unfold tot
  rw [List.take_add_one, h]
  simp
theorem cat_succ {ps : List Part} {k : Nat} {p : Part} (h : ps[k]? = some p) : cat ps (k + 1) = cat ps k ++ p.l := by
  unfold cat
  rw [List.take_add_one, h]
  simp
theorem cat_len (ps : List Part) (k : Nat) : (cat ps k).length = tot ps k := by
  unfold cat tot
  induction (ps.take k) with
  | nil => rfl
  | cons p r ih => simp [List.flatMap_cons, ih]
theorem tot_le (ps : List Part) (k : Nat) : tot ps k ≤ tot ps ps.length := by
  unfold tot
  rw [List.take_length]
  induction ps generalizing k with
  | nil => simp
  | cons p r ih =>
    cases k with
    | zero => simp
    | succ k =>
      simp only [List.take_succ_cons, List.map_cons, List.sum_cons]
      exact Nat.add_le_add_left (ih k) _

set_option maxHeartbeats 1000000 in
set_option maxRecDepth 20000 in
theorem concat_any (ps : List Part) (gs c : Nat) (w : World) (hcell : ∀ (i : Nat) p, ps[i]? = some p → w.cell? ⟨gs, i, none⟩ = some p.val) (hlt : gs < w.heap.size) (hsh : ∀ (i : Nat) p, ps[i]? = some p → Shows w w.heap.size p.A p.l)
    (ht : tot ps ps.length ≤ 1000000) (hk : ps.length ≤ 100) :
    Calls Tryd.prog 49 #[.slice (some ⟨gs, 0, none⟩) ps.length c] w fun e w' => ∃ A c n, e = .returned (.slice A n c) ∧ Hid (n = (cat ps ps.length).length) ∧ Hid (Owns w' w.heap.size (.slice A n c) (cat ps ps.length)) ∧ Below w.heap.size w w' := by
  have HC := Lib.hid hcell
  have HSh := Lib.hid hsh
  have HT := Lib.hid ht
  clear hcell hsh ht
  obtain ⟨m, hm⟩ : ∃ m, m = ps.length := ⟨_, rfl⟩
  rw [← hm] at hk ⊢
  have HM := Lib.hid hm
  clear hm
  go_enter Tryd.func49, Tryd.ntmps49
  go_wp2_with fail
  go_loop [3, 11] (fun u i => ∃ k : Nat, k ≤ m ∧ i = .int .i64 k ∧ u = .int .i64 (tot ps k)) (fun _ i => m - (intOf i).toNat)
  case atStart => exact ⟨0, by omega, rfl, rfl⟩
  case round =>
    obtain ⟨k, hk2, rfl, rfl⟩ := hrel
    by_cases hkm : k < m
    · obtain ⟨p, hp⟩ : ∃ p, ps[k]? = some p := ⟨_, List.getElem?_eq_getElem (by have := HM.out; omega)⟩
      have hv := HC.out k p hp
      unfold Part.val at hv
      have e := Lib.hid (tot_succ hp)
      have b1 : tot ps k + p.l.length ≤ 1000000 := by have := HT.out; have := tot_le ps (k + 1); rw [e.out] at this; rw [HM.out] at *; omega
      have b2 : (k : Int) < (m : Int) := by omega
      have b3 : ¬ ((tot ps k : Nat) : Int) + ((p.l.length : Nat) : Int) < 0 := by omega
      clear hp
      go_wp2_with fail
      go_round
      case rel => exact ⟨k + 1, by omega, by go_num, by rw [e.out]; go_num⟩
      case measure => simp [intOf]; omega
    · have hkm2 : k = m := by omega
      have HKM := Lib.hid hkm2
      have b4 : tot ps k ≤ 1000000 := by have := HT.out; have := tot_le ps k; rw [HM.out] at *; omega
      clear hk2 hkm2
      have b5 : ¬ ((tot ps k : Nat) : Int) < 0 := by omega
      go_wp2_with (go_at_call 52; refine (grow_any (tot ps k) w b4).mono ?_; rintro e w1 ⟨A1, c1, rfl, ho1, hb1⟩)
      go_loopw [6, 27] (fun v i wr => ∃ (j n : Nat) (A : Option Addr) (c : Nat), j ≤ m ∧ i = .int .i64 j ∧ v = .slice A n c ∧ Hid (n = (cat ps j).length) ∧ Hid (Owns wr w.heap.size (.slice A n c) (cat ps j)) ∧ Hid (Below w.heap.size w wr)) (fun _ i _ => m - (intOf i).toNat)
      case atStart => exact ⟨0, 0, A1, c1, by omega, rfl, rfl, rfl, ho1, hb1⟩
      case round =>
        obtain ⟨j, n, A, cc, hj, rfl, rfl, hn, ho, hb⟩ := hrel
        obtain ⟨wo, hwo⟩ : ∃ wo : World, wo = wr := ⟨_, rfl⟩
        subst hwo
        by_cases hjm : j < m
        · obtain ⟨p, hp⟩ : ∃ p, ps[j]? = some p := ⟨_, List.getElem?_eq_getElem (by have := HM.out; omega)⟩
          have hv := (hb.out.cell (p := ⟨gs, j, none⟩) hlt).trans (HC.out j p hp)
          unfold Part.val at hv
          have e := Lib.hid (cat_succ hp)
          have hsp : Hid (Shows wo w.heap.size p.A p.l) := (HSh.out j p hp).below hb.out
          have b6 : Hid ((cat ps j).length + p.l.length ≤ 1000000) := by have h1 := HT.out; have h2 := tot_le ps (j + 1); have h3 := cat_len ps (j + 1); rw [e.out, List.length_append] at h3; show _ ≤ _; omega
          have b2 : (j : Int) < (m : Int) := by omega
          clear hp
          go_wp2_with (at_builtin; refine wpList_growM rfl (.tmp 31) (.tmp 32) _ rfl Tryd.underlying22 info5 w.heap.size (.slice A n cc) (cat ps j) p.A p.l.length p.l p.c w.heap.size (cat ps j ++ p.l).length rfl rfl rfl rfl ho.out hsp.out (by have := b6.out; omega) hb.out.size ?_; intro A' c' w2 ho2 hg2)
          go_roundw
          case rel => exact ⟨j + 1, _, A', c', by omega, by go_num, rfl, by show _ = _; rw [e.out, List.length_append], by show Owns _ _ _ _; rw [e.out]; have h := ho2.out; rw [List.length_append] at h; exact h, grown_owns ho.out hg2.out hb.out hb.out.size (Nat.le_refl _)⟩
          case measure => simp [intOf]; omega
        · have hjm2 : j = m := by omega
          rw [hjm2] at hn ho
          clear hjm2 hj
          go_wp2_with fail
          go_ret
          exact ⟨A, cc, n, rfl, hn, ho, hb.out⟩
end Go.Proofs.YtmdokldbggingaaDoor
