/-
  The program's wellFormed, bytes.Equal and bytes.Clone, by contracts.
-/
import Derived.Test.YteaaadccjnmacaaNewF
import Derived.Test.YteaaadccjnmacaaShl
namespace Go.Proofs.Yteaaadccjnmacaa
open Go.RowKit

def ub (u : List Bool) : List Value := u.map Value.bool
theorem ub_len (u : List Bool) : (ub u).length = u.length := by simp [ub]
theorem ub_set (u : List Bool) (i : Nat) (x : Bool) : ub (u.set i x) = (ub u).set i (.bool x) := by simp [ub, List.map_set]
theorem ub_one (u : List Bool) : ∀ v ∈ ub u, v.oneCell' = true := by
  intro v hv
  obtain ⟨c, _, rfl⟩ := List.mem_map.1 hv
  rfl
def usedAt (u : List Bool) (x : UInt8) : Bool := u.getD x.toNat false
theorem ub_get (u : List Bool) (hl : u.length = 256) (x : UInt8) : (ub u)[x.toNat]? = some (.bool (usedAt u x)) := by
  have := x.toNat_lt
  have h : x.toNat < u.length := by omega
  simp [ub, usedAt, h]
theorem usedAt_set (u : List Bool) (hl : u.length = 256) (x y : UInt8) : usedAt (u.set x.toNat true) y = (usedAt u y || x == y) := by
  have hx := x.toNat_lt
  have hy := y.toNat_lt
  unfold usedAt
  rw [List.getD_eq_getElem?_getD, List.getD_eq_getElem?_getD]
  by_cases h : x = y
  · subst h
    rw [List.getElem?_set_self (by omega)]
    simp
  · have h2 : x.toNat ≠ y.toNat := fun e => h (UInt8.toNat_inj.1 e)
    rw [List.getElem?_set_ne h2]
    simp [h]
def U0 : List Bool := true :: List.replicate 255 false
theorem U0_len : U0.length = 256 := by decide +kernel
theorem usedAt_U0 (x : UInt8) : usedAt U0 x = (x == 0) := by
  have := of_all (p := fun x => usedAt U0 x == (x == 0)) (by decide +kernel) x
  simpa using this
/-- the test as it goes along -/
def wfGo (n : Nat) : List Bool → List Sh → Bool
  | _, [] => true
  | u, s :: r => if usedAt u s.1 || s.2.length != n then false else wfGo n (u.set s.1.toNat true) r
def wfB (l : List Sh) : Bool := wfGo (lenOf l) U0 l
theorem wfGo_iff (n : Nat) (l : List Sh) : ∀ u : List Bool, u.length = 256 → (wfGo n u l = true ↔ (∀ s ∈ l, usedAt u s.1 = false) ∧ (l.map (·.1)).Nodup ∧ ∀ s ∈ l, s.2.length = n) := by
  induction l with
  | nil => intro u _; simp [wfGo]
  | cons s r ih =>
    intro u hu
    unfold wfGo
    by_cases h1 : usedAt u s.1 = true
    · simp [h1]
    · have h1' : usedAt u s.1 = false := by simpa using h1
      by_cases h2 : s.2.length = n
      · have hne : (s.2.length != n) = false := by simpa using h2
        rw [h1', hne, Bool.or_self, if_neg (by decide), ih _ (by simpa using hu)]
        simp only [usedAt_set u hu, List.map_cons, List.nodup_cons, List.mem_cons, forall_eq_or_imp, h1', h2, true_and, Bool.or_eq_false_iff, List.mem_map, not_exists, not_and]
        constructor
        · rintro ⟨a, b, c⟩
          refine ⟨fun t ht => (a t ht).1, ⟨fun t ht e => ?_, b⟩, c⟩
          have := (a t ht).2
          rw [e] at this
          simp at this
        · rintro ⟨a, ⟨b, c⟩, d⟩
          exact ⟨fun t ht => ⟨a t ht, by simpa using fun e => b t ht (Eq.symm e)⟩, c, d⟩
      · have hne : (s.2.length != n) = true := by simpa using h2
        rw [hne, Bool.or_true, if_pos rfl]
        simp [h2]
theorem wfB_iff (l : List Sh) : wfB l = true ↔ WF l := by
  unfold wfB
  rw [wfGo_iff _ _ _ U0_len]
  simp only [usedAt_U0]
  constructor
  · rintro ⟨a, b, c⟩
    exact ⟨fun s hs => by simpa using a s hs, b, c⟩
  · rintro ⟨a, b, c⟩
    exact ⟨fun s hs => by simpa using a s hs, b, c⟩

def Z69 : Array Value := (ub (List.replicate 256 false)).toArray
theorem zero69_is : ((Try.prog.info? 63).bind (·.zero)) = some (.agg Z69) := by kernel_rfl
theorem zero69 (w : World) : Sem.run Try.prog (zeroValue 63) w = .ok (.agg Z69) w := by
  obtain ⟨i, hi, hz⟩ := Option.bind_eq_some_iff.1 zero69_is
  simp [zeroValue, typeInfo, hi, hz]
theorem info69 : (Try.prog.info? 63).map (·.size) = some 256 := by kernel_rfl
theorem Z69_size : Z69.size = 256 := by
  show ((ub (List.replicate 256 false)).toArray).size = 256
  rw [List.size_toArray, ub_len, List.length_replicate]
theorem Z69_ne : ¬ Z69 = #[] := fun h => by
  have := Z69_size
  rw [h] at this
  exact absurd this (by decide)
theorem build69 (w : World) : (Instr.build 63 #[(0, .bool true)]).run Try.prog w = .ok (.agg (ub U0).toArray) w := by kernel_rfl
theorem wpList_build69 {w : World} {ops : Array Oper} {rest : List Oper} {o : Oper} {a : Act} {Q : Exit → Act → World → Prop} (hgd : o.guard = none) (ho : o.op = .build 63 #[(0, .const (.bool true))])
    (h : wpList Try.prog ops Q rest (a.put o.dst (.agg (ub U0).toArray)) w) : wpList Try.prog ops Q (o :: rest) a w := by
  refine wpList_plain hgd fun K hK => ?_
  have hb := build69 w
  unfold Oper.wp execOp
  simp only [ho, List.map_toArray, List.map_cons, List.map_nil, Act.eval, Sem.run_bind, hb, Result.andThen_ok, Sem.run_pure]
  exact hK _ _ h
attribute [irreducible] Z69 U0
attribute [local go_sem] zero69
attribute [local simp] Z69_ne

/-- the state of wellFormed's loop -/
structure WS (w wr : World) (B g : Nat) (u : List Bool) (A : Option Addr) (l : List Sh) : Prop where
  tab : CB wr g 63 (ub u)
  ln : u.length = 256
  sh : ShL wr B A l
  bel : Below B w wr
theorem WS.step {w wr w' : World} {B g : Nat} {u : List Bool} {A : Option Addr} {l : List Sh} (h : WS w wr B g u A l) (hB : B ≤ wr.heap.size) (hb : Below wr.heap.size wr w') : WS w w' B g u A l :=
  ⟨h.tab.up hb, h.ln, h.sh.below (hb.mono hB), h.bel.trans (hb.mono hB)⟩
theorem WS.mark {w wr : World} {B g : Nat} {u : List Bool} {A : Option Addr} {l : List Sh} (h : WS w wr B g u A l) (hB : B ≤ g) (x : UInt8) : WS w (wr.setCell ⟨g, x.toNat, none⟩ (.bool true)) B g (u.set x.toNat true) A l := by
  have hb : Below B wr (wr.setCell ⟨g, x.toNat, none⟩ (.bool true)) := (Below.refl B wr).setCell (p := ⟨g, x.toNat, none⟩) hB _
  refine ⟨?_, by simpa using h.ln, h.sh.below hb, h.bel.trans hb⟩
  rw [ub_set]
  exact h.tab.set_ _ _

set_option maxHeartbeats 4000000 in
set_option maxRecDepth 20000 in
theorem wellFormed_any (A : Option Addr) (cap : Nat) (l : List Sh) (w : World) (hs : ShL w w.heap.size A l) (hl : l.length ≤ 1000000) (hn : ∀ s ∈ l, s.2.length ≤ 140737488351232) :
    Calls Try.prog 23 #[.slice A l.length cap] w fun e w' => e = .returned (.bool (wfB l)) ∧ Below w.heap.size w w' := by
  have zn := Z69_ne
  have HS := Lib.hid hs
  obtain ⟨N, hN⟩ : ∃ N, N = l.length := ⟨_, rfl⟩
  have HN := Lib.hid hN
  have HL := Lib.hid hn
  rw [← hN] at hl ⊢
  clear hs hN hn
  go_enter Try.func23, Try.ntmps23
  go_wp2_with (first | ((with_reducible show wpList _ _ _ _ _ _); refine wpList_build69 rfl rfl ?_) | (with_reducible show wpList _ _ _ _ _ _); refine wpList_store_all rfl 63 (.tmp 3) (.tmp 6) rfl w.heap.size (ub U0) rfl rfl 63 Z69 256 (heap_alloc_new w _) info69 Z69_size (by rw [ub_len, U0_len]) (ub_one _) ?_; intro w1 hc1 hg1 hz1)
  have hbel : Below w.heap.size w w1 := (below_alloc _).grown hg1 (by simp) (fun k hk => by injection hk with hk; omega)
  have h0 : Hid (WS w w1 w.heap.size w.heap.size U0 A l) := ⟨hc1, U0_len, HS.out.below hbel, hbel⟩
  clear hbel hc1 hg1 hz1
  generalize hB : w.heap.size = B at *
  have HB := Lib.hid hB
  clear hB HS
  go_loopw [9] (fun i wr => ∃ (k : Nat) (u : List Bool), k ≤ N ∧ i = .int .i64 k ∧ Hid (WS w wr B B u A l) ∧ Hid (wfGo (lenOf l) u (l.drop k) = wfB l)) (fun i _ => N - (intOf i).toNat)
  case atStart => exact ⟨0, U0, by omega, rfl, h0, rfl⟩
  case round =>
    clear h0
    obtain ⟨k, u, hk, rfl, hw, hgo⟩ := hrel
    by_cases hlt : k < N
    · have i1 : (k : Int) < (N : Int) := by omega
      obtain ⟨s, hsk⟩ : ∃ s, l[k]? = some s := ⟨l[k]'(by rw [← HN.out]; exact hlt), by simp⟩
      obtain ⟨s0, hs0⟩ : ∃ s, l[0]? = some s := ⟨l[0]'(by rw [← HN.out]; omega), by simp⟩
      obtain ⟨b, off, rfl, hbB, c1, A1, n1, c2, hsh1, hle1, hmx1⟩ := hw.out.sh.one hsk
      obtain ⟨b', off', e, _, c3, A3, n3, c4, hsh3, hle3, hmx3⟩ := hw.out.sh.one hs0
      injection e with e
      injection e with e1 e2
      subst e1 e2
      rw [Nat.zero_mul, Nat.add_zero] at c3 c4
      have hx := s.1.toNat_lt
      have c5 := hw.out.tab.cell s.1.toNat (ub_get u hw.out.ln s.1)
      have f5 := hw.out.tab.frozen s.1.toNat
      have hn0 : Hid (s0.2.length = lenOf l) := by
        show _ = _
        unfold lenOf
        rw [List.headD_eq_head?_getD, List.head?_eq_getElem?, hs0]
        rfl
      have hlt2 := hw.out.tab.lt
      have hd : Hid (l.drop k = s :: l.drop (k + 1)) := by
        show _ = _
        rw [List.drop_eq_getElem_cons (by rw [← HN.out]; exact hlt)]
        congr 1
        exact (List.getElem?_eq_some_iff.1 hsk).2
      clear hsh1 hsh3 hle1 hle3 hmx1 hmx3 c3
      have hls : s.2.length < 9223372036854775807 := by have := HL.out s (List.mem_of_getElem? hsk); omega
      have hBr : B ≤ wr.heap.size := Nat.le_of_lt hlt2
      have i0 : 0 < (N : Int) := by omega
      have c6 := ((below_alloc (w := wr) (.cells #[.int .u8 (s.1.toNat : Int), .slice A1 s.2.length n1] 29)).cell (p := ⟨b, off + 1, none⟩) (Nat.lt_of_lt_of_le hbB hBr)).trans c4
      cases hu : usedAt u s.1 with
      | true =>
        rw [hu] at c5
        go_wp2
        go_quiet (fail)
        go_wp2
        go_ret
        refine ⟨?_, by rw [HB.out]; exact below_drewN ((hw.out.bel).alloc hBr _) _⟩
        have := hgo.out
        rw [hd.out, wfGo, hu, Bool.true_or, if_pos rfl] at this
        rw [← this]
        rfl
      | false =>
        rw [hu] at c5
        by_cases hlen : s.2.length = s0.2.length
        · have hlh := Lib.hid hlen
          rw [hlen] at c2 c6
          clear hls hlen
          go_wp2
          go_quiet (fail)
          go_wp2
          go_roundw
          case rel =>
            refine ⟨k + 1, u.set s.1.toNat true, by omega, by go_num, ?_, ?_⟩
            · have h1 := hw.out.step hBr (below_drewN (below_alloc (w := wr) (.cells #[.int .u8 (s.1.toNat : Int), .slice A1 s0.2.length n1] 29)) nq)
              exact h1.mark (Nat.le_refl _) s.1
            · show _ = _
              rw [← hgo.out, hd.out, wfGo, hu, hlh.out, hn0.out]
              simp
          case measure => simp [intOf]; omega
        · have i2 : ¬ ((s.2.length : Int) = (s0.2.length : Int)) := by omega
          have i3 : ((s.2.length : Int) == (s0.2.length : Int)) = false := by simpa using i2
          go_wp2
          go_quiet (fail)
          go_wp2
          go_ret
          refine ⟨?_, by rw [HB.out]; exact below_drewN ((hw.out.bel).alloc hBr _) _⟩
          have := hgo.out
          have hne : (s.2.length != lenOf l) = true := by rw [← hn0.out]; simpa using hlen
          rw [hd.out, wfGo, hu, hne, Bool.or_true, if_pos rfl] at this
          rw [← this]
          rfl
    · have i1 : ¬ (k : Int) < (N : Int) := by omega
      have hkN : k = N := by omega
      go_wp2
      go_ret
      refine ⟨?_, by rw [HB.out]; exact hw.out.bel⟩
      have := hgo.out
      rw [hkN, HN.out, List.drop_of_length_le (Nat.le_refl _)] at this
      rw [← this]
      rfl
end Go.Proofs.Yteaaadccjnmacaa
