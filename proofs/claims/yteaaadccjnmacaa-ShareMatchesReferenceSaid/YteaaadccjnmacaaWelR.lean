/-
  The reference's Well, by a contract.
-/
import Derived.Test.YteaaadccjnmacaaWellP
import Derived.Test.YteaaadccjnmacaaChoose
namespace Go.Proofs.Yteaaadccjnmacaa
open Go.RowKit

def wfR (n : Nat) : List Bool → List Sh → Bool
  | _, [] => true
  | u, s :: r => if s.1 == 0 || usedAt u s.1 || s.2.length != n then false else wfR n (u.set s.1.toNat true) r
theorem wfR_eq (n : Nat) (l : List Sh) : ∀ u : List Bool, u.length = 256 → wfR n u l = wfGo n (u.set 0 true) l := by
  induction l with
  | nil => intro u _; rfl
  | cons s r ih =>
    intro u hu
    have e : usedAt (u.set 0 true) s.1 = (usedAt u s.1 || (0 : UInt8) == s.1) := usedAt_set u hu 0 s.1
    unfold wfR wfGo
    rw [e]
    by_cases h0 : s.1 = 0
    · rw [h0]
      simp
    · have h1 : (s.1 == 0) = false := by simpa using h0
      have h2 : ((0 : UInt8) == s.1) = false := by simpa using fun e => h0 (Eq.symm e)
      rw [h1, h2, Bool.or_false, Bool.false_or, ih _ (by simpa using hu)]
      have hne : s.1.toNat ≠ 0 := fun e => h0 (UInt8.toNat_inj.1 e)
      rw [List.set_comm _ _ (Ne.symm hne)]
theorem wfR_all (l : List Sh) : wfR (lenOf l) (List.replicate 256 false) l = wfB l := by
  rw [wfR_eq _ _ _ List.length_replicate]
  have e : (List.replicate 256 false).set 0 true = U0 := by
    unfold U0
    rw [List.replicate_succ]
    rfl
  rw [e]
  rfl
structure WR (w wr : World) (B g : Nat) (u : List Bool) (A : Option Addr) (l : List Sh) : Prop where
  tab : CB wr g 4 (ub u)
  ln : u.length = 256
  sh : ShL wr B A l
  bel : Below B w wr
theorem WR.step {w wr w' : World} {B g : Nat} {u : List Bool} {A : Option Addr} {l : List Sh} (h : WR w wr B g u A l) (hB : B ≤ wr.heap.size) (hb : Below wr.heap.size wr w') : WR w w' B g u A l :=
  ⟨h.tab.up hb, h.ln, h.sh.below (hb.mono hB), h.bel.trans (hb.mono hB)⟩
theorem WR.mark {w wr : World} {B g : Nat} {u : List Bool} {A : Option Addr} {l : List Sh} (h : WR w wr B g u A l) (hB : B ≤ g) (x : UInt8) : WR w (wr.setCell ⟨g, x.toNat, none⟩ (.bool true)) B g (u.set x.toNat true) A l := by
  have hb : Below B wr (wr.setCell ⟨g, x.toNat, none⟩ (.bool true)) := (Below.refl B wr).setCell (p := ⟨g, x.toNat, none⟩) hB _
  refine ⟨?_, by simpa using h.ln, h.sh.below hb, h.bel.trans hb⟩
  rw [ub_set]
  exact h.tab.set_ _ _

set_option maxHeartbeats 4000000 in
set_option maxRecDepth 20000 in
theorem WellR_any (A : Option Addr) (N cap : Nat) (l : List Sh) (w : World) (hN : N = l.length) (hs : ShL w w.heap.size A l) (hl : N ≤ 1000000) (hn : ∀ s ∈ l, s.2.length ≤ 140737488351232) :
    Calls Try.prog 29 #[.slice A N cap] w fun e w' => e = .returned (.bool (wfB l)) ∧ Below w.heap.size w w' := by
  have HS := Lib.hid hs
  have HN := Lib.hid hN
  have HL := Lib.hid hn
  clear hs hN hn
  have hmk : (Instr.makeSlice 60 (.int .i64 256) (.int .i64 256)).run Try.prog w = .ok (.slice (some ⟨w.heap.size, 0, none⟩) 256 256) (w.alloc (.cells (madeCells #[.bool false] 256) 4)) := by
    obtain ⟨i, hi, hz0, hsz, hb⟩ := info_parts info4
    have hr := run_make (P := Try.prog) w 60 4 i _ Try.underlying60 hi hz0 .i64 .i64 256 256 (by omega) (by omega) (by rw [hb]; omega) (by omega)
    rw [hsz] at hr
    exact hr
  go_enter Try.func29, Try.ntmps29
  go_wp2
  have h0 : Hid (WR w (w.alloc (.cells (madeCells #[.bool false] 256) 4)) w.heap.size w.heap.size (List.replicate 256 false) A l) := ⟨cb_made w 256 _ rfl, by simp, HS.out.below (below_alloc _), below_alloc _⟩
  generalize w.alloc (.cells (madeCells #[.bool false] 256) 4) = w1 at *
  generalize hB : w.heap.size = B at *
  have HB := Lib.hid hB
  clear hB HS hmk
  go_loopw [4] (fun i wr => ∃ (k : Nat) (u : List Bool), k ≤ N ∧ i = .int .i64 k ∧ Hid (WR w wr B B u A l) ∧ Hid (wfR (lenOf l) u (l.drop k) = wfB l)) (fun i _ => N - (intOf i).toNat)
  case atStart => exact ⟨0, _, Nat.zero_le _, rfl, h0, wfR_all l⟩
  case round =>
    clear h0
    obtain ⟨k, u, hk, rfl, hw, hgo⟩ := hrel
    obtain ⟨wo, hwo⟩ : ∃ wo : World, wo = wr := ⟨_, rfl⟩
    subst hwo
    by_cases hlt : k < N
    · have i1 : (k : Int) < (N : Int) := by omega
      obtain ⟨s, hsk⟩ : ∃ s, l[k]? = some s := ⟨l[k]'(by rw [← HN.out]; exact hlt), by simp⟩
      obtain ⟨s0, hs0⟩ : ∃ s, l[0]? = some s := ⟨l[0]'(by rw [← HN.out]; omega), by simp⟩
      have HST : Hid (∀ n, Hid (WR w (wo.drewN n) B B u A l)) := fun n => hw.out.step (Nat.le_of_lt hw.out.tab.lt) (below_drewN (Below.refl _ _) n)
      obtain ⟨b, off, rfl, hbB, c1, A1, n1, c2, hsh1, hle1, hmx1⟩ := hw.out.sh.one hsk
      obtain ⟨b', off', e, _, c3, A3, n3, c4, hsh3, hle3, hmx3⟩ := hw.out.sh.one hs0
      injection e with e
      injection e with e1 e2
      subst e1 e2
      rw [Nat.zero_mul, Nat.add_zero] at c3 c4
      have hx := s.1.toNat_lt
      have c5 := hw.out.tab.cell s.1.toNat (ub_get u hw.out.ln s.1)
      have f5 := hw.out.tab.frozen s.1.toNat
      have hn0 : Hid (s0.2.length = lenOf l) := by
        show _ = _
        unfold lenOf
        rw [List.headD_eq_head?_getD, List.head?_eq_getElem?, hs0]
        rfl
      have hlt2 := hw.out.tab.lt
      have hd : Hid (l.drop k = s :: l.drop (k + 1)) := by
        show _ = _
        rw [List.drop_eq_getElem_cons (by rw [← HN.out]; exact hlt)]
        congr 1
        exact (List.getElem?_eq_some_iff.1 hsk).2
      clear hsh1 hsh3 hle1 hle3 hmx1 hmx3 c3
      have hls : s.2.length < 9223372036854775807 := by have := HL.out s (List.mem_of_getElem? hsk); omega
      have hBr : B ≤ wo.heap.size := Nat.le_of_lt hlt2
      have i0 : 0 < (N : Int) := by omega
      by_cases hx0 : s.1 = 0
      · have i2 : (s.1.toNat : Int) = 0 := by rw [hx0]; rfl
        have hwf : Hid (wfB l = false) := by
          show _ = _
          rw [← hgo.out, hd.out, wfR, hx0]
          rfl
        rw [i2] at c1
        clear c5 f5 hx0
        go_wp2
        go_quiet (fail)
        go_wp2
        go_ret
        exact ⟨by rw [hwf.out]; rfl, by rw [HB.out]; exact (HST.out nq).out.bel⟩
      · have i2 : ¬ (s.1.toNat : Int) = 0 := fun e => hx0 (UInt8.toNat_inj.1 (by show s.1.toNat = 0; omega))
        have i3 : ((s.1.toNat : Int) == 0) = false := by simpa using i2
        have HX0 := Lib.hid hx0
        clear hx0
        cases hu : usedAt u s.1 with
        | true =>
          have hwf : Hid (wfB l = false) := by
            show _ = _
            rw [← hgo.out, hd.out, wfR, hu, Bool.or_true, Bool.true_or, if_pos rfl]
          rw [hu] at c5
          go_wp2
          go_quiet (fail)
          go_wp2
          go_ret
          exact ⟨by rw [hwf.out]; rfl, by rw [HB.out]; exact (HST.out nq).out.bel⟩
        | false =>
          rw [hu] at c5
          by_cases hlen : s.2.length = s0.2.length
          · have hlh := Lib.hid hlen
            rw [hlen] at c2
            clear hls hlen
            go_wp2
            go_quiet (fail)
            go_wp2
            go_roundw
            case rel =>
              refine ⟨k + 1, u.set s.1.toNat true, by omega, by go_num, (HST.out nq).out.mark (Nat.le_refl _) s.1, ?_⟩
              show _ = _
              have hz1 : (s.1 == 0) = false := by simpa using HX0.out
              rw [← hgo.out, hd.out, wfR, hu, hz1, hlh.out, hn0.out]
              simp
            case measure => simp [intOf]; omega
          · have i4 : ¬ ((s.2.length : Int) = (s0.2.length : Int)) := by omega
            have i5 : ((s.2.length : Int) == (s0.2.length : Int)) = false := by simpa using i4
            have hwf : Hid (wfB l = false) := by
              show _ = _
              have hne : (s.2.length != lenOf l) = true := by rw [← hn0.out]; simpa using hlen
              rw [← hgo.out, hd.out, wfR, hne, Bool.or_true, if_pos rfl]
            go_wp2
            go_quiet (fail)
            go_wp2
            go_ret
            exact ⟨by rw [hwf.out]; rfl, by rw [HB.out]; exact (HST.out nq).out.bel⟩
    · have i1 : ¬ (k : Int) < (N : Int) := by omega
      have hkN : k = N := by omega
      have hwf : Hid (wfB l = true) := by
        show _ = _
        rw [← hgo.out, hkN, HN.out, List.drop_of_length_le (Nat.le_refl _)]
        rfl
      go_wp2
      go_ret
      exact ⟨by rw [hwf.out]; rfl, by rw [HB.out]; exact hw.out.bel⟩
end Go.Proofs.Yteaaadccjnmacaa
