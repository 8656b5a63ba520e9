/-
  The reference's Same, on ranges: by a contract.
-/
import Derived.Test.YtlndpclgljfloaaSmI
import Derived.Test.YtlndpclgljfloaaJoi
import Derived.Test.YtlndpclgljfloaaEqW
namespace Go.Proofs.Ytlndpclgljfloaa
open Go.RowKit

def w2 (a b : Int) : Array Value := #[.int .u64 a, .int .u64 b]
theorem info24c : ∃ i, Try.prog.info? 24 = some i := by
  have h5 : (Try.prog.info? 24).map (·.size) = some 1 := by kernel_rfl
  cases hi : Try.prog.info? 24 with
  | none => rw [hi] at h5; cases h5
  | some i => exact ⟨i, rfl⟩
theorem part2 (a b : Int) (w : World) (i : Nat) (v : Value) (h : (w2 a b)[i]? = some v) : (part 24 (w2 a b) i).run Try.prog w = .ok v w :=
  run_part_plain (P := Try.prog) (w := w) (e := 24) (by kernel_rfl) h
theorem eqq (x y : Int) (n : Nat) (w : World) : (Op.equalIn (n + 1) 24 (.int .u64 x) (.int .u64 y)).run Try.prog w = .ok (x == y) w := by
  have := run_equalIn_int (P := Try.prog) w n 24 .u64 .u64 x y Try.underlying24
  simpa using this
theorem eqq9 (x y : Int) (w : World) : (Op.equalIn 9999 24 (.int .u64 x) (.int .u64 y)).run Try.prog w = .ok (x == y) w := eqq x y 9998 w
theorem eqItems_r (a b a' b' : Int) (w : World) : (Op.eqItems 9999 24 1 (w2 a b) (w2 a' b') [0, 1]).run Try.prog w = .ok (a == a' && b == b') w := by
  simp only [Op.eqItems, Sem.run_bind, Nat.mul_one, part2 a b w 0 (.int .u64 a) rfl, part2 a' b' w 0 (.int .u64 a') rfl, Result.andThen_ok, eqq9]
  cases h1 : a == a' <;> cases h2 : b == b' <;> simp [Result.andThen, part2 a b w 1 (.int .u64 b) rfl, part2 a' b' w 1 (.int .u64 b') rfl, eqq9, *]
theorem equal_r (a b a' b' : Int) (w : World) : (Op.equal 58 (.agg (w2 a b)) (.agg (w2 a' b'))).run Try.prog w = .ok (a == a' && b == b') w := by
  obtain ⟨i, hi⟩ := info24c
  have e := run_equalIn_array (P := Try.prog) (w := w) 9999 (t := 58) (e := 24) (n := 2) (w2 a b) (w2 a' b') Try.underlying58 hi
  refine Eq.trans e ?_
  have c1 : Try.prog.cellsOf 24 = 1 := by kernel_rfl
  rw [c1]
  exact eqItems_r a b a' b' w
theorem neqr (a b a' b' : Int) (w : World) : (binOp .neq 58 (.agg #[.int .u64 a, .int .u64 b]) (.agg #[.int .u64 a', .int .u64 b'])).run Try.prog w = .ok (.bool (!(a == a' && b == b'))) w := by
  show (do pure (.bool (! (← Op.equal 58 (.agg (w2 a b)) (.agg (w2 a' b'))))) : Sem Value).run _ _ = _
  simp only [Sem.run_bind, equal_r, Result.andThen_ok, Sem.run_pure]
theorem neqGuard_r (x y : Operand) (a b : Array Value) (w : World) : (eqGuard .neq 58 x y (.agg a) (.agg b)).run Try.prog w = .ok () w := by
  have e : Try.prog.eqGuardType Try.prog.depth 58 = false := by kernel_rfl
  simp [eqGuard, e]
/-- ranges in memory -/
def RgsAt (X : World) (B : Nat) (A : Option Addr) (l : List (Nat × Nat)) : Prop := RowAt 2 X B A (l.map rgV)
theorem RgsAt.one {X : World} {B : Nat} {A : Option Addr} {l : List (Nat × Nat)} (h : RgsAt X B A l) {j : Nat} {x : Nat × Nat} (hx : l[j]? = some x) : ∃ b off, A = some ⟨b, off, none⟩ ∧ b < B ∧ X.cell? ⟨b, off + j * 2, none⟩ = some (.int .u64 x.1) ∧ X.cell? ⟨b, off + j * 2 + 1, none⟩ = some (.int .u64 x.2) := by
  obtain ⟨b, off, e, hlt, hc⟩ := RowAt.one h (i := j) (vs := rgV x) (by rw [List.getElem?_map, hx]; rfl)
  exact ⟨b, off, e, hlt, hc 0 _ rfl, hc 1 _ rfl⟩
set_option maxRecDepth 20000 in
set_option maxHeartbeats 1000000 in
theorem SameRg_eqlen (A : Option Addr) (cap : Nat) (l : List (Nat × Nat)) (C : Option Addr) (d : Nat) (p : List (Nat × Nat)) (w : World) (hs : RgsAt w w.heap.size A l) (hp : RgsAt w w.heap.size C p) (n : Nat) (h1 : Hid (l.length = n)) (h2 : Hid (p.length = n)) (hn : n ≤ 1000000) :
    Calls Try.prog 24 #[.slice A n cap, .slice C n d] w fun e w' => e = .returned (.bool (decide (l = p))) ∧ ∃ m, w' = w.drewN m := by
  have HS := Li hs
  have HP := Li hp
  clear hs hp
  go_enter Try.func24, Try.ntmps24
  go_wp2_with fail
  go_loopw [5] (fun i wr => ∃ k : Nat, k ≤ n ∧ i = .int .i64 k ∧ Hid (l.take k = p.take k) ∧ Hid (∃ m, wr = w.drewN m)) (fun i _ => n - (intOf i).toNat)
  case atStart => exact ⟨0, by omega, rfl, rfl, 0, rfl⟩
  case round =>
    obtain ⟨k, hk, rfl, he, hb⟩ := hrel
    obtain ⟨m, rfl⟩ := hb.out
    clear hb
    by_cases hlt : k < n
    · obtain ⟨c, hc⟩ : ∃ c, l[k]? = some c := ⟨_, List.getElem?_eq_getElem (by rw [h1.out]; exact hlt)⟩
      obtain ⟨c', hc'⟩ : ∃ c, p[k]? = some c := ⟨_, List.getElem?_eq_getElem (by rw [h2.out]; exact hlt)⟩
      obtain ⟨b, off, rfl, zb, gw, gx⟩ := HS.out.one hc
      obtain ⟨b', off', rfl, zb', gw', gx'⟩ := HP.out.one hc'
      obtain ⟨c1, c2⟩ := c
      obtain ⟨c1', c2'⟩ := c'
      have g : (w.drewN m).cell? ⟨b, off + k * 2, none⟩ = some (.int .u64 (c1 : Int)) ∧ (w.drewN m).cell? ⟨b, off + k * 2 + 1, none⟩ = some (.int .u64 (c2 : Int)) := ⟨gw, gx⟩
      have g' : (w.drewN m).cell? ⟨b', off' + k * 2, none⟩ = some (.int .u64 (c1' : Int)) ∧ (w.drewN m).cell? ⟨b', off' + k * 2 + 1, none⟩ = some (.int .u64 (c2' : Int)) := ⟨gw', gx'⟩
      obtain ⟨g1, g2⟩ := g
      obtain ⟨g1', g2'⟩ := g'
      have qw := neqr
      have qg := neqGuard_r
      have HC := Li hc
      have HC' := Li hc'
      have j1 : (k : Int) < (n : Int) := by omega
      clear hc hc'
      by_cases hxx : c1 = c1' ∧ c2 = c2'
      · have E : Hid (l.take (k + 1) = p.take (k + 1)) := take_snoc_eq he.out HC.out HC'.out (by rw [hxx.1, hxx.2])
        obtain ⟨rfl, rfl⟩ := hxx
        go_wp2_with fail
        go_quiet (fail)
        go_wp2_with fail
        go_roundw
        case rel => exact ⟨k + 1, by omega, by go_num, E, m + nq, by simp⟩
        case measure => simp [intOf]; omega
      · have E : Hid (l ≠ p) := ne_of_at HC.out HC'.out (fun e => hxx (by injection e with e1 e2; exact ⟨e1, e2⟩))
        have hne : ((c1 : Int) == (c1' : Int) && (c2 : Int) == (c2' : Int)) = false := by
          cases h : ((c1 : Int) == (c1' : Int) && (c2 : Int) == (c2' : Int)) with
          | false => rfl
          | true => exact absurd (by simp at h; omega) hxx
        go_wp2_with fail
        go_quiet (fail)
        go_wp2_with fail
        go_ret
        exact ⟨by simp [E.out], m + nq, by simp⟩
    · obtain rfl : k = n := by omega
      go_wp2_with fail
      go_ret
      refine ⟨?_, m, rfl⟩
      have e : l = p := by
        have := he.out
        rwa [List.take_of_length_le (by rw [h1.out]; exact Nat.le_refl _), List.take_of_length_le (by rw [h2.out]; exact Nat.le_refl _)] at this
      simp [e]
theorem SameRg_any (A : Option Addr) (n cap : Nat) (l : List (Nat × Nat)) (C : Option Addr) (m d : Nat) (p : List (Nat × Nat)) (w : World) (hs : RgsAt w w.heap.size A l) (hp : RgsAt w w.heap.size C p) (h1 : n = l.length) (h2 : m = p.length) (hn : n ≤ 1000000) (hm : m ≤ 1000000) :
    Calls Try.prog 24 #[.slice A n cap, .slice C m d] w fun e w' => e = .returned (.bool (decide (l = p))) ∧ ∃ m, w' = w.drewN m := by
  by_cases hlen : n = m
  · subst hlen
    exact SameRg_eqlen A cap l C d p w hs hp n h1.symm h2.symm hn
  · have E : Hid (l ≠ p) := fun e => hlen (by rw [h1, h2, e])
    have hne : ((n : Int) != (m : Int)) = true := by simp; omega
    clear hs hp h1 h2
    go_enter Try.func24, Try.ntmps24
    go_wp2_with fail
    go_ret
    exact ⟨by simp [E.out], 0, rfl⟩
end Go.Proofs.Ytlndpclgljfloaa
