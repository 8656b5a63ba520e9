/-
  The comparison of rows and the library's insertion sort: by contracts.
-/
import Derived.Test.YtlndpclgljfloaaHi2
import Derived.BigRegion
namespace Go.Proofs.Ytlndpclgljfloaa
open Go.RowKit

def cmpV (a b : Nat) : Int := if a < b then -1 else if b < a then 1 else 0
theorem cmp_neg (a b : Nat) : decide (cmpV a b < 0) = decide (a < b) := by
  unfold cmpV
  split
  · rename_i h; rw [decide_eq_true h]; rfl
  · rename_i h
    rw [decide_eq_false h]
    split <;> rfl
theorem isNaN_any (x : Nat) (w : World) : Calls Try.prog 52 #[.int .u64 x] w fun e w' => e = .returned (.bool false) ∧ w' = w := by
  go_enter Try.func52, Try.ntmps52
  go_wp2
  go_ret
  exact ⟨rfl, rfl⟩
theorem Compare_any (x y : Nat) (w : World) : Calls Try.prog 36 #[.int .u64 x, .int .u64 y] w fun e w' => e = .returned (.int .i64 (cmpV x y)) ∧ w' = w := by
  rcases Nat.lt_trichotomy x y with h | h | h
  · rw [show cmpV x y = -1 from if_pos h]
    go_enter Try.func36, Try.ntmps36
    go_wp2_with (go_at_call 52; refine (isNaN_any _ _).mono ?_; rintro e w1 ⟨rfl, hw1⟩; subst w1)
    go_ret
    exact ⟨rfl, rfl⟩
  · subst h
    rw [show cmpV x x = 0 by unfold cmpV; rw [if_neg (Nat.lt_irrefl _), if_neg (Nat.lt_irrefl _)]]
    go_enter Try.func36, Try.ntmps36
    go_wp2_with (go_at_call 52; refine (isNaN_any _ _).mono ?_; rintro e w1 ⟨rfl, hw1⟩; subst w1)
    go_ret
    exact ⟨rfl, rfl⟩
  · rw [show cmpV x y = 1 by unfold cmpV; rw [if_neg (by omega), if_pos h]]
    go_enter Try.func36, Try.ntmps36
    go_wp2_with (go_at_call 52; refine (isNaN_any _ _).mono ?_; rintro e w1 ⟨rfl, hw1⟩; subst w1)
    go_ret
    exact ⟨rfl, rfl⟩
def iV (x : Nat) : Value := .int .i64 x
def uV (x : Nat) : Value := .int .u64 x
def ky (P : List Nat) (i : Nat) : Nat := P.getD i 0
theorem ky_cell {P : List Nat} {i n : Nat} (h : P.length = n) (hi : i < n) : (P.map uV)[i]? = some (.int .u64 (ky P i)) := by
  subst h
  rw [List.getElem?_map, List.getElem?_eq_getElem hi]
  unfold ky
  rw [List.getD_eq_getElem?_getD, List.getElem?_eq_getElem hi]
  rfl
/-- the rows' numbers that are sorted, the places that are compared -/
structure SoS (w0 : World) (db pb qb n : Nat) (P D : List Nat) (X : World) : Prop where
  bel : Below w0.heap.size w0 X
  d : CB X db 3 (D.map iV)
  p : CB X pb 50 [.slice (some ⟨qb, 0, none⟩) n n]
  q : CB X qb 24 (P.map uV)
  dl : D.length = n
  pl : P.length = n
  lt : ∀ x ∈ D, x < n
  d0 : w0.heap.size ≤ db
  nm : n ≤ 1000000
theorem SoS.dr {w0 : World} {db pb qb n : Nat} {P D : List Nat} {X : World} (h : SoS w0 db pb qb n P D X) (m : Nat) : SoS w0 db pb qb n P D (X.drewN m) :=
  ⟨below_drewN h.bel m, h.d.drewN m, h.p.drewN m, h.q.drewN m, h.dl, h.pl, h.lt, h.d0, h.nm⟩
theorem quiet_off {P : Program} {f : FuncId} {args : Array Value} {w : World} {n c : Nat} {v : Value}
    (h : Calls P f args (w.drewN (c + n)) fun e w' => e = .returned v ∧ ∃ q, w' = (w.drewN (c + n)).drewN q) : Calls P f args (w.drewN (c + n)) fun e w'' => e = .returned v ∧ ∃ m, w'' = w.drewN (c + m) :=
  h.mono fun _ _ ⟨he, q, hq⟩ => ⟨he, n + q, by rw [hq, World.drewN_drewN, Nat.add_assoc]⟩
set_option maxHeartbeats 1000000 in
theorem less_any {w0 : World} {db pb qb n : Nat} {P D : List Nat} {X : World} (h : SoS w0 db pb qb n P D X) (i j : Nat) (hi : i < n) (hj : j < n) :
    Calls Try.prog 35 #[.int .i64 i, .int .i64 j, .pointer (some ⟨pb, 0, none⟩)] X fun e X' => e = .returned (.int .i64 (cmpV (ky P i) (ky P j))) ∧ ∃ m, X' = X.drewN m := by
  have p0 := h.p.c1
  have c1 := h.q.cell i (ky_cell h.pl hi)
  have c2 := h.q.cell j (ky_cell h.pl hj)
  have z1 := h.p.lt
  have z2 := h.q.lt
  have hnm := h.nm
  have i1 : (i : Int) < (n : Int) := by omega
  have j1 : (j : Int) < (n : Int) := by omega
  clear h
  go_enter Try.func35, Try.ntmps35
  go_wp2_with fail
  go_quiet (first | (go_at_call 36; exact Calls.quiet_of_same (Compare_any _ _ _)))
  go_wp2
  go_ret
  exact ⟨rfl, _, rfl⟩
end Go.Proofs.Ytlndpclgljfloaa
