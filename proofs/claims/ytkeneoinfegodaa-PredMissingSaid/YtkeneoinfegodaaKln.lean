/-
  Kleene's laws on truth values 0, 1, 2; what a junction of a few Kids is.
-/
import Derived.Test.YtkeneoinfegodaaLw
namespace Go.Proofs.Ytkeneoinfegodaa
open Go.RowKit
/-- a junction: 5 And, 6 Or -/
def jn (a : Int) (ts : List Int) : Int := if a = 5 then junG 0 1 ts else junG 1 0 ts
theorem ev_jn (r : List Ce) (a : Int) (K : Option Addr) (kc : Nat) (ks : List Pr) (ha : a = 5 ∨ a = 6) : ev r (mkP a K kc ks) = jn a (ks.map (ev r)) := by
  rw [ev_eq]
  rcases ha with rfl | rfl <;> rfl
theorem ev_not (r : List Ce) (K : Option Addr) (kc : Nat) (p : Pr) : ev r (mkP 7 K kc [p]) = neg3 (ev r p) := by
  rw [ev_eq]
  rfl
def In3 (t : Int) : Prop := t = 0 ∨ t = 1 ∨ t = 2
theorem jn_in (a : Int) (ts : List Int) : In3 (jn a ts) := by
  unfold jn In3
  split
  · rcases junG_in 0 ts 1 with h | h | h <;> rw [h] <;> simp
  · rcases junG_in 1 ts 0 with h | h | h <;> rw [h] <;> simp
section
variable {a o t u v : Int} (hao : (a = 5 ∧ o = 6) ∨ (a = 6 ∧ o = 5)) (ht : In3 t) (hu : In3 u) (hv : In3 v)
include ht in
theorem kl1 : neg3 (neg3 t) = t := by rcases ht with rfl | rfl | rfl <;> rfl
include hao ht hu in
theorem kl2 : neg3 (jn a [t, u]) = jn o [neg3 t, neg3 u] := by rcases hao with ⟨rfl, rfl⟩ | ⟨rfl, rfl⟩ <;> rcases ht with rfl | rfl | rfl <;> rcases hu with rfl | rfl | rfl <;> rfl
include hao ht hu in
theorem kl3 : jn a [t, u] = jn a [u, t] := by rcases hao with ⟨rfl, rfl⟩ | ⟨rfl, rfl⟩ <;> rcases ht with rfl | rfl | rfl <;> rcases hu with rfl | rfl | rfl <;> rfl
include hao ht hu hv in
theorem kl4 : jn a [jn a [t, u], v] = jn a [t, jn a [u, v]] := by rcases hao with ⟨rfl, rfl⟩ | ⟨rfl, rfl⟩ <;> rcases ht with rfl | rfl | rfl <;> rcases hu with rfl | rfl | rfl <;> rcases hv with rfl | rfl | rfl <;> rfl
include hao ht hu hv in
theorem kl5 : jn a [jn a [t, u], v] = jn a [t, u, v] := by rcases hao with ⟨rfl, rfl⟩ | ⟨rfl, rfl⟩ <;> rcases ht with rfl | rfl | rfl <;> rcases hu with rfl | rfl | rfl <;> rcases hv with rfl | rfl | rfl <;> rfl
include hao ht in
theorem kl6 : jn a [t, t] = t := by rcases hao with ⟨rfl, rfl⟩ | ⟨rfl, rfl⟩ <;> rcases ht with rfl | rfl | rfl <;> rfl
include hao ht hu in
theorem kl7 : jn a [t, jn o [t, u]] = t := by rcases hao with ⟨rfl, rfl⟩ | ⟨rfl, rfl⟩ <;> rcases ht with rfl | rfl | rfl <;> rcases hu with rfl | rfl | rfl <;> rfl
include hao ht hu hv in
theorem kl8 : jn a [t, jn o [u, v]] = jn o [jn a [t, u], jn a [t, v]] := by rcases hao with ⟨rfl, rfl⟩ | ⟨rfl, rfl⟩ <;> rcases ht with rfl | rfl | rfl <;> rcases hu with rfl | rfl | rfl <;> rcases hv with rfl | rfl | rfl <;> rfl
include hao ht in
theorem kl9 : jn a [t, jn a []] = t := by rcases hao with ⟨rfl, rfl⟩ | ⟨rfl, rfl⟩ <;> rcases ht with rfl | rfl | rfl <;> rfl
include hao ht in
theorem kl10 : jn o [t, jn a []] = jn a [] := by rcases hao with ⟨rfl, rfl⟩ | ⟨rfl, rfl⟩ <;> rcases ht with rfl | rfl | rfl <;> rfl
end
end Go.Proofs.Ytkeneoinfegodaa
