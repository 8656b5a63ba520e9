/-
  The library's stable sort of fewer than twenty rows: by contracts.
-/
import Derived.Test.YtlndpclgljfloaaIns
namespace Go.Proofs.Ytlndpclgljfloaa
open Go.RowKit

/-- that a stable sort of n rows does what it says -/
def SortAt (n : Nat) : Prop := ∀ (w0 : World) (db pb qb : Nat) (P S : List Nat) (X : World), SoS w0 db pb qb n P S X → S.Pairwise (· < ·) →
  Calls Try.prog 34 #[.slice (some ⟨db, 0, none⟩) n n, (.func (.func 35) #[] #[.pointer (some ⟨pb, 0, none⟩)])] X fun e X' => e = .returned (.tuple #[]) ∧ ∃ S' : List Nat, S'.Perm S ∧ S'.Pairwise (Rk P) ∧ SoS w0 db pb qb n P S' X' ∧ X.grownBy X' (some db)
theorem isort_nil {w0 : World} {db pb qb n : Nat} {P : List Nat} {X : World} (h : SoS w0 db pb qb n P [] X) :
    Calls Try.prog 55 #[.slice (some ⟨db, 0, none⟩) n n, .int .i64 0, .int .i64 n, (.func (.func 35) #[] #[.pointer (some ⟨pb, 0, none⟩)])] X fun e X' => e = .returned (.tuple #[]) ∧ X' = X := by
  obtain rfl : n = 0 := h.dl.symm
  clear h
  go_enter Try.func55, Try.ntmps55
  go_wp2_with fail
  go_loop [8] (fun i => i = .int .i64 1) (fun _ => 0)
  case atStart => rfl
  case round =>
    subst hrel
    go_wp2_with fail
    go_end0
    exact ⟨rfl, rfl⟩
theorem isort_all {w0 : World} {db pb qb n : Nat} {P S : List Nat} {X : World} (h : SoS w0 db pb qb n P S X) (hS : S.Pairwise (· < ·)) :
    Calls Try.prog 55 #[.slice (some ⟨db, 0, none⟩) n n, .int .i64 0, .int .i64 n, (.func (.func 35) #[] #[.pointer (some ⟨pb, 0, none⟩)])] X fun e X' => e = .returned (.tuple #[]) ∧ ∃ S' : List Nat, S'.Perm S ∧ S'.Pairwise (Rk P) ∧ SoS w0 db pb qb n P S' X' ∧ X.grownBy X' (some db) := by
  cases S with
  | nil =>
    refine (isort_nil h).mono ?_
    rintro e X' ⟨rfl, hX⟩
    subst X'
    exact ⟨rfl, [], List.Perm.refl _, List.Pairwise.nil, h, ⟨rfl, rfl, rfl, Nat.le_refl _, fun _ _ _ => rfl⟩⟩
  | cons x r =>
    have h1 := isort_any (pre := []) (S := x :: r) (post := []) (by simpa using h) hS (by simp)
    have e1 : ([] : List Nat).length + (x :: r).length = n := by rw [← h.dl]; simp
    rw [e1] at h1
    refine h1.mono ?_
    rintro e X' ⟨he, S', k1, k2, k3, k4⟩
    exact ⟨he, S', k1, k2, by simpa using k3, k4⟩
set_option maxHeartbeats 2000000 in
theorem stable_small {w0 : World} {db pb qb n : Nat} {P S : List Nat} {X : World} (h : SoS w0 db pb qb n P S X) (hS : S.Pairwise (· < ·)) (hn : n < 20) :
    Calls Try.prog 51 #[.slice (some ⟨db, 0, none⟩) n n, .int .i64 n, (.func (.func 35) #[] #[.pointer (some ⟨pb, 0, none⟩)])] X fun e X' => e = .returned (.tuple #[]) ∧ ∃ S' : List Nat, S'.Perm S ∧ S'.Pairwise (Rk P) ∧ SoS w0 db pb qb n P S' X' ∧ X.grownBy X' (some db) := by
  have HI := Li (isort_all h hS)
  have i1 : (n : Int) < 20 := by omega
  clear h
  go_enter Try.func51, Try.ntmps51
  go_wp2_with fail
  go_loop [7, 8] (fun a b => a = .int .i64 0 ∧ b = .int .i64 20) (fun _ _ => 0)
  case atStart => exact ⟨rfl, rfl⟩
  case round =>
    obtain ⟨rfl, rfl⟩ := hrel
    go_wp2_with (go_at_call 55; refine HI.out.mono ?_; rintro e X1 ⟨rfl, hx⟩; have HX := Li hx; clear hx)
    go_loopw [6, 7, 8] (fun s6 a b wr => s6 = .int .i64 20 ∧ a = .int .i64 0 ∧ b = .int .i64 20 ∧ wr = X1) (fun _ _ _ _ => 0)
    case atStart => exact ⟨rfl, rfl, rfl, rfl⟩
    case round =>
      obtain ⟨rfl, rfl, rfl, hw⟩ := hrel
      subst wr
      go_wp2_with fail
      go_end0
      exact ⟨rfl, HX.out⟩
theorem sort_small {n : Nat} (hn : n < 20) : SortAt n := by
  intro w0 db pb qb P S X h hS
  have HI := Li (stable_small h hS hn)
  clear h
  go_enter Try.func34, Try.ntmps34
  go_wp2_with (go_at_call 51; refine HI.out.mono ?_; rintro e X1 ⟨rfl, hx⟩; have HX := Li hx; clear hx)
  go_end0
  exact ⟨rfl, HX.out⟩
end Go.Proofs.Ytlndpclgljfloaa
