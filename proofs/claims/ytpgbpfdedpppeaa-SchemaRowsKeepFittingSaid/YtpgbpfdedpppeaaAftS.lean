/-
  What After does, by plain functions.
-/
import Derived.Test.YtpgbpfdedpppeaaAppS
namespace Go.Proofs.Ytpgbpfdedpppeaa
open Go.RowKit

def aft : Sc → Int → List Ch → Sc × Int × Int
  | s, i, [] => (s, i, 0)
  | s, i, c :: r => if (applyP s c).2 = 0 then aft (applyP s c).1 (i + 1) r else (s, i, (applyP s c).2)
def Sc.new : Sc := ⟨[], 1⟩
def aftP (l : List Ch) : Sc × Int × Int := aft Sc.new 0 l
/-- what is kept from schema to schema -/
def Inv (s : Sc) : Prop := s.fs.length ≤ 64 ∧ 0 ≤ s.next ∧ s.next ≤ 1073741824 ∧ AllN (fun b => b.size ≤ 9223372036854775807) s.fs
/-- what a change of a program is like -/
def CW (c : Ch) : Prop := (Lit.int .i64 c.kind).wf = true ∧ c.nm.size ≤ 9223372036854775807 ∧ c.ot.size ≤ 9223372036854775807 ∧ c.sep.size ≤ 9223372036854775807
theorem edit_next {s : Sc} {c : Ch} (h : 0 ≤ s.next) : 0 ≤ (editE s c).1.next := by
  have h1 : 0 ≤ s.next + 1 := by omega
  have h2 : 0 ≤ s.next + 1 + 1 := by omega
  unfold editE addE dropE renE widE movE splE joiE
  repeat' split
  all_goals (first | exact h | exact h1 | exact h2 | exact Int.le_refl 0)
theorem inv_new : Inv Sc.new := ⟨by simp [Sc.new], by simp [Sc.new], by simp [Sc.new], fun _ h => by simp [Sc.new] at h⟩
theorem inv_apply {s : Sc} {c : Ch} (h : Inv s) (hc : CW c) (he : (applyP s c).2 = 0) : Inv (applyP s c).1 := by
  unfold applyP at he ⊢
  split at he
  · next hk =>
    rw [if_pos hk]
    unfold lastE at he ⊢
    split at he
    · next h0 =>
      rw [if_pos h0]
      split at he
      · next h1 =>
        rw [if_pos h1]
        split at he
        · next h2 =>
          rw [if_pos h2]
          split at he
          · next h3 =>
            rw [if_pos h3]
            exact ⟨h3.1, edit_next h.2.1, h3.2, alln_edit h.2.2.2 hc.2.1 hc.2.2.1⟩
          · simp at he
        · simp at he
      · simp at he
    · next h0 => exact absurd he h0
  · simp at he
theorem aft_stop {s : Sc} {i : Int} {m : List Ch} {k : Nat} {c : Ch} {r : Sc × Int × Int} (hd : m.drop k = c :: m.drop (k + 1)) (h : aft s i (m.drop k) = r) (he : ¬ (applyP s c).2 = 0) : r = (s, i, (applyP s c).2) := by
  rw [← h, hd, aft, if_neg he]
theorem aft_go {s : Sc} {i : Int} {m : List Ch} {k : Nat} {c : Ch} {r : Sc × Int × Int} (hd : m.drop k = c :: m.drop (k + 1)) (h : aft s i (m.drop k) = r) (he : (applyP s c).2 = 0) : aft (applyP s c).1 (i + 1) (m.drop (k + 1)) = r := by
  rw [← h, hd, aft, if_pos he]
theorem aft_end {s : Sc} {i : Int} {m : List Ch} {k : Nat} {r : Sc × Int × Int} (hk : m.length ≤ k) (h : aft s i (m.drop k) = r) : r = (s, i, 0) := by
  rw [← h, List.drop_of_length_le hk, aft]
theorem getC_of {l : List Ch} {k : Nat} (h : k < l.length) : ∃ f, l[k]? = some f := ⟨l[k], List.getElem?_eq_getElem h⟩
end Go.Proofs.Ytpgbpfdedpppeaa
