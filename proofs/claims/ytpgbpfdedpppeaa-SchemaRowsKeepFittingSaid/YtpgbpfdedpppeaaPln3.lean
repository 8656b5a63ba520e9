/-
  Changes one after the other; the reference's Change and Made as plain functions.
-/
import Derived.Test.YtpgbpfdedpppeaaPln2
import Derived.Test.YtpgbpfdedpppeaaAftS
namespace Go.Proofs.Ytpgbpfdedpppeaa
open Go.RowKit

/-- the reference's mod -/
def modR (x n : Int) : Int := if n ≤ 0 then 0 else Int.tmod (Int.tmod x n + n) n
def nameT : List ByteArray := [⟨#[97]⟩, ⟨#[98]⟩, ⟨#[99]⟩, ⟨#[100]⟩, ⟨#[101]⟩, ⟨#[102]⟩]
def nameR (s : ByteArray) : ByteArray := if namB s = true ∧ s.size ≤ 4 then s else nameT.getD (s.size % 6) ⟨#[]⟩
def chgR (s : Sc) (c : Ch) : Ch := ⟨1 + modR c.kind 7, 1 + modR c.id s.next, 1 + modR c.wi s.next, nameR c.nm, nameR c.ot, 1 + modR c.ty 6, if grpB s.fs (modR c.pa s.next) = true then modR c.pa s.next else 0, if sepB c.sep = true then c.sep else ⟨#[45]⟩⟩
def madeG : Sc → List Ch → List Ch
  | _, [] => []
  | s, c :: r => if (applyR s (chgR s c)).2 = 0 then chgR s c :: madeG (applyR s (chgR s c)).1 r else madeG s r
def madeR (l : List Ch) (n : Nat) : List Ch := madeG Sc.new (l.take n)
theorem ok_new : Ok Sc.new := ⟨List.Pairwise.nil, fun _ h => by simp [Sc.new] at h, fun _ h => by simp [Sc.new] at h, by decide, by decide, fun _ h => by simp [Sc.new] at h, fun _ h => by simp [Sc.new] at h, fun _ h => by simp [Sc.new] at h, fun _ h => by simp [Sc.new] at h⟩
theorem aft_ok : ∀ {m : List Ch} {s : Sc} {i : Int}, Ok s → (aft s i m).2.2 = 0 → Ok (aft s i m).1 ∧ Keeps s (aft s i m).1 ∧ (aft s i m).2.1 = i + m.length
  | [], s, i, ho, _ => ⟨ho, keeps_refl s, by simp [aft]⟩
  | c :: r, s, i, ho, h => by
    unfold aft at h ⊢
    by_cases hc : (applyP s c).2 = 0
    · rw [if_pos hc] at h ⊢
      obtain ⟨h1, h2⟩ := ok_apply ho hc
      obtain ⟨h3, h4, h5⟩ := aft_ok h1 h
      exact ⟨h3, keeps_trans h2 h4, by rw [h5, List.length_cons]; omega⟩
    · rw [if_neg hc] at h
      exact absurd h hc
theorem aft_oks : ∀ {m : List Ch} {s : Sc} {i : Int}, Ok s → Ok (aft s i m).1
  | [], _, _, ho => ho
  | c :: r, s, i, ho => by
    unfold aft
    split
    · next hc => exact aft_oks (ok_apply ho hc).1
    · exact ho
theorem aft_append : ∀ {m m' : List Ch} {s : Sc} {i : Int}, (aft s i (m ++ m')).2.2 = 0 → (aft s i m).2.2 = 0 ∧ aft s i (m ++ m') = aft (aft s i m).1 (aft s i m).2.1 m'
  | [], _, _, _, _ => ⟨rfl, rfl⟩
  | c :: r, m', s, i, h => by
    have e : ∀ r, aft s i (c :: r) = if (applyP s c).2 = 0 then aft (applyP s c).1 (i + 1) r else (s, i, (applyP s c).2) := fun _ => rfl
    rw [List.cons_append, e] at h
    rw [List.cons_append, e, e]
    by_cases hc : (applyP s c).2 = 0
    · rw [if_pos hc] at h
      rw [if_pos hc, if_pos hc]
      exact aft_append h
    · rw [if_neg hc] at h
      exact absurd h hc
theorem made_aft : ∀ {l : List Ch} {s : Sc} {i : Int}, Ok s → (aft s i (madeG s l)).2.2 = 0
  | [], _, _, _ => rfl
  | c :: r, s, i, ho => by
    unfold madeG
    split
    · next hc =>
      unfold aft
      have hc' := hc
      rw [← apply_eq ho] at hc'
      rw [if_pos hc', ← apply_eq ho]
      exact made_aft (ok_apply ho hc').1
    · exact made_aft ho
theorem made_len : ∀ {l : List Ch} {s : Sc}, (madeG s l).length ≤ l.length
  | [], _ => Nat.le_refl _
  | c :: r, s => by
    unfold madeG
    split
    · have := made_len (l := r) (s := (applyR s (chgR s c)).1)
      rw [List.length_cons, List.length_cons]; omega
    · have := made_len (l := r) (s := s)
      rw [List.length_cons]; omega
/-- the numbers after the first k changes and after all -/
theorem numbers {l : List Ch} {n k : Nat} : (aftP ((madeR l n).take k)).2.2 = 0 ∧ (aftP (madeR l n)).2.2 = 0 ∧ Ok (aftP ((madeR l n).take k)).1 ∧ Ok (aftP (madeR l n)).1 ∧ Keeps (aftP ((madeR l n).take k)).1 (aftP (madeR l n)).1 := by
  have h0 : (aft Sc.new 0 (madeG Sc.new (l.take n))).2.2 = 0 := made_aft ok_new
  have h1 : (aft Sc.new 0 ((madeR l n).take k ++ (madeR l n).drop k)).2.2 = 0 := by rw [List.take_append_drop]; exact h0
  obtain ⟨h2, h3⟩ := aft_append h1
  rw [List.take_append_drop] at h3
  obtain ⟨h4, _, _⟩ := aft_ok ok_new h2
  have h5 : (aft Sc.new 0 (madeR l n)).2.2 = 0 := h0
  refine ⟨h2, h0, h4, (aft_ok ok_new h5).1, ?_⟩
  unfold aftP
  rw [h3] at h5 ⊢
  exact (aft_ok h4 h5).2.1
end Go.Proofs.Ytpgbpfdedpppeaa
