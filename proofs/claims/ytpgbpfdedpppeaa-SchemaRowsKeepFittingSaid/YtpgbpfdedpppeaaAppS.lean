/-
  What Apply does, by plain functions.
-/
import Derived.Test.YtpgbpfdedpppeaaKin3P
import Derived.Test.YtpgbpfdedpppeaaNmdP
namespace Go.Proofs.Ytpgbpfdedpppeaa
open Go.RowKit

def editE (s : Sc) (c : Ch) : Sc × Int := if c.kind = 1 then addE s c else if c.kind = 2 then dropE s c else if c.kind = 3 then renE s c else if c.kind = 4 then widE s c else if c.kind = 5 then movE s c else if c.kind = 6 then splE s c else joiE s c
/-- the checks that come last -/
def lastE (r : Sc × Int) : Sc × Int :=
  if r.2 = 0 then (if plcsB r.1.fs then (if namGo [] r.1.fs then (if r.1.fs.length ≤ 64 ∧ r.1.next ≤ 1073741824 then (r.1, 0) else (Sc.zero, 2)) else (Sc.zero, 60)) else (Sc.zero, 63)) else (Sc.zero, r.2)
def applyP (s : Sc) (c : Ch) : Sc × Int := if 1 ≤ c.kind ∧ c.kind ≤ 7 then lastE (editE s c) else (Sc.zero, 1)

/-- a property of names that the fields and the change's names have, the edited fields have too -/
def AllN (P : ByteArray → Prop) (l : List Fd) : Prop := ∀ f ∈ l, P f.nm
section
variable {P : ByteArray → Prop} {l : List Fd} {s : Sc} {c : Ch}
theorem alln_nil : AllN P [] := fun _ h => by simp at h
theorem alln_snoc (h : AllN P l) {f : Fd} (hf : P f.nm) : AllN P (l ++ [f]) := fun g hg => by
  simp only [List.mem_append, List.mem_singleton] at hg
  rcases hg with hg | rfl
  · exact h g hg
  · exact hf
theorem alln_drop (h : AllN P l) (i : Int) : AllN P (dropF l i) := fun g hg => h g (List.mem_filter.1 hg).1
theorem alln_put (h : AllN P l) {g : Fd} (hg : P g.nm) : AllN P (putF l g) := fun f hf => by
  obtain ⟨x, hx, rfl⟩ := List.mem_map.1 hf
  split
  · exact hg
  · exact h x hx
theorem alln_fld (h : AllN P l) {i : Int} (hh : hasF l i = true) : P (fieldD l i).nm := by
  unfold hasF at hh
  unfold fieldD
  cases hf : field l i with
  | none => rw [hf] at hh; cases hh
  | some f => exact h f (field_mem hf).1
theorem alln_edit (h : AllN P s.fs) (h1 : P c.nm) (h2 : P c.ot) : AllN P (editE s c).1.fs := by
  unfold editE addE dropE renE widE movE splE joiE
  repeat' split
  all_goals (try exact alln_nil)
  · exact alln_snoc h h1
  · exact alln_drop h _
  · exact alln_put h h1
  · next hh _ => exact alln_put h (alln_fld h hh)
  · next hh => exact alln_put h (alln_fld h hh)
  · exact alln_snoc (alln_snoc (alln_drop h _) h1) h2
  · exact alln_snoc (alln_drop (alln_drop h _) _) h1
end
end Go.Proofs.Ytpgbpfdedpppeaa
