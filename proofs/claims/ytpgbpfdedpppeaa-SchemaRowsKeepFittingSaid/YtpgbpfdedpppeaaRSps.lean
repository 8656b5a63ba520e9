/-
  What the reference's split does, by a plain function.
-/
import Derived.Test.YtpgbpfdedpppeaaRPls
import Derived.Test.YtpgbpfdedpppeaaKindP
namespace Go.Proofs.Ytpgbpfdedpppeaa
open Go.RowKit

def splitR' (s : Sc) (c : Ch) (f : Fd) : Sc × Int :=
  if f.ty = 4 then (if sepB c.sep = true then (if takB s.fs ⟨0, c.nm, 4, f.pa⟩ f.id f.id = true ∨ takB s.fs ⟨0, c.ot, 4, f.pa⟩ f.id f.id = true ∨ (c.nm.toList == c.ot.toList) = true then (Sc.zero, 60) else if s.fs.length < 64 ∧ s.next ≤ 1073741822 then (withS (withS ⟨dropF2 s.fs f.id f.id, s.next⟩ c.nm 4 f.pa) c.ot 4 f.pa, 0) else (Sc.zero, 2)) else (Sc.zero, 1)) else (Sc.zero, 7)
def splitR (s : Sc) (c : Ch) : Sc × Int := if hasF s.fs c.id = true then splitR' s c (fieldD s.fs c.id) else (Sc.zero, 61)
end Go.Proofs.Ytpgbpfdedpppeaa
