/-
 Layer 6's contracts and plain theorems, texts of layer 6's own claims put together: BackP PathP FindP.
-/
import Derived.Test.YtfeemipnalgjnaaGreatGA
import Derived.RangeFuncNested
import Derived.RangeFuncBound
import Derived.RangeFuncCalls
import Derived.RangeFuncLeaves
import Derived.Shelf.Abstract
import Derived.Shelf.RegionOpen
import Derived.OwnWalkIn
import Derived.TacticsInMore
import Derived.LoopNIn
import Derived.LoopIn
import Derived.Test.YtfeemipnalgjnaaGreatLays
import Derived.Maps.AppendAt
namespace Go.Proofs.YtfeemipnalgjnaaGreat
open Go.RowKit Go.Shelf
attribute [local go_sem] Oper.semAt_some

/-- what a round keeps: the row's block and the iterator's own box -/
structure KB (b Bs : Nat) (W W' : World) : Prop where
 row : W'.heap[b]? = W.heap[b]?
 box : W'.heap[Bs]? = W.heap[Bs]?
theorem KB.refl (n Bs : Nat) (W : World) : KB n Bs W W := ⟨rfl, rfl⟩
theorem KB.trans {n Bs : Nat} {A B C : World} (h : KB n Bs A B) (k : KB n Bs B C) : KB n Bs A C := ⟨k.row.trans h.row, k.box.trans h.box⟩
theorem KB.cell {n Bs : Nat} {A B : World} (h : KB n Bs A B) : B.cell? ⟨Bs, 0, none⟩ = A.cell? ⟨Bs, 0, none⟩ := by
 unfold World.cell?
 simp only [h.box]
theorem KB.cellR {n Bs : Nat} {A B : World} (h : KB n Bs A B) (o : Nat) : B.cell? ⟨n, o, none⟩ = A.cell? ⟨n, o, none⟩ := by
 unfold World.cell?
 simp only [h.row]
theorem kb_put {b Bs : Nat} {w : World} (hb : b < w.heap.size) (hB : Bs < w.heap.size) (W : World) (l : Nat) (o o' : Obj) (hl : w.heap.size ≤ l) (ho : W.heap[l]? = some o) (_ : o.isCells = false) (_ : o.isWalk = false) : KB b Bs W (W.putObj l o') := by
 have hlt := (Array.getElem?_eq_some_iff.1 ho).1
 exact ⟨(grownBy_putObj' W l o').block b (by omega) (by simp; omega), (grownBy_putObj' W l o').block Bs (by omega) (by simp; omega)⟩

end Go.Proofs.YtfeemipnalgjnaaGreat
namespace Go.Proofs.YtfeemipnalgjnaaGreat
open Go.RowKit Go.Shelf
attribute [local go_sem] Oper.semAt_some

end Go.Proofs.YtfeemipnalgjnaaGreat
namespace Go.Proofs.YtfeemipnalgjnaaGreat
open Go.RowKit

/-- whether a schema is valid, as the program looks -/
def vldP (s : Sc) : Bool := decide (s.fs.length ≤ 64 ∧ s.next ≤ 1073741824) && numGo s.next 0 s.fs && typsB s.fs && plcsB s.fs && namGo [] s.fs
end Go.Proofs.YtfeemipnalgjnaaGreat
