/-
  A load of a digest, as a rule.
-/
import Derived.Test.YtdpkbhhmhmffnaaDoorTops
import Derived.Deep.MidRow
namespace Go.Proofs.YtdpkbhhmhmffnaaDoor
open Go.RowKit

theorem BT.range {w : World} {g : Nat} {t : TypeId} {l : List UInt8} (h : BT w g t l) : w.rangeAt g 0 (cb l) := fun j v hv => by
  have := World.rangeAt_of_block h 0 (cb l).length
  have e : ((cb l).toArray.extract 0 (0 + (cb l).length)).toList = cb l := by simp
  rw [e] at this
  exact this j v hv
/-- the digest that a block holds -/
noncomputable def lst (W : World) (d : Nat) : List UInt8 := by
  classical
  exact if h : ∃ l, BT W d 24 l ∧ l.length = 32 then h.choose else []
def Has (W : World) (d : Nat) : Prop := BT W d 24 (lst W d) ∧ (lst W d).length = 32
theorem cb_inj {a b : List UInt8} (h : cb a = cb b) : a = b := by
  unfold cb at h
  induction a generalizing b with
  | nil => cases b with
    | nil => rfl
    | cons y b => simp at h
  | cons x a ih => cases b with
    | nil => simp at h
    | cons y b =>
      simp only [List.map_cons, List.cons.injEq] at h
      obtain ⟨h1, h2⟩ := h
      have e : x.toNat = y.toNat := by injection h1 with _ h1; omega
      rw [UInt8.toNat_inj.1 e, ih h2]
theorem has_of' {W : World} {d : Nat} {l : List UInt8} (h : BT W d 24 l) (hl : l.length = 32) : Has W d := by
  have e : ∃ l, BT W d 24 l ∧ l.length = 32 := ⟨l, h, hl⟩
  unfold Has lst
  rw [dif_pos e]
  exact e.choose_spec
theorem lst_of' {W : World} {d : Nat} {l : List UInt8} (h : BT W d 24 l) (hl : l.length = 32) : lst W d = l := by
  have g := (has_of' h hl).1
  unfold BT at g h
  rw [h] at g
  simp only [Option.some.injEq, Obj.cells.injEq, and_true] at g
  exact (cb_inj (by simpa using congrArg Array.toList g)).symm
theorem ld_go {W : World} {d : Nat} (h : Hid (Has W d)) : (Instr.loadAt 24 (.pointer (some ⟨d, 0, none⟩))).run Tryd.prog W = .ok (.agg (cb (lst W d)).toArray) W :=
  run_loadAt_mid W d 0 24 (cb (lst W d)) _ h.out.1.range Tryd.underlying24 rfl (by rw [cb_len, h.out.2]; exact info24D)
def blk : Value → Nat
  | .pointer (some ⟨b, _, _⟩) => b
  | _ => 0
theorem blk_ptr (b o : Nat) (e) : blk (.pointer (some ⟨b, o, e⟩)) = b := rfl
theorem ld_op {W : World} {a : Act} {dst : Option Tmp} {t : Tmp} {ty : TypeId} {pos : String} {after : Array Edge} {guard : Option (Nat × Bool)} (hp : a.eval (.tmp t) = .pointer (some ⟨blk (a.eval (.tmp t)), 0, none⟩)) (h : Hid (Has W (blk (a.eval (.tmp t))))) :
    (execOp a.eval { dst, op := .load 24 (.tmp t), type := ty, pos, after, guard }).run Tryd.prog W = .ok (.value (.agg (cb (lst W (blk (a.eval (.tmp t))))).toArray)) W := by
  show (do pure (.value (← Instr.loadAt 24 (a.eval (.tmp t)))) : Sem Next).run _ _ = _
  generalize blk (a.eval (.tmp t)) = g at hp h ⊢
  rw [hp]
  simp only [Sem.run_bind, ld_go h, Result.andThen_ok, Sem.run_pure]
theorem ld_cells {W : World} {d : Nat} (h : Hid (Has W d)) : (loadCells ⟨d, 0, none⟩ 32).run Tryd.prog W = .ok (cb (lst W d)).toArray W := by
  have e := run_loadCells_list (P := Tryd.prog) W ⟨d, 0, none⟩ (cb (lst W d)) (fun j v hv => by rw [Addr.add_mid]; exact h.out.1.range j v hv)
  rwa [cb_len, h.out.2] at e
theorem ld_cellsFrom {W : World} {d : Nat} (h : Hid (Has W d)) : (loadCellsFrom ⟨d, 0, none⟩ 0 32 #[]).run Tryd.prog W = .ok (cb (lst W d)).toArray W := by
  simpa [loadCells] using ld_cells h
theorem has_alloc {W : World} {d : Nat} {o : Obj} (h : Hid (Has W d)) : Hid (Has (W.alloc o) d) := has_of' (h.out.1.alloc o) h.out.2
theorem lst_alloc {W : World} {d : Nat} {o : Obj} (h : Hid (Has W d)) : lst (W.alloc o) d = lst W d := lst_of' (h.out.1.alloc o) h.out.2
end Go.Proofs.YtdpkbhhmhmffnaaDoor
