/-
  The reference's Sum, by a contract.
-/
import Derived.Test.YteaaadccjnmacaaFieldP
import Derived.Test.YteaaadccjnmacaaShl
import Derived.Deep.RegionHeldLaw
import Derived.Laws.AppendOwn
namespace Go.Proofs.Yteaaadccjnmacaa
open Go.RowKit

def sumL (a b : List UInt8) : List UInt8 := (List.range a.length).map fun i => byte a i ^^^ byte b i
theorem sumL_len (a b : List UInt8) : (sumL a b).length = a.length := by simp [sumL]
theorem sumL_get (a b : List UInt8) {k : Nat} (h : k < a.length) : (sumL a b)[k]? = some (byte a k ^^^ byte b k) := by
  unfold sumL
  rw [List.getElem?_map, List.getElem?_range h]
  rfl
theorem sumL_byte (a b : List UInt8) {k : Nat} (h : k < a.length) : byte (sumL a b) k = byte a k ^^^ byte b k := byte_of (sumL_get a b h)
structure FS (base : Nat) (w0 w : World) (v : Value) (l : List UInt8) : Prop where
  bel : Below base w0 w
  own : Owns w base v l
  top : base ≤ w.heap.size
structure GS (base : Nat) (w0 w : World) (v : Value) (l : List UInt8) (z : Int) (g : Nat) : Prop where
  f : FS base w0 w v l
  cell : w.cell? ⟨g, 0, none⟩ = some (.int .u8 z)
theorem FS.dr {base : Nat} {w0 w : World} {v : Value} {l : List UInt8} (h : FS base w0 w v l) : FS base w0 w.drew v l := ⟨h.bel.drew, h.own, h.top⟩
theorem GS.dr {base : Nat} {w0 w : World} {v : Value} {l : List UInt8} {z : Int} {g : Nat} (h : GS base w0 w v l z g) : GS base w0 w.drew v l z g := ⟨h.f.dr, h.cell⟩
theorem FS.al {base : Nat} {w0 w : World} {v : Value} {l : List UInt8} (h : FS base w0 w v l) (z : Int) : GS base w0 (w.alloc (.cells #[.int .u8 z] 5)) v l z w.heap.size :=
  ⟨⟨h.bel.alloc h.top _, World.ownsRow.alloc h.own _, by have := h.top; simp; omega⟩, by simp⟩
theorem step_growS {ops : Array Oper} {o : Oper} {a : Act} {w : World} {K : Act → World → Prop} {Q : Exit → Act → World → Prop} {E : Prop} (hgd : o.guard = none) (d x : Operand)
    (ho : o.op = .call { callee := .builtin .append, args := #[d, x], argTypes := #[22, 22] }) (base : Nat) (w0 : World) (v : Value) (l : List UInt8) (c : UInt8) (z : Int) (g : Nat)
    (hs : a.eval d = v) (hx : a.eval x = .slice (some ⟨g, 0, none⟩) 1 1) (hz : z = (c.toNat : Int)) (hG : GS base w0 w v l z g) (hroom : l.length + 1 ≤ 1000001)
    (hK : ∀ A' c' w', Owns w' base (.slice A' (l ++ [c]).length c') (l ++ [c]) → Below base w0 w' → K (a.put o.dst (.slice A' (l ++ [c]).length c')) w') :
    if Region.wanted o (yielded ops a.tmps) = true then Oper.wp Try.prog o a w K Q else E := by
  have hw : Region.wanted o (yielded ops a.tmps) = true := by simp [Region.wanted, hgd]
  rw [if_pos hw]
  obtain ⟨i, hi, hz0, hsz, hb⟩ := info_parts info5
  have e : (l ++ [c]).length = l.length + 1 := by simp
  refine wp_append_own _ d x 22 ho base 5 i (.int .u8 0) 1 1 Try.underlying22 hi hz0 hsz hb rfl (by decide) v l.length (cb l) hs hG.f.own ⟨g, 0, none⟩ 1 1 (cb [c]) hx (by simp [cb]) ?_ (cb_one [c]) (by simp only [maxLen]; omega) (by omega) hG.f.top ?_
  · intro j u hj
    have h0 : j = 0 := by have := (List.getElem?_eq_some_iff.1 hj).1; simp [cb] at this; exact this
    subst h0
    simp [cb] at hj
    subst hj
    have := hG.cell
    rw [hz] at this
    simpa [Addr.add_lit] using this
  · intro v' w' h1 h3 _
    have ho' : Owns w' base v' (l ++ [c]) := by unfold Owns; rw [cb_app, e]; exact h1
    obtain ⟨A', c', rfl⟩ := ho'.slice
    exact hK A' c' w' ho' (grown_owns hG.f.own h3 hG.f.bel hG.f.top (Nat.le_refl _))
theorem sh_cell {w : World} {B pa off : Nat} {b : List UInt8} (h : Shows w B (some ⟨pa, off, none⟩) b) (k : Nat) (x : UInt8) (hx : b[k]? = some x) : w.cell? ⟨pa, off + k, none⟩ = some (.int .u8 (x.toNat : Int)) := by
  obtain ⟨b', off', e, _, hc⟩ := h (by have := (List.getElem?_eq_some_iff.1 hx).1; omega)
  injection e with e
  injection e with e1 e2
  subst e1 e2
  exact hc k x hx

attribute [local go_sem] u8_xor
end Go.Proofs.Yteaaadccjnmacaa
