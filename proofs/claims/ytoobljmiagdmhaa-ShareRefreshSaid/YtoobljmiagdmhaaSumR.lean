/-
  The reference's Sum, by a contract.
-/
import Derived.Test.YtoobljmiagdmhaaFieldP
import Derived.Test.YtoobljmiagdmhaaShl
import Derived.Deep.RegionHeldLaw
import Derived.Laws.AppendOwn
namespace Go.Proofs.Ytoobljmiagdmhaa
open Go.RowKit

def sumL (a b : List UInt8) : List UInt8 := (List.range a.length).map fun i => byte a i ^^^ byte b i
theorem sumL_len (a b : List UInt8) : (sumL a b).length = a.length := by simp [sumL]
theorem sumL_get (a b : List UInt8) {k : Nat} (h : k < a.length) : (sumL a b)[k]? = some (byte a k ^^^ byte b k) := by
  unfold sumL
  rw [List.getElem?_map, List.getElem?_range h]
  rfl
theorem sumL_byte (a b : List UInt8) {k : Nat} (h : k < a.length) : byte (sumL a b) k = byte a k ^^^ byte b k := byte_of (sumL_get a b h)
structure FS (base : Nat) (w0 w : World) (v : Value) (l : List UInt8) : Prop where
  bel : Below base w0 w
  own : Owns w base v l
  top : base ≤ w.heap.size
structure GS (base : Nat) (w0 w : World) (v : Value) (l : List UInt8) (z : Int) (g : Nat) : Prop where
  f : FS base w0 w v l
  cell : w.cell? ⟨g, 0, none⟩ = some (.int .u8 z)
theorem FS.dr {base : Nat} {w0 w : World} {v : Value} {l : List UInt8} (h : FS base w0 w v l) : FS base w0 w.drew v l := ⟨h.bel.drew, h.own, h.top⟩
theorem GS.dr {base : Nat} {w0 w : World} {v : Value} {l : List UInt8} {z : Int} {g : Nat} (h : GS base w0 w v l z g) : GS base w0 w.drew v l z g := ⟨h.f.dr, h.cell⟩
theorem FS.al {base : Nat} {w0 w : World} {v : Value} {l : List UInt8} (h : FS base w0 w v l) (z : Int) : GS base w0 (w.alloc (.cells #[.int .u8 z] 5)) v l z w.heap.size :=
  ⟨⟨h.bel.alloc h.top _, World.ownsRow.alloc h.own _, by have := h.top; simp; omega⟩, by simp⟩
theorem step_growS {ops : Array Oper} {o : Oper} {a : Act} {w : World} {K : Act → World → Prop} {Q : Exit → Act → World → Prop} {E : Prop} (hgd : o.guard = none) (d x : Operand)
    (ho : o.op = .call { callee := .builtin .append, args := #[d, x], argTypes := #[27, 27] }) (base : Nat) (w0 : World) (v : Value) (l : List UInt8) (c : UInt8) (z : Int) (g : Nat)
    (hs : a.eval d = v) (hx : a.eval x = .slice (some ⟨g, 0, none⟩) 1 1) (hz : z = (c.toNat : Int)) (hG : GS base w0 w v l z g) (hroom : l.length + 1 ≤ 1000001)
    (hK : ∀ A' c' w', Owns w' base (.slice A' (l ++ [c]).length c') (l ++ [c]) → Below base w0 w' → K (a.put o.dst (.slice A' (l ++ [c]).length c')) w') :
    if Region.wanted o (yielded ops a.tmps) = true then Oper.wp Try.prog o a w K Q else E := by
  have hw : Region.wanted o (yielded ops a.tmps) = true := by simp [Region.wanted, hgd]
  rw [if_pos hw]
  obtain ⟨i, hi, hz0, hsz, hb⟩ := info_parts info5
  have e : (l ++ [c]).length = l.length + 1 := by simp
  refine wp_append_own _ d x 27 ho base 5 i (.int .u8 0) 1 1 Try.underlying27 hi hz0 hsz hb rfl (by decide) v l.length (cb l) hs hG.f.own ⟨g, 0, none⟩ 1 1 (cb [c]) hx (by simp [cb]) ?_ (cb_one [c]) (by simp only [maxLen]; omega) (by omega) hG.f.top ?_
  · intro j u hj
    have h0 : j = 0 := by have := (List.getElem?_eq_some_iff.1 hj).1; simp [cb] at this; exact this
    subst h0
    simp [cb] at hj
    subst hj
    have := hG.cell
    rw [hz] at this
    simpa [Addr.add_lit] using this
  · intro v' w' h1 h3 _
    have ho' : Owns w' base v' (l ++ [c]) := by unfold Owns; rw [cb_app, e]; exact h1
    obtain ⟨A', c', rfl⟩ := ho'.slice
    exact hK A' c' w' ho' (grown_owns hG.f.own h3 hG.f.bel hG.f.top (Nat.le_refl _))
theorem sh_cell {w : World} {B pa off : Nat} {b : List UInt8} (h : Shows w B (some ⟨pa, off, none⟩) b) (k : Nat) (x : UInt8) (hx : b[k]? = some x) : w.cell? ⟨pa, off + k, none⟩ = some (.int .u8 (x.toNat : Int)) := by
  obtain ⟨b', off', e, _, hc⟩ := h (by have := (List.getElem?_eq_some_iff.1 hx).1; omega)
  injection e with e
  injection e with e1 e2
  subst e1 e2
  exact hc k x hx

attribute [local go_sem] u8_xor
set_option maxHeartbeats 1000000 in
set_option maxRecDepth 20000 in
theorem Sum_any (A C : Option Addr) (n m c d : Nat) (a b : List UInt8) (w : World) (hn : n = a.length) (hm : m = b.length) (h1 : Shows w w.heap.size A a) (h2 : Shows w w.heap.size C b) (hle : a.length ≤ b.length) (hl : b.length ≤ 1000000) :
    Calls Try.prog 27 #[.slice A n c, .slice C m d] w
      fun e w' => ∃ A' c', e = .returned (.slice A' n c') ∧ Owns w' w.heap.size (.slice A' n c') (sumL a b) ∧ Below w.heap.size w w' := by
  have HA := Lib.hid h1
  have HC := Lib.hid h2
  have HN := Lib.hid hn
  have HM := Lib.hid hm
  have hnm : n ≤ m := by omega
  have hm6 : m ≤ 1000000 := by omega
  clear h1 h2 hle hl hn hm
  go_enter Try.func27, Try.ntmps27
  go_wp2
  have ho0 : Hid (Owns (w.alloc (.cells #[] 5)) w.heap.size (.slice (some ⟨w.heap.size, 0, none⟩) 0 0) ((sumL a b).take 0)) := by
    rw [List.take_zero]
    exact owns_empty w _ rfl
  have hb0 : Hid (Below w.heap.size w (w.alloc (.cells #[] 5))) := (Below.refl _ _).alloc (Nat.le_refl _) _
  generalize w.alloc (.cells #[] 5) = w0 at *
  go_loopw [5, 6] (fun u i wr => ∃ (k : Nat) (v : Value), k ≤ n ∧ i = .int .i64 k ∧ u = v ∧ Hid (Owns wr w.heap.size v ((sumL a b).take k)) ∧ Hid (Below w.heap.size w wr)) (fun _ i _ => n - (intOf i).toNat)
  case atStart => exact ⟨0, _, by omega, rfl, rfl, ho0, hb0⟩
  case round =>
    clear ho0 hb0
    obtain ⟨k, v, hk, rfl, rfl, ho, hr⟩ := hrel
    obtain ⟨wo, hwo⟩ : ∃ wo : World, wo = wr := ⟨_, rfl⟩
    subst hwo
    have HX := Lib.hid (sumL_len a b)
    by_cases hlt : k < n
    · have i1 : (k : Int) < (n : Int) := by omega
      have i2 : (k : Int) < (m : Int) := by omega
      have hxx := Lib.hid (byte_get (l := a) (i := k) (by rw [← HN.out]; exact hlt))
      have hyy := Lib.hid (byte_get (l := b) (i := k) (by rw [← HM.out]; omega))
      have hG := Lib.hid (sumL_get a b (k := k) (by rw [← HN.out]; exact hlt))
      have hSA := Lib.hid (HA.out.below hr.out)
      have hSC := Lib.hid (HC.out.below hr.out)
      obtain ⟨pa, off, rfl, hpB, hcell⟩ := hSA.out (by rw [← HN.out]; omega)
      obtain ⟨pb, off2, rfl, hpB2, hcell2⟩ := hSC.out (by rw [← HM.out]; omega)
      have cx := hcell k _ hxx.out
      have cy := hcell2 k _ hyy.out
      generalize byte a k = x at *
      generalize byte b k = y at *
      clear hcell hcell2
      have FF : FS w.heap.size wo wo _ ((sumL a b).take k) := ⟨Below.refl _ _, ho.out, hr.out.size⟩
      have FH := Lib.hid FF
      clear FF
      go_wp2
      go_region_held_law (fun w' => w'.cell? ⟨pa, off + k, none⟩ = some (.int .u8 (x.toNat : Int)) ∧ w'.cell? ⟨pb, off2 + k, none⟩ = some (.int .u8 (y.toNat : Int)))
        (first | exact hS7 | go_keep)
        (first
          | (refine step_growS rfl (.tmp 14) (.tmp 24) rfl w.heap.size wo _ ((sumL a b).take k) (x ^^^ y) ((x ^^^ y).toNat : Int) wo.heap.size rfl rfl rfl (by first | exact FH.out.al _ | exact (FH.out.al _).dr | exact FH.out.dr.al _ | exact (FH.out.dr.al _).dr | exact FH.out.dr.dr.al _) (by rw [List.length_take]; omega) ?_; intro A7 c7 w7 ho7 hg7; have HO7 := Lib.hid ho7; have HG7 := Lib.hid hg7; have hS7 : w7.cell? ⟨pa, off + k, none⟩ = some (.int .u8 (x.toNat : Int)) ∧ w7.cell? ⟨pb, off2 + k, none⟩ = some (.int .u8 (y.toNat : Int)) := ⟨sh_cell (hSA.out.below hg7) k x hxx.out, sh_cell (hSC.out.below hg7) k y hyy.out⟩; clear ho7 hg7))
      go_wp2_with fail
      go_roundw
      case rel =>
        have e : (sumL a b).take k ++ [x ^^^ y] = (sumL a b).take (k + 1) := by
          rw [List.take_add_one, hG.out]
          rfl
        rw [show ((sumL a b).take k ++ [x ^^^ y]).length = min k (sumL a b).length + 1 by simp, e] at HO7
        exact ⟨k + 1, _, by omega, by go_num, rfl, HO7, hr.out.trans HG7.out⟩
      case measure => simp [intOf]; omega
    · have hkN : k = n := by omega
      have i1 : ¬ (k : Int) < (n : Int) := by omega
      rw [hkN, HN.out, List.take_of_length_le (by rw [HX.out]; exact Nat.le_refl _)] at ho
      obtain ⟨A', c', rfl⟩ := ho.out.slice
      go_wp2
      go_ret
      have e9 : (sumL a b).length = n := by rw [HX.out, ← HN.out]
      have h9 := ho.out
      rw [e9] at h9
      exact ⟨A', c', by (show Ending.returned (.slice A' (sumL a b).length c') = _); rw [e9], h9, hr.out⟩
end Go.Proofs.Ytoobljmiagdmhaa
