/-
  A region that draws its order, walked by hand: the moves, whole and in short words. Plain.
-/
import Derived.Test.YtlndpclgljfloaaMm
import Derived.Lib.Hide
import Derived.Deep.RegionHeld3
import Derived.Deep.MidRow
namespace Go.Proofs.Ytlndpclgljfloaa
open Go.RowKit
theorem Li {p : Prop} (h : p) : Hid p := Lib.hid h
theorem pnz : (∀ (a : Act) (v : Value), a.put none v = a) ∧ (∀ (a : Act) (d : Nat) (v : Value), a.put (some d) v = { a with tmps := a.tmps.setIfInBounds d v }) ∧ (∀ (l : List Value) (i : Nat) (v : Value), l.toArray.setIfInBounds i v = (l.set i v).toArray) ∧ (∀ (x : Value) (l : List Value) (v : Value), (x :: l).set 0 v = v :: l) ∧ ∀ (x : Value) (l : List Value) (i : Nat) (v : Value), (x :: l).set (i + 1) v = x :: l.set i v :=
  ⟨fun _ _ => rfl, fun _ _ _ => rfl, fun _ _ _ => by simp, fun _ _ _ => rfl, fun _ _ _ _ => rfl⟩
section
variable {w : World} {g : Nat} {t : TypeId} {a b c d e f h i j k : Value} {L : List Value}
theorem CB.c1 (H : CB w g t (a :: L)) : w.cell? ⟨g, 0, none⟩ = some a := H.cell 0 rfl
theorem CB.c2 (H : CB w g t (a :: b :: L)) : w.cell? ⟨g, 0, none⟩ = some a ∧ w.cell? ⟨g, 1, none⟩ = some b := ⟨H.cell 0 rfl, H.cell 1 rfl⟩
theorem CB.c3 (H : CB w g t (a :: b :: c :: L)) : w.cell? ⟨g, 0, none⟩ = some a ∧ w.cell? ⟨g, 1, none⟩ = some b ∧ w.cell? ⟨g, 2, none⟩ = some c := ⟨H.cell 0 rfl, H.cell 1 rfl, H.cell 2 rfl⟩
theorem CB.c4 (H : CB w g t (a :: b :: c :: d :: L)) : w.cell? ⟨g, 0, none⟩ = some a ∧ w.cell? ⟨g, 1, none⟩ = some b ∧ w.cell? ⟨g, 2, none⟩ = some c ∧ w.cell? ⟨g, 3, none⟩ = some d := ⟨H.cell 0 rfl, H.cell 1 rfl, H.cell 2 rfl, H.cell 3 rfl⟩
theorem CB.c7 (H : CB w g t (a :: b :: c :: d :: e :: f :: h :: L)) : w.cell? ⟨g, 0, none⟩ = some a ∧ w.cell? ⟨g, 1, none⟩ = some b ∧ w.cell? ⟨g, 2, none⟩ = some c ∧ w.cell? ⟨g, 3, none⟩ = some d ∧ w.cell? ⟨g, 4, none⟩ = some e ∧ w.cell? ⟨g, 5, none⟩ = some f ∧ w.cell? ⟨g, 6, none⟩ = some h := ⟨H.cell 0 rfl, H.cell 1 rfl, H.cell 2 rfl, H.cell 3 rfl, H.cell 4 rfl, H.cell 5 rfl, H.cell 6 rfl⟩
theorem CB.c8 (H : CB w g t (a :: b :: c :: d :: e :: f :: h :: i :: L)) : w.cell? ⟨g, 0, none⟩ = some a ∧ w.cell? ⟨g, 1, none⟩ = some b ∧ w.cell? ⟨g, 2, none⟩ = some c ∧ w.cell? ⟨g, 3, none⟩ = some d ∧ w.cell? ⟨g, 4, none⟩ = some e ∧ w.cell? ⟨g, 5, none⟩ = some f ∧ w.cell? ⟨g, 6, none⟩ = some h ∧ w.cell? ⟨g, 7, none⟩ = some i := ⟨H.cell 0 rfl, H.cell 1 rfl, H.cell 2 rfl, H.cell 3 rfl, H.cell 4 rfl, H.cell 5 rfl, H.cell 6 rfl, H.cell 7 rfl⟩
theorem CB.c10 (H : CB w g t (a :: b :: c :: d :: e :: f :: h :: i :: j :: k :: L)) : w.cell? ⟨g, 0, none⟩ = some a ∧ w.cell? ⟨g, 1, none⟩ = some b ∧ w.cell? ⟨g, 2, none⟩ = some c ∧ w.cell? ⟨g, 3, none⟩ = some d ∧ w.cell? ⟨g, 4, none⟩ = some e ∧ w.cell? ⟨g, 5, none⟩ = some f ∧ w.cell? ⟨g, 6, none⟩ = some h ∧ w.cell? ⟨g, 7, none⟩ = some i ∧ w.cell? ⟨g, 8, none⟩ = some j ∧ w.cell? ⟨g, 9, none⟩ = some k := ⟨H.cell 0 rfl, H.cell 1 rfl, H.cell 2 rfl, H.cell 3 rfl, H.cell 4 rfl, H.cell 5 rfl, H.cell 6 rfl, H.cell 7 rfl, H.cell 8 rfl, H.cell 9 rfl⟩
end

section
variable {P : Program} {md : Region.Mode} {l : List Oper} {Q : Exit → Act → World → Prop} {S : World → Prop} {fuel : Nat} {listed : Array Bool} {a : Act} {w : World}
theorem hand_take {i : Nat} {oi : Oper} {v : Value} (hi : l[i]? = some oi)
    (hs : Region.noSelect l.toArray = true) (hf : Region.free md l.toArray listed i = true) (hr : (Region.ready md l.toArray listed).contains i = true)
    (hQ : ∀ c a w, Q (.panic c) (a.put oi.dst v) w → Q (.panic c) a w) (hy : YieldsIf P l.toArray S oi v a) (hS : S w)
    (h : wpAnyH P md l.toArray Q S fuel (listed.setIfInBounds i true) (a.put oi.dst v) w) : wpAnyH P md l.toArray Q S (fuel + 1) listed a w :=
  wpAnyH_take (by simpa using hi) hs hf hr hQ hy hS h
theorem hand_cons {i : Nat} {o : Oper} {rs : List Nat} (ho : l[i]? = some o)
    (h : ∀ K' : Act → World → Prop, Shut (∀ a w, S w → (S w → wpAnyH P md l.toArray Q S fuel (listed.setIfInBounds i true) a w) → K' a w) → if Region.wanted o (yielded l.toArray a.tmps) = true then Oper.wp P o a w K' Q else K' (a.put o.dst undef) w)
    (hs : AllReadyH P md l.toArray Q S fuel listed a w rs) : AllReadyH P md l.toArray Q S fuel listed a w (i :: rs) :=
  AllReadyH.cons (by simpa using ho) h hs
/-- one operation may come next -/
theorem rd1 {o : Oper} (i : Nat) (h : ∀ K' : Act → World → Prop, Shut (∀ a w, S w → (S w → wpAnyH P md l.toArray Q S fuel (listed.setIfInBounds i true) a w) → K' a w) → if Region.wanted o (yielded l.toArray a.tmps) = true then Oper.wp P o a w K' Q else K' (a.put o.dst undef) w)
    (hr : Region.ready md l.toArray listed = [i] := by kernel_rfl) (ho : l[i]? = some o := by rfl) : wpAnyH P md l.toArray Q S (fuel + 1) listed a w :=
  wpAnyH_ready hr (by simp) (hand_cons ho h AllReadyH.nil)
theorem rd2 {o o' : Oper} (i j : Nat) (h : ∀ K' : Act → World → Prop, Shut (∀ a w, S w → (S w → wpAnyH P md l.toArray Q S fuel (listed.setIfInBounds i true) a w) → K' a w) → if Region.wanted o (yielded l.toArray a.tmps) = true then Oper.wp P o a w K' Q else K' (a.put o.dst undef) w)
    (h' : ∀ K' : Act → World → Prop, Shut (∀ a w, S w → (S w → wpAnyH P md l.toArray Q S fuel (listed.setIfInBounds j true) a w) → K' a w) → if Region.wanted o' (yielded l.toArray a.tmps) = true then Oper.wp P o' a w K' Q else K' (a.put o'.dst undef) w)
    (hr : Region.ready md l.toArray listed = [i, j] := by kernel_rfl) (ho : l[i]? = some o := by rfl) (ho' : l[j]? = some o' := by rfl) : wpAnyH P md l.toArray Q S (fuel + 1) listed a w :=
  wpAnyH_ready hr (by simp) (hand_cons ho h (hand_cons ho' h' AllReadyH.nil))
theorem rd3 {o o' o'' : Oper} (i j k : Nat) (h : ∀ K' : Act → World → Prop, Shut (∀ a w, S w → (S w → wpAnyH P md l.toArray Q S fuel (listed.setIfInBounds i true) a w) → K' a w) → if Region.wanted o (yielded l.toArray a.tmps) = true then Oper.wp P o a w K' Q else K' (a.put o.dst undef) w)
    (h' : ∀ K' : Act → World → Prop, Shut (∀ a w, S w → (S w → wpAnyH P md l.toArray Q S fuel (listed.setIfInBounds j true) a w) → K' a w) → if Region.wanted o' (yielded l.toArray a.tmps) = true then Oper.wp P o' a w K' Q else K' (a.put o'.dst undef) w)
    (h'' : ∀ K' : Act → World → Prop, Shut (∀ a w, S w → (S w → wpAnyH P md l.toArray Q S fuel (listed.setIfInBounds k true) a w) → K' a w) → if Region.wanted o'' (yielded l.toArray a.tmps) = true then Oper.wp P o'' a w K' Q else K' (a.put o''.dst undef) w)
    (hr : Region.ready md l.toArray listed = [i, j, k] := by kernel_rfl) (ho : l[i]? = some o := by rfl) (ho' : l[j]? = some o' := by rfl) (ho'' : l[k]? = some o'' := by rfl) : wpAnyH P md l.toArray Q S (fuel + 1) listed a w :=
  wpAnyH_ready hr (by simp) (hand_cons ho h (hand_cons ho' h' (hand_cons ho'' h'' AllReadyH.nil)))
/-- an operation that is taken first; how it yields is left to be shown -/
theorem htl {oi : Oper} (i : Nat) (v : Value) (hy : ∀ wS, S wS → (execOp a.eval oi).run P wS = .ok (.value v) wS) (h : wpAnyH P md l.toArray Q S fuel (listed.setIfInBounds i true) (a.put oi.dst v) w)
    (hi : l[i]? = some oi := by rfl) (hs : Region.noSelect l.toArray = true := by kernel_rfl) (hf : Region.free md l.toArray listed i = true := by kernel_rfl) (hr : (Region.ready md l.toArray listed).contains i = true := by kernel_rfl)
    (hQ : ∀ c a w, Q (.panic c) (a.put oi.dst v) w → Q (.panic c) a w := by intro _ _ _ h; exact h) (hS : S w := by assumption) (hw : Region.wanted oi (yielded l.toArray a.tmps) = true := by rfl) : wpAnyH P md l.toArray Q S (fuel + 1) listed a w :=
  hand_take hi hs hf hr hQ (Or.inl ⟨hw, hy⟩) hS h
/-- an operation under a guard that is not decided -/
theorem htc {oi : Oper} (i : Nat) (v : Value) (hy : YieldsIf P l.toArray S oi v a) (h : wpAnyH P md l.toArray Q S fuel (listed.setIfInBounds i true) (a.put oi.dst v) w)
    (hi : l[i]? = some oi := by rfl) (hs : Region.noSelect l.toArray = true := by kernel_rfl) (hf : Region.free md l.toArray listed i = true := by kernel_rfl) (hr : (Region.ready md l.toArray listed).contains i = true := by kernel_rfl)
    (hQ : ∀ c a w, Q (.panic c) (a.put oi.dst v) w → Q (.panic c) a w := by intro _ _ _ h; exact h) (hS : S w := by assumption) : wpAnyH P md l.toArray Q S (fuel + 1) listed a w :=
  hand_take hi hs hf hr hQ hy hS h
/-- an operation that is taken first and asks nothing of the world -/
theorem htk {oi : Oper} {v : Value} {a' : Act} (i : Nat) (h : wpAnyH P md l.toArray Q S fuel (listed.setIfInBounds i true) a' w)
    (hi : l[i]? = some oi := by rfl) (hs : Region.noSelect l.toArray = true := by kernel_rfl) (hf : Region.free md l.toArray listed i = true := by kernel_rfl) (hr : (Region.ready md l.toArray listed).contains i = true := by kernel_rfl)
    (hw : Region.wanted oi (yielded l.toArray a.tmps) = true := by rfl) (hy : ∀ wS, S wS → (execOp a.eval oi).run P wS = .ok (.value v) wS := by intro wS hSw; clear hSw; go_simp; try with_reducible rfl)
    (hQ : ∀ c a w, Q (.panic c) (a.put oi.dst v) w → Q (.panic c) a w := by intro _ _ _ h; exact h) (hS : S w := by assumption) (he : a.put oi.dst v = a' := by (conv => lhs; simp only [pnz]); try rfl) : wpAnyH P md l.toArray Q S (fuel + 1) listed a w :=
  hand_take hi hs hf hr hQ (Or.inl ⟨hw, hy⟩) hS (he ▸ h)
/-- .. and asks facts of the world that S gives -/
theorem htf {oi : Oper} {v : Value} {a' : Act} {G : World → Prop} (i : Nat) (F : ∀ wS, S wS → G wS) (h : wpAnyH P md l.toArray Q S fuel (listed.setIfInBounds i true) a' w)
    (hi : l[i]? = some oi := by rfl) (hs : Region.noSelect l.toArray = true := by kernel_rfl) (hf : Region.free md l.toArray listed i = true := by kernel_rfl) (hr : (Region.ready md l.toArray listed).contains i = true := by kernel_rfl)
    (hw : Region.wanted oi (yielded l.toArray a.tmps) = true := by rfl) (hy : ∀ wS, G wS → (execOp a.eval oi).run P wS = .ok (.value v) wS := by intro wS hG; go_simp; try with_reducible rfl)
    (hQ : ∀ c a w, Q (.panic c) (a.put oi.dst v) w → Q (.panic c) a w := by intro _ _ _ h; exact h) (hS : S w := by assumption) (he : a.put oi.dst v = a' := by (conv => lhs; simp only [pnz]); try rfl) : wpAnyH P md l.toArray Q S (fuel + 1) listed a w :=
  hand_take hi hs hf hr hQ (Or.inl ⟨hw, fun wS h => hy wS (F wS h)⟩) hS (he ▸ h)
end
end Go.Proofs.Ytlndpclgljfloaa
