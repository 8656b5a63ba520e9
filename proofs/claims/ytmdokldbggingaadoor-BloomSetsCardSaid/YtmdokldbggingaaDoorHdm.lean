/-
  A region that draws its order, walked by hand with the listed operations as the bits of a number: quicker moves. Plain.
-/
import Derived.Test.YtmdokldbggingaaDoorHd
namespace Go.Proofs.YtmdokldbggingaaDoor
open Go.RowKit
/-- the bits of a number as flags -/
def lof (n m : Nat) : Array Bool := ((List.range n).map fun i => m.testBit i).toArray
theorem lof_size (n m : Nat) : (lof n m).size = n := by simp [lof]
theorem lof_getD (n m i : Nat) (d : Bool) : (lof n m).getD i d = if i < n then m.testBit i else d := by
  unfold lof
  by_cases h : i < n
  · rw [if_pos h]
    simp [Array.getD, h]
  · rw [if_neg h]
    simp [Array.getD, h]
theorem lof_zero (n : Nat) : Array.replicate n false = lof n 0 := by
  apply Array.ext
  · simp [lof]
  · intro i h1 h2
    simp [lof]
theorem lof_set (n m i : Nat) : (lof n m).setIfInBounds i true = lof n (m ||| 2 ^ i) := by
  apply Array.ext
  · simp [lof]
  · intro j h1 h2
    have hj : j < n := by simpa [lof] using h2
    rw [Array.getElem_setIfInBounds]
    · simp only [lof, List.getElem_toArray, List.getElem_map, List.getElem_range, Nat.testBit_or, Nat.testBit_two_pow]
      by_cases e : i = j
      · simp [e]
      · simp [e]
    · simpa [lof] using hj
/-- what an operation waits for, as bits -/
def waitM (es : List Edge) : Nat := es.foldr (fun e s => if Region.binds .any e = true then 2 ^ e.on ||| s else s) 0
theorem waitM_bit : ∀ (es : List Edge) (j : Nat), (waitM es).testBit j = es.any fun e => Region.binds .any e && e.on == j
  | [], j => by simp [waitM]
  | e :: r, j => by
    have ih := waitM_bit r j
    unfold waitM at ih ⊢
    rw [List.foldr_cons, List.any_cons]
    by_cases h : Region.binds .any e = true
    · rw [if_pos h, Nat.testBit_or, ih, Nat.testBit_two_pow, h]
      simp [BEq.beq]
    · rw [if_neg h, ih]
      simp [h]
def waitsL (l : List Oper) : List Nat := l.map fun o => waitM o.after.toList
def readyD (D : List Nat) (m : Nat) : List Nat := (List.range D.length).filter fun i => !m.testBit i && (D.getD i 0 &&& m == D.getD i 0)
theorem sub_bit {x m : Nat} (h : x &&& m = x) {j : Nat} (hj : x.testBit j = true) : m.testBit j = true := by
  have := congrArg (fun z => z.testBit j) h
  simp only [Nat.testBit_and, hj, Bool.true_and] at this
  exact this
theorem sub_of {x m : Nat} (h : ∀ j, x.testBit j = true → m.testBit j = true) : x &&& m = x := Nat.eq_of_testBit_eq fun j => by
  rw [Nat.testBit_and]
  cases e : x.testBit j with
  | false => rfl
  | true => rw [h j e]; rfl
theorem ready_is (l : List Oper) (m : Nat) (hm : m < 2 ^ l.length) : Region.ready .any l.toArray (lof l.length m) = readyD (waitsL l) m := by
  unfold Region.ready readyD
  have hs : (waitsL l).length = l.length := by simp [waitsL]
  rw [hs]
  show (List.range l.toArray.size).filter _ = _
  rw [show l.toArray.size = l.length by simp]
  refine List.filter_congr fun i hi => ?_
  have hi : i < l.length := List.mem_range.1 hi
  have hin : ∀ j, m.testBit j = true → j < l.length := fun j hj => by
    by_cases h : j < l.length
    · exact h
    · have := Nat.testBit_lt_two_pow (Nat.lt_of_lt_of_le hm (Nat.pow_le_pow_right (by omega) (Nat.le_of_not_lt h)))
      rw [hj] at this
      cases this
  rw [lof_getD, if_pos hi]
  have e1 : (waitsL l).getD i 0 = waitM (l[i]).after.toList := by simp [waitsL, List.getD, List.getElem?_eq_getElem hi]
  rw [e1]
  have e2 : l.toArray[i]? = some l[i] := by simp [List.getElem?_eq_getElem hi]
  rw [e2, Option.map_some, Option.getD_some]
  congr 1
  rw [Bool.eq_iff_iff, Array.all_eq_true_iff_forall_mem, beq_iff_eq]
  constructor
  · intro h
    refine sub_of fun j hj => ?_
    rw [waitM_bit, List.any_eq_true] at hj
    obtain ⟨e, he, hb⟩ := hj
    simp only [Bool.and_eq_true, beq_iff_eq] at hb
    have := h e (by simpa using he)
    rw [hb.1, Bool.not_true, Bool.false_or, lof_getD] at this
    split at this
    · rw [← hb.2]
      exact this
    · cases this
  · intro h e he
    by_cases hb : Region.binds .any e = true
    · have hw : (waitM (l[i]).after.toList).testBit e.on = true := by
        rw [waitM_bit, List.any_eq_true]
        exact ⟨e, by simpa using he, by simp [hb]⟩
      have hm' := sub_bit h hw
      rw [lof_getD, if_pos (hin _ hm'), hm']
      simp
    · simp [hb]
def bitsOf (f : Nat → Bool) : Nat → Nat
  | 0 => 0
  | n + 1 => if f n = true then 2 ^ n ||| bitsOf f n else bitsOf f n
theorem bitsOf_bit (f : Nat → Bool) : ∀ (n j : Nat), j < n → f j = true → (bitsOf f n).testBit j = true
  | 0, j, h, _ => by omega
  | n + 1, j, h, hf => by
    unfold bitsOf
    by_cases e : j = n
    · subst e
      rw [if_pos hf, Nat.testBit_or, Nat.testBit_two_pow]
      simp
    · have := bitsOf_bit f n j (by omega) hf
      split
      · rw [Nat.testBit_or, this, Bool.or_true]
      · exact this
/-- what stands in the way of taking an operation first -/
def wayM (l : List Oper) (i : Nat) (oi : Oper) : Nat := bitsOf (fun j => match l[j]? with | some oj => !(j == i) && !(oj.after.any (fun e => Region.binds .any e && e.on == i) || oi.apart l.toArray oj) | none => false) l.length
def waysL (l : List Oper) : List Nat := (List.range l.length).map fun i => match l[i]? with | some oi => wayM l i oi | none => 0
theorem free_is {l : List Oper} {i : Nat} {oi : Oper} {m : Nat} (hi : l[i]? = some oi) (h : wayM l i oi &&& m = wayM l i oi) : Region.free .any l.toArray (lof l.length m) i = true := by
  unfold Region.free
  rw [show l.toArray[i]? = some oi by simpa using hi]
  simp only [List.all_eq_true, List.mem_range]
  intro j hj
  have hj : j < l.length := by simpa using hj
  rw [lof_getD, if_pos hj]
  have e : l.toArray[j]? = some l[j] := by simp [List.getElem?_eq_getElem hj]
  rw [e]
  by_cases hw : (wayM l i oi).testBit j = true
  · rw [sub_bit h hw]
    simp
  · by_cases hji : j = i
    · simp [hji]
    · by_cases hf : (l[j].after.any (fun e => Region.binds .any e && e.on == i) || oi.apart l.toArray l[j]) = true
      · simp only [hf, Bool.or_true]
      · exfalso
        refine hw (bitsOf_bit _ _ _ hj ?_)
        simp only [List.getElem?_eq_getElem hj]
        simp only [Bool.not_eq_true] at hf
        rw [hf]
        simp [hji]
/-- the walk: D, F: what each waits for, what is in its way; m: the listed ones -/
def wpM (P : Program) (l : List Oper) (D F : List Nat) (Q : Exit → Act → World → Prop) (S : World → Prop) (fuel m : Nat) (a : Act) (w : World) : Prop :=
  waitsL l = D → waysL l = F → Region.noSelect l.toArray = true → wpAnyH P .any l.toArray Q S fuel (lof l.length m) a w
section
variable {P : Program} {l : List Oper} {D F : List Nat} {Q : Exit → Act → World → Prop} {S : World → Prop} {fuel m : Nat} {a : Act} {w : World}
theorem wpM.start {id : Nat} (hm : P.follows .mixedOrders = true) (hS : S w.drew) (hD : waitsL l = D) (hF : waysL l = F) (hs : Region.noSelect l.toArray = true)
    (h : S w.drew → wpM P l D F Q S l.toArray.size 0 a w.drew) : (Code.region id l.toArray true).wp P Q a w :=
  wp_region_held_drew hm hS fun hS' => by
    rw [show l.toArray.size = l.length by simp, lof_zero]
    have := h hS' hD hF hs
    rwa [show l.toArray.size = l.length by simp] at this
theorem getD_ways {i : Nat} {oi : Oper} (hi : l[i]? = some oi) : (waysL l).getD i 0 = wayM l i oi := by
  have hlt : i < l.length := (List.getElem?_eq_some_iff.1 hi).1
  simp [waysL, List.getD, List.getElem?_range hlt, hi]
theorem lt_bits {m n : Nat} (h : m.log2 < n) (_h0 : 0 < n) : m < 2 ^ n := by
  by_cases e : m = 0
  · subst e
    exact Nat.two_pow_pos n
  · exact (Nat.log2_lt e).1 h
theorem take_m {i m' : Nat} {oi : Oper} {v : Value} (hi : l[i]? = some oi) (hm : m.log2 < D.length) (h0 : 0 < D.length) (hf : (F.getD i 0 &&& m == F.getD i 0) = true) (hr : (readyD D m).contains i = true) (hm' : m ||| 2 ^ i = m')
    (hQ : ∀ c a w, Q (.panic c) (a.put oi.dst v) w → Q (.panic c) a w) (hy : YieldsIf P l.toArray S oi v a) (hS : S w)
    (h : wpM P l D F Q S fuel m' (a.put oi.dst v) w) : wpM P l D F Q S (fuel + 1) m a w := fun hD hF hs => by
  have hl : D.length = l.length := by rw [← hD]; simp [waitsL]
  subst hm'
  refine hand_takeM hi hs (free_is hi ?_) ?_ hQ hy hS ?_
  · rw [← getD_ways hi, hF]
    simpa using hf
  · rw [ready_is l m (lt_bits (by omega) (by omega)), hD]
    exact hr
  · rw [lof_set]
    exact h hD hF hs
/-- some that may come next, one by one -/
theorem ready_m {rs : List Nat} (hm : m.log2 < D.length) (h0 : 0 < D.length) (hr : readyD D m = rs) (hne : rs ≠ [])
    (h : waitsL l = D → waysL l = F → Region.noSelect l.toArray = true → AllReadyH P .any l.toArray Q S fuel (lof l.length m) a w rs) : wpM P l D F Q S (fuel + 1) m a w := fun hD hF hs => by
  have hl : D.length = l.length := by rw [← hD]; simp [waitsL]
  exact wpAnyH_ready (by rw [ready_is l m (lt_bits (by omega) (by omega)), hD]; exact hr) hne (h hD hF hs)
theorem cons_m {i m' : Nat} {o : Oper} {rs : List Nat} (ho : l[i]? = some o) (hm' : m ||| 2 ^ i = m')
    (h : ∀ K' : Act → World → Prop, Shut (∀ a w, S w → (S w → wpM P l D F Q S fuel m' a w) → K' a w) → if Region.wanted o (yielded l.toArray a.tmps) = true then Oper.wp P o a w K' Q else K' (a.put o.dst undef) w)
    (hD : waitsL l = D) (hF : waysL l = F) (hs : Region.noSelect l.toArray = true)
    (hr : AllReadyH P .any l.toArray Q S fuel (lof l.length m) a w rs) : AllReadyH P .any l.toArray Q S fuel (lof l.length m) a w (i :: rs) :=
  hand_consM ho (fun K' hK => h K' fun a w hS hw => hK.out a w hS fun hS' => by
    subst hm'
    rw [lof_set]
    exact hw hS' hD hF hs) hr
theorem done_m (hm : m.log2 < D.length) (h0 : 0 < D.length) (hr : readyD D m = []) (h : Q .normal a w) : wpM P l D F Q S fuel m a w := fun hD hF hs => by
  have hl : D.length = l.length := by rw [← hD]; simp [waitsL]
  exact wpAnyH_done (by rw [ready_is l m (lt_bits (by omega) (by omega)), hD]; exact hr) h _
/-- one operation may come next -/
theorem md1 {o : Oper} (i m' : Nat) (h : ∀ K' : Act → World → Prop, Shut (∀ a w, S w → (S w → wpM P l D F Q S fuel m' a w) → K' a w) → if Region.wanted o (yielded l.toArray a.tmps) = true then Oper.wp P o a w K' Q else K' (a.put o.dst undef) w)
    (hr : readyD D m = [i] := by kernel_rfl) (hm : m.log2 < D.length := by exact of_decide_eq_true (by kernel_rfl)) (h0 : 0 < D.length := by exact of_decide_eq_true (by kernel_rfl)) (hm' : m ||| 2 ^ i = m' := by kernel_rfl) (ho : l[i]? = some o := by rfl) : wpM P l D F Q S (fuel + 1) m a w :=
  ready_m hm h0 hr (by simp) fun hD hF hs => cons_m ho hm' h hD hF hs AllReadyH.nil
theorem md2 {o o' : Oper} (i m' j n' : Nat) (h : ∀ K' : Act → World → Prop, Shut (∀ a w, S w → (S w → wpM P l D F Q S fuel m' a w) → K' a w) → if Region.wanted o (yielded l.toArray a.tmps) = true then Oper.wp P o a w K' Q else K' (a.put o.dst undef) w)
    (h' : ∀ K' : Act → World → Prop, Shut (∀ a w, S w → (S w → wpM P l D F Q S fuel n' a w) → K' a w) → if Region.wanted o' (yielded l.toArray a.tmps) = true then Oper.wp P o' a w K' Q else K' (a.put o'.dst undef) w)
    (hr : readyD D m = [i, j] := by kernel_rfl) (hm : m.log2 < D.length := by exact of_decide_eq_true (by kernel_rfl)) (h0 : 0 < D.length := by exact of_decide_eq_true (by kernel_rfl)) (hm' : m ||| 2 ^ i = m' := by kernel_rfl) (hn' : m ||| 2 ^ j = n' := by kernel_rfl) (ho : l[i]? = some o := by rfl) (ho' : l[j]? = some o' := by rfl) : wpM P l D F Q S (fuel + 1) m a w :=
  ready_m hm h0 hr (by simp) fun hD hF hs => cons_m ho hm' h hD hF hs (cons_m ho' hn' h' hD hF hs AllReadyH.nil)
theorem md3 {o o' o'' : Oper} (i m' j n' k p' : Nat) (h : ∀ K' : Act → World → Prop, Shut (∀ a w, S w → (S w → wpM P l D F Q S fuel m' a w) → K' a w) → if Region.wanted o (yielded l.toArray a.tmps) = true then Oper.wp P o a w K' Q else K' (a.put o.dst undef) w)
    (h' : ∀ K' : Act → World → Prop, Shut (∀ a w, S w → (S w → wpM P l D F Q S fuel n' a w) → K' a w) → if Region.wanted o' (yielded l.toArray a.tmps) = true then Oper.wp P o' a w K' Q else K' (a.put o'.dst undef) w)
    (h'' : ∀ K' : Act → World → Prop, Shut (∀ a w, S w → (S w → wpM P l D F Q S fuel p' a w) → K' a w) → if Region.wanted o'' (yielded l.toArray a.tmps) = true then Oper.wp P o'' a w K' Q else K' (a.put o''.dst undef) w)
    (hr : readyD D m = [i, j, k] := by kernel_rfl) (hm : m.log2 < D.length := by exact of_decide_eq_true (by kernel_rfl)) (h0 : 0 < D.length := by exact of_decide_eq_true (by kernel_rfl)) (hm' : m ||| 2 ^ i = m' := by kernel_rfl) (hn' : m ||| 2 ^ j = n' := by kernel_rfl) (hp' : m ||| 2 ^ k = p' := by kernel_rfl) (ho : l[i]? = some o := by rfl) (ho' : l[j]? = some o' := by rfl) (ho'' : l[k]? = some o'' := by rfl) : wpM P l D F Q S (fuel + 1) m a w :=
  ready_m hm h0 hr (by simp) fun hD hF hs => cons_m ho hm' h hD hF hs (cons_m ho' hn' h' hD hF hs (cons_m ho'' hp' h'' hD hF hs AllReadyH.nil))
/-- an operation that is taken first and asks nothing of the world -/
theorem mtk {oi : Oper} {v : Value} {a' : Act} (i m' : Nat) (h : wpM P l D F Q S fuel m' a' w)
    (hi : l[i]? = some oi := by rfl) (hm : m.log2 < D.length := by exact of_decide_eq_true (by kernel_rfl)) (h0 : 0 < D.length := by exact of_decide_eq_true (by kernel_rfl)) (hf : (F.getD i 0 &&& m == F.getD i 0) = true := by kernel_rfl) (hr : (readyD D m).contains i = true := by kernel_rfl) (hm' : m ||| 2 ^ i = m' := by kernel_rfl)
    (hw : Region.wanted oi (yielded l.toArray a.tmps) = true := by rfl) (hy : ∀ wS, S wS → (execOp a.eval oi).run P wS = .ok (.value v) wS := by intro wS hSw; clear hSw; go_simp; try with_reducible rfl)
    (hQ : ∀ c a w, Q (.panic c) (a.put oi.dst v) w → Q (.panic c) a w := by intro _ _ _ h; exact h) (hS : S w := by assumption) (he : a.put oi.dst v = a' := by (conv => lhs; simp only [pnz]); try rfl) : wpM P l D F Q S (fuel + 1) m a w :=
  take_m hi hm h0 hf hr hm' hQ (Or.inl ⟨hw, hy⟩) hS (he ▸ h)
/-- .. and asks facts of the world that S gives -/
theorem mtf {oi : Oper} {v : Value} {a' : Act} {G : World → Prop} (i m' : Nat) (G' : ∀ wS, S wS → G wS) (h : wpM P l D F Q S fuel m' a' w)
    (hi : l[i]? = some oi := by rfl) (hm : m.log2 < D.length := by exact of_decide_eq_true (by kernel_rfl)) (h0 : 0 < D.length := by exact of_decide_eq_true (by kernel_rfl)) (hf : (F.getD i 0 &&& m == F.getD i 0) = true := by kernel_rfl) (hr : (readyD D m).contains i = true := by kernel_rfl) (hm' : m ||| 2 ^ i = m' := by kernel_rfl)
    (hw : Region.wanted oi (yielded l.toArray a.tmps) = true := by rfl) (hy : ∀ wS, G wS → (execOp a.eval oi).run P wS = .ok (.value v) wS := by intro wS hG; go_simp; try with_reducible rfl)
    (hQ : ∀ c a w, Q (.panic c) (a.put oi.dst v) w → Q (.panic c) a w := by intro _ _ _ h; exact h) (hS : S w := by assumption) (he : a.put oi.dst v = a' := by (conv => lhs; simp only [pnz]); try rfl) : wpM P l D F Q S (fuel + 1) m a w :=
  take_m hi hm h0 hf hr hm' hQ (Or.inl ⟨hw, fun wS h => hy wS (G' wS h)⟩) hS (he ▸ h)
/-- how it yields is left to be shown -/
theorem mtl {oi : Oper} (i m' : Nat) (v : Value) (hy : ∀ wS, S wS → (execOp a.eval oi).run P wS = .ok (.value v) wS) (h : wpM P l D F Q S fuel m' (a.put oi.dst v) w)
    (hi : l[i]? = some oi := by rfl) (hm : m.log2 < D.length := by exact of_decide_eq_true (by kernel_rfl)) (h0 : 0 < D.length := by exact of_decide_eq_true (by kernel_rfl)) (hf : (F.getD i 0 &&& m == F.getD i 0) = true := by kernel_rfl) (hr : (readyD D m).contains i = true := by kernel_rfl) (hm' : m ||| 2 ^ i = m' := by kernel_rfl)
    (hQ : ∀ c a w, Q (.panic c) (a.put oi.dst v) w → Q (.panic c) a w := by intro _ _ _ h; exact h) (hS : S w := by assumption) (hw : Region.wanted oi (yielded l.toArray a.tmps) = true := by rfl) : wpM P l D F Q S (fuel + 1) m a w :=
  take_m hi hm h0 hf hr hm' hQ (Or.inl ⟨hw, hy⟩) hS h
end
end Go.Proofs.YtmdokldbggingaaDoor
