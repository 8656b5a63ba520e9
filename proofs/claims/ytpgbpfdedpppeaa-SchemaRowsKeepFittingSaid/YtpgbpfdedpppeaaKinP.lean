/-
  The program's map of the kinds of changes, by a contract.
-/
import Derived.Test.YtpgbpfdedpppeaaSch
import Derived.Maps.OwnSet
import Derived.Maps.Views
namespace Go.Proofs.Ytpgbpfdedpppeaa
open Go.RowKit Go.Maps

/-- how an element of the map reads: the function's number -/
def kindR : Value → Option (DataW Unit × List MemPlace)
  | .func (.func f) fs cs => if fs.size = 0 ∧ cs.size = 0 then some (.lit (.int .i64 (f : Int)), []) else none
  | .nilFunc => some (.lit (.int .i64 (-1)), [])
  | _ => none
theorem kindR_inv {v : Value} {n : Int} {ps : List MemPlace} (h : kindR v = some (.lit (.int .i64 n), ps)) : (∃ f : Nat, v = .func (.func f) #[] #[] ∧ n = (f : Int)) ∨ (v = .nilFunc ∧ n = -1) := by
  unfold kindR at h
  split at h
  · next f fs cs =>
    split at h
    · next hs =>
      left
      injection h with h
      injection h with h1 h2
      injection h1 with h1
      injection h1 with _ h1
      exact ⟨f, by rw [Array.eq_empty_of_size_eq_zero hs.1, Array.eq_empty_of_size_eq_zero hs.2], h1.symm⟩
    · cases h
  · right
    injection h with h
    injection h with h1 h2
    injection h1 with h1
    injection h1 with _ h1
    exact ⟨rfl, h1.symm⟩
  · cases h
def kl (k : Int) : Lit := .int .i64 k
def fl (f : Nat) : DataW Unit := .lit (.int .i64 (f : Int))
def kinD : DataW Unit := (((((((DataW.map []).put (kl 1) (fl 54)).put (kl 2) (fl 55)).put (kl 3) (fl 56)).put (kl 4) (fl 57)).put (kl 5) (fl 58)).put (kl 6) (fl 59)).put (kl 7) (fl 60)
theorem mapT : Try.prog.underlying 67 = some (.map 3 65) := Try.underlying67
theorem keyI : Keyed Try.prog 3 := int_keyed Try.underlying3
def KM (w : World) (b n : Nat) (D : DataW Unit) : Prop := w.ownsMap Try.prog 3 kindR b n D
theorem wpList_insert {w : World} {ops : Array Oper} {rest : List Oper} {o : Oper} {a : Act} {Q : Exit → Act → World → Prop} (hg : o.guard = none) (m x v : Operand) (hop : o.op = Op.insert 67 m x v)
    (b n : Nat) (D : DataW Unit) (hm : a.eval m = .map (some b)) (hown : KM w b n D) (hn : n ≤ 100) (k : Int) (f : Nat) (hx : a.eval x = .int .i64 k) (hv : a.eval v = .func (.func f) #[] #[]) (hk : (Lit.int .i64 k).wf = true)
    (hK : ∀ w', KM w' b (n + 1) (D.put (kl k) (fl f)) → w.grownBy w' (some b) → wpList Try.prog ops Q rest (a.put o.dst undef) w') : wpList Try.prog ops Q (o :: rest) a w := by
  refine wpList_plain hg fun K' hK' => ?_
  obtain ⟨w', hrun, r1, r2⟩ := World.ownsMap.update hown keyI mapT (by simp only [maxLen]; omega) (keyOf_int_mk Try.underlying3 hk) (show kindR (.func (.func f) #[] #[]) = some (fl f, []) from rfl)
  unfold Oper.wp
  simp [execOp, hop, hm, hx, hv, hrun, Result.andThen]
  exact hK' _ _ (hK w' r1 r2)

/-- the function of a kind; nil of none -/
def kindV (k : Int) : Value := if k = 1 then .func (.func 54) #[] #[] else if k = 2 then .func (.func 55) #[] #[] else if k = 3 then .func (.func 56) #[] #[] else if k = 4 then .func (.func 57) #[] #[] else if k = 5 then .func (.func 58) #[] #[] else if k = 6 then .func (.func 59) #[] #[] else if k = 7 then .func (.func 60) #[] #[] else .nilFunc
theorem has_else {k : Int} (h : ¬ (1 ≤ k ∧ k ≤ 7)) : Maps.has kinD (kl k) = false := by
  have hne : ∀ j : Int, 1 ≤ j → j ≤ 7 → kl k ≠ kl j := fun j h1 h2 e => by
    unfold kl at e
    injection e with _ e
    omega
  unfold kinD
  rw [has_put_other (hne 7 (by decide) (by decide)), has_put_other (hne 6 (by decide) (by decide)), has_put_other (hne 5 (by decide) (by decide)), has_put_other (hne 4 (by decide) (by decide)), has_put_other (hne 3 (by decide) (by decide)), has_put_other (hne 2 (by decide) (by decide)), has_put_other (hne 1 (by decide) (by decide))]
  rfl
theorem zeroFn (w : World) : (zeroValue 65).run Try.prog w = .ok .nilFunc w := by kernel_rfl
theorem kinds_look {w : World} {b : Nat} (h : KM w b 7 kinD) (k : Int) (hk : (Lit.int .i64 k).wf = true) :
    (Instr.lookup 67 (.map (some b)) (.int .i64 k) true).run Try.prog w = .ok (.tuple #[kindV k, .bool (decide (1 ≤ k ∧ k ≤ 7))]) w := by
  obtain ⟨v, ps, hrun, hv⟩ := World.ownsMap.look_ok h keyI mapT (zeroFn w) (show kindR .nilFunc = some (.lit (.int .i64 (-1)), []) from rfl) (keyOf_int_mk Try.underlying3 hk)
  rw [hrun]
  by_cases hr : 1 ≤ k ∧ k ≤ 7
  · rcases (by omega : k = 1 ∨ k = 2 ∨ k = 3 ∨ k = 4 ∨ k = 5 ∨ k = 6 ∨ k = 7) with rfl | rfl | rfl | rfl | rfl | rfl | rfl
    · rw [show DataW.atKey kinD (.int .i64 1) (.lit (.int .i64 (-1))) = fl 54 from rfl] at hv
      rw [show Maps.has kinD (.int .i64 1) = true from rfl]
      rcases kindR_inv hv with ⟨f, rfl, hf⟩ | ⟨_, hf⟩
      · have e : f = 54 := by omega
        rw [e]
        rfl
      · omega
    · rw [show DataW.atKey kinD (.int .i64 2) (.lit (.int .i64 (-1))) = fl 55 from rfl] at hv
      rw [show Maps.has kinD (.int .i64 2) = true from rfl]
      rcases kindR_inv hv with ⟨f, rfl, hf⟩ | ⟨_, hf⟩
      · have e : f = 55 := by omega
        rw [e]
        rfl
      · omega
    · rw [show DataW.atKey kinD (.int .i64 3) (.lit (.int .i64 (-1))) = fl 56 from rfl] at hv
      rw [show Maps.has kinD (.int .i64 3) = true from rfl]
      rcases kindR_inv hv with ⟨f, rfl, hf⟩ | ⟨_, hf⟩
      · have e : f = 56 := by omega
        rw [e]
        rfl
      · omega
    · rw [show DataW.atKey kinD (.int .i64 4) (.lit (.int .i64 (-1))) = fl 57 from rfl] at hv
      rw [show Maps.has kinD (.int .i64 4) = true from rfl]
      rcases kindR_inv hv with ⟨f, rfl, hf⟩ | ⟨_, hf⟩
      · have e : f = 57 := by omega
        rw [e]
        rfl
      · omega
    · rw [show DataW.atKey kinD (.int .i64 5) (.lit (.int .i64 (-1))) = fl 58 from rfl] at hv
      rw [show Maps.has kinD (.int .i64 5) = true from rfl]
      rcases kindR_inv hv with ⟨f, rfl, hf⟩ | ⟨_, hf⟩
      · have e : f = 58 := by omega
        rw [e]
        rfl
      · omega
    · rw [show DataW.atKey kinD (.int .i64 6) (.lit (.int .i64 (-1))) = fl 59 from rfl] at hv
      rw [show Maps.has kinD (.int .i64 6) = true from rfl]
      rcases kindR_inv hv with ⟨f, rfl, hf⟩ | ⟨_, hf⟩
      · have e : f = 59 := by omega
        rw [e]
        rfl
      · omega
    · rw [show DataW.atKey kinD (.int .i64 7) (.lit (.int .i64 (-1))) = fl 60 from rfl] at hv
      rw [show Maps.has kinD (.int .i64 7) = true from rfl]
      rcases kindR_inv hv with ⟨f, rfl, hf⟩ | ⟨_, hf⟩
      · have e : f = 60 := by omega
        rw [e]
        rfl
      · omega
  · have hh := has_else hr
    have hat := atKey_of_not_has hh (.lit (.int .i64 (-1)))
    unfold kl at hat hh
    rw [hat] at hv
    rcases kindR_inv hv with ⟨f, rfl, hf⟩ | ⟨rfl, _⟩
    · omega
    · rw [hh]
      have e : kindV k = .nilFunc := by
        unfold kindV
        rw [if_neg (by omega), if_neg (by omega), if_neg (by omega), if_neg (by omega), if_neg (by omega), if_neg (by omega), if_neg (by omega)]
      rw [e, decide_eq_false hr]

set_option maxHeartbeats 1000000 in
set_option maxRecDepth 20000 in
theorem kinds_any (w : World) : Calls Try.prog 32 #[] w fun e w' => e = .returned (.map (some w.heap.size)) ∧ KM w' w.heap.size 7 kinD ∧ Below w.heap.size w w' := by
  have hmm := @run_makeMap Try.prog
  go_enter Try.func32, Try.ntmps32
  have HM0 := Lib.hid (show KM (w.alloc (.map #[] 0)) w.heap.size 0 (.map []) from World.ownsMap_made w Try.prog 3 kindR)
  have tok1 : True := trivial
  have tok2 : True := trivial
  have tok3 : True := trivial
  have tok4 : True := trivial
  have tok5 : True := trivial
  have tok6 : True := trivial
  have tok7 : True := trivial
  go_wp2_with (first | ((with_reducible show wpList _ _ _ _ _ _); have _t := tok1; refine wpList_insert rfl (.tmp 1) (.const (.int .i64 1)) (.func 54) rfl w.heap.size 0 _ rfl HM0.out (by decide) 1 54 rfl rfl (by decide) ?_; intro w1 hm1 hg1; clear tok1 _t; have HM1 := Lib.hid hm1; have HG1 := Lib.hid ((al1 w _).grown hg1 (by simp) (fun k hk => by injection hk with hk; omega)); clear hm1 hg1) | ((with_reducible show wpList _ _ _ _ _ _); have _t := tok2; refine wpList_insert rfl (.tmp 1) (.const (.int .i64 2)) (.func 55) rfl w.heap.size 1 _ rfl HM1.out (by decide) 2 55 rfl rfl (by decide) ?_; intro w2 hm2 hg2; clear tok2 _t; have HM2 := Lib.hid hm2; have HG2 := Lib.hid (below_grown HG1.out hg2 HG1.out.size (Nat.le_refl _)); clear hm2 hg2) | ((with_reducible show wpList _ _ _ _ _ _); have _t := tok3; refine wpList_insert rfl (.tmp 1) (.const (.int .i64 3)) (.func 56) rfl w.heap.size 2 _ rfl HM2.out (by decide) 3 56 rfl rfl (by decide) ?_; intro w3 hm3 hg3; clear tok3 _t; have HM3 := Lib.hid hm3; have HG3 := Lib.hid (below_grown HG2.out hg3 HG2.out.size (Nat.le_refl _)); clear hm3 hg3) | ((with_reducible show wpList _ _ _ _ _ _); have _t := tok4; refine wpList_insert rfl (.tmp 1) (.const (.int .i64 4)) (.func 57) rfl w.heap.size 3 _ rfl HM3.out (by decide) 4 57 rfl rfl (by decide) ?_; intro w4 hm4 hg4; clear tok4 _t; have HM4 := Lib.hid hm4; have HG4 := Lib.hid (below_grown HG3.out hg4 HG3.out.size (Nat.le_refl _)); clear hm4 hg4) | ((with_reducible show wpList _ _ _ _ _ _); have _t := tok5; refine wpList_insert rfl (.tmp 1) (.const (.int .i64 5)) (.func 58) rfl w.heap.size 4 _ rfl HM4.out (by decide) 5 58 rfl rfl (by decide) ?_; intro w5 hm5 hg5; clear tok5 _t; have HM5 := Lib.hid hm5; have HG5 := Lib.hid (below_grown HG4.out hg5 HG4.out.size (Nat.le_refl _)); clear hm5 hg5) | ((with_reducible show wpList _ _ _ _ _ _); have _t := tok6; refine wpList_insert rfl (.tmp 1) (.const (.int .i64 6)) (.func 59) rfl w.heap.size 5 _ rfl HM5.out (by decide) 6 59 rfl rfl (by decide) ?_; intro w6 hm6 hg6; clear tok6 _t; have HM6 := Lib.hid hm6; have HG6 := Lib.hid (below_grown HG5.out hg6 HG5.out.size (Nat.le_refl _)); clear hm6 hg6) | ((with_reducible show wpList _ _ _ _ _ _); have _t := tok7; refine wpList_insert rfl (.tmp 1) (.const (.int .i64 7)) (.func 60) rfl w.heap.size 6 _ rfl HM6.out (by decide) 7 60 rfl rfl (by decide) ?_; intro w7 hm7 hg7; clear tok7 _t; have HM7 := Lib.hid hm7; have HG7 := Lib.hid (below_grown HG6.out hg7 HG6.out.size (Nat.le_refl _)); clear hm7 hg7))
  go_ret
  exact ⟨rfl, HM7.out, HG7.out⟩
end Go.Proofs.Ytpgbpfdedpppeaa
