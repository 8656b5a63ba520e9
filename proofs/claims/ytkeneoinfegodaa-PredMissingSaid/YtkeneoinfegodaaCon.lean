/-
  The program's isConcise, by a contract.
-/
import Derived.Test.YtkeneoinfegodaaSiz
namespace Go.Proofs.Ytkeneoinfegodaa
open Go.RowKit

/-- nothing in the fields that are not the operator's -/
def concG (op id lo hi : Int) (n : Nat) (tx : ByteArray) (m : Nat) : Bool :=
  if op = 0 then (id == 0) && ((lo == 0) && ((hi == 0) && (((n : Int) == 0) && ((tx.toList == []) && ((m : Int) == 0)))))
  else if op = 1 then ((n : Int) == 0) && ((tx.toList == []) && ((m : Int) == 0))
  else if op = 2 then (lo == 0) && ((hi == 0) && ((tx.toList == []) && ((m : Int) == 0)))
  else if op = 3 then (lo == 0) && ((hi == 0) && (((n : Int) == 0) && ((m : Int) == 0)))
  else if op = 4 then (lo == 0) && ((hi == 0) && (((n : Int) == 0) && ((tx.toList == []) && ((m : Int) == 0))))
  else if op = 5 ∨ op = 6 ∨ op = 7 then (id == 0) && ((lo == 0) && ((hi == 0) && (((n : Int) == 0) && (tx.toList == []))))
  else false
set_option maxHeartbeats 8000000 in
set_option maxRecDepth 20000 in
theorem conc_any (op id lo hi : Int) (S : Option Addr) (n sc : Nat) (tx : ByteArray) (K : Option Addr) (m kc : Nat) (w : World) :
    Calls Try.prog 46 #[.agg #[.int .i64 op, .int .i64 id, .int .i64 lo, .int .i64 hi, .slice S n sc, .string tx, .slice K m kc]] w fun e w' => e = .returned (.bool (concG op id lo hi n tx m)) ∧ Below w.heap.size w w' := by
  obtain ⟨z, hz⟩ : ∃ z, concG op id lo hi n tx m = z := ⟨_, rfl⟩
  rw [hz]
  unfold concG at hz
  by_cases h0 : op = 0
  · subst h0
    rw [if_pos rfl] at hz
    cases eid : (id == 0) with
    | false =>
      simp only [eid, Bool.false_and, Bool.true_and] at hz
      subst hz
      go_enter Try.func46, Try.ntmps46
      go_wp2
      go_ret
      exact ⟨rfl, al1 _ _⟩
    | true =>
      simp only [eid, Bool.false_and, Bool.true_and] at hz
      cases elo : (lo == 0) with
      | false =>
        simp only [elo, Bool.false_and, Bool.true_and] at hz
        subst hz
        go_enter Try.func46, Try.ntmps46
        go_wp2
        go_ret
        exact ⟨rfl, al1 _ _⟩
      | true =>
        simp only [elo, Bool.false_and, Bool.true_and] at hz
        cases ehi : (hi == 0) with
        | false =>
          simp only [ehi, Bool.false_and, Bool.true_and] at hz
          subst hz
          go_enter Try.func46, Try.ntmps46
          go_wp2
          go_ret
          exact ⟨rfl, al1 _ _⟩
        | true =>
          simp only [ehi, Bool.false_and, Bool.true_and] at hz
          cases en : ((n : Int) == 0) with
          | false =>
            simp only [en, Bool.false_and, Bool.true_and] at hz
            subst hz
            go_enter Try.func46, Try.ntmps46
            go_wp2
            go_ret
            exact ⟨rfl, al1 _ _⟩
          | true =>
            simp only [en, Bool.false_and, Bool.true_and] at hz
            cases etx : (tx.toList == []) with
            | false =>
              simp only [etx, Bool.false_and, Bool.true_and] at hz
              subst hz
              go_enter Try.func46, Try.ntmps46
              go_wp2
              go_ret
              exact ⟨rfl, al1 _ _⟩
            | true =>
              simp only [etx, Bool.false_and, Bool.true_and] at hz
              cases em : ((m : Int) == 0) with
              | false =>
                simp only [em, Bool.false_and, Bool.true_and] at hz
                subst hz
                go_enter Try.func46, Try.ntmps46
                go_wp2
                go_ret
                exact ⟨rfl, al1 _ _⟩
              | true =>
                simp only [em, Bool.false_and, Bool.true_and] at hz
                subst hz
                go_enter Try.func46, Try.ntmps46
                go_wp2
                go_ret
                exact ⟨rfl, al1 _ _⟩
  rw [if_neg h0] at hz
  have e0x : (op == 0) = false := by simpa using h0
  clear h0
  by_cases h1 : op = 1
  · subst h1
    rw [if_pos rfl] at hz
    clear e0x
    cases en : ((n : Int) == 0) with
    | false =>
      simp only [en, Bool.false_and, Bool.true_and] at hz
      subst hz
      go_enter Try.func46, Try.ntmps46
      go_wp2
      go_ret
      exact ⟨rfl, al1 _ _⟩
    | true =>
      simp only [en, Bool.false_and, Bool.true_and] at hz
      cases etx : (tx.toList == []) with
      | false =>
        simp only [etx, Bool.false_and, Bool.true_and] at hz
        subst hz
        go_enter Try.func46, Try.ntmps46
        go_wp2
        go_ret
        exact ⟨rfl, al1 _ _⟩
      | true =>
        simp only [etx, Bool.false_and, Bool.true_and] at hz
        cases em : ((m : Int) == 0) with
        | false =>
          simp only [em, Bool.false_and, Bool.true_and] at hz
          subst hz
          go_enter Try.func46, Try.ntmps46
          go_wp2
          go_ret
          exact ⟨rfl, al1 _ _⟩
        | true =>
          simp only [em, Bool.false_and, Bool.true_and] at hz
          subst hz
          go_enter Try.func46, Try.ntmps46
          go_wp2
          go_ret
          exact ⟨rfl, al1 _ _⟩
  rw [if_neg h1] at hz
  have e1x : (op == 1) = false := by simpa using h1
  clear h1
  by_cases h2 : op = 2
  · subst h2
    rw [if_pos rfl] at hz
    clear e0x e1x
    cases elo : (lo == 0) with
    | false =>
      simp only [elo, Bool.false_and, Bool.true_and] at hz
      subst hz
      go_enter Try.func46, Try.ntmps46
      go_wp2
      go_ret
      exact ⟨rfl, al1 _ _⟩
    | true =>
      simp only [elo, Bool.false_and, Bool.true_and] at hz
      cases ehi : (hi == 0) with
      | false =>
        simp only [ehi, Bool.false_and, Bool.true_and] at hz
        subst hz
        go_enter Try.func46, Try.ntmps46
        go_wp2
        go_ret
        exact ⟨rfl, al1 _ _⟩
      | true =>
        simp only [ehi, Bool.false_and, Bool.true_and] at hz
        cases etx : (tx.toList == []) with
        | false =>
          simp only [etx, Bool.false_and, Bool.true_and] at hz
          subst hz
          go_enter Try.func46, Try.ntmps46
          go_wp2
          go_ret
          exact ⟨rfl, al1 _ _⟩
        | true =>
          simp only [etx, Bool.false_and, Bool.true_and] at hz
          cases em : ((m : Int) == 0) with
          | false =>
            simp only [em, Bool.false_and, Bool.true_and] at hz
            subst hz
            go_enter Try.func46, Try.ntmps46
            go_wp2
            go_ret
            exact ⟨rfl, al1 _ _⟩
          | true =>
            simp only [em, Bool.false_and, Bool.true_and] at hz
            subst hz
            go_enter Try.func46, Try.ntmps46
            go_wp2
            go_ret
            exact ⟨rfl, al1 _ _⟩
  rw [if_neg h2] at hz
  have e2x : (op == 2) = false := by simpa using h2
  clear h2
  by_cases h3 : op = 3
  · subst h3
    rw [if_pos rfl] at hz
    clear e0x e1x e2x
    cases elo : (lo == 0) with
    | false =>
      simp only [elo, Bool.false_and, Bool.true_and] at hz
      subst hz
      go_enter Try.func46, Try.ntmps46
      go_wp2
      go_ret
      exact ⟨rfl, al1 _ _⟩
    | true =>
      simp only [elo, Bool.false_and, Bool.true_and] at hz
      cases ehi : (hi == 0) with
      | false =>
        simp only [ehi, Bool.false_and, Bool.true_and] at hz
        subst hz
        go_enter Try.func46, Try.ntmps46
        go_wp2
        go_ret
        exact ⟨rfl, al1 _ _⟩
      | true =>
        simp only [ehi, Bool.false_and, Bool.true_and] at hz
        cases en : ((n : Int) == 0) with
        | false =>
          simp only [en, Bool.false_and, Bool.true_and] at hz
          subst hz
          go_enter Try.func46, Try.ntmps46
          go_wp2
          go_ret
          exact ⟨rfl, al1 _ _⟩
        | true =>
          simp only [en, Bool.false_and, Bool.true_and] at hz
          cases em : ((m : Int) == 0) with
          | false =>
            simp only [em, Bool.false_and, Bool.true_and] at hz
            subst hz
            go_enter Try.func46, Try.ntmps46
            go_wp2
            go_ret
            exact ⟨rfl, al1 _ _⟩
          | true =>
            simp only [em, Bool.false_and, Bool.true_and] at hz
            subst hz
            go_enter Try.func46, Try.ntmps46
            go_wp2
            go_ret
            exact ⟨rfl, al1 _ _⟩
  rw [if_neg h3] at hz
  have e3x : (op == 3) = false := by simpa using h3
  clear h3
  by_cases h4 : op = 4
  · subst h4
    rw [if_pos rfl] at hz
    clear e0x e1x e2x e3x
    cases elo : (lo == 0) with
    | false =>
      simp only [elo, Bool.false_and, Bool.true_and] at hz
      subst hz
      go_enter Try.func46, Try.ntmps46
      go_wp2
      go_ret
      exact ⟨rfl, al1 _ _⟩
    | true =>
      simp only [elo, Bool.false_and, Bool.true_and] at hz
      cases ehi : (hi == 0) with
      | false =>
        simp only [ehi, Bool.false_and, Bool.true_and] at hz
        subst hz
        go_enter Try.func46, Try.ntmps46
        go_wp2
        go_ret
        exact ⟨rfl, al1 _ _⟩
      | true =>
        simp only [ehi, Bool.false_and, Bool.true_and] at hz
        cases en : ((n : Int) == 0) with
        | false =>
          simp only [en, Bool.false_and, Bool.true_and] at hz
          subst hz
          go_enter Try.func46, Try.ntmps46
          go_wp2
          go_ret
          exact ⟨rfl, al1 _ _⟩
        | true =>
          simp only [en, Bool.false_and, Bool.true_and] at hz
          cases etx : (tx.toList == []) with
          | false =>
            simp only [etx, Bool.false_and, Bool.true_and] at hz
            subst hz
            go_enter Try.func46, Try.ntmps46
            go_wp2
            go_ret
            exact ⟨rfl, al1 _ _⟩
          | true =>
            simp only [etx, Bool.false_and, Bool.true_and] at hz
            cases em : ((m : Int) == 0) with
            | false =>
              simp only [em, Bool.false_and, Bool.true_and] at hz
              subst hz
              go_enter Try.func46, Try.ntmps46
              go_wp2
              go_ret
              exact ⟨rfl, al1 _ _⟩
            | true =>
              simp only [em, Bool.false_and, Bool.true_and] at hz
              subst hz
              go_enter Try.func46, Try.ntmps46
              go_wp2
              go_ret
              exact ⟨rfl, al1 _ _⟩
  rw [if_neg h4] at hz
  have e4x : (op == 4) = false := by simpa using h4
  clear h4
  by_cases h5 : op = 5
  · subst h5
    rw [if_pos (by decide)] at hz
    clear e0x e1x e2x e3x e4x
    cases eid : (id == 0) with
    | false =>
      simp only [eid, Bool.false_and, Bool.true_and] at hz
      subst hz
      go_enter Try.func46, Try.ntmps46
      go_wp2
      go_ret
      exact ⟨rfl, al1 _ _⟩
    | true =>
      simp only [eid, Bool.false_and, Bool.true_and] at hz
      cases elo : (lo == 0) with
      | false =>
        simp only [elo, Bool.false_and, Bool.true_and] at hz
        subst hz
        go_enter Try.func46, Try.ntmps46
        go_wp2
        go_ret
        exact ⟨rfl, al1 _ _⟩
      | true =>
        simp only [elo, Bool.false_and, Bool.true_and] at hz
        cases ehi : (hi == 0) with
        | false =>
          simp only [ehi, Bool.false_and, Bool.true_and] at hz
          subst hz
          go_enter Try.func46, Try.ntmps46
          go_wp2
          go_ret
          exact ⟨rfl, al1 _ _⟩
        | true =>
          simp only [ehi, Bool.false_and, Bool.true_and] at hz
          cases en : ((n : Int) == 0) with
          | false =>
            simp only [en, Bool.false_and, Bool.true_and] at hz
            subst hz
            go_enter Try.func46, Try.ntmps46
            go_wp2
            go_ret
            exact ⟨rfl, al1 _ _⟩
          | true =>
            simp only [en, Bool.false_and, Bool.true_and] at hz
            cases etx : (tx.toList == []) with
            | false =>
              simp only [etx, Bool.false_and, Bool.true_and] at hz
              subst hz
              go_enter Try.func46, Try.ntmps46
              go_wp2
              go_ret
              exact ⟨rfl, al1 _ _⟩
            | true =>
              simp only [etx, Bool.false_and, Bool.true_and] at hz
              subst hz
              go_enter Try.func46, Try.ntmps46
              go_wp2
              go_ret
              exact ⟨rfl, al1 _ _⟩
  have e5x : (op == 5) = false := by simpa using h5
  by_cases h6 : op = 6
  · subst h6
    rw [if_pos (by decide)] at hz
    clear e0x e1x e2x e3x e4x e5x
    cases eid : (id == 0) with
    | false =>
      simp only [eid, Bool.false_and, Bool.true_and] at hz
      subst hz
      go_enter Try.func46, Try.ntmps46
      go_wp2
      go_ret
      exact ⟨rfl, al1 _ _⟩
    | true =>
      simp only [eid, Bool.false_and, Bool.true_and] at hz
      cases elo : (lo == 0) with
      | false =>
        simp only [elo, Bool.false_and, Bool.true_and] at hz
        subst hz
        go_enter Try.func46, Try.ntmps46
        go_wp2
        go_ret
        exact ⟨rfl, al1 _ _⟩
      | true =>
        simp only [elo, Bool.false_and, Bool.true_and] at hz
        cases ehi : (hi == 0) with
        | false =>
          simp only [ehi, Bool.false_and, Bool.true_and] at hz
          subst hz
          go_enter Try.func46, Try.ntmps46
          go_wp2
          go_ret
          exact ⟨rfl, al1 _ _⟩
        | true =>
          simp only [ehi, Bool.false_and, Bool.true_and] at hz
          cases en : ((n : Int) == 0) with
          | false =>
            simp only [en, Bool.false_and, Bool.true_and] at hz
            subst hz
            go_enter Try.func46, Try.ntmps46
            go_wp2
            go_ret
            exact ⟨rfl, al1 _ _⟩
          | true =>
            simp only [en, Bool.false_and, Bool.true_and] at hz
            cases etx : (tx.toList == []) with
            | false =>
              simp only [etx, Bool.false_and, Bool.true_and] at hz
              subst hz
              go_enter Try.func46, Try.ntmps46
              go_wp2
              go_ret
              exact ⟨rfl, al1 _ _⟩
            | true =>
              simp only [etx, Bool.false_and, Bool.true_and] at hz
              subst hz
              go_enter Try.func46, Try.ntmps46
              go_wp2
              go_ret
              exact ⟨rfl, al1 _ _⟩
  have e6x : (op == 6) = false := by simpa using h6
  by_cases h7 : op = 7
  · subst h7
    rw [if_pos (by decide)] at hz
    clear e0x e1x e2x e3x e4x e5x e6x
    cases eid : (id == 0) with
    | false =>
      simp only [eid, Bool.false_and, Bool.true_and] at hz
      subst hz
      go_enter Try.func46, Try.ntmps46
      go_wp2
      go_ret
      exact ⟨rfl, al1 _ _⟩
    | true =>
      simp only [eid, Bool.false_and, Bool.true_and] at hz
      cases elo : (lo == 0) with
      | false =>
        simp only [elo, Bool.false_and, Bool.true_and] at hz
        subst hz
        go_enter Try.func46, Try.ntmps46
        go_wp2
        go_ret
        exact ⟨rfl, al1 _ _⟩
      | true =>
        simp only [elo, Bool.false_and, Bool.true_and] at hz
        cases ehi : (hi == 0) with
        | false =>
          simp only [ehi, Bool.false_and, Bool.true_and] at hz
          subst hz
          go_enter Try.func46, Try.ntmps46
          go_wp2
          go_ret
          exact ⟨rfl, al1 _ _⟩
        | true =>
          simp only [ehi, Bool.false_and, Bool.true_and] at hz
          cases en : ((n : Int) == 0) with
          | false =>
            simp only [en, Bool.false_and, Bool.true_and] at hz
            subst hz
            go_enter Try.func46, Try.ntmps46
            go_wp2
            go_ret
            exact ⟨rfl, al1 _ _⟩
          | true =>
            simp only [en, Bool.false_and, Bool.true_and] at hz
            cases etx : (tx.toList == []) with
            | false =>
              simp only [etx, Bool.false_and, Bool.true_and] at hz
              subst hz
              go_enter Try.func46, Try.ntmps46
              go_wp2
              go_ret
              exact ⟨rfl, al1 _ _⟩
            | true =>
              simp only [etx, Bool.false_and, Bool.true_and] at hz
              subst hz
              go_enter Try.func46, Try.ntmps46
              go_wp2
              go_ret
              exact ⟨rfl, al1 _ _⟩
  have e7x : (op == 7) = false := by simpa using h7
  rw [if_neg (by omega)] at hz
  clear h5 h6 h7
  subst hz
  go_enter Try.func46, Try.ntmps46
  go_wp2
  go_ret
  exact ⟨rfl, al1 _ _⟩
end Go.Proofs.Ytkeneoinfegodaa
