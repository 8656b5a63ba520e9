/-
  The program's Refresh, by contracts; Combine where it returns early.
-/
import Derived.Test.YteaaadccjnmacaaSplitP
namespace Go.Proofs.Yteaaadccjnmacaa
open Go.RowKit

theorem wellFormed_is (A : Option Addr) (N cap : Nat) (l : List Sh) (z : Bool) (w : World) (hN : N = l.length) (hs : ShL w w.heap.size A l) (hl : l.length ≤ 1000000) (hn : ∀ s ∈ l, s.2.length ≤ 140737488351232) (hz : wfB l = z) :
    Calls Try.prog 23 #[.slice A N cap] w fun e w' => e = .returned (.bool z) ∧ Below w.heap.size w w' := by
  subst hN hz
  exact wellFormed_any A cap l w hs hl hn

set_option maxHeartbeats 2000000 in
set_option maxRecDepth 20000 in
theorem refresh_bad (v r : Value) (need : Int) (w : World) (hok : ¬ (1 ≤ need ∧ need ≤ 255)) :
    Calls Try.prog 11 #[v, r, .int .i64 need] w fun e w' => e = .returned (.tuple #[.slice none 0 0, .int .i64 1]) ∧ w' = w := by
  by_cases i1 : need < 1
  · clear hok
    go_enter Try.func11, Try.ntmps11
    go_wp2
    go_ret2
    exact ⟨rfl, rfl⟩
  · have i3 : need > 255 := by omega
    clear hok
    go_enter Try.func11, Try.ntmps11
    go_wp2
    go_ret2
    exact ⟨rfl, rfl⟩

set_option maxHeartbeats 2000000 in
set_option maxRecDepth 20000 in
theorem refresh_wf (A : Option Addr) (N cap : Nat) (l : List Sh) (r : Value) (need : Int) (w : World) (hN : N = l.length) (hs : ShL w w.heap.size A l) (hl : l.length ≤ 1000000) (hn : ∀ s ∈ l, s.2.length ≤ 140737488351232) (h1 : 1 ≤ need) (h2 : need ≤ 255) (hw : wfB l = false) :
    Calls Try.prog 11 #[.slice A N cap, r, .int .i64 need] w fun e w' => e = .returned (.tuple #[.slice none 0 0, .int .i64 40]) ∧ Below w.heap.size w w' := by
  have HW := Lib.hid (wellFormed_is A N cap l false w hN hs hl hn hw)
  have i1 : ¬ need < 1 := by omega
  have i3 : ¬ need > 255 := by omega
  clear hN hs hl hn h1 h2 hw
  go_enter Try.func11, Try.ntmps11
  go_wp2_with (first | (go_at_call 23; refine HW.out.mono ?_; rintro e w1 ⟨rfl, hb1⟩; have HB1 := Lib.hid hb1; clear hb1))
  go_ret2
  exact ⟨rfl, HB1.out⟩

set_option maxHeartbeats 2000000 in
set_option maxRecDepth 20000 in
theorem refresh_any (A : Option Addr) (N cap : Nat) (l : List Sh) (R : Option Addr) (q rcap : Nat) (r : List UInt8) (need : Int) (w : World) (hN : N = l.length) (hq : q = r.length) (hs : ShL w w.heap.size A l) (hl : l.length ≤ 1000000) (hn : ∀ s ∈ l, s.2.length ≤ 140737488351232)
    (hr : Shows w w.heap.size R r) (hrl : r.length ≤ 140737488351232) (hrc : r.length ≤ rcap ∧ rcap ≤ 9223372036854775807) (h1 : 1 ≤ need) (h2 : need ≤ 255) (hw : wfB l = true) :
    Calls Try.prog 11 #[.slice A N cap, .slice R q rcap, .int .i64 need] w fun e w' => ∃ g, e = .returned (.tuple #[.slice (some ⟨g, 0, none⟩) N N, .int .i64 0]) ∧ ShL w' w'.heap.size (some ⟨g, 0, none⟩) (masks (need.toNat - 1) r l) ∧ Below w.heap.size w w' := by
  have HW := Lib.hid (wellFormed_is A N cap l true w hN hs hl hn hw)
  have HM : Hid (∀ w1, Below w.heap.size w w1 → Calls Try.prog 20 #[.slice A N cap, .slice R q rcap, .int .i64 need] w1 fun e w' => ∃ g, e = .returned (.slice (some ⟨g, 0, none⟩) N N) ∧ ShL w' w'.heap.size (some ⟨g, 0, none⟩) (masks (need.toNat - 1) r l) ∧ Below w1.heap.size w1 w') := fun w1 hb =>
    masked_is A N cap l R q rcap r need w1 hN hq (hs.up hb) hl hn (hr.up hb) hrl hrc h1 h2
  have i1 : ¬ need < 1 := by omega
  have i3 : ¬ need > 255 := by omega
  clear hN hq hs hl hn hr hrl hrc h1 h2 hw
  go_enter Try.func11, Try.ntmps11
  go_wp2_with (first
    | (go_at_call 23; refine HW.out.mono ?_; rintro e w1 ⟨rfl, hb1⟩; have HB1 := Lib.hid hb1; clear hb1)
    | (go_at_call 20; refine (HM.out w1 HB1.out).mono ?_; rintro e w2 ⟨g, rfl, hs2, hb2⟩; have HS2 := Lib.hid hs2; have HB2 := Lib.hid hb2; clear hs2 hb2))
  go_ret2
  exact ⟨g, rfl, HS2.out, HB1.out.trans (HB2.out.mono HB1.out.size)⟩

set_option maxHeartbeats 2000000 in
set_option maxRecDepth 20000 in
theorem combine_bad (v : Value) (need : Int) (w : World) (hok : ¬ (1 ≤ need ∧ need ≤ 255)) :
    Calls Try.prog 9 #[v, .int .i64 need] w fun e w' => e = .returned (.tuple #[.slice none 0 0, .int .i64 1]) ∧ w' = w := by
  by_cases i1 : need < 1
  · clear hok
    go_enter Try.func9, Try.ntmps9
    go_wp2
    go_ret2
    exact ⟨rfl, rfl⟩
  · have i3 : need > 255 := by omega
    clear hok
    go_enter Try.func9, Try.ntmps9
    go_wp2
    go_ret2
    exact ⟨rfl, rfl⟩

set_option maxHeartbeats 2000000 in
set_option maxRecDepth 20000 in
theorem combine_wf (A : Option Addr) (N cap : Nat) (l : List Sh) (need : Int) (w : World) (hN : N = l.length) (hs : ShL w w.heap.size A l) (hl : l.length ≤ 1000000) (hn : ∀ s ∈ l, s.2.length ≤ 140737488351232) (h1 : 1 ≤ need) (h2 : need ≤ 255) (hw : wfB l = false ∨ (N : Int) < need) :
    Calls Try.prog 9 #[.slice A N cap, .int .i64 need] w fun e w' => e = .returned (.tuple #[.slice none 0 0, .int .i64 40]) ∧ Below w.heap.size w w' := by
  have i1 : ¬ need < 1 := by omega
  have i3 : ¬ need > 255 := by omega
  cases hz : wfB l with
  | false =>
    have HW := Lib.hid (wellFormed_is A N cap l false w hN hs hl hn hz)
    clear hN hs hl hn h1 h2 hw
    go_enter Try.func9, Try.ntmps9
    go_wp2_with (first | (go_at_call 23; refine HW.out.mono ?_; rintro e w1 ⟨rfl, hb1⟩; have HB1 := Lib.hid hb1; clear hb1))
    go_ret2
    exact ⟨rfl, HB1.out⟩
  | true =>
    have HW := Lib.hid (wellFormed_is A N cap l true w hN hs hl hn hz)
    have i4 : (N : Int) < need := by
      rcases hw with h | h
      · rw [hz] at h
        cases h
      · exact h
    clear hN hs hl hn h1 h2 hw
    go_enter Try.func9, Try.ntmps9
    go_wp2_with (first | (go_at_call 23; refine HW.out.mono ?_; rintro e w1 ⟨rfl, hb1⟩; have HB1 := Lib.hid hb1; clear hb1))
    go_ret2
    exact ⟨rfl, HB1.out⟩
end Go.Proofs.Yteaaadccjnmacaa
