/-
  The reference's Equal, by a contract.
-/
import Derived.Test.YtmdokldbggingaaDoorProg
import Derived.Test.YtmdokldbggingaaDoorMem
import Derived.WalkSpells
import Derived.BigGuardPart
import Derived.LoopTactic
import Derived.Deep.QuietTactic
import Derived.BigQuiet
import Derived.Deep.Draws
namespace Go.Proofs.YtmdokldbggingaaDoor
open Go.RowKit Go.Lib

theorem take_snoc_eq {l p : List UInt8} {k : Nat} {c c' : UInt8} (h : l.take k = p.take k) (h1 : l[k]? = some c) (h2 : p[k]? = some c') (e : c = c') : l.take (k + 1) = p.take (k + 1) := by
  rw [List.take_add_one, List.take_add_one, h, h1, h2, e]
theorem below_drewN {B : Nat} {a w : World} (h : Below B a w) (n : Nat) : Below B a (w.drewN n) := ⟨h.os, h.tape, h.output, h.size, h.block⟩
theorem ne_of_at {l p : List UInt8} {k : Nat} {c c' : UInt8} (h1 : l[k]? = some c) (h2 : p[k]? = some c') (e : c ≠ c') : l ≠ p := by
  rintro rfl
  rw [h1] at h2
  exact e (Option.some.inj h2)

set_option maxRecDepth 20000 in
set_option maxHeartbeats 400000 in
theorem Equal_eqlen (A : Option Addr) (cap : Nat) (l : List UInt8) (C : Option Addr) (d : Nat) (p : List UInt8) (w : World) (hs : Shows w w.heap.size A l) (hp : Shows w w.heap.size C p) (n : Nat) (h1 : Hid (l.length = n)) (h2 : Hid (p.length = n)) (hn : n ≤ 9223372036854775807) :
    Calls Tryd.prog 23 #[.slice A n cap, .slice C n d] w fun e w' => e = .returned (.bool (decide (l = p))) ∧ Below w.heap.size w w' := by
  go_enter Tryd.func23, Tryd.ntmps23
  go_wp2_with fail
  go_loopw [5] (fun i wr => ∃ k : Nat, k ≤ n ∧ i = .int .i64 k ∧ Hid (l.take k = p.take k) ∧ Hid (Below w.heap.size w wr)) (fun i _ => n - (intOf i).toNat)
  case atStart => exact ⟨0, by omega, rfl, rfl, Below.refl _ _⟩
  case round =>
    obtain ⟨k, hk, rfl, he, hb⟩ := hrel
    by_cases hlt : k < n
    · obtain ⟨c, hc⟩ : ∃ c, l[k]? = some c := ⟨_, List.getElem?_eq_getElem (by rw [h1.out]; exact hlt)⟩
      obtain ⟨c', hc'⟩ : ∃ c, p[k]? = some c := ⟨_, List.getElem?_eq_getElem (by rw [h2.out]; exact hlt)⟩
      obtain ⟨b, off, rfl, _, hcell⟩ := (hs.below hb.out) (by rw [h1.out]; omega)
      obtain ⟨b', off', rfl, _, hcell'⟩ := (hp.below hb.out) (by rw [h2.out]; omega)
      have g := hcell _ _ hc
      have g' := hcell' _ _ hc'
      clear hcell hcell' hs hp
      obtain ⟨x, hx⟩ : ∃ x, x = c.toNat := ⟨_, rfl⟩
      obtain ⟨x', hx'⟩ : ∃ x, x = c'.toNat := ⟨_, rfl⟩
      rw [← hx] at g
      rw [← hx'] at g'
      have HC := Lib.hid hc
      have HC' := Lib.hid hc'
      have HX := Lib.hid hx
      have HX' := Lib.hid hx'
      clear hc hc' hx hx'
      by_cases hxx : x = x'
      · have E : Hid (l.take (k + 1) = p.take (k + 1)) := take_snoc_eq he.out HC.out HC'.out (by apply UInt8.toNat_inj.1; rw [← HX.out, ← HX'.out, hxx])
        subst hxx
        go_wp2_with fail
        go_quiet (fail)
        go_wp2_with fail
        go_roundw
        case rel => exact ⟨k + 1, by omega, by go_num, E, below_drewN hb.out _⟩
        case measure => simp [intOf]; omega
      · have E : Hid (l ≠ p) := ne_of_at HC.out HC'.out (by rintro rfl; exact hxx (by rw [HX.out, HX'.out]))
        have hne : ((x : Int) != (x' : Int)) = true := by simp; omega
        go_wp2_with fail
        go_quiet (fail)
        go_wp2_with fail
        go_ret
        exact ⟨by simp [E.out], below_drewN hb.out _⟩
    · obtain rfl : k = n := by omega
      go_wp2_with fail
      go_ret
      refine ⟨?_, hb.out⟩
      have e : l = p := by
        have := he.out
        rwa [List.take_of_length_le (by rw [h1.out]; exact Nat.le_refl _), List.take_of_length_le (by rw [h2.out]; exact Nat.le_refl _)] at this
      simp [e]

/-- Same: are the two lists of bytes one? (The lengths as the caller spells them.) -/
theorem Equal_any (A : Option Addr) (n cap : Nat) (l : List UInt8) (C : Option Addr) (m d : Nat) (p : List UInt8) (w : World) (hs : Shows w w.heap.size A l) (hp : Shows w w.heap.size C p) (h1 : n = l.length) (h2 : m = p.length) (hn : n ≤ 9223372036854775807) (hm : m ≤ 9223372036854775807) :
    Calls Tryd.prog 23 #[.slice A n cap, .slice C m d] w fun e w' => e = .returned (.bool (decide (l = p))) ∧ Below w.heap.size w w' := by
  by_cases hlen : n = m
  · subst hlen
    exact Equal_eqlen A cap l C d p w hs hp n h1.symm h2.symm hn
  · have E : Hid (l ≠ p) := by
      rintro rfl
      omega
    have hne : ((n : Int) != (m : Int)) = true := by simp; omega
    clear h1 h2 hlen
    go_enter Tryd.func23, Tryd.ntmps23
    go_wp2_with fail
    go_ret
    exact ⟨by simp [E.out], Below.refl _ _⟩

end Go.Proofs.YtmdokldbggingaaDoor
