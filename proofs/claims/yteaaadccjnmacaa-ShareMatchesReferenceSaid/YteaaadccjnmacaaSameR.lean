/-
  The reference's Same and SameShares, by contracts.
-/
import Derived.Test.YteaaadccjnmacaaFieldP
import Derived.Test.YteaaadccjnmacaaShl
import Derived.BigGuardPart
namespace Go.Proofs.Yteaaadccjnmacaa
open Go.RowKit

theorem take_snoc_eq {α : Type} {l p : List α} {k : Nat} {c c' : α} (h : l.take k = p.take k) (h1 : l[k]? = some c) (h2 : p[k]? = some c') (e : c = c') : l.take (k + 1) = p.take (k + 1) := by
  rw [List.take_add_one, List.take_add_one, h, h1, h2, e]
theorem ne_of_at {α : Type} {l p : List α} {k : Nat} {c c' : α} (h1 : l[k]? = some c) (h2 : p[k]? = some c') (e : c ≠ c') : l ≠ p := by
  rintro rfl
  rw [h1] at h2
  exact e (Option.some.inj h2)
theorem drewN_below (w : World) (m : Nat) (B : Nat) : Below B w (w.drewN m) := below_drewN (Below.refl _ _) m

set_option maxRecDepth 20000 in
set_option maxHeartbeats 1000000 in
theorem Same_eqlen (A : Option Addr) (cap : Nat) (l : List UInt8) (C : Option Addr) (d : Nat) (p : List UInt8) (w : World) (hs : Shows w w.heap.size A l) (hp : Shows w w.heap.size C p) (n : Nat) (h1 : Hid (l.length = n)) (h2 : Hid (p.length = n)) (hn : n ≤ 9223372036854775807) :
    Calls Try.prog 14 #[.slice A n cap, .slice C n d] w fun e w' => e = .returned (.bool (decide (l = p))) ∧ ∃ m, w' = w.drewN m := by
  go_enter Try.func14, Try.ntmps14
  go_wp2_with fail
  go_loopw [5] (fun i wr => ∃ k : Nat, k ≤ n ∧ i = .int .i64 k ∧ Hid (l.take k = p.take k) ∧ Hid (∃ m, wr = w.drewN m)) (fun i _ => n - (intOf i).toNat)
  case atStart => exact ⟨0, by omega, rfl, rfl, 0, rfl⟩
  case round =>
    obtain ⟨k, hk, rfl, he, hb⟩ := hrel
    obtain ⟨m, rfl⟩ := hb.out
    clear hb
    by_cases hlt : k < n
    · obtain ⟨c, hc⟩ : ∃ c, l[k]? = some c := ⟨_, List.getElem?_eq_getElem (by rw [h1.out]; exact hlt)⟩
      obtain ⟨c', hc'⟩ : ∃ c, p[k]? = some c := ⟨_, List.getElem?_eq_getElem (by rw [h2.out]; exact hlt)⟩
      obtain ⟨b, off, rfl, _, hcell⟩ := hs (by rw [h1.out]; omega)
      obtain ⟨b', off', rfl, _, hcell'⟩ := hp (by rw [h2.out]; omega)
      have g : (w.drewN m).cell? ⟨b, off + k, none⟩ = some (.int .u8 (c.toNat : Int)) := hcell _ _ hc
      have g' : (w.drewN m).cell? ⟨b', off' + k, none⟩ = some (.int .u8 (c'.toNat : Int)) := hcell' _ _ hc'
      have gw := hcell _ _ hc
      have gw' := hcell' _ _ hc'
      clear hcell hcell' hs hp
      obtain ⟨x, hx⟩ : ∃ x, x = c.toNat := ⟨_, rfl⟩
      obtain ⟨x', hx'⟩ : ∃ x, x = c'.toNat := ⟨_, rfl⟩
      rw [← hx] at g gw
      rw [← hx'] at g' gw'
      have HC := Lib.hid hc
      have HC' := Lib.hid hc'
      have HX := Lib.hid hx
      have HX' := Lib.hid hx'
      clear hc hc' hx hx'
      by_cases hxx : x = x'
      · have E : Hid (l.take (k + 1) = p.take (k + 1)) := take_snoc_eq he.out HC.out HC'.out (by apply UInt8.toNat_inj.1; rw [← HX.out, ← HX'.out, hxx])
        subst hxx
        go_wp2_with fail
        go_quiet (fail)
        go_wp2_with fail
        go_roundw
        case rel => exact ⟨k + 1, by omega, by go_num, E, m + nq, by simp⟩
        case measure => simp [intOf]; omega
      · have E : Hid (l ≠ p) := ne_of_at HC.out HC'.out (by rintro rfl; exact hxx (by rw [HX.out, HX'.out]))
        have hne : ((x : Int) != (x' : Int)) = true := by simp; omega
        go_wp2_with fail
        go_quiet (fail)
        go_wp2_with fail
        go_ret
        exact ⟨by simp [E.out], m + nq, by simp⟩
    · obtain rfl : k = n := by omega
      go_wp2_with fail
      go_ret
      refine ⟨?_, m, rfl⟩
      have e : l = p := by
        have := he.out
        rwa [List.take_of_length_le (by rw [h1.out]; exact Nat.le_refl _), List.take_of_length_le (by rw [h2.out]; exact Nat.le_refl _)] at this
      simp [e]

set_option maxHeartbeats 1000000 in
/-- Same: are the two lists of bytes one? (The lengths as the caller spells them.) -/
theorem Same_any (A : Option Addr) (n cap : Nat) (l : List UInt8) (C : Option Addr) (m d : Nat) (p : List UInt8) (w : World) (hs : Shows w w.heap.size A l) (hp : Shows w w.heap.size C p) (h1 : n = l.length) (h2 : m = p.length) (hn : n ≤ 9223372036854775807) (hm : m ≤ 9223372036854775807) :
    Calls Try.prog 14 #[.slice A n cap, .slice C m d] w fun e w' => e = .returned (.bool (decide (l = p))) ∧ ∃ m, w' = w.drewN m := by
  by_cases hlen : n = m
  · subst hlen
    exact Same_eqlen A cap l C d p w hs hp n h1.symm h2.symm hn
  · have E : Hid (l ≠ p) := fun e => hlen (by rw [h1, h2, e])
    have hne : ((n : Int) != (m : Int)) = true := by simp; omega
    clear hs hp h1 h2
    go_enter Try.func14, Try.ntmps14
    go_wp2_with fail
    go_ret
    exact ⟨by simp [E.out], 0, rfl⟩

set_option maxRecDepth 20000 in
set_option maxHeartbeats 2000000 in
theorem SameShares_eqlen (A : Option Addr) (cap : Nat) (l : List Sh) (C : Option Addr) (d : Nat) (p : List Sh) (w : World) (hs : ShL w w.heap.size A l) (hp : ShL w w.heap.size C p) (n : Nat) (h1 : Hid (l.length = n)) (h2 : Hid (p.length = n)) (hn : n ≤ 1000000) :
    Calls Try.prog 13 #[.slice A n cap, .slice C n d] w fun e w' => e = .returned (.bool (decide (l = p))) ∧ ∃ m, w' = w.drewN m := by
  go_enter Try.func13, Try.ntmps13
  go_wp2_with fail
  go_loopw [5] (fun i wr => ∃ k : Nat, k ≤ n ∧ i = .int .i64 k ∧ Hid (l.take k = p.take k) ∧ Hid (∃ m, wr = w.drewN m)) (fun i _ => n - (intOf i).toNat)
  case atStart => exact ⟨0, by omega, rfl, rfl, 0, rfl⟩
  case round =>
    obtain ⟨k, hk, rfl, he, hb⟩ := hrel
    obtain ⟨m, rfl⟩ := hb.out
    clear hb
    by_cases hlt : k < n
    · obtain ⟨s, hsk⟩ : ∃ c, l[k]? = some c := ⟨_, List.getElem?_eq_getElem (by rw [h1.out]; exact hlt)⟩
      obtain ⟨t, htk⟩ : ∃ c, p[k]? = some c := ⟨_, List.getElem?_eq_getElem (by rw [h2.out]; exact hlt)⟩
      obtain ⟨b, off, rfl, _, c1, A1, n1, c2, hsh1, hle1, hmx1⟩ := hs.one hsk
      obtain ⟨b', off', rfl, _, d1, A2, n2, d2, hsh2, hle2, hmx2⟩ := hp.one htk
      have HSK := Lib.hid hsk
      have HTK := Lib.hid htk
      have i1 : (k : Int) < (n : Int) := by omega
      clear hs hp hsk htk
      by_cases hx : s.1 = t.1
      · have HX := Lib.hid hx
        have hne : ((s.1.toNat : Int) != (t.1.toNat : Int)) = false := by rw [hx]; simp
        rw [hx] at c1 hne
        clear hx
        have HSA : Hid (∀ q, Calls Try.prog 14 #[.slice A1 s.2.length n1, .slice A2 t.2.length n2] (w.drewN (m + q)) fun e w' => e = .returned (.bool (decide (s.2 = t.2))) ∧ ∃ n, w' = w.drewN (m + n)) := fun q =>
          (Same_any A1 _ n1 s.2 A2 _ n2 t.2 (w.drewN (m + q)) hsh1 hsh2 rfl rfl (by omega) (by omega)).mono fun e w' ⟨h1, m', h2⟩ => ⟨h1, q + m', by rw [h2, World.drewN_drewN, Nat.add_assoc]⟩
        by_cases hb : s.2 = t.2
        · have E : Hid (l.take (k + 1) = p.take (k + 1)) := take_snoc_eq he.out HSK.out HTK.out (Prod.ext HX.out hb)
          have hd : decide (s.2 = t.2) = true := by simpa using hb
          rw [hd] at HSA
          clear hb hd
          go_wp2_with fail
          go_quiet (first | (go_at_call 14; exact HSA.out _))
          go_wp2_with fail
          go_roundw
          case rel => exact ⟨k + 1, by omega, by go_num, E, m + nq, by simp⟩
          case measure => simp [intOf]; omega
        · have E : Hid (l ≠ p) := ne_of_at HSK.out HTK.out (fun e => hb (by rw [e]))
          have hd : decide (s.2 = t.2) = false := by simpa using hb
          rw [hd] at HSA
          clear hb hd
          go_wp2_with fail
          go_quiet (first | (go_at_call 14; exact HSA.out _))
          go_wp2_with fail
          go_ret
          exact ⟨by simp [E.out], m + nq, by simp⟩
      · have E : Hid (l ≠ p) := ne_of_at HSK.out HTK.out (fun e => hx (by rw [e]))
        have hne : ((s.1.toNat : Int) != (t.1.toNat : Int)) = true := by
          have : ¬ ((s.1.toNat : Int) = (t.1.toNat : Int)) := fun e => hx (UInt8.toNat_inj.1 (by omega))
          simpa using this
        go_wp2_with fail
        go_quiet (fail)
        go_wp2_with fail
        go_ret
        exact ⟨by simp [E.out], m + nq, by simp⟩
    · obtain rfl : k = n := by omega
      go_wp2_with fail
      go_ret
      refine ⟨?_, m, rfl⟩
      have e : l = p := by
        have := he.out
        rwa [List.take_of_length_le (by rw [h1.out]; exact Nat.le_refl _), List.take_of_length_le (by rw [h2.out]; exact Nat.le_refl _)] at this
      simp [e]

set_option maxHeartbeats 1000000 in
theorem SameShares_any (A : Option Addr) (n cap : Nat) (l : List Sh) (C : Option Addr) (m d : Nat) (p : List Sh) (w : World) (hs : ShL w w.heap.size A l) (hp : ShL w w.heap.size C p) (h1 : n = l.length) (h2 : m = p.length) (hn : n ≤ 1000000) (hm : m ≤ 1000000) :
    Calls Try.prog 13 #[.slice A n cap, .slice C m d] w fun e w' => e = .returned (.bool (decide (l = p))) ∧ ∃ m, w' = w.drewN m := by
  by_cases hlen : n = m
  · subst hlen
    exact SameShares_eqlen A cap l C d p w hs hp n h1.symm h2.symm hn
  · have E : Hid (l ≠ p) := fun e => hlen (by rw [h1, h2, e])
    have hne : ((n : Int) != (m : Int)) = true := by simp; omega
    clear hs hp h1 h2
    go_enter Try.func13, Try.ntmps13
    go_wp2_with fail
    go_ret
    exact ⟨by simp [E.out], 0, rfl⟩
end Go.Proofs.Yteaaadccjnmacaa
