/-
  The reference's SameInts: by a contract.
-/
import Derived.Test.YtlndpclgljfloaaSrt
import Derived.Test.YtlndpclgljfloaaNmb
import Derived.BigGuardPart
namespace Go.Proofs.Ytlndpclgljfloaa
open Go.RowKit

theorem take_snoc_eq {α : Type} {l p : List α} {k : Nat} {c c' : α} (h : l.take k = p.take k) (h1 : l[k]? = some c) (h2 : p[k]? = some c') (e : c = c') : l.take (k + 1) = p.take (k + 1) := by
  rw [List.take_add_one, List.take_add_one, h, h1, h2, e]
theorem ne_of_at {α : Type} {l p : List α} {k : Nat} {c c' : α} (h1 : l[k]? = some c) (h2 : p[k]? = some c') (e : c ≠ c') : l ≠ p := by
  rintro rfl
  rw [h1] at h2
  exact e (Option.some.inj h2)
/-- numbers in memory -/
def IntsAt (X : World) (B : Nat) (A : Option Addr) (l : List Nat) : Prop := RowAt 1 X B A (l.map fun x => [iV x])
theorem IntsAt.one {X : World} {B : Nat} {A : Option Addr} {l : List Nat} (h : IntsAt X B A l) {j x : Nat} (hx : l[j]? = some x) : ∃ b off, A = some ⟨b, off, none⟩ ∧ b < B ∧ X.cell? ⟨b, off + j, none⟩ = some (.int .i64 x) := by
  obtain ⟨b, off, e, hlt, hc⟩ := RowAt.one h (i := j) (vs := [iV x]) (by rw [List.getElem?_map, hx]; rfl)
  have := hc 0 _ rfl
  rw [Nat.mul_one] at this
  exact ⟨b, off, e, hlt, this⟩
theorem IntsAt.of {X : World} {g : Nat} {t : TypeId} {l : List Nat} (h : CB X g t (l.map iV)) : IntsAt X X.heap.size (some ⟨g, 0, none⟩) l := fun _ => ⟨g, 0, rfl, h.lt, fun i vs hi j v hj => by
  rw [List.getElem?_map] at hi
  cases hx : l[i]? with
  | none => rw [hx] at hi; cases hi
  | some x =>
    rw [hx] at hi
    obtain rfl : [iV x] = vs := Option.some.inj hi
    have h0 : j = 0 := by
      have := (List.getElem?_eq_some_iff.1 hj).1
      simp at this; exact this
    subst h0
    obtain rfl : iV x = v := Option.some.inj hj
    have := h.cell i (v := iV x) (by rw [List.getElem?_map, hx]; rfl)
    simpa using this⟩
set_option maxRecDepth 20000 in
set_option maxHeartbeats 1000000 in
theorem SameInts_eqlen (A : Option Addr) (cap : Nat) (l : List Nat) (C : Option Addr) (d : Nat) (p : List Nat) (w : World) (hs : IntsAt w w.heap.size A l) (hp : IntsAt w w.heap.size C p) (n : Nat) (h1 : Hid (l.length = n)) (h2 : Hid (p.length = n)) (hn : n ≤ 1000000) :
    Calls Try.prog 20 #[.slice A n cap, .slice C n d] w fun e w' => e = .returned (.bool (decide (l = p))) ∧ ∃ m, w' = w.drewN m := by
  have HS := Li hs
  have HP := Li hp
  clear hs hp
  go_enter Try.func20, Try.ntmps20
  go_wp2_with fail
  go_loopw [5] (fun i wr => ∃ k : Nat, k ≤ n ∧ i = .int .i64 k ∧ Hid (l.take k = p.take k) ∧ Hid (∃ m, wr = w.drewN m)) (fun i _ => n - (intOf i).toNat)
  case atStart => exact ⟨0, by omega, rfl, rfl, 0, rfl⟩
  case round =>
    obtain ⟨k, hk, rfl, he, hb⟩ := hrel
    obtain ⟨m, rfl⟩ := hb.out
    clear hb
    by_cases hlt : k < n
    · obtain ⟨c, hc⟩ : ∃ c, l[k]? = some c := ⟨_, List.getElem?_eq_getElem (by rw [h1.out]; exact hlt)⟩
      obtain ⟨c', hc'⟩ : ∃ c, p[k]? = some c := ⟨_, List.getElem?_eq_getElem (by rw [h2.out]; exact hlt)⟩
      obtain ⟨b, off, rfl, zb, gw⟩ := HS.out.one hc
      obtain ⟨b', off', rfl, zb', gw'⟩ := HP.out.one hc'
      have g : (w.drewN m).cell? ⟨b, off + k, none⟩ = some (.int .i64 (c : Int)) := gw
      have g' : (w.drewN m).cell? ⟨b', off' + k, none⟩ = some (.int .i64 (c' : Int)) := gw'
      have HC := Li hc
      have HC' := Li hc'
      have j1 : (k : Int) < (n : Int) := by omega
      clear hc hc'
      by_cases hxx : c = c'
      · have E : Hid (l.take (k + 1) = p.take (k + 1)) := take_snoc_eq he.out HC.out HC'.out hxx
        subst hxx
        go_wp2_with fail
        go_quiet (fail)
        go_wp2_with fail
        go_roundw
        case rel => exact ⟨k + 1, by omega, by go_num, E, m + nq, by simp⟩
        case measure => simp [intOf]; omega
      · have E : Hid (l ≠ p) := ne_of_at HC.out HC'.out hxx
        have hne : ((c : Int) != (c' : Int)) = true := by simp; omega
        go_wp2_with fail
        go_quiet (fail)
        go_wp2_with fail
        go_ret
        exact ⟨by simp [E.out], m + nq, by simp⟩
    · obtain rfl : k = n := by omega
      go_wp2_with fail
      go_ret
      refine ⟨?_, m, rfl⟩
      have e : l = p := by
        have := he.out
        rwa [List.take_of_length_le (by rw [h1.out]; exact Nat.le_refl _), List.take_of_length_le (by rw [h2.out]; exact Nat.le_refl _)] at this
      simp [e]
theorem SameInts_any (A : Option Addr) (n cap : Nat) (l : List Nat) (C : Option Addr) (m d : Nat) (p : List Nat) (w : World) (hs : IntsAt w w.heap.size A l) (hp : IntsAt w w.heap.size C p) (h1 : n = l.length) (h2 : m = p.length) (hn : n ≤ 1000000) (hm : m ≤ 1000000) :
    Calls Try.prog 20 #[.slice A n cap, .slice C m d] w fun e w' => e = .returned (.bool (decide (l = p))) ∧ ∃ m, w' = w.drewN m := by
  by_cases hlen : n = m
  · subst hlen
    exact SameInts_eqlen A cap l C d p w hs hp n h1.symm h2.symm hn
  · have E : Hid (l ≠ p) := fun e => hlen (by rw [h1, h2, e])
    have hne : ((n : Int) != (m : Int)) = true := by simp; omega
    clear hs hp h1 h2
    go_enter Try.func20, Try.ntmps20
    go_wp2_with fail
    go_ret
    exact ⟨by simp [E.out], 0, rfl⟩
end Go.Proofs.Ytlndpclgljfloaa
