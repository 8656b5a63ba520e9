/-
  The reference's Ints, by a contract.
-/
import Derived.Test.YtkeneoinfegodaaFld
namespace Go.Proofs.Ytkeneoinfegodaa
open Go.RowKit
theorem takeI_eq {l p : List Int} {k : Nat} {c : Int} (h : l.take k = p.take k) (h1 : l[k]? = some c) (h2 : p[k]? = some c) : l.take (k + 1) = p.take (k + 1) := by
  rw [List.take_add_one, List.take_add_one, h, h1, h2]
theorem neI_at {l p : List Int} {k : Nat} {c c' : Int} (h1 : l[k]? = some c) (h2 : p[k]? = some c') (e : c ≠ c') : l ≠ p := fun h => by
  rw [h, h2] at h1
  injection h1 with h1
  exact e h1.symm
theorem ints_one {w : World} {B : Nat} {A : Option Addr} {l : List Int} (h : Ints w B A l) {k : Nat} {c : Int} (hk : l[k]? = some c) : ∃ b off, A = some ⟨b, off, none⟩ ∧ w.cell? ⟨b, off + k, none⟩ = some (.int .i64 c) := by
  obtain ⟨b, off, e, _, hc⟩ := RowAt.one h (vs := [.int .i64 c]) (i := k) (by rw [List.getElem?_map, hk]; rfl)
  exact ⟨b, off, e, by simpa using hc 0 _ rfl⟩
set_option maxRecDepth 20000 in
set_option maxHeartbeats 2000000 in
theorem Ints_eqlen (A : Option Addr) (cap : Nat) (l : List Int) (C : Option Addr) (d : Nat) (p : List Int) (w : World) (hs : Ints w w.heap.size A l) (hp : Ints w w.heap.size C p) (n : Nat) (h1 : Hid (l.length = n)) (h2 : Hid (p.length = n)) (hn : n ≤ 9223372036854775806) :
    Calls Try.prog 18 #[.slice A n cap, .slice C n d] w fun e w' => e = .returned (.bool (decide (l = p))) ∧ ∃ m, w' = w.drewN m := by
  go_enter Try.func18, Try.ntmps18
  go_wp2_with fail
  go_loopw [5] (fun i wr => ∃ k : Nat, k ≤ n ∧ i = .int .i64 k ∧ Hid (l.take k = p.take k) ∧ Hid (∃ m, wr = w.drewN m)) (fun i _ => n - (intOf i).toNat)
  case atStart => exact ⟨0, by omega, rfl, rfl, 0, rfl⟩
  case round =>
    obtain ⟨k, hk, rfl, he, hb⟩ := hrel
    obtain ⟨m, rfl⟩ := hb.out
    clear hb
    by_cases hlt : k < n
    · obtain ⟨x, hc⟩ : ∃ c, l[k]? = some c := ⟨_, List.getElem?_eq_getElem (by rw [h1.out]; exact hlt)⟩
      obtain ⟨x', hc'⟩ : ∃ c, p[k]? = some c := ⟨_, List.getElem?_eq_getElem (by rw [h2.out]; exact hlt)⟩
      obtain ⟨b, off, rfl, gw⟩ := ints_one hs hc
      obtain ⟨b', off', rfl, gw'⟩ := ints_one hp hc'
      have g : (w.drewN m).cell? ⟨b, off + k, none⟩ = some (.int .i64 x) := gw
      have g' : (w.drewN m).cell? ⟨b', off' + k, none⟩ = some (.int .i64 x') := gw'
      clear hs hp
      have HC := Lib.hid hc
      have HC' := Lib.hid hc'
      clear hc hc'
      by_cases hxx : x = x'
      · subst hxx
        have E : Hid (l.take (k + 1) = p.take (k + 1)) := takeI_eq he.out HC.out HC'.out
        go_wp2_with fail
        go_quiet (fail)
        go_wp2_with fail
        go_roundw
        case rel => exact ⟨k + 1, by omega, by go_num, E, m + nq, by simp⟩
        case measure => simp [intOf]; omega
      · have E : Hid (l ≠ p) := neI_at HC.out HC'.out hxx
        have hne : ((x : Int) != (x' : Int)) = true := by simp; omega
        go_wp2_with fail
        go_quiet (fail)
        go_wp2_with fail
        go_ret
        exact ⟨by simp [E.out], m + nq, by simp⟩
    · obtain rfl : k = n := by omega
      go_wp2_with fail
      go_ret
      refine ⟨?_, m, rfl⟩
      have e : l = p := by
        have := he.out
        rwa [List.take_of_length_le (by rw [h1.out]; exact Nat.le_refl _), List.take_of_length_le (by rw [h2.out]; exact Nat.le_refl _)] at this
      simp [e]
set_option maxHeartbeats 1000000 in
theorem Ints_any (A : Option Addr) (n cap : Nat) (l : List Int) (C : Option Addr) (m d : Nat) (p : List Int) (w : World) (hs : Ints w w.heap.size A l) (hp : Ints w w.heap.size C p) (h1 : n = l.length) (h2 : m = p.length) (hn : n ≤ 9223372036854775806) :
    Calls Try.prog 18 #[.slice A n cap, .slice C m d] w fun e w' => e = .returned (.bool (decide (l = p))) ∧ ∃ m, w' = w.drewN m := by
  by_cases hlen : n = m
  · subst hlen
    exact Ints_eqlen A cap l C d p w hs hp n (Li h1.symm) (Li h2.symm) hn
  · have E : Hid (l ≠ p) := Li fun e => hlen (by rw [h1, h2, e])
    have hne : ((n : Int) != (m : Int)) = true := by simp; omega
    clear hs hp h1 h2
    go_enter Try.func18, Try.ntmps18
    go_wp2_with fail
    go_ret
    exact ⟨by simp [E.out], 0, rfl⟩
end Go.Proofs.Ytkeneoinfegodaa
