/-
  A predicate within a weight is no deeper than that.
-/
import Derived.Test.YtkeneoinfegodaaWt
namespace Go.Proofs.Ytkeneoinfegodaa
theorem wts_mono {most : Int} : ∀ (l : List Pr) (n : Int), 1 ≤ n → n ≤ wts l n most
  | [], n, _ => by rw [wts]; exact Int.le_refl _
  | k :: l, n, h => by
    rw [wts]
    split
    · have h1 := wt_ge k (most - n) (by omega)
      have h2 := wts_mono (most := most) l (n + wt k (most - n)) (by omega)
      omega
    · exact Int.le_refl _
theorem wset_mono {most : Int} : ∀ (l : List Va) (n : Int), n ≤ wset most n l
  | [], n => Int.le_refl _
  | v :: l, n => by
    rw [wset]
    split
    · have h1 := q50_ge v.s
      have h2 := wset_mono (most := most) l (n + q50 v.s)
      omega
    · exact Int.le_refl _
/-- whoever is within a limit has Kids that are within a lower one -/
theorem wts_in {most : Int} : ∀ (l : List Pr) (n : Int), 1 ≤ n → wts l n most ≤ most → ∀ k ∈ l, ∃ x, 0 ≤ x ∧ x ≤ most - 1 ∧ wt k x ≤ x
  | [], _, _, _, k, hk => by cases hk
  | q :: l, n, h, hw, k, hk => by
    have hn : n ≤ most := Int.le_trans (wts_mono (q :: l) n h) hw
    rw [wts, if_pos hn] at hw
    have h1 := wt_ge q (most - n) (by omega)
    rcases List.mem_cons.1 hk with rfl | hk
    · have h2 := wts_mono (most := most) l (n + wt k (most - n)) (by omega)
      exact ⟨most - n, by omega, by omega, by omega⟩
    · exact wts_in l (n + wt q (most - n)) (by omega) hw k hk
theorem deps_le {d : Nat} : ∀ {ks : List Pr}, (∀ k ∈ ks, dep k ≤ d) → deps ks ≤ d
  | [], _ => by rw [deps]; omega
  | k :: ks, h => by
    rw [deps]
    have h1 := h k (by simp)
    have h2 := deps_le (ks := ks) (fun q hq => h q (by simp [hq]))
    omega
theorem wt_parts {op id lo hi : Int} {S K : Option Addr} {sc kc : Nat} {set : List Va} {tx : ByteArray} {ks : List Pr} {most : Int} (h : wt (.mk op id lo hi S sc set tx K kc ks) most ≤ most) : wts ks (wset most (1 + set.length + q50 tx) set) most ≤ most := by
  rw [wt] at h
  omega
theorem dep_wt : ∀ p : Pr, ∀ most : Int, wt p most ≤ most → (dep p : Int) ≤ most := Pr.induct fun p ih most hw => by
  obtain ⟨op, id, lo, hi, S, sc, set, tx, K, kc, ks⟩ := p
  have h := wt_parts hw
  have h1 := wset_ge (most := most) set (1 + set.length + q50 tx) (by have := q50_ge tx; omega)
  have h2 := wts_mono (most := most) ks _ h1
  have h3 : deps ks ≤ (most - 1).toNat := deps_le fun k hk => by
    obtain ⟨x, hx0, hx1, hx2⟩ := wts_in ks _ h1 h k hk
    have := ih k hk x hx2
    omega
  rw [dep_eq]
  show ((deps ks + 1 : Nat) : Int) ≤ most
  omega
/-- and its set no longer -/
theorem set_wt (p : Pr) (most : Int) (hw : wt p most ≤ most) : (p.set.length : Int) ≤ most := by
  obtain ⟨op, id, lo, hi, S, sc, set, tx, K, kc, ks⟩ := p
  have h := wt_parts hw
  have h0 := q50_ge tx
  have h1 := wset_ge (most := most) set (1 + set.length + q50 tx) (by omega)
  have h2 := wts_mono (most := most) ks _ h1
  have h3 := wset_mono (most := most) set (1 + set.length + q50 tx)
  show (set.length : Int) ≤ most
  omega
end Go.Proofs.Ytkeneoinfegodaa
