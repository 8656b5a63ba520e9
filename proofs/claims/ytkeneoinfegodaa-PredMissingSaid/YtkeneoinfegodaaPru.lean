/-
  A predicate that lies in blocks of a given kind; what is plain, and its truth values.
-/
import Derived.Test.YtkeneoinfegodaaKln
import Derived.Test.YtkeneoinfegodaaWtM
namespace Go.Proofs.Ytkeneoinfegodaa
open Go.RowKit
/-- elements of k cells each, read from address A on, in a block of the kind U -/
def RowU (k : Nat) (w : World) (U : Nat → Prop) (A : Option Addr) (L : List (List Value)) : Prop :=
  0 < L.length → ∃ b off, A = some ⟨b, off, none⟩ ∧ U b ∧ ∀ i vs, L[i]? = some vs → At w b (off + i * k) vs
theorem RowU.of {k : Nat} {w : World} {B : Nat} {A : Option Addr} {L : List (List Value)} (h : RowAt k w B A L) : RowU k w (fun b => b < B) A L := h
theorem RowU.to {k : Nat} {w : World} {B : Nat} {U : Nat → Prop} {A : Option Addr} {L : List (List Value)} (h : RowU k w U A L) (hU : ∀ b, U b → b < B) : RowAt k w B A L := fun hl => by
  obtain ⟨b, off, e, hb, hc⟩ := h hl
  exact ⟨b, off, e, hU b hb, hc⟩
theorem RowU.keep {k : Nat} {w w' : World} {U V : Nat → Prop} {A : Option Addr} {L : List (List Value)} (h : RowU k w U A L) (hk : ∀ b, U b → V b ∧ ∀ o, w'.cell? ⟨b, o, none⟩ = w.cell? ⟨b, o, none⟩) : RowU k w' V A L := fun hl => by
  obtain ⟨b, off, e, hb, hc⟩ := h hl
  exact ⟨b, off, e, (hk b hb).1, fun i vs hi => (hc i vs hi).keep fun j => (hk b hb).2 _⟩
/-- p lies in blocks of the kind U -/
inductive PrU (w : World) (U : Nat → Prop) : Pr → Prop
  | mk {p : Pr} (hs : RowU 3 w U p.S (p.set.map Va.cells3)) (hsc : p.set.length ≤ p.sc) (hsm : p.sc ≤ 9223372036854775807) (ht : p.tx.size ≤ 9223372036854775807) (hk : RowU 7 w U p.K (p.kids.map Pr.cells)) (hkc : p.kids.length ≤ p.kc) (hkm : p.kc ≤ 9223372036854775807) (hv : ∀ v ∈ p.set, v.Fine) (hf : p.Fine) (hp : ∀ k ∈ p.kids, PrU w U k) : PrU w U p
theorem PrU.of {w : World} {B : Nat} : ∀ p, PrAt w B p → PrU w (fun b => b < B) p :=
  Pr.induct fun p ih h => ⟨RowU.of h.hs, h.hsc, h.hsm, h.ht, RowU.of h.hk, h.hkc, h.hkm, h.hv, h.hf, fun k hk => ih k hk (h.hp k hk)⟩
theorem PrU.to {w : World} {B : Nat} {U : Nat → Prop} (hU : ∀ b, U b → b < B) : ∀ p, PrU w U p → PrAt w B p :=
  Pr.induct fun p ih h => by
    cases h with
    | mk hs hsc hsm ht hk hkc hkm hv hf hp => exact ⟨hs.to hU, hsc, hsm, ht, hk.to hU, hkc, hkm, hv, hf, fun k hk' => ih k hk' (hp k hk')⟩
theorem PrU.keep {w w' : World} {U V : Nat → Prop} (hk : ∀ b, U b → V b ∧ ∀ o, w'.cell? ⟨b, o, none⟩ = w.cell? ⟨b, o, none⟩) : ∀ p, PrU w U p → PrU w' V p :=
  Pr.induct fun p ih h => by
    cases h with
    | mk hs hsc hsm ht hk' hkc hkm hv hf hp => exact ⟨hs.keep hk, hsc, hsm, ht, hk'.keep hk, hkc, hkm, hv, hf, fun k hq => ih k hq (hp k hq)⟩
/-- no more than a thousand Kids anywhere -/
inductive Nar : Pr → Prop
  | mk {p : Pr} (hs : p.kids.length ≤ 1000) (hp : ∀ k ∈ p.kids, Nar k) : Nar p
theorem Nar.len {p : Pr} (h : Nar p) : p.kids.length ≤ 1000 := by cases h; assumption
theorem Nar.kid {p : Pr} (h : Nar p) : ∀ k ∈ p.kids, Nar k := by cases h; assumption
theorem wts_len {most : Int} : ∀ (l : List Pr) (n : Int), 1 ≤ n → wts l n most ≤ most → n + l.length ≤ most + 1
  | [], n, _, h => by
    rw [wts] at h
    simp
    omega
  | q :: l, n, h, hw => by
    have hn : n ≤ most := Int.le_trans (wts_mono (q :: l) n h) hw
    rw [wts, if_pos hn] at hw
    have h1 := wt_ge q (most - n) (by omega)
    have := wts_len l (n + wt q (most - n)) (by omega) hw
    simp only [List.length_cons]
    omega
theorem nar_wt : ∀ p : Pr, ∀ most : Int, most ≤ 900 → wt p most ≤ most → Nar p := Pr.induct fun p ih most hm hw => by
  obtain ⟨op, id, lo, hi, S, sc, set, tx, K, kc, ks⟩ := p
  have h := wt_parts hw
  have h1 := wset_ge (most := most) set (1 + set.length + q50 tx) (by have := q50_ge tx; omega)
  refine ⟨?_, fun k hk => ?_⟩
  · have := wts_len ks _ h1 h
    show ks.length ≤ 1000
    omega
  · obtain ⟨x, hx0, hx1, hx2⟩ := wts_in ks _ h1 h k hk
    exact ih k hk x (by omega) hx2
def tru0 : Pr := .mk 0 0 0 0 none 0 [] ⟨#[]⟩ none 0 []
/-- q is p with True in place of IsNull -/
inductive Pl : Pr → Pr → Prop
  | nul {p : Pr} (h : p.op = 4) : Pl p tru0
  | mk {p q : Pr} (h : p.op ≠ 4) (ho : q.op = p.op) (hi : q.id = p.id) (hl : q.lo = p.lo) (hh : q.hi = p.hi) (hs : q.set = p.set) (ht : q.tx = p.tx) (hn : q.kids.length = p.kids.length)
      (hk : ∀ (i : Nat) (a b : Pr), p.kids[i]? = some a → q.kids[i]? = some b → Pl a b) : Pl p q
/-- a truth value that is unknown or another one -/
def Le3 (t u : Int) : Prop := t = 2 ∨ t = u
theorem jun_le (d : Int) (hd : d = 0 ∨ d = 1) : ∀ (ts us : List Int) (a b : Int), ts.length = us.length → (∀ (i : Nat) (t u : Int), ts[i]? = some t → us[i]? = some u → Le3 t u) → (a = 2 ∨ a = b) → Le3 (junG d a ts) (junG d b us)
  | [], [], a, b, _, _, h => h
  | t :: ts, u :: us, a, b, hl, hh, h => by
    have ih := jun_le d hd ts us
    have hl' : ts.length = us.length := by simpa using hl
    have hh' : ∀ (i : Nat) (t u : Int), ts[i]? = some t → us[i]? = some u → Le3 t u := fun i x y h1 h2 => hh (i + 1) x y (by simpa using h1) (by simpa using h2)
    have hd2 : ¬ (2 : Int) = d := by omega
    rcases hh 0 t u rfl rfl with e | e
    · subst e
      rw [junG, if_neg hd2, if_pos rfl]
      rcases junG_in d ts 2 with h1 | h1 | h1
      · by_cases hu : u = d
        · rw [junG, if_pos hu, h1]
          exact .inr rfl
        · rw [junG, if_neg hu]
          by_cases hu2 : u = 2
          · rw [if_pos hu2]
            exact ih 2 2 hl' hh' (.inl rfl)
          · rw [if_neg hu2]
            exact ih 2 b hl' hh' (.inl rfl)
      · exact .inl h1
      · exact .inl h1
    · subst e
      rw [junG, junG]
      by_cases ht : t = d
      · rw [if_pos ht, if_pos ht]
        exact .inr rfl
      · rw [if_neg ht, if_neg ht]
        by_cases h2 : t = 2
        · rw [if_pos h2, if_pos h2]
          exact ih 2 2 hl' hh' (.inl rfl)
        · rw [if_neg h2, if_neg h2]
          exact ih a b hl' hh' h
  | [], u :: us, _, _, hl, _, _ => by simp at hl
  | t :: ts, [], _, _, hl, _, _ => by simp at hl
/-- less has the values of r, or nulls -/
def Less (s r : List Ce) : Prop := ∀ i, getL s i = getL r i ∨ (getL s i).b = true
theorem pl_le {s r : List Ce} (hsr : Less s r) {p q : Pr} (h : Pl p q) : Le3 (ev s q) (ev r q) := by
  induction h with
  | nul h =>
    rw [ev_eq, ev_eq]
    exact .inr rfl
  | mk h ho hi hl hh hs ht hn hk ih =>
    rename_i p q
    rw [ev_eq, ev_eq r]
    have hkids : ∀ (i : Nat) (t u : Int), (q.kids.map (ev s))[i]? = some t → (q.kids.map (ev r))[i]? = some u → Le3 t u := fun i t u h1 h2 => by
      rw [List.getElem?_map] at h1 h2
      cases hq : q.kids[i]? with
      | none => rw [hq] at h1; cases h1
      | some b =>
        rw [hq] at h1 h2
        have hil : i < p.kids.length := by rw [← hn]; exact (List.getElem?_eq_some_iff.1 hq).1
        have := ih i _ b (List.getElem?_eq_getElem hil) hq
        cases h1
        cases h2
        exact this
    unfold evO
    by_cases h0 : q.op = 0
    · rw [if_pos h0, if_pos h0]
      exact .inr rfl
    rw [if_neg h0, if_neg h0]
    by_cases h1 : q.op = 1 ∨ q.op = 2 ∨ q.op = 3
    · rw [if_pos h1, if_pos h1]
      rcases hsr q.id with e | e
      · rw [e]
        exact .inr rfl
      · rw [if_pos e]
        exact .inl rfl
    rw [if_neg h1, if_neg h1]
    have h4 : ¬ q.op = 4 := by rw [ho]; exact h
    rw [if_neg h4, if_neg h4]
    by_cases h5 : q.op = 5
    · rw [if_pos h5, if_pos h5]
      exact jun_le 0 (.inl rfl) _ _ 1 1 (by simp) hkids (.inr rfl)
    rw [if_neg h5, if_neg h5]
    by_cases h6 : q.op = 6
    · rw [if_pos h6, if_pos h6]
      exact jun_le 1 (.inr rfl) _ _ 0 0 (by simp) hkids (.inr rfl)
    rw [if_neg h6, if_neg h6]
    by_cases h7 : q.op = 7
    · rw [if_pos h7, if_pos h7]
      match hq : q.kids with
      | [] => exact .inr rfl
      | [b] =>
        have := hkids 0 (ev s b) (ev r b) (by rw [hq]; rfl) (by rw [hq]; rfl)
        show Le3 (neg3 (ev s b)) (neg3 (ev r b))
        rcases this with e | e
        · rw [e]
          exact .inl rfl
        · rw [e]
          exact .inr rfl
      | _ :: _ :: _ => exact .inr rfl
    · rw [if_neg h7, if_neg h7]
      exact .inr rfl
/-- cell by cell the same, or null -/
theorem less_of {s r : List Ce} (hl : s.length = r.length) (h : ∀ (i : Nat) (a b : Ce), s[i]? = some a → r[i]? = some b → a = b ∨ (a.id = b.id ∧ a.v = Va.nul)) : Less s r := by
  induction s generalizing r with
  | nil =>
    cases r with
    | nil => exact fun _ => .inl rfl
    | cons _ _ => simp at hl
  | cons a s ih =>
    cases r with
    | nil => simp at hl
    | cons b r =>
      intro i
      have hi := ih (r := r) (by simpa using hl) (fun j x y h1 h2 => h (j + 1) x y (by simpa using h1) (by simpa using h2)) i
      rcases h 0 a b rfl rfl with e | ⟨e1, e2⟩
      · subst e
        rw [getL, getL]
        split
        · exact .inl rfl
        · exact hi
      · rw [getL, getL, e1]
        split
        · rw [e2]
          exact .inr rfl
        · exact hi
end Go.Proofs.Ytkeneoinfegodaa
