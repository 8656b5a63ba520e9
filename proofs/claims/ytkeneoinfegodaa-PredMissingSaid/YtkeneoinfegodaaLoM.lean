/-
  The fields of a predicate grow strictly, and its truth value depends on them alone. Plain.
-/
import Derived.Test.YtkeneoinfegodaaWtM
import Derived.Test.YtkeneoinfegodaaFld
namespace Go.Proofs.Ytkeneoinfegodaa
open Go.RowKit
theorem comp_all (d : Array Int) (hs : ∀ i j, i ≤ j → j < d.size → d[i]! ≤ d[j]!) : ∀ m, m ≤ d.size → (Lib.compactUpTo d m).Pairwise (· < ·) ∧ ∀ x, x ∈ Lib.compactUpTo d m ↔ ∃ j, j < m ∧ x = d[j]!
  | 0, _ => ⟨List.Pairwise.nil, fun x => by simp [Lib.compactUpTo]⟩
  | m + 1, hm => by
    obtain ⟨ih1, ih2⟩ := comp_all d hs m (by omega)
    rw [Lib.compactUpTo_succ]
    by_cases hk : Lib.keeps d m = true
    · rw [if_pos hk]
      have hlt : ∀ x ∈ Lib.compactUpTo d m, x < d[m]! := fun x hx => by
        obtain ⟨j, hj, rfl⟩ := (ih2 x).1 hx
        have h1 := hs j (m - 1) (by omega) (by omega)
        have h2 := hs (m - 1) m (by omega) (by omega)
        have h3 : d[m]! ≠ d[m - 1]! := by
          have := of_decide_eq_true hk
          rcases this with h | h
          · omega
          · exact h
        omega
      refine ⟨List.pairwise_append.2 ⟨ih1, List.pairwise_singleton _ _, fun a ha b hb => ?_⟩, fun x => ?_⟩
      · rw [List.mem_singleton] at hb
        subst hb
        exact hlt a ha
      · rw [List.mem_append, ih2, List.mem_singleton]
        constructor
        · rintro (⟨j, hj, rfl⟩ | rfl)
          · exact ⟨j, by omega, rfl⟩
          · exact ⟨m, by omega, rfl⟩
        · rintro ⟨j, hj, rfl⟩
          by_cases e : j = m
          · subst e
            exact .inr rfl
          · exact .inl ⟨j, by omega, rfl⟩
    · rw [if_neg hk, List.append_nil]
      refine ⟨ih1, fun x => ?_⟩
      rw [ih2]
      constructor
      · rintro ⟨j, hj, rfl⟩
        exact ⟨j, by omega, rfl⟩
      · rintro ⟨j, hj, rfl⟩
        by_cases e : j = m
        · subst e
          have h3 : ¬ (j = 0 ∨ d[j]! ≠ d[j - 1]!) := fun h => hk (decide_eq_true h)
          have h4 : d[j]! = d[j - 1]! := by
            by_cases e : d[j]! = d[j - 1]!
            · exact e
            · exact absurd (.inr e) h3
          exact ⟨j - 1, by omega, h4⟩
        · exact ⟨j, by omega, rfl⟩
theorem srt_le (zs : List Int) : ∀ i j, i ≤ j → j < (srt zs).toArray.size → (srt zs).toArray[i]! ≤ (srt zs).toArray[j]! := fun i j hij hj => by
  have hj' : j < (srt zs).length := by simpa using hj
  have hp : (srt zs).Pairwise fun a b => decide (a ≤ b) = true := List.pairwise_mergeSort (le := fun x y => decide (x ≤ y)) (fun a b c h1 h2 => by simp at h1 h2 ⊢; omega) (fun a b => by simp; omega) zs
  rw [getElem!_pos (srt zs).toArray i (by simp; omega), getElem!_pos (srt zs).toArray j hj]
  by_cases e : i = j
  · subst e
    exact Int.le_refl _
  · have := List.pairwise_iff_getElem.1 hp i j (by omega) hj' (by omega)
    simpa using this
theorem mem_srt (zs : List Int) (x : Int) : x ∈ srt zs ↔ x ∈ zs := (List.mergeSort_perm zs _).mem_iff
theorem fld_lt (p : Pr) : (fldL p).Pairwise (· < ·) := by
  have := (comp_all (srt (idsL (preO 1 p))).toArray (srt_le _) (srt (idsL (preO 1 p))).length (by simp)).1
  exact this
theorem fld_mem (p : Pr) (x : Int) : x ∈ fldL p ↔ x ∈ idsL (preO 1 p) := by
  have h := (comp_all (srt (idsL (preO 1 p))).toArray (srt_le _) (srt (idsL (preO 1 p))).length (by simp)).2 x
  unfold fldL
  rw [show Lib.compact (srt (idsL (preO 1 p))) = Lib.compactUpTo (srt (idsL (preO 1 p))).toArray (srt (idsL (preO 1 p))).length from rfl, h, ← mem_srt]
  constructor
  · rintro ⟨j, hj, rfl⟩
    rw [getElem!_pos (srt (idsL (preO 1 p))).toArray j (by simpa using hj)]
    simp
  · intro hx
    obtain ⟨j, hj, rfl⟩ := List.getElem_of_mem hx
    exact ⟨j, hj, by rw [getElem!_pos (srt (idsL (preO 1 p))).toArray j (by simpa using hj)]; simp⟩
theorem preOs_mem {lv : Int} {k : Pr} {x : Int × Pr} : ∀ {l : List Pr}, k ∈ l → x ∈ preO lv k → x ∈ preOs lv l
  | [], h, _ => by cases h
  | q :: l, h, hx => by
    rw [preOs, List.mem_append]
    rcases List.mem_cons.1 h with rfl | h
    · exact .inl hx
    · exact .inr (preOs_mem h hx)
theorem evO_out {v v' : Va} {op lo hi : Int} {set : List Va} {tx : ByteArray} {ts : List Int} (h : ¬ (1 ≤ op ∧ op ≤ 4)) : evO v op lo hi set tx ts = evO v' op lo hi set tx ts := by
  have h1 : ¬ (op = 1 ∨ op = 2 ∨ op = 3) := by omega
  have h2 : ¬ op = 4 := by omega
  unfold evO
  simp only [if_neg h1, if_neg h2]
theorem ev_local {r r' : List Ce} : ∀ (p : Pr) (lv : Int), (∀ x ∈ preO lv p, (1 ≤ x.2.op ∧ x.2.op ≤ 4) → getL r x.2.id = getL r' x.2.id) → ev r p = ev r' p := Pr.induct fun p ih lv h => by
  rw [ev_eq, ev_eq r']
  have hk : p.kids.map (ev r) = p.kids.map (ev r') := List.map_congr_left fun k hk => ih k hk (lv + 1) fun x hx => h x (by rw [preO_eq]; exact List.mem_cons_of_mem _ (preOs_mem hk hx))
  rw [hk]
  by_cases ha : 1 ≤ p.op ∧ p.op ≤ 4
  · have := h (lv, p) (by rw [preO_eq]; exact List.mem_cons_self ..) ha
    rw [show getL r p.id = getL r' p.id from this]
  · exact evO_out ha
theorem ev_fld {r r' : List Ce} (p : Pr) (h : ∀ i ∈ fldL p, getL r i = getL r' i) : ev r p = ev r' p := ev_local p 1 fun x hx ha => h _ ((fld_mem p _).2 (by
  unfold idsL
  exact List.mem_map.2 ⟨x, List.mem_filter.2 ⟨hx, decide_eq_true ha⟩, rfl⟩))
/-- the cells whose number is in a list, as often as it is there -/
def ownL (l : List Int) (r : List Ce) : List Ce := r.flatMap fun c => (l.filter fun i => i == c.id).map fun _ => c
theorem getL_app_hit {a b : List Ce} {c : Ce} {i : Int} (h : ∀ x ∈ a, x = c) (hne : a ≠ []) (hi : c.id = i) : getL (a ++ b) i = c.v := by
  cases a with
  | nil => exact absurd rfl hne
  | cons x a =>
    rw [h x (by simp), List.cons_append, getL, if_pos hi]
theorem getL_app_miss {b : List Ce} {i : Int} : ∀ {a : List Ce}, (∀ x ∈ a, x.id ≠ i) → getL (a ++ b) i = getL b i
  | [], _ => rfl
  | x :: a, h => by
    rw [List.cons_append, getL, if_neg (h x (by simp))]
    exact getL_app_miss fun y hy => h y (by simp [hy])
theorem getL_own {l : List Int} {i : Int} (hi : i ∈ l) : ∀ r : List Ce, getL (ownL l r) i = getL r i
  | [] => rfl
  | c :: r => by
    have ih := getL_own hi r
    unfold ownL at ih ⊢
    rw [List.flatMap_cons]
    by_cases hc : c.id = i
    · rw [getL_app_hit (c := c) (fun x hx => by obtain ⟨_, _, rfl⟩ := List.mem_map.1 hx; rfl) ?_ hc, getL, if_pos hc]
      intro e
      have : i ∈ l.filter fun j => j == c.id := List.mem_filter.2 ⟨hi, by simp [hc]⟩
      rw [List.map_eq_nil_iff.1 e] at this
      cases this
    · rw [getL_app_miss (fun x hx => by obtain ⟨_, _, rfl⟩ := List.mem_map.1 hx; exact hc), ih, getL, if_neg hc]
theorem ownL_snoc (l : List Int) (r : List Ce) (k : Nat) {c : Ce} (h : r[k]? = some c) : ownL l (r.take (k + 1)) = ownL l (r.take k) ++ (l.filter fun i => i == c.id).map fun _ => c := by
  unfold ownL
  rw [List.take_add_one, h, List.flatMap_append]
  simp
theorem fil_yes {l : List Int} {k : Nat} {i j : Int} {c : Ce} (h : l[k]? = some i) (he : i = j) : ((l.take (k + 1)).filter fun x => x == j).map (fun _ => c) = ((l.take k).filter fun x => x == j).map (fun _ => c) ++ [c] := by
  rw [List.take_add_one, h, List.filter_append]
  simp [he]
theorem fil_no {l : List Int} {k : Nat} {i j : Int} {c : Ce} (h : l[k]? = some i) (he : i ≠ j) : ((l.take (k + 1)).filter fun x => x == j).map (fun _ => c) = ((l.take k).filter fun x => x == j).map (fun _ => c) := by
  rw [List.take_add_one, h, List.filter_append]
  simp [he]
theorem ownL_len (l : List Int) : ∀ r : List Ce, (ownL l r).length ≤ r.length * l.length
  | [] => by simp [ownL]
  | c :: r => by
    have ih := ownL_len l r
    unfold ownL at ih ⊢
    rw [List.flatMap_cons, List.length_append, List.length_map, List.length_cons, Nat.add_mul]
    have := List.length_filter_le (fun i => i == c.id) l
    omega
theorem own_all (l : List Int) (r : List Ce) : ownL l (r.take r.length) = ownL l r := by rw [List.take_length]
/-- a predicate within a weight has no more parts than that -/
theorem preOs_wt {lv most : Int} : ∀ (l : List Pr) (n : Int), (∀ k ∈ l, ∀ x, wt k x ≤ x → ((preO lv k).length : Int) ≤ wt k x) → 1 ≤ n → wts l n most ≤ most → n + ((preOs lv l).length : Int) ≤ wts l n most
  | [], n, _, _, _ => by rw [preOs, wts]; simp
  | q :: l, n, hq, h, hw => by
    have hn : n ≤ most := Int.le_trans (wts_mono (q :: l) n h) hw
    rw [wts, if_pos hn] at hw ⊢
    have h1 := wt_ge q (most - n) (by omega)
    have h2 := wts_mono (most := most) l (n + wt q (most - n)) (by omega)
    have h3 := hq q (by simp) (most - n) (by omega)
    have h4 := preOs_wt l (n + wt q (most - n)) (fun k hk => hq k (by simp [hk])) (by omega) hw
    rw [preOs, List.length_append]
    omega
theorem pre_wt : ∀ (p : Pr) (lv most : Int), wt p most ≤ most → ((preO lv p).length : Int) ≤ wt p most := Pr.induct fun p ih lv most hw => by
  obtain ⟨op, id, lo, hi, S, sc, set, tx, K, kc, ks⟩ := p
  have h := wt_parts hw
  have h1 := wset_ge (most := most) set (1 + set.length + q50 tx) (by have := q50_ge tx; omega)
  have h2 := preOs_wt (lv := lv + 1) ks _ (fun k hk x hx => ih k hk (lv + 1) x hx) h1 h
  rw [preO_eq, wt]
  show (((preOs (lv + 1) ks).length + 1 : Nat) : Int) ≤ _
  omega
theorem idsL_le (l : List (Int × Pr)) : (idsL l).length ≤ l.length := idsL_len l
theorem fld_len (p : Pr) : (fldL p).length ≤ (preO 1 p).length := by
  unfold fldL
  refine Nat.le_trans (compact_le _) ?_
  unfold srt
  rw [List.length_mergeSort]
  exact idsL_len _
/-- the cells gathered so far: k cells are done, of the next one q numbers are looked at -/
def ownQ (l : List Int) (r : List Ce) (k q : Nat) (f : Ce) : List Ce := ownL l (r.take k) ++ ((l.take q).filter fun i => i == f.id).map fun _ => f
theorem ownQ_zero (l : List Int) (r : List Ce) (k : Nat) (f : Ce) : ownQ l r k 0 f = ownL l (r.take k) := by simp [ownQ]
theorem ownQ_end {l : List Int} {r : List Ce} {k q : Nat} {f : Ce} (hq : l.length ≤ q) (hf : r[k]? = some f) : ownQ l r k q f = ownL l (r.take (k + 1)) := by
  rw [ownL_snoc l r k hf, ownQ, List.take_of_length_le hq]
theorem ownQ_yes {l : List Int} {r : List Ce} {k q : Nat} {f : Ce} {i : Int} (h : l[q]? = some i) (he : i = f.id) : ownQ l r k (q + 1) f = ownQ l r k q f ++ [f] := by
  rw [ownQ, fil_yes h he, ownQ, List.append_assoc]
theorem ownQ_no {l : List Int} {r : List Ce} {k q : Nat} {f : Ce} {i : Int} (h : l[q]? = some i) (he : i ≠ f.id) : ownQ l r k (q + 1) f = ownQ l r k q f := by
  rw [ownQ, fil_no h he, ownQ]
theorem ints_at {w : World} {B : Nat} {A : Option Addr} {l : List Int} (h : Ints w B A l) {k : Nat} {c : Int} (hk : l[k]? = some c) : ∃ b off, A = some ⟨b, off, none⟩ ∧ b < B ∧ w.cell? ⟨b, off + k, none⟩ = some (.int .i64 c) := by
  obtain ⟨b, off, e, hb, hc⟩ := RowAt.one h (vs := [.int .i64 c]) (i := k) (by rw [List.getElem?_map, hk]; rfl)
  exact ⟨b, off, e, hb, by simpa using hc 0 _ rfl⟩
theorem getI_of {l : List Int} {k : Nat} (h : k < l.length) : ∃ i, l[k]? = some i := ⟨l[k], List.getElem?_eq_getElem h⟩
theorem lt_at {l : List Int} (h : l.Pairwise (· < ·)) {k : Nat} {i j : Int} (h1 : l[k]? = some i) (h2 : l[k + 1]? = some j) : i < j := by
  obtain ⟨a, rfl⟩ := List.getElem?_eq_some_iff.1 h1
  obtain ⟨b, rfl⟩ := List.getElem?_eq_some_iff.1 h2
  exact List.pairwise_iff_getElem.1 h k (k + 1) a b (by omega)
theorem take_ne {l : List Int} {q : Nat} {i x : Int} (h : ∀ j ∈ l.take q, j ≠ x) (hi : l[q]? = some i) (hx : i ≠ x) : ∀ j ∈ l.take (q + 1), j ≠ x := fun j hj => by
  rw [List.take_add_one, hi, List.mem_append] at hj
  rcases hj with hj | hj
  · exact h j hj
  · simp at hj
    subst hj
    exact hx
end Go.Proofs.Ytkeneoinfegodaa
