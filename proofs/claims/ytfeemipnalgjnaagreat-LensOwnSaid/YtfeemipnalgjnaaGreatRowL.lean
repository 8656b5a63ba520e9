/-
 Rows as lists of cells: to get and to set a field. Plain theorems.
-/
import Derived.Test.YtfeemipnalgjnaaGreatGV
namespace Go.Proofs.YtfeemipnalgjnaaGreat

def Va.nul : Va := ⟨true, 0, ⟨#[]⟩⟩
/-- increasing numbers -/
def Inc (r : List Ce) : Prop := r.Pairwise fun c d => c.id < d.id
def getL : List Ce → Int → Va
 | [], _ => Va.nul
 | c :: r, i => if c.id = i then c.v else getL r i
def setL : List Ce → Int → Va → List Ce
 | [], i, v => if v.b = true then [] else [⟨i, v⟩]
 | c :: r, i, v => if c.id < i then c :: setL r i v else (if v.b = true then [] else [⟨i, v⟩]) ++ (if c.id = i then r else c :: r)
/-- where the cell of a field is, or would be -/
def posL : List Ce → Int → Nat
 | [], _ => 0
 | c :: r, i => if c.id < i then posL r i + 1 else 0
def fndL : List Ce → Int → Bool
 | [], _ => false
 | c :: r, i => if c.id < i then fndL r i else decide (c.id = i)
section
variable {r q : List Ce} {c d : Ce} {i j : Int} {v : Va}
theorem posL_le : ∀ {r : List Ce}, posL r i ≤ r.length
 | [] => Nat.le_refl _
 | c :: r => by
  unfold posL
  have := posL_le (r := r)
  split <;> simp <;> omega
theorem fndL_lt : ∀ {r : List Ce}, fndL r i = true → posL r i < r.length
 | [], h => by simp [fndL] at h
 | c :: r, h => by
  unfold fndL at h
  unfold posL
  split
  ·
   next hc => rw [if_pos hc] at h; have := fndL_lt h; simp; omega
  ·
   simp
theorem set_parts : ∀ {r : List Ce}, setL r i v = r.take (posL r i) ++ ((if v.b = true then [] else [⟨i, v⟩]) ++ r.drop (posL r i + if fndL r i = true then 1 else 0))
 | [] => by simp [setL, posL]
 | c :: r => by
  unfold setL posL fndL
  split
  ·
   rw [set_parts]
   simp only [List.take_succ_cons, List.cons_append]
   cases fndL r i <;> simp
  ·
   simp only [List.take_zero, List.nil_append]
   by_cases he : c.id = i <;> simp [he]
theorem pos_lt : ∀ {r : List Ce} {k : Nat}, Inc r → r[k]? = some c → (k < posL r i ↔ c.id < i)
 | [], _, _, h => by simp at h
 | d :: r, 0, hs, h => by
  obtain rfl : d = c := by simpa using h
  unfold posL
  split <;> simp_all
 | d :: r, k + 1, hs, h => by
  have hk : r[k]? = some c := by simpa using h
  have hs' := List.pairwise_cons.1 hs
  have hdc : d.id < c.id := hs'.1 c (List.mem_of_getElem? hk)
  unfold posL
  split
  ·
   next hd => rw [← pos_lt hs'.2 hk]; omega
  ·
   next hd => constructor <;> intro h' <;> omega
theorem fnd_iff : ∀ {r : List Ce}, fndL r i = true ↔ ∃ c, r[posL r i]? = some c ∧ c.id = i
 | [] => by simp [fndL]
 | c :: r => by
  unfold fndL posL
  split
  ·
   rw [fnd_iff]; simp
  ·
   simp
theorem inc_tail (h : Inc (c :: r)) : Inc r := (List.pairwise_cons.1 h).2
theorem get_none : ∀ {r : List Ce}, (∀ c ∈ r, c.id ≠ i) → getL r i = Va.nul
 | [], _ => rfl
 | c :: r, h => by
  unfold getL
  rw [if_neg (h c (by simp)), get_none (fun d hd => h d (by simp [hd]))]
theorem get_mem : ∀ {r : List Ce}, Inc r → c ∈ r → getL r c.id = c.v
 | [], _, h => by simp at h
 | d :: r, hs, h => by
  unfold getL
  rcases List.mem_cons.1 h with rfl | h
  ·
   rw [if_pos rfl]
  ·
   have := (List.pairwise_cons.1 hs).1 c h
   rw [if_neg (by omega), get_mem (inc_tail hs) h]
theorem get_cases (r : List Ce) (i : Int) (hs : Inc r) : (∃ c ∈ r, c.id = i ∧ getL r i = c.v) ∨ ((∀ c ∈ r, c.id ≠ i) ∧ getL r i = Va.nul) := by
 by_cases h : ∃ c ∈ r, c.id = i
 ·
  obtain ⟨c, hc, rfl⟩ := h
  exact .inl ⟨c, hc, rfl, get_mem hs hc⟩
 ·
  have h' : ∀ c ∈ r, c.id ≠ i := fun c hc e => h ⟨c, hc, e⟩
  exact .inr ⟨h', get_none h'⟩
theorem get_pos : ∀ {r : List Ce}, Inc r → getL r i = (match (if fndL r i = true then r[posL r i]? else none) with | some c => c.v | none => Va.nul)
 | [], _ => by simp [getL, fndL]
 | c :: r, hs => by
  unfold getL fndL posL
  by_cases h : c.id < i
  ·
   rw [if_neg (by omega), if_pos h, if_pos h, get_pos (inc_tail hs)]
   simp
  ·
   rw [if_neg h, if_neg h]
   by_cases he : c.id = i
   ·
    simp [he]
   ·
    rw [if_neg he]
    simp only [he, decide_false, Bool.false_eq_true, if_false]
    exact get_none (fun d hd => by have := (List.pairwise_cons.1 hs).1 d hd; omega)
theorem mem_set : ∀ {r : List Ce}, Inc r → (c ∈ setL r i v ↔ (c ∈ r ∧ c.id ≠ i) ∨ (v.b = false ∧ c = ⟨i, v⟩))
 | [], _ => by
  unfold setL
  cases v.b <;> simp
 | d :: r, hs => by
  have h1 := (List.pairwise_cons.1 hs).1
  unfold setL
  split
  ·
   next hd =>
   rw [List.mem_cons, mem_set (inc_tail hs), List.mem_cons]
   constructor
   ·
    rintro (rfl | h | h)
    ·
     exact .inl ⟨.inl rfl, by omega⟩
    ·
     exact .inl ⟨.inr h.1, h.2⟩
    ·
     exact .inr h
   ·
    rintro (⟨h | h, hn⟩ | h)
    ·
     exact .inl h
    ·
     exact .inr (.inl ⟨h, hn⟩)
    ·
     exact .inr (.inr h)
  ·
   next hd =>
   have hr : (c ∈ (if d.id = i then r else d :: r)) ↔ (c ∈ d :: r ∧ c.id ≠ i) := by
    split
    ·
     next he =>
     constructor
     ·
      intro h; have := h1 c h; exact ⟨by simp [h], by omega⟩
     ·
      rintro ⟨h, hn⟩
      rcases List.mem_cons.1 h with rfl | h
      ·
       exact absurd he hn
      ·
       exact h
    ·
     next he =>
     constructor
     ·
      intro h
      refine ⟨h, ?_⟩
      rcases List.mem_cons.1 h with rfl | h
      ·
       exact he
      ·
       have := h1 c h; omega
     ·
      exact fun h => h.1
   rw [List.mem_append, hr]
   have hv : (c ∈ (if v.b = true then [] else [(⟨i, v⟩ : Ce)])) ↔ (v.b = false ∧ c = ⟨i, v⟩) := by cases v.b <;> simp
   rw [hv]
   exact Or.comm
theorem inc_set : ∀ {r : List Ce}, Inc r → Inc (setL r i v)
 | [], _ => by
  unfold setL
  split
  ·
   exact List.Pairwise.nil
  ·
   exact List.pairwise_singleton _ _
 | d :: r, hs => by
  have h1 := (List.pairwise_cons.1 hs).1
  unfold setL
  split
  ·
   next hd =>
   refine List.pairwise_cons.2 ⟨fun c hc => ?_, inc_set (inc_tail hs)⟩
   rcases (mem_set (inc_tail hs)).1 hc with ⟨h, _⟩ | ⟨_, rfl⟩
   ·
    exact h1 c h
   ·
    exact hd
  ·
   next hd =>
   have hr : Inc (if d.id = i then r else d :: r) := by
    split
    ·
     exact inc_tail hs
    ·
     exact hs
   split
   ·
    simpa using hr
   ·
    refine List.pairwise_cons.2 ⟨fun c hc => ?_, hr⟩
    split at hc
    ·
     next he => have := h1 c hc; show i < c.id; omega
    ·
     next he =>
     show i < c.id
     rcases List.mem_cons.1 hc with rfl | hc
     ·
      omega
     ·
      have := h1 c hc; omega
theorem get_set (hs : Inc r) : getL (setL r i v) j = if j = i then (if v.b = true then Va.nul else v) else getL r j := by
 split
 ·
  next he =>
  subst he
  split
  ·
   next hv =>
   refine get_none fun c hc => ?_
   rcases (mem_set hs).1 hc with ⟨_, h⟩ | ⟨h, _⟩
   ·
    exact h
   ·
    rw [hv] at h; cases h
  ·
   next hv => exact get_mem (c := ⟨j, v⟩) (inc_set hs) ((mem_set hs).2 (.inr ⟨by simpa using hv, rfl⟩))
 ·
  next he =>
  rcases get_cases r j hs with ⟨c, hc, rfl, h⟩ | ⟨hn, h⟩
  ·
   rw [h]
   exact get_mem (inc_set hs) ((mem_set hs).2 (.inl ⟨hc, he⟩))
  ·
   rw [h]
   refine get_none fun c hc => ?_
   rcases (mem_set hs).1 hc with ⟨h, _⟩ | ⟨_, rfl⟩
   ·
    exact hn c h
   ·
    exact fun e => he e.symm
theorem inc_ext : ∀ {r q : List Ce}, Inc r → Inc q → (∀ c, c ∈ r ↔ c ∈ q) → r = q
 | [], [], _, _, _ => rfl
 | [], d :: q, _, _, h => by have := (h d).2 (by simp); simp at this
 | c :: r, [], _, _, h => by have := (h c).1 (by simp); simp at this
 | c :: r, d :: q, hr, hq, h => by
  have h1 := (List.pairwise_cons.1 hr).1
  have h2 := (List.pairwise_cons.1 hq).1
  have e : c = d := by
   rcases List.mem_cons.1 ((h c).1 (by simp)) with e | hc
   ·
    exact e
   ·
    rcases List.mem_cons.1 ((h d).2 (by simp)) with e | hd
    ·
     exact e.symm
    ·
     have := h1 d hd; have := h2 c hc; omega
  subst e
  congr 1
  refine inc_ext (inc_tail hr) (inc_tail hq) fun x => ?_
  have hx := h x
  rw [List.mem_cons, List.mem_cons] at hx
  constructor
  ·
   intro hm
   rcases hx.1 (.inr hm) with rfl | hm'
   ·
    have := h1 _ hm; omega
   ·
    exact hm'
  ·
   intro hm
   rcases hx.2 (.inr hm) with rfl | hm'
   ·
    have := h2 _ hm; omega
   ·
    exact hm'
/-- no cell of a row is null -/
def NoN (r : List Ce) : Prop := ∀ c ∈ r, c.v.b = false
/-- rows of which all fields are the same are the same -/
theorem row_ext (hr : Inc r) (hq : Inc q) (nr : NoN r) (nq : NoN q) (h : ∀ i, getL r i = getL q i) : r = q := by
 refine inc_ext hr hq fun c => ?_
 have hx := h c.id
 constructor
 ·
  intro hc
  rw [get_mem hr hc] at hx
  rcases get_cases q c.id hq with ⟨d, hd, he, hg⟩ | ⟨_, hg⟩
  ·
   rw [hg] at hx
   obtain ⟨ci, cv⟩ := c
   obtain ⟨di, dv⟩ := d
   simp only at he hx
   subst he hx
   exact hd
  ·
   have := nr c hc
   rw [hx, hg] at this
   cases this
 ·
  intro hc
  rw [get_mem hq hc] at hx
  rcases get_cases r c.id hr with ⟨d, hd, he, hg⟩ | ⟨_, hg⟩
  ·
   rw [hg] at hx
   obtain ⟨ci, cv⟩ := c
   obtain ⟨di, dv⟩ := d
   simp only at he hx
   subst he hx
   exact hd
  ·
   have := nq c hc
   rw [← hx, hg] at this
   cases this
theorem non_set (hs : Inc r) (h : NoN r) : NoN (setL r i v) := fun c hc => by
 rcases (mem_set hs).1 hc with ⟨h', _⟩ | ⟨h', rfl⟩
 ·
  exact h c h'
 ·
  exact h'
theorem set_nul (h : ∀ c ∈ r, c.id ≠ i) (hs : Inc r) (hv : v.b = true) : setL r i v = r := by
 refine inc_ext (inc_set hs) hs fun c => ?_
 rw [mem_set hs]
 constructor
 ·
  rintro (⟨h', _⟩ | ⟨h', _⟩)
  ·
   exact h'
  ·
   rw [hv] at h'; cases h'
 ·
  exact fun hc => .inl ⟨hc, h c hc⟩
end
end Go.Proofs.YtfeemipnalgjnaaGreat
