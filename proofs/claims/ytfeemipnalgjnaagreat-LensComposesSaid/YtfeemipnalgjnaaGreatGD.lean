/-
 Layer 6's contracts and plain theorems, texts of layer 6's own claims put together: Pln Pln2 Pln3 RApp.
-/
import Derived.Test.YtfeemipnalgjnaaGreatHb
import Derived.Test.YtfeemipnalgjnaaGreatGF
import Derived.Test.YtfeemipnalgjnaaGreatGR
import Derived.Test.YtfeemipnalgjnaaGreatGC
import Derived.Test.YtfeemipnalgjnaaGreatGB
namespace Go.Proofs.YtfeemipnalgjnaaGreat
open Go.RowKit

/-- numbers increase -/
def Srt (l : List Fd) : Prop := l.Pairwise fun f g => f.id < g.id
theorem srt_uniq : ∀ {l : List Fd}, Srt l → ∀ {f g : Fd}, f ∈ l → g ∈ l → f.id = g.id → f = g
 | [], _, _, _, h, _, _ => by simp at h
 | a :: r, hs, f, g, hf, hg, e => by
  unfold Srt at hs
  rw [List.pairwise_cons] at hs
  rcases List.mem_cons.1 hf with rfl | hf1
  ·
   rcases List.mem_cons.1 hg with rfl | hg1
   ·
    rfl
   ·
    exact absurd e (by have := hs.1 g hg1; omega)
  ·
   rcases List.mem_cons.1 hg with rfl | hg1
   ·
    exact absurd e (by have := hs.1 f hf1; omega)
   ·
    exact srt_uniq hs.2 hf1 hg1 e
theorem field_iff {l : List Fd} (hs : Srt l) {i : Int} {f : Fd} : field l i = some f ↔ f ∈ l ∧ f.id = i := by
 constructor
 ·
  exact field_mem
 ·
  rintro ⟨hf, rfl⟩
  cases h : field l f.id with
  | none => exact absurd rfl (field_none.1 h f hf)
  | some g =>
   have := field_mem h
   rw [srt_uniq hs this.1 hf this.2]
theorem has_iff {l : List Fd} {i : Int} : hasF l i = true ↔ ∃ f ∈ l, f.id = i := by
 unfold hasF
 constructor
 ·
  intro h
  obtain ⟨f, hf⟩ := Option.isSome_iff_exists.1 h
  exact ⟨f, field_mem hf⟩
 ·
  rintro ⟨f, hf, e⟩
  cases h : field l i with
  | none => exact absurd e (field_none.1 h f hf)
  | some g => rfl
theorem fieldD_of {l : List Fd} {i : Int} (h : hasF l i = true) : fieldD l i ∈ l ∧ (fieldD l i).id = i := by
 unfold hasF at h
 unfold fieldD
 obtain ⟨f, hf⟩ := Option.isSome_iff_exists.1 h
 rw [hf]
 exact field_mem hf
theorem fieldD_eq {l : List Fd} (hs : Srt l) {f : Fd} (hf : f ∈ l) : fieldD l f.id = f := by
 unfold fieldD
 rw [(field_iff hs).2 ⟨hf, rfl⟩]
 rfl
theorem fieldG_mem' {fi : Bool} : ∀ {l : List Fd} {i : Int} {f : Fd}, fieldG fi l i = some f → f ∈ l ∧ f.id = i ∧ (fi = true ∨ f.ty = 6)
 | [], _, _, h => by simp [fieldG] at h
 | g :: r, i, f, h => by
  unfold fieldG at h
  split at h
  ·
   next hg => cases h; exact ⟨by simp, hg⟩
  ·
   have := fieldG_mem' h; exact ⟨by simp [this.1], this.2⟩
theorem fieldG_none' {fi : Bool} : ∀ {l : List Fd} {i : Int}, fieldG fi l i = none → ∀ f ∈ l, ¬ (f.id = i ∧ (fi = true ∨ f.ty = 6))
 | [], _, _ => by simp
 | g :: r, i, h => by
  unfold fieldG at h
  split at h
  ·
   cases h
  ·
   next hg =>
   intro f hf
   rcases List.mem_cons.1 hf with rfl | hf
   ·
    exact hg
   ·
    exact fieldG_none' h f hf

/-- groups lead from a number to 0, m at most -/
inductive Up (l : List Fd) : Nat → Int → Prop
 | zero (m : Nat) : Up l m 0
 | step {m : Nat} {f : Fd} (hf : f ∈ l) (ht : f.ty = 6) (h : Up l m f.pa) : Up l (m + 1) f.id
/-- fields lead from a number to 0, m at most -/
inductive Dp (l : List Fd) : Nat → Int → Prop
 | zero (m : Nat) : Dp l m 0
 | step {m : Nat} {f : Fd} (hf : f ∈ l) (h : Dp l m f.pa) : Dp l (m + 1) f.id
/-- what lists of fields have in common: numbers increase and are positive -/
structure Num (l : List Fd) : Prop where
 srt : Srt l
 pos : ∀ f ∈ l, 0 < f.id
section
variable {l l' : List Fd}
theorem up_cases {m : Nat} {i : Int} (h : Up l m i) : i = 0 ∨ ∃ f ∈ l, f.id = i ∧ f.ty = 6 ∧ ∃ k, m = k + 1 ∧ Up l k f.pa := by
 cases h with
 | zero => exact .inl rfl
 | step hf ht h => exact .inr ⟨_, hf, rfl, ht, _, rfl, h⟩
theorem dp_cases {m : Nat} {i : Int} (h : Dp l m i) : i = 0 ∨ ∃ f ∈ l, f.id = i ∧ ∃ k, m = k + 1 ∧ Dp l k f.pa := by
 cases h with
 | zero => exact .inl rfl
 | step hf h => exact .inr ⟨_, hf, rfl, _, rfl, h⟩
theorem anc_iff (hn : Num l) : ∀ {m : Nat} {i : Int}, (anc l m false i).2 = 0 ↔ Up l m i
 | 0, i => by
  unfold anc
  constructor
  ·
   rintro rfl; exact .zero _
  ·
   intro h
   rcases up_cases h with h | ⟨_, _, _, _, k, hk, _⟩
   ·
    exact h
   ·
    cases hk
 | m + 1, i => by
  unfold anc
  by_cases h0 : i = 0
  ·
   subst h0
   rw [if_pos rfl]
   exact ⟨fun _ => .zero _, fun _ => rfl⟩
  ·
   rw [if_neg h0]
   cases hf : fieldG false l i with
   | none =>
    simp only
    refine ⟨fun h => absurd h h0, fun h => ?_⟩
    rcases up_cases h with h | ⟨f, hf1, hf2, hf3, _⟩
    ·
     exact h
    ·
     exact absurd ⟨hf2, .inr hf3⟩ (fieldG_none' hf f hf1)
   | some f =>
    simp only
    obtain ⟨h1, h2, h3⟩ := fieldG_mem' hf
    have h3 : f.ty = 6 := by simpa using h3
    rw [anc_iff hn]
    constructor
    ·
     intro h; rw [← h2]; exact .step h1 h3 h
    ·
     intro h
     rcases up_cases h with h | ⟨g, hg1, hg2, hg3, k, hk, hg4⟩
     ·
      exact absurd h h0
     ·
      cases hk
      rw [srt_uniq hn.srt h1 hg1 (by omega)]
      exact hg4
theorem plc_iff (hn : Num l) {f : Fd} (hf : f ∈ l) : plcB l f = true ↔ Up l 7 f.pa := by
 unfold plcB
 rw [decide_eq_true_iff]
 unfold anc
 have h0 : ¬ f.id = 0 := by have := hn.pos f hf; omega
 rw [if_neg h0]
 cases hg : fieldG true l f.id with
 | none => exact absurd ⟨rfl, .inl rfl⟩ (fieldG_none' hg f hf)
 | some g =>
  simp only
  have := fieldG_mem' hg
  rw [srt_uniq hn.srt this.1 hf this.2.1]
  exact anc_iff hn
theorem plcs_iff (hn : Num l) : plcsB l = true ↔ ∀ f ∈ l, Up l 7 f.pa := by
 unfold plcsB
 rw [List.all_eq_true]
 exact ⟨fun h f hf => (plc_iff hn hf).1 (h f hf), fun h f hf => (plc_iff hn hf).2 (h f hf)⟩
theorem dep_iff (hn : Num l) : ∀ {m k : Nat} {i n : Int}, k < m → n + m = 9 → (depG l m i n ≤ n + k ↔ Dp l k i)
 | 0, k, i, n, hk, _ => by omega
 | m + 1, k, i, n, hk, he => by
  unfold depG
  by_cases h0 : i = 0
  ·
   subst h0
   rw [if_pos rfl]
   exact ⟨fun _ => .zero _, fun _ => by omega⟩
  ·
   rw [if_neg h0]
   cases hh : hasF l i with
   | false =>
    rw [if_neg (by decide)]
    refine ⟨fun h => by omega, fun h => ?_⟩
    rcases dp_cases h with h | ⟨f, hf1, hf2, _⟩
    ·
     exact absurd h h0
    ·
     rw [has_iff.2 ⟨f, hf1, hf2⟩] at hh; cases hh
   | true =>
    rw [if_pos rfl]
    obtain ⟨h1, h2⟩ := fieldD_of hh
    generalize fieldD l i = f at h1 h2
    cases k with
    | zero =>
     constructor
     ·
      intro h
      have := dep_ge (l := l) (m := m) (i := f.pa) (n := n + 1) (by omega)
      omega
     ·
      intro h
      rcases dp_cases h with h | ⟨_, _, _, k, hk, _⟩
      ·
       exact absurd h h0
      ·
       cases hk
    | succ k =>
     have := dep_iff hn (m := m) (k := k) (i := f.pa) (n := n + 1) (by omega) (by omega)
     rw [show n + ((k + 1 : Nat) : Int) = n + 1 + (k : Int) by omega, this]
     constructor
     ·
      intro h; rw [← h2]; exact .step h1 h
     ·
      intro h
      rcases dp_cases h with h | ⟨g, hg1, hg2, k', hk', hg4⟩
      ·
       exact absurd h h0
      ·
       cases hk'
       rw [srt_uniq hn.srt h1 hg1 (by omega)]
       exact hg4
where
 dep_ge {l : List Fd} : ∀ {m : Nat} {i n : Int}, n + m ≤ 9 → n ≤ depG l m i n
  | 0, _, _, _ => Int.le_refl _
  | m + 1, i, n, h => by
   unfold depG
   split
   ·
    exact Int.le_refl _
   ·
    split
    ·
     have := dep_ge (l := l) (m := m) (i := (fieldD l i).pa) (n := n + 1) (by omega)
     omega
    ·
     omega
theorem depL_iff (hn : Num l) {k : Nat} {i : Int} (hk : k ≤ 8) : depL l i ≤ k ↔ Dp l k i := by
 have := dep_iff hn (m := 9) (k := k) (i := i) (n := 0) (by omega) (by omega)
 unfold depL
 rw [← this]
 omega
/-- parents are groups -/
def GP (l : List Fd) : Prop := ∀ f ∈ l, f.pa = 0 ∨ ∃ g ∈ l, g.id = f.pa ∧ g.ty = 6
theorem up_of_dp (hn : Num l) (hg : GP l) : ∀ {m : Nat} {i : Int}, (i = 0 ∨ ∃ g ∈ l, g.id = i ∧ g.ty = 6) → Dp l m i → Up l m i := by
 intro m i hi h
 induction h with
 | zero => exact .zero _
 | step hf h ih =>
  rename_i m f
  refine .step hf ?_ (ih (hg f hf))
  rcases hi with hi | ⟨g, h1, h2, h3⟩
  ·
   exact absurd hi (by have := hn.pos f hf; omega)
  ·
   rw [← srt_uniq hn.srt h1 hf h2]; exact h3
theorem dp_of_up {m : Nat} {i : Int} (h : Up l m i) : Dp l m i := by
 induction h with
 | zero => exact .zero _
 | step hf ht h ih => exact .step hf ih
theorem gp_of_up (h : ∀ f ∈ l, Up l 7 f.pa) : GP l := fun f hf => by
 rcases up_cases (h f hf) with h | ⟨g, h1, h2, h3, _⟩
 ·
  exact .inl h
 ·
  exact .inr ⟨g, h1, h2, h3⟩
theorem up_mono (h : ∀ f ∈ l, f.ty = 6 → ∃ g ∈ l', g.id = f.id ∧ g.ty = 6 ∧ g.pa = f.pa) {m : Nat} {i : Int} (hu : Up l m i) : Up l' m i := by
 induction hu with
 | zero => exact .zero _
 | step hf ht _ ih =>
  obtain ⟨g, h1, h2, h3, h4⟩ := h _ hf ht
  rw [← h2]
  exact .step h1 h3 (by rw [h4]; exact ih)
theorem up_more {m : Nat} {i : Int} (hu : Up l m i) : ∀ {k : Nat}, m ≤ k → Up l k i := by
 induction hu with
 | zero => exact fun _ => .zero _
 | step hf ht _ ih =>
  intro k hk
  obtain ⟨k, rfl⟩ : ∃ j, k = j + 1 := ⟨k - 1, by omega⟩
  exact .step hf ht (ih (by omega))
/-- where a climb goes that meets no field of number i -/
theorem up_avoid {i : Int} (hi : ∀ f ∈ l, f.pa ≠ i) (h : ∀ f ∈ l, f.id ≠ i → f ∈ l') {m : Nat} {j : Int} (hu : Up l m j) : j ≠ i → Up l' m j := by
 induction hu with
 | zero => exact fun _ => .zero _
 | step hf ht _ ih => exact fun hj => .step (h _ hf hj) ht (ih (hi _ hf))
theorem no_loop (hn : Num l) {f : Fd} (hf : f ∈ l) (he : f.pa = f.id) : ∀ {m : Nat}, ¬ Up l m f.id := by
 intro m
 induction m with
 | zero =>
  intro h
  rcases up_cases h with h | ⟨_, _, _, _, k, hk, _⟩
  ·
   have := hn.pos f hf; omega
  ·
   cases hk
 | succ m ih =>
  intro h
  rcases up_cases h with h | ⟨g, h1, h2, _, k, hk, h3⟩
  ·
   have := hn.pos f hf; omega
  ·
   cases hk
   rw [srt_uniq hn.srt h1 hf h2, he] at h3
   exact ih h3

/-- the names of a list of fields: each is one, and none twice in a group -/
def NamOk (l : List Fd) : Prop := (∀ f ∈ l, namB f.nm = true) ∧ ∀ f ∈ l, ∀ g ∈ l, f.id ≠ g.id → clash f g = false
theorem clash_comm (f g : Fd) : clash f g = clash g f := by
 unfold clash
 rw [Bool.eq_iff_iff]
 simp only [Bool.and_eq_true, decide_eq_true_iff, sameB_iff]
 exact ⟨fun h => ⟨h.1.symm, h.2.symm⟩, fun h => ⟨h.1.symm, h.2.symm⟩⟩
theorem namGo_iff : ∀ {l pre : List Fd}, Srt (pre ++ l) → (namGo pre l = true ↔ (∀ f ∈ l, namB f.nm = true) ∧ ∀ f ∈ l, ∀ g ∈ pre ++ l, g.id < f.id → clash f g = false)
 | [], _, _ => by simp [namGo]
 | f :: r, pre, hs => by
  have hs' : Srt ((pre ++ [f]) ++ r) := by simpa using hs
  unfold namGo
  have hlt : ∀ g ∈ pre, g.id < f.id := fun g hg => (List.pairwise_append.1 hs).2.2 g hg f (by simp)
  have hgt : ∀ g ∈ r, f.id < g.id := fun g hg => (List.pairwise_cons.1 (List.pairwise_append.1 hs).2.1).1 g hg
  cases h1 : namB f.nm with
  | false =>
   rw [if_neg (by decide)]
   refine ⟨fun h => (by cases h), fun h => ?_⟩
   have := h.1 f (by simp)
   rw [h1] at this; cases this
  | true =>
   rw [if_pos rfl]
   cases h2 : pre.any (clash f) with
   | true =>
    rw [if_pos rfl]
    refine ⟨fun h => (by cases h), fun h => ?_⟩
    obtain ⟨g, hg, hc⟩ := List.any_eq_true.1 h2
    rw [h.2 f (by simp) g (by simp [hg]) (hlt g hg)] at hc; cases hc
   | false =>
    rw [if_neg (by decide), namGo_iff hs']
    constructor
    ·
     rintro ⟨a, b⟩
     refine ⟨fun g hg => ?_, fun g hg o ho hlo => ?_⟩
     ·
      rcases List.mem_cons.1 hg with rfl | hg
      ·
       exact h1
      ·
       exact a g hg
     ·
      rcases List.mem_cons.1 hg with rfl | hg
      ·
       rcases List.mem_append.1 ho with ho | ho
       ·
        cases hc : clash g o with
        | false => rfl
        | true => rw [List.any_eq_true.2 ⟨o, ho, hc⟩] at h2; cases h2
       ·
        rcases List.mem_cons.1 ho with rfl | ho
        ·
         omega
        ·
         have := hgt o ho; omega
      ·
       exact b g hg o (by simpa using ho) hlo
    ·
     rintro ⟨a, b⟩
     exact ⟨fun g hg => a g (by simp [hg]), fun g hg o ho hlo => b g (by simp [hg]) o (by simpa using ho) hlo⟩
theorem nam_iff (hs : Srt l) : namGo [] l = true ↔ NamOk l := by
 rw [namGo_iff (l := l) (pre := []) (by simpa using hs)]
 unfold NamOk
 refine and_congr Iff.rfl ⟨fun h f hf g hg hne => ?_, fun h f hf g hg hlt => h f hf g (by simpa using hg) (by omega)⟩
 by_cases hlt : g.id < f.id
 ·
  exact h f hf g (by simpa using hg) hlt
 ·
  rw [clash_comm]
  exact h g hg f (by simpa using hf) (by omega)
theorem num_iff : ∀ {l : List Fd} {x a : Int}, numGo x a l = true ↔ Srt l ∧ (∀ f ∈ l, a < f.id ∧ f.id < x) ∧ a < x
 | [], x, a => by simp [numGo, Srt]
 | f :: r, x, a => by
  unfold numGo
  split
  ·
   next h =>
   refine ⟨fun h => (by cases h), fun h' => ?_⟩
   have := (h'.2.1 f (by simp)).1
   omega
  ·
   next h =>
   rw [num_iff]
   unfold Srt
   rw [List.pairwise_cons]
   constructor
   ·
    rintro ⟨h1, h2, h3⟩
    refine ⟨⟨fun g hg => (h2 g hg).1, h1⟩, fun g hg => ?_, by omega⟩
    rcases List.mem_cons.1 hg with rfl | hg
    ·
     exact ⟨by omega, h3⟩
    ·
     have := h2 g hg; exact ⟨by omega, this.2⟩
   ·
    rintro ⟨⟨h1, h2⟩, h3, h4⟩
    exact ⟨h2, fun g hg => ⟨h1 g hg, (h3 g (by simp [hg])).2⟩, (h3 f (by simp)).2⟩
end

/-- a valid schema -/
structure Ok (s : Sc) : Prop where
 srt : Srt s.fs
 pos : ∀ f ∈ s.fs, 0 < f.id
 low : ∀ f ∈ s.fs, f.id < s.next
 nx : 1 ≤ s.next
 big : s.fs.length ≤ 64 ∧ s.next ≤ 1073741824
 typ : ∀ f ∈ s.fs, typB f.ty = true
 plc : ∀ f ∈ s.fs, Up s.fs 7 f.pa
 nam : NamOk s.fs
theorem Ok.num {s : Sc} (h : Ok s) : Num s.fs := ⟨h.srt, h.pos⟩
theorem vld_iff {s : Sc} : vldP s = true ↔ Ok s := by
 unfold vldP
 simp only [Bool.and_eq_true, decide_eq_true_iff]
 constructor
 ·
  rintro ⟨⟨⟨⟨h1, h2⟩, h3⟩, h4⟩, h5⟩
  obtain ⟨a, b, c⟩ := num_iff.1 h2
  exact ⟨a, fun f hf => (b f hf).1, fun f hf => (b f hf).2, by omega, h1, List.all_eq_true.1 h3, (plcs_iff ⟨a, fun f hf => (b f hf).1⟩).1 h4, (nam_iff a).1 h5⟩
 ·
  intro h
  exact ⟨⟨⟨⟨h.big, num_iff.2 ⟨h.srt, fun f hf => ⟨h.pos f hf, h.low f hf⟩, by have := h.nx; omega⟩⟩, List.all_eq_true.2 h.typ⟩, (plcs_iff h.num).2 h.plc⟩, (nam_iff h.srt).2 h.nam⟩
end Go.Proofs.YtfeemipnalgjnaaGreat
namespace Go.Proofs.YtfeemipnalgjnaaGreat
open Go.RowKit

def applyR (s : Sc) (c : Ch) : Sc × Int := if c.kind = 1 then addR s c else if c.kind = 2 then dropR s c else if c.kind = 3 then renR s c else if c.kind = 4 then widR s c else if c.kind = 5 then moveR s c else if c.kind = 6 then splitR s c else if c.kind = 7 then joinR s c else (Sc.zero, 1)
/-- what an edited schema keeps of validity before the last checks -/
structure Pre (s : Sc) : Prop where
 srt : Srt s.fs
 pos : ∀ f ∈ s.fs, 0 < f.id
 low : ∀ f ∈ s.fs, f.id < s.next
 nx : 1 ≤ s.next
 typ : ∀ f ∈ s.fs, typB f.ty = true
theorem Pre.num {s : Sc} (h : Pre s) : Num s.fs := ⟨h.srt, h.pos⟩
theorem Ok.pre {s : Sc} (h : Ok s) : Pre s := ⟨h.srt, h.pos, h.low, h.nx, h.typ⟩
section
variable {l : List Fd} {s : Sc} {f g h : Fd} {i : Int}
theorem mem_drop : f ∈ dropF l i ↔ f ∈ l ∧ f.id ≠ i := by
 unfold dropF
 rw [List.mem_filter]
 simp
theorem mem_put : f ∈ putF l g ↔ (f ∈ l ∧ f.id ≠ g.id) ∨ (f = g ∧ ∃ h ∈ l, h.id = g.id) := by
 unfold putF
 rw [List.mem_map]
 constructor
 ·
  rintro ⟨h, hh, e⟩
  split at e
  ·
   next he => exact .inr ⟨e.symm, h, hh, he⟩
  ·
   next he => subst e; exact .inl ⟨hh, he⟩
 ·
  rintro (⟨h1, h2⟩ | ⟨rfl, h, hh, e⟩)
  ·
   exact ⟨f, h1, by rw [if_neg h2]⟩
  ·
   exact ⟨h, hh, by rw [if_pos e]⟩
theorem drop2_eq (a b : Int) : dropF2 l a b = dropF (dropF l a) b := by
 unfold dropF2 dropF
 rw [List.filter_filter]
 congr 1
 funext f
 unfold dropH
 rw [Bool.and_comm]
 rfl
theorem drop2_same (a : Int) : dropF2 l a a = dropF l a := by
 unfold dropF2 dropF
 congr 1
 funext f
 unfold dropH
 rw [Bool.and_self]
 rfl
theorem pre_with (hp : Pre s) {nm : ByteArray} {ty pa : Int} (ht : typB ty = true) : Pre (withS s nm ty pa) := by
 have hn := hp.nx
 refine ⟨?_, ?_, ?_, by show 1 ≤ s.next + 1; omega, ?_⟩
 ·
  show Srt (s.fs ++ [_])
  unfold Srt
  rw [List.pairwise_append]
  refine ⟨hp.srt, List.pairwise_singleton _ _, fun a ha b hb => ?_⟩
  rw [List.mem_singleton] at hb
  subst hb
  exact hp.low a ha
 ·
  intro f hf
  rcases List.mem_append.1 hf with hf | hf
  ·
   exact hp.pos f hf
  ·
   rw [List.mem_singleton] at hf; subst hf; show 0 < s.next; omega
 ·
  intro f hf
  show f.id < s.next + 1
  rcases List.mem_append.1 hf with hf | hf
  ·
   have := hp.low f hf; omega
  ·
   rw [List.mem_singleton] at hf; subst hf; show s.next < _; omega
 ·
  intro f hf
  rcases List.mem_append.1 hf with hf | hf
  ·
   exact hp.typ f hf
  ·
   rw [List.mem_singleton] at hf; subst hf; exact ht
theorem srt_drop (hs : Srt l) : Srt (dropF l i) := by
 unfold dropF
 exact List.Pairwise.filter _ hs
theorem pre_drop (hp : Pre s) : Pre (dropS s i) :=
 ⟨srt_drop hp.srt, fun f hf => hp.pos f (mem_drop.1 hf).1, fun f hf => hp.low f (mem_drop.1 hf).1, hp.nx, fun f hf => hp.typ f (mem_drop.1 hf).1⟩
theorem srt_put (hs : Srt l) : Srt (putF l g) := by
 unfold Srt putF
 rw [List.pairwise_map]
 refine List.Pairwise.imp ?_ hs
 intro a b hab
 have e : ∀ a : Fd, (if a.id = g.id then g else a).id = a.id := fun a => by
  split
  ·
   next h => exact h.symm
  ·
   rfl
 rw [e, e]
 exact hab
theorem put_ids (hf : f ∈ putF l g) : ∃ h ∈ l, h.id = f.id := by
 rcases mem_put.1 hf with ⟨h1, _⟩ | ⟨rfl, h, h1, h2⟩
 ·
  exact ⟨f, h1, rfl⟩
 ·
  exact ⟨h, h1, h2⟩
theorem pre_put (hp : Pre s) (ht : typB g.ty = true) : Pre (putS s g) := by
 refine ⟨srt_put hp.srt, fun f hf => ?_, fun f hf => ?_, hp.nx, fun f hf => ?_⟩
 ·
  obtain ⟨h, h1, h2⟩ := put_ids hf
  have := hp.pos h h1; omega
 ·
  obtain ⟨h, h1, h2⟩ := put_ids hf
  have := hp.low h h1
  show f.id < s.next
  omega
 ·
  rcases mem_put.1 hf with ⟨h1, _⟩ | ⟨rfl, _⟩
  ·
   exact hp.typ f h1
  ·
   exact ht
theorem tak_iff {a b : Int} : takB l g a b = true ↔ (∃ h ∈ l, h.id ≠ a ∧ h.id ≠ b ∧ clash g h = true) ∨ namB g.nm = false := by
 unfold takB
 rw [Bool.or_eq_true, List.any_eq_true]
 refine or_congr ⟨?_, ?_⟩ (by cases namB g.nm <;> simp)
 ·
  rintro ⟨h, h1, h2⟩
  unfold takH at h2
  simp only [Bool.and_eq_true, bne_iff_ne] at h2
  exact ⟨h, h1, h2.1.2, h2.2, by unfold clash sameB; simp only [Bool.and_eq_true, decide_eq_true_iff]; exact ⟨by simpa using h2.1.1.1, h2.1.1.2⟩⟩
 ·
  rintro ⟨h, h1, h2, h3, h4⟩
  unfold clash sameB at h4
  simp only [Bool.and_eq_true, decide_eq_true_iff] at h4
  refine ⟨h, h1, ?_⟩
  unfold takH
  simp only [Bool.and_eq_true, bne_iff_ne]
  exact ⟨⟨⟨by simpa using h4.1, h4.2⟩, h2⟩, h3⟩
theorem nam_snoc (hl : NamOk l) (hne : ∀ h ∈ l, h.id ≠ g.id) : NamOk (l ++ [g]) ↔ namB g.nm = true ∧ ∀ h ∈ l, clash g h = false := by
 constructor
 ·
  intro hN
  exact ⟨hN.1 g (by simp), fun h hh => hN.2 g (by simp) h (by simp [hh]) (fun e => hne h hh e.symm)⟩
 ·
  rintro ⟨a, b⟩
  refine ⟨fun f hf => ?_, fun f hf o ho hd => ?_⟩
  ·
   rcases List.mem_append.1 hf with hf | hf
   ·
    exact hl.1 f hf
   ·
    rw [List.mem_singleton] at hf; subst hf; exact a
  ·
   rcases List.mem_append.1 hf with hf1 | hf1
   ·
    rcases List.mem_append.1 ho with ho | ho
    ·
     exact hl.2 f hf1 o ho hd
    ·
     rw [List.mem_singleton] at ho; subst ho; rw [clash_comm]; exact b f hf1
   ·
    rw [List.mem_singleton] at hf1
    subst hf1
    rcases List.mem_append.1 ho with ho | ho
    ·
     exact b o ho
    ·
     rw [List.mem_singleton] at ho; subst ho; exact absurd rfl hd
theorem nam_sub {l' : List Fd} (hl : NamOk l) (h : ∀ f ∈ l', f ∈ l) : NamOk l' := ⟨fun f hf => hl.1 f (h f hf), fun f hf g hg hd => hl.2 f (h f hf) g (h g hg) hd⟩
theorem nam_put (_ : Srt l) (hl : NamOk l) (hf : f ∈ l) (he : g.id = f.id) : NamOk (putF l g) ↔ ¬ takB l g g.id g.id = true := by
 rw [tak_iff]
 constructor
 ·
  rintro hN (⟨h, h1, h2, _, h3⟩ | h3)
  ·
   have hg : g ∈ putF l g := mem_put.2 (.inr ⟨rfl, f, hf, he.symm⟩)
   rw [hN.2 g hg h (mem_put.2 (.inl ⟨h1, h2⟩)) (fun e => h2 e.symm)] at h3; cases h3
  ·
   rw [hN.1 g (mem_put.2 (.inr ⟨rfl, f, hf, he.symm⟩))] at h3; cases h3
 ·
  intro hN
  have h1 : namB g.nm = true := by
   cases hb : namB g.nm with
   | true => rfl
   | false => exact absurd (.inr hb) hN
  have h2 : ∀ h ∈ l, h.id ≠ g.id → clash g h = false := fun h hh hd => by
   cases hb : clash g h with
   | false => rfl
   | true => exact absurd (.inl ⟨h, hh, hd, hd, hb⟩) hN
  refine ⟨fun k hk => ?_, fun k hk o ho hd => ?_⟩
  ·
   rcases mem_put.1 hk with ⟨hk, _⟩ | ⟨rfl, _⟩
   ·
    exact hl.1 k hk
   ·
    exact h1
  ·
   rcases mem_put.1 hk with ⟨hk1, hk2⟩ | ⟨rfl, _⟩
   ·
    rcases mem_put.1 ho with ⟨ho1, ho2⟩ | ⟨rfl, _⟩
    ·
     exact hl.2 k hk1 o ho1 hd
    ·
     rw [clash_comm]; exact h2 k hk1 hd
   ·
    rcases mem_put.1 ho with ⟨ho1, ho2⟩ | ⟨rfl, _⟩
    ·
     exact h2 o ho1 (fun e => hd e.symm)
    ·
     exact absurd rfl hd
theorem grp_iff (hs : Srt l) : grpB l i = true ↔ i = 0 ∨ ∃ g ∈ l, g.id = i ∧ g.ty = 6 := by
 unfold grpB
 rw [Bool.or_eq_true, Bool.and_eq_true, decide_eq_true_iff, decide_eq_true_iff]
 refine or_congr Iff.rfl ⟨?_, ?_⟩
 ·
  rintro ⟨h1, h2⟩
  obtain ⟨h3, h4⟩ := fieldD_of h1
  exact ⟨_, h3, h4, h2⟩
 ·
  rintro ⟨g, h1, rfl, h3⟩
  exact ⟨has_iff.2 ⟨g, h1, rfl⟩, by rw [fieldD_eq hs h1]; exact h3⟩
theorem last_err {e : Int} (h : e ≠ 0) : lastE (Sc.zero, e) = (Sc.zero, e) := by
 unfold lastE
 rw [if_neg h]
theorem last_as {t : Sc} {p q r : Prop} [Decidable p] [Decidable q] [Decidable r] (e1 : plcsB t.fs = true ↔ p) (e2 : p → (namGo [] t.fs = true ↔ ¬ q)) (e3 : p → ¬ q → ((t.fs.length ≤ 64 ∧ t.next ≤ 1073741824) ↔ r)) :
  lastE (t, 0) = if p then (if q then (Sc.zero, 60) else if r then (t, 0) else (Sc.zero, 2)) else (Sc.zero, 63) := by
 unfold lastE
 rw [if_pos rfl]
 by_cases hp : p
 ·
  rw [if_pos hp, if_pos (e1.2 hp)]
  by_cases hq : q
  ·
   rw [if_pos hq, if_neg (fun h => (e2 hp).1 h hq)]
  ·
   rw [if_neg hq, if_pos ((e2 hp).2 hq)]
   by_cases hr : r
   ·
    rw [if_pos hr, if_pos ((e3 hp hq).2 hr)]
   ·
    rw [if_neg hr, if_neg (fun h => hr ((e3 hp hq).1 h))]
 ·
  rw [if_neg hp, if_neg (fun h => hp (e1.1 h))]

theorem up_app_inv (ho : Ok s) (hg : g.id = s.next) {m : Nat} {j : Int} (hu : Up (s.fs ++ [g]) m j) : (j = 0 ∨ ∃ f ∈ s.fs, f.id = j) → Up s.fs m j := by
 induction hu with
 | zero => exact fun _ => .zero _
 | step hf ht _ ih =>
  rename_i m f _
  intro hj
  rcases List.mem_append.1 hf with hf | hf
  ·
   refine .step hf ht (ih ?_)
   rcases gp_of_up ho.plc f hf with h | ⟨k, h1, h2, _⟩
   ·
    exact .inl h
   ·
    exact .inr ⟨k, h1, h2⟩
  ·
   rw [List.mem_singleton] at hf
   subst hf
   exfalso
   have := ho.nx
   rcases hj with hj | ⟨k, h1, h2⟩
   ·
    omega
   ·
    have := ho.low k h1; omega
theorem up_app {m : Nat} (ho : Up l m i) : Up (l ++ [g]) m i := up_mono (fun f hf ht => ⟨f, by simp [hf], rfl, ht, rfl⟩) ho
theorem plcs_app (ho : Ok s) {nm : ByteArray} {ty pa : Int} (ht : typB ty = true) : plcsB (withS s nm ty pa).fs = true ↔ (grpB s.fs pa = true ∧ depL s.fs pa < 8) := by
 have hp : Pre (withS s nm ty pa) := pre_with ho.pre ht
 rw [plcs_iff hp.num, grp_iff ho.srt]
 have hd : depL s.fs pa < 8 ↔ Dp s.fs 7 pa := by
  rw [← depL_iff ho.num (k := 7) (by omega)]
  omega
 rw [hd]
 have hnx := ho.nx
 constructor
 ·
  intro h
  have hu : Up (s.fs ++ [⟨s.next, nm, ty, pa⟩]) 7 pa := h ⟨s.next, nm, ty, pa⟩ (by simp [withS])
  rcases up_cases hu with h0 | ⟨f, h1, h2, h3, _⟩
  ·
   exact ⟨.inl h0, by rw [h0]; exact .zero _⟩
  ·
   rcases List.mem_append.1 h1 with h1 | h1
   ·
    exact ⟨.inr ⟨f, h1, h2, h3⟩, dp_of_up (up_app_inv ho rfl hu (.inr ⟨f, h1, h2⟩))⟩
   ·
    rw [List.mem_singleton] at h1
    subst h1
    have h2 : s.next = pa := h2
    subst h2
    exact absurd hu (no_loop (l := s.fs ++ [⟨s.next, nm, ty, s.next⟩]) (f := ⟨s.next, nm, ty, s.next⟩) hp.num (by simp) rfl)
 ·
  rintro ⟨h1, h2⟩ f hf
  have hu := up_of_dp ho.num (gp_of_up ho.plc) h1 h2
  rcases List.mem_append.1 hf with hf | hf
  ·
   exact up_app (ho.plc f hf)
  ·
   rw [List.mem_singleton] at hf; subst hf; exact up_app hu
theorem add_eq (ho : Ok s) {c : Ch} : lastE (addE s c) = addR s c := by
 unfold addE addR
 by_cases ht : typB c.ty = true
 ·
  rw [if_pos ht, if_pos ht]
  refine last_as (plcs_app ho ht) (fun _ => ?_) (fun _ _ => ?_)
  ·
   rw [nam_iff (pre_with ho.pre ht).srt, tak_iff]
   show NamOk (s.fs ++ [_]) ↔ _
   rw [nam_snoc ho.nam (fun h hh => by have := ho.low h hh; show h.id ≠ s.next; omega)]
   constructor
   ·
    rintro ⟨a, b⟩ (⟨h, h1, _, _, h4⟩ | h)
    ·
     have := b h h1
     rw [show clash ⟨s.next, c.nm, c.ty, c.pa⟩ h = clash ⟨0, c.nm, c.ty, c.pa⟩ h from rfl, h4] at this
     cases this
    ·
     have a : namB c.nm = true := a
     have h : namB c.nm = false := h
     rw [a] at h; cases h
   ·
    intro hN
    refine ⟨?_, fun h hh => ?_⟩
    ·
     cases hb : namB c.nm with
     | true => rfl
     | false => exact absurd (.inr hb) hN
    ·
     cases hb : clash ⟨s.next, c.nm, c.ty, c.pa⟩ h with
     | false => rfl
     | true => exact absurd (.inl ⟨h, hh, by have := ho.pos h hh; omega, by have := ho.pos h hh; omega, hb⟩) hN
  ·
   show ((s.fs ++ [_]).length ≤ 64 ∧ s.next + 1 ≤ 1073741824) ↔ _
   rw [List.length_append, List.length_singleton]
   omega
 ·
  rw [if_neg ht, if_neg ht]
  exact last_err (by decide)

theorem child_iff (ho : Ok s) (hf : f ∈ s.fs) : plcsB (dropF s.fs f.id) = true ↔ ¬ s.fs.any (subH f.id) = true := by
 rw [plcs_iff (l := dropF s.fs f.id) (pre_drop (i := f.id) ho.pre).num, List.any_eq_true]
 constructor
 ·
  rintro hu ⟨k, hk, hp⟩
  have hp : k.pa = f.id := by simpa [subH] using hp
  have hne : k.id ≠ f.id := fun e => by
   have := srt_uniq ho.srt hk hf e
   subst this
   exact no_loop ho.num hk hp (by rw [← hp]; exact ho.plc k hk)
  rcases up_cases (hu k (mem_drop.2 ⟨hk, hne⟩)) with h | ⟨o, h1, h2, _⟩
  ·
   have := ho.pos f hf; omega
  ·
   exact (mem_drop.1 h1).2 (by omega)
 ·
  intro hn k hk
  have hno : ∀ k ∈ s.fs, k.pa ≠ f.id := fun k hk e => hn ⟨k, hk, by simp [subH, e]⟩
  exact up_avoid hno (fun o ho hd => mem_drop.2 ⟨ho, hd⟩) (ho.plc k (mem_drop.1 hk).1) (hno k (mem_drop.1 hk).1)
theorem drop_eq (ho : Ok s) {c : Ch} : lastE (dropE s c) = dropR s c := by
 unfold dropE dropR dropR'
 by_cases hh : hasF s.fs c.id = true
 ·
  rw [if_pos hh, if_pos hh]
  obtain ⟨h1, h2⟩ := fieldD_of hh
  generalize fieldD s.fs c.id = f at h1 h2
  have hp := pre_drop (i := f.id) ho.pre
  rw [last_as (t := dropS s f.id) (p := ¬ s.fs.any (subH f.id) = true) (q := False) (r := True) (child_iff ho h1) (fun _ => ?_) (fun _ _ => ?_), drop2_same]
  ·
   by_cases hc : s.fs.any (subH f.id) = true
   ·
    rw [if_pos hc, if_neg (fun h => h hc)]
   ·
    rw [if_neg hc, if_pos hc]; rfl
  ·
   rw [nam_iff hp.srt]
   exact ⟨fun _ h => h, fun _ => nam_sub ho.nam (fun o ho => (mem_drop.1 ho).1)⟩
  ·
   have : (dropF s.fs f.id).length ≤ s.fs.length := List.length_filter_le _ _
   have := ho.big
   exact ⟨fun _ => trivial, fun _ => ⟨by show (dropF s.fs f.id).length ≤ 64; omega, this.2⟩⟩
 ·
  rw [if_neg hh, if_neg hh]
  exact last_err (by decide)
theorem put_lenS (l : List Fd) (g : Fd) : (putF l g).length = l.length := by unfold putF; simp
theorem put_has (hs : Srt l) (hf : f ∈ l) (he : g.id = f.id) (ht : f.ty = 6 → g.ty = 6) (k : Fd) (hk : k ∈ l) (hk6 : k.ty = 6) : ∃ o ∈ putF l g, o.id = k.id ∧ o.ty = 6 := by
 by_cases e : k.id = g.id
 ·
  refine ⟨g, mem_put.2 (.inr ⟨rfl, k, hk, e⟩), e.symm, ht ?_⟩
  rw [← srt_uniq hs hk hf (by omega)]; exact hk6
 ·
  exact ⟨k, mem_put.2 (.inl ⟨hk, e⟩), rfl, hk6⟩
theorem plcs_put (ho : Ok s) (hf : f ∈ s.fs) (he : g.id = f.id) (hp : g.pa = f.pa) (ht : f.ty = 6 → g.ty = 6) : plcsB (putF s.fs g) = true := by
 have hn : Num (putF s.fs g) := ⟨srt_put ho.srt, fun k hk => by
  obtain ⟨o, h1, h2⟩ := put_ids hk
  have := ho.pos o h1; omega⟩
 have hm : ∀ {j : Int}, Up s.fs 7 j → Up (putF s.fs g) 7 j := fun h => up_mono (fun k hk hk6 => by
  by_cases e : k.id = g.id
  ·
   have := srt_uniq ho.srt hk hf (by omega)
   subst this
   exact ⟨g, mem_put.2 (.inr ⟨rfl, k, hk, e⟩), e.symm, ht hk6, hp⟩
  ·
   exact ⟨k, mem_put.2 (.inl ⟨hk, e⟩), rfl, hk6, rfl⟩) h
 rw [plcs_iff hn]
 intro k hk
 rcases mem_put.1 hk with ⟨hk, _⟩ | ⟨rfl, _⟩
 ·
  exact hm (ho.plc k hk)
 ·
  rw [hp]; exact hm (ho.plc f hf)
theorem ren_eq (ho : Ok s) {c : Ch} : lastE (renE s c) = renR s c := by
 unfold renE renR renR'
 by_cases hh : hasF s.fs c.id = true
 ·
  rw [if_pos hh, if_pos hh]
  obtain ⟨h1, h2⟩ := fieldD_of hh
  generalize fieldD s.fs c.id = f at h1 h2
  rw [last_as (t := putS s { f with nm := c.nm }) (p := True) (q := takB s.fs { f with nm := c.nm } f.id f.id = true) (r := True) ⟨fun _ => trivial, fun _ => plcs_put ho h1 rfl rfl id⟩ (fun _ => ?_) (fun _ _ => ?_)]
  ·
   rw [if_pos trivial, if_pos trivial]; rfl
  ·
   show namGo [] (putF s.fs _) = true ↔ _
   rw [nam_iff (srt_put ho.srt)]
   exact nam_put ho.srt ho.nam h1 rfl
  ·
   exact ⟨fun _ => trivial, fun _ => by show (putF s.fs _).length ≤ 64 ∧ _; rw [put_lenS]; exact ho.big⟩
 ·
  rw [if_neg hh, if_neg hh]
  exact last_err (by decide)
theorem wid_eq (ho : Ok s) {c : Ch} : lastE (widE s c) = widR s c := by
 unfold widE widR widR'
 by_cases hh : hasF s.fs c.id = true
 ·
  rw [if_pos hh, if_pos hh]
  obtain ⟨h1, h2⟩ := fieldD_of hh
  generalize fieldD s.fs c.id = f at h1 h2
  by_cases ht : f.ty = 2
  ·
   rw [if_pos ht, if_pos ht]
   rw [last_as (t := putS s { f with ty := 3 }) (p := True) (q := False) (r := True) ⟨fun _ => trivial, fun _ => plcs_put ho h1 rfl rfl (fun h => by rw [ht] at h; cases h)⟩ (fun _ => ?_) (fun _ _ => ?_)]
   ·
    rw [if_pos trivial, if_pos trivial]; rfl
   ·
    show namGo [] (putF s.fs _) = true ↔ _
    rw [nam_iff (srt_put ho.srt), nam_put (f := f) (g := { f with ty := 3 }) ho.srt ho.nam h1 rfl, tak_iff]
    refine ⟨fun _ h => h, fun _ h => ?_⟩
    rcases h with ⟨k, k1, k2, _, k3⟩ | h
    ·
     have := ho.nam.2 f h1 k k1 (fun e => k2 e.symm)
     rw [show clash { f with ty := 3 } k = clash f k from rfl, this] at k3; cases k3
    ·
     have := ho.nam.1 f h1
     have h : namB f.nm = false := h
     rw [this] at h; cases h
   ·
    exact ⟨fun _ => trivial, fun _ => by show (putF s.fs _).length ≤ 64 ∧ _; rw [put_lenS]; exact ho.big⟩
  ·
   rw [if_neg ht, if_neg ht]
   exact last_err (by decide)
 ·
  rw [if_neg hh, if_neg hh]
  exact last_err (by decide)
theorem ins_inv {a : Int} : ∀ {n : Nat} {i : Int}, insG l a n i = true → i ≠ 0 ∧ (i = a ∨ ∃ k, insG l a k (fieldD l i).pa = true)
 | 0, _, h => by simp [insG] at h
 | n + 1, i, h => by
  unfold insG at h
  split at h
  ·
   cases h
  ·
   next h0 =>
   refine ⟨h0, ?_⟩
   split at h
   ·
    next h1 => exact .inl h1
   ·
    exact .inr ⟨n, h⟩
theorem ins_up (ho : Ok s) (he : g.id = f.id) (hi : ∃ k, insG s.fs f.id k g.pa = true) {m : Nat} {j : Int} (hu : Up (putF s.fs g) m j) : ¬ ∃ k, insG s.fs f.id k j = true := by
 induction hu with
 | zero =>
  rintro ⟨k, hk⟩
  exact (ins_inv hk).1 rfl
 | step h1 _ _ ih =>
  rintro ⟨k, hk⟩
  obtain ⟨hj, hk2⟩ := ins_inv hk
  rcases mem_put.1 h1 with ⟨h1, h5⟩ | ⟨rfl, _⟩
  ·
   rcases hk2 with e | hk2
   ·
    omega
   ·
    rw [fieldD_eq ho.srt h1] at hk2
    exact ih hk2
  ·
   exact ih hi
theorem plcs_mov (ho : Ok s) (hf : f ∈ s.fs) {p : Int} : plcsB (putF s.fs { f with pa := p }) = true ↔ (grpB s.fs p = true ∧ insB s.fs p f.id = false) ∧ (putF s.fs { f with pa := p }).all (depOk (putF s.fs { f with pa := p })) = true := by
 obtain ⟨g, hg⟩ : ∃ g : Fd, g = { f with pa := p } := ⟨_, rfl⟩
 have gi : g.id = f.id := by rw [hg]
 have gt : g.ty = f.ty := by rw [hg]
 have gp : g.pa = p := by rw [hg]
 rw [← hg]
 have hn : Num (putF s.fs g) := ⟨srt_put ho.srt, fun k hk => by
  obtain ⟨o, h1, h2⟩ := put_ids hk
  have := ho.pos o h1; omega⟩
 have hgm : g ∈ putF s.fs g := mem_put.2 (.inr ⟨rfl, f, hf, gi.symm⟩)
 have hdep : (putF s.fs g).all (depOk (putF s.fs g)) = true ↔ ∀ k ∈ putF s.fs g, Dp (putF s.fs g) 8 k.id := by
  rw [List.all_eq_true]
  refine ⟨fun h k hk => ?_, fun h k hk => ?_⟩
  ·
   have := h k hk
   unfold depOk at this
   exact (depL_iff hn (k := 8) (by omega)).1 (by simpa using this)
  ·
   unfold depOk
   have := (depL_iff hn (k := 8) (by omega)).2 (h k hk)
   simpa using this
 have hgrp : grpB s.fs p = true ↔ p = 0 ∨ ∃ k ∈ putF s.fs g, k.id = p ∧ k.ty = 6 := by
  rw [grp_iff ho.srt]
  refine or_congr Iff.rfl ⟨?_, ?_⟩
  ·
   rintro ⟨k, h1, h2, h3⟩
   obtain ⟨o, h4, h5, h6⟩ := put_has (g := g) ho.srt hf gi (fun h => by rw [gt]; exact h) k h1 h3
   exact ⟨o, h4, by omega, h6⟩
  ·
   rintro ⟨k, h1, h2, h3⟩
   rcases mem_put.1 h1 with ⟨h1, _⟩ | ⟨rfl, _⟩
   ·
    exact ⟨k, h1, h2, h3⟩
   ·
    exact ⟨f, hf, by omega, by omega⟩
 rw [plcs_iff hn, hdep, hgrp]
 constructor
 ·
  intro h
  have hp := h g hgm
  rw [gp] at hp
  refine ⟨⟨?_, ?_⟩, fun k hk => ?_⟩
  ·
   rcases up_cases hp with h | ⟨k, h1, h2, h3, _⟩
   ·
    exact .inl h
   ·
    exact .inr ⟨k, h1, h2, h3⟩
  ·
   cases hi : insB s.fs p f.id with
   | false => rfl
   | true => exact absurd ⟨9, hi⟩ (ins_up (f := f) ho gi ⟨9, by rw [gp]; exact hi⟩ hp)
  ·
   exact .step hk (dp_of_up (h k hk))
 ·
  rintro ⟨⟨h1, _⟩, h3⟩ k hk
  have hgp : GP (putF s.fs g) := fun k hk => by
   rcases mem_put.1 hk with ⟨hk1, _⟩ | ⟨rfl, _⟩
   ·
    rcases gp_of_up ho.plc k hk1 with h | ⟨o, o1, o2, o3⟩
    ·
     exact .inl h
    ·
     obtain ⟨q, q1, q2, q3⟩ := put_has (g := g) ho.srt hf gi (fun h => by rw [gt]; exact h) o o1 o3
     exact .inr ⟨q, q1, by omega, q3⟩
   ·
    rw [gp]; exact h1
  refine up_of_dp hn hgp (hgp k hk) ?_
  rcases dp_cases (h3 k hk) with h | ⟨o, o1, o2, j, o3, o4⟩
  ·
   have := hn.pos k hk; omega
  ·
   cases o3
   rw [← srt_uniq hn.srt o1 hk o2]; exact o4
theorem mov_eq (ho : Ok s) {c : Ch} : lastE (movE s c) = moveR s c := by
 unfold movE moveR moveR' movR
 by_cases hh : hasF s.fs c.id = true
 ·
  rw [if_pos hh, if_pos hh]
  obtain ⟨h1, h2⟩ := fieldD_of hh
  generalize fieldD s.fs c.id = f at h1 h2
  rw [last_as (t := putS s { f with pa := c.pa }) (p := (grpB s.fs c.pa = true ∧ insB s.fs c.pa f.id = false) ∧ (putF s.fs { f with pa := c.pa }).all (depOk (putF s.fs { f with pa := c.pa })) = true) (q := takB s.fs { f with pa := c.pa } f.id f.id = true) (r := True) (plcs_mov ho h1) (fun _ => ?_) (fun _ _ => ?_)]
  ·
   by_cases ha : grpB s.fs c.pa = true ∧ insB s.fs c.pa f.id = false
   ·
    rw [if_pos ha]
    by_cases hb : (putF s.fs { f with pa := c.pa }).all (depOk (putF s.fs { f with pa := c.pa })) = true
    ·
     rw [if_pos hb, if_pos ⟨ha, hb⟩, if_pos trivial]; rfl
    ·
     rw [if_neg hb, if_neg (fun h => hb h.2)]
   ·
    rw [if_neg ha, if_neg (fun h => ha h.1)]
  ·
   show namGo [] (putF s.fs _) = true ↔ _
   rw [nam_iff (srt_put ho.srt)]
   exact nam_put ho.srt ho.nam h1 rfl
  ·
   exact ⟨fun _ => trivial, fun _ => by show (putF s.fs _).length ≤ 64 ∧ _; rw [put_lenS]; exact ho.big⟩
 ·
  rw [if_neg hh, if_neg hh]
  exact last_err (by decide)

theorem drop_len (hs : Srt l) (hf : f ∈ l) : (dropF l f.id).length + 1 = l.length := by
 induction l with
 | nil => simp at hf
 | cons a r ih =>
  unfold Srt at hs
  rw [List.pairwise_cons] at hs
  unfold dropF
  rw [List.filter_cons]
  rcases List.mem_cons.1 hf with rfl | hf1
  ·
   rw [if_neg (by simp)]
   have : r.filter (fun o => !(o.id == f.id)) = r := List.filter_eq_self.2 (fun o ho => by have := hs.1 o ho; simp; omega)
   rw [this]
   rfl
  ·
   have hne : ¬ a.id = f.id := by have := hs.1 f hf1; omega
   rw [if_pos (by simp [hne])]
   have := ih hs.2 hf1
   unfold dropF at this
   simp [this]
/-- no field has a text for a group -/
theorem no_child (ho : Ok s) (hf : f ∈ s.fs) (ht : f.ty = 4) : ∀ k ∈ s.fs, k.pa ≠ f.id := fun k hk e => by
 rcases up_cases (ho.plc k hk) with h | ⟨o, h1, h2, h3, _⟩
 ·
  have := ho.pos f hf; omega
 ·
  rw [srt_uniq ho.srt h1 hf (by omega)] at h3; omega
theorem ok_drop (ho : Ok s) (hf : f ∈ s.fs) (ht : f.ty = 4) : Ok (dropS s f.id) := by
 have hp := pre_drop (i := f.id) ho.pre
 have hl : (dropF s.fs f.id).length ≤ s.fs.length := List.length_filter_le _ _
 have hb := ho.big
 exact ⟨hp.srt, hp.pos, hp.low, hp.nx, ⟨by show (dropF s.fs f.id).length ≤ 64; omega, hb.2⟩, hp.typ, fun k hk => up_avoid (no_child ho hf ht) (fun o h1 h2 => mem_drop.2 ⟨h1, h2⟩) (ho.plc k (mem_drop.1 hk).1) (no_child ho hf ht k (mem_drop.1 hk).1), nam_sub ho.nam (fun o h => (mem_drop.1 h).1)⟩
theorem plc_drop (ho : Ok s) (hf : f ∈ s.fs) (ht : f.ty = 4) (hk : g ∈ s.fs) : Up (dropF s.fs f.id) 7 g.pa :=
 up_avoid (no_child ho hf ht) (fun _ h1 h2 => mem_drop.2 ⟨h1, h2⟩) (ho.plc g hk) (no_child ho hf ht g hk)
theorem nm_iff {d : List Fd} {x : Int} {nm : ByteArray} {ty pa : Int} : (namB nm = true ∧ ∀ h ∈ d, clash ⟨x, nm, ty, pa⟩ h = false) ↔ ¬ ((∃ h ∈ d, clash ⟨0, nm, ty, pa⟩ h = true) ∨ namB nm = false) := by
 constructor
 ·
  rintro ⟨a, b⟩ (⟨h, h1, h2⟩ | h)
  ·
   rw [show clash ⟨0, nm, ty, pa⟩ h = clash ⟨x, nm, ty, pa⟩ h from rfl, b h h1] at h2; cases h2
  ·
   rw [a] at h; cases h
 ·
  intro hN
  refine ⟨?_, fun h hh => ?_⟩
  ·
   cases hb : namB nm with
   | true => rfl
   | false => exact absurd (.inr hb) hN
  ·
   cases hb : clash ⟨x, nm, ty, pa⟩ h with
   | false => rfl
   | true => exact absurd (.inl ⟨h, hh, hb⟩) hN
theorem tak_drop {a b : Int} : takB l g a b = true ↔ (∃ h ∈ dropF (dropF l a) b, clash g h = true) ∨ namB g.nm = false := by
 rw [tak_iff]
 refine or_congr ⟨?_, ?_⟩ Iff.rfl
 ·
  rintro ⟨h, h1, h2, h3, h4⟩
  exact ⟨h, mem_drop.2 ⟨mem_drop.2 ⟨h1, h2⟩, h3⟩, h4⟩
 ·
  rintro ⟨h, h1, h4⟩
  obtain ⟨h1, h3⟩ := mem_drop.1 h1
  obtain ⟨h1, h2⟩ := mem_drop.1 h1
  exact ⟨h, h1, h2, h3, h4⟩
theorem nam_with (hp : Ok s) {nm : ByteArray} {ty pa : Int} : NamOk (withS s nm ty pa).fs ↔ ¬ ((∃ h ∈ s.fs, clash ⟨0, nm, ty, pa⟩ h = true) ∨ namB nm = false) := by
 rw [← nm_iff (x := s.next)]
 exact nam_snoc hp.nam (fun h hh => by have := hp.low h hh; show h.id ≠ s.next; omega)
theorem drop_drop (l : List Fd) (a : Int) : dropF (dropF l a) a = dropF l a := by rw [← drop2_eq, drop2_same]
theorem spl_eq (ho : Ok s) {c : Ch} : lastE (splE s c) = splitR s c := by
 unfold splE splitR splitR'
 by_cases hh : hasF s.fs c.id = true
 ·
  rw [if_pos hh, if_pos hh]
  obtain ⟨h1, h2⟩ := fieldD_of hh
  generalize fieldD s.fs c.id = f at h1 h2
  by_cases ht : f.ty = 4
  ·
   rw [if_pos ht, if_pos ht]
   by_cases hs : sepB c.sep = true
   ·
    rw [if_pos hs, if_pos hs, drop2_same]
    have hd := ok_drop ho h1 ht
    have t4 : typB 4 = true := by decide
    have p1 := pre_with hd.pre (nm := c.nm) (ty := 4) (pa := f.pa) t4
    have p2 := pre_with p1 (nm := c.ot) (ty := 4) (pa := f.pa) t4
    have hlen := drop_len ho.srt h1
    refine (last_as (p := True) (q := takB s.fs ⟨0, c.nm, 4, f.pa⟩ f.id f.id = true ∨ takB s.fs ⟨0, c.ot, 4, f.pa⟩ f.id f.id = true ∨ (c.nm.toList == c.ot.toList) = true) (r := s.fs.length < 64 ∧ s.next ≤ 1073741822) ?_ (fun _ => ?_) (fun _ _ => ?_)).trans (if_pos trivial)
    ·
     refine ⟨fun _ => trivial, fun _ => (plcs_iff p2.num).2 fun k hk => ?_⟩
     refine up_app (up_app ?_)
     rcases List.mem_append.1 hk with hk | hk
     ·
      rcases List.mem_append.1 hk with hk | hk
      ·
       exact plc_drop ho h1 ht (mem_drop.1 hk).1
      ·
       rw [List.mem_singleton] at hk; subst hk; show Up _ 7 f.pa; exact plc_drop ho h1 ht h1
     ·
      rw [List.mem_singleton] at hk; subst hk; show Up _ 7 f.pa; exact plc_drop ho h1 ht h1
    ·
     rw [nam_iff p2.srt, tak_drop, tak_drop, drop_drop]
     have e1 := nam_with (s := dropS s f.id) (nm := c.nm) (ty := 4) (pa := f.pa) hd
     have hne : ∀ h ∈ (withS (dropS s f.id) c.nm 4 f.pa).fs, h.id ≠ s.next + 1 := fun h hh => by have := p1.low h hh; have : h.id < s.next + 1 := this; omega
     constructor
     ·
      intro hN hq
      have hN1 : NamOk (withS (dropS s f.id) c.nm 4 f.pa).fs := nam_sub hN (fun o h => by show o ∈ _ ++ _; exact List.mem_append.2 (.inl h))
      have hN2 := (nam_snoc hN1 hne).1 hN
      rcases hq with h | h | h
      ·
       exact e1.1 hN1 h
      ·
       rcases h with ⟨o, k1, k2⟩ | h
       ·
        have : clash ⟨0, c.ot, 4, f.pa⟩ o = false := hN2.2 o (by show o ∈ _ ++ _; exact List.mem_append.2 (.inl k1))
        rw [k2] at this; cases this
       ·
        have a : namB c.ot = true := hN2.1
        have h : namB c.ot = false := h
        rw [a] at h; cases h
      ·
       have : clash ⟨0, c.ot, 4, f.pa⟩ ⟨s.next, c.nm, 4, f.pa⟩ = false := hN2.2 ⟨s.next, c.nm, 4, f.pa⟩ (by show _ ∈ _ ++ _; exact List.mem_append.2 (.inr (by simp [dropS])))
       unfold clash sameB at this
       simp only [decide_true, Bool.true_and] at this
       rw [h] at this; cases this
     ·
      intro hq
      have hN1 := e1.2 (fun h => hq (.inl h))
      refine (nam_snoc hN1 hne).2 ⟨?_, fun o hm => ?_⟩
      ·
       cases hb : namB c.ot with
       | true => rfl
       | false => exact absurd (.inr (.inl (.inr hb))) hq
      ·
       show clash ⟨0, c.ot, 4, f.pa⟩ o = false
       cases hb : clash ⟨0, c.ot, 4, f.pa⟩ o with
       | false => rfl
       | true =>
        rcases List.mem_append.1 hm with hm | hm
        ·
         exact absurd (.inr (.inl (.inl ⟨o, hm, hb⟩))) hq
        ·
         rw [List.mem_singleton] at hm
         subst hm
         unfold clash sameB at hb
         simp only [decide_true, Bool.true_and] at hb
         exact absurd (.inr (.inr hb)) hq
    ·
     show (((dropF s.fs f.id ++ [_]) ++ [_]).length ≤ 64 ∧ s.next + 1 + 1 ≤ 1073741824) ↔ _
     rw [List.length_append, List.length_append, List.length_singleton, List.length_singleton]
     omega
   ·
    rw [if_neg hs, if_neg hs]
    exact last_err (by decide)
  ·
   rw [if_neg ht, if_neg ht]
   exact last_err (by decide)
 ·
  rw [if_neg hh, if_neg hh]
  exact last_err (by decide)
theorem joi_eq (ho : Ok s) {c : Ch} : lastE (joiE s c) = joinR s c := by
 unfold joiE joinR joinR'
 by_cases hh : hasF s.fs c.id = true ∧ hasF s.fs c.wi = true ∧ (fieldD s.fs c.id).id ≠ (fieldD s.fs c.wi).id
 ·
  rw [if_pos hh, if_pos hh]
  obtain ⟨h1, h2⟩ := fieldD_of hh.1
  obtain ⟨h3, h4⟩ := fieldD_of hh.2.1
  have hne := hh.2.2
  generalize fieldD s.fs c.id = f at h1 h2 hne
  generalize fieldD s.fs c.wi = g at h3 h4 hne
  by_cases ht : f.ty = 4 ∧ g.ty = 4
  ·
   rw [if_pos ht, if_pos ht]
   by_cases hp : f.pa = g.pa
   ·
    rw [if_pos hp, if_pos hp]
    by_cases hs : sepB c.sep = true
    ·
     rw [if_pos hs, if_pos hs, drop2_eq]
     have hd := ok_drop ho h1 ht.1
     have hg : g ∈ (dropS s f.id).fs := mem_drop.2 ⟨h3, fun e => hne e.symm⟩
     have hd2 := ok_drop hd hg ht.2
     have t4 : typB 4 = true := by decide
     have p1 := pre_with hd2.pre (nm := c.nm) (ty := 4) (pa := f.pa) t4
     have hlen := drop_len ho.srt h1
     have hlen2 : (dropF (dropF s.fs f.id) g.id).length + 1 = (dropF s.fs f.id).length := drop_len hd.srt hg
     have hb := ho.big
     refine (last_as (p := True) (q := takB s.fs ⟨0, c.nm, 4, f.pa⟩ f.id g.id = true) (r := s.next < 1073741824) ?_ (fun _ => ?_) (fun _ _ => ?_)).trans (if_pos trivial)
     ·
      refine ⟨fun _ => trivial, fun _ => (plcs_iff p1.num).2 fun k hk => ?_⟩
      refine up_app ?_
      rcases List.mem_append.1 hk with hk | hk
      ·
       exact hd2.plc k hk
      ·
       rw [List.mem_singleton] at hk
       subst hk
       show Up (dropF (dropF s.fs f.id) g.id) 7 f.pa
       rw [hp]
       exact plc_drop hd hg ht.2 hg
     ·
      rw [nam_iff p1.srt, tak_drop]
      exact nam_with (s := dropS (dropS s f.id) g.id) hd2
     ·
      show ((dropF (dropF s.fs f.id) g.id ++ [_]).length ≤ 64 ∧ s.next + 1 ≤ 1073741824) ↔ _
      rw [List.length_append, List.length_singleton]
      omega
    ·
     rw [if_neg hs, if_neg hs]
     exact last_err (by decide)
   ·
    rw [if_neg hp, if_neg hp]
    exact last_err (by decide)
  ·
   rw [if_neg ht, if_neg ht]
   exact last_err (by decide)
 ·
  rw [if_neg hh, if_neg hh]
  exact last_err (by decide)
/-- for valid schemas the program's Apply is the reference's -/
theorem apply_eq (ho : Ok s) (c : Ch) : applyP s c = applyR s c := by
 unfold applyP applyR editE
 by_cases h1 : c.kind = 1
 ·
  rw [if_pos h1, if_pos h1, if_pos (by omega)]; exact add_eq ho
 by_cases h2 : c.kind = 2
 ·
  rw [if_neg h1, if_neg h1, if_pos h2, if_pos h2, if_pos (by omega)]; exact drop_eq ho
 by_cases h3 : c.kind = 3
 ·
  rw [if_neg h1, if_neg h1, if_neg h2, if_neg h2, if_pos h3, if_pos h3, if_pos (by omega)]; exact ren_eq ho
 by_cases h4 : c.kind = 4
 ·
  rw [if_neg h1, if_neg h1, if_neg h2, if_neg h2, if_neg h3, if_neg h3, if_pos h4, if_pos h4, if_pos (by omega)]; exact wid_eq ho
 by_cases h5 : c.kind = 5
 ·
  rw [if_neg h1, if_neg h1, if_neg h2, if_neg h2, if_neg h3, if_neg h3, if_neg h4, if_neg h4, if_pos h5, if_pos h5, if_pos (by omega)]; exact mov_eq ho
 by_cases h6 : c.kind = 6
 ·
  rw [if_neg h1, if_neg h1, if_neg h2, if_neg h2, if_neg h3, if_neg h3, if_neg h4, if_neg h4, if_neg h5, if_neg h5, if_pos h6, if_pos h6, if_pos (by omega)]; exact spl_eq ho
 rw [if_neg h1, if_neg h1, if_neg h2, if_neg h2, if_neg h3, if_neg h3, if_neg h4, if_neg h4, if_neg h5, if_neg h5, if_neg h6, if_neg h6]
 by_cases h7 : c.kind = 7
 ·
  rw [if_pos h7, if_pos (by omega)]; exact joi_eq ho
 ·
  rw [if_neg h7, if_neg (by omega)]

/-- numbers never return: what a change leaves of the numbers -/
def Keeps (s t : Sc) : Prop := s.next ≤ t.next ∧ ∀ f ∈ t.fs, (∃ g ∈ s.fs, g.id = f.id) ∨ s.next ≤ f.id
theorem keeps_refl (s : Sc) : Keeps s s := ⟨Int.le_refl _, fun f hf => .inl ⟨f, hf, rfl⟩⟩
theorem keeps_trans {s t u : Sc} (h1 : Keeps s t) (h2 : Keeps t u) : Keeps s u := by
 refine ⟨Int.le_trans h1.1 h2.1, fun f hf => ?_⟩
 rcases h2.2 f hf with ⟨g, h3, h4⟩ | h
 ·
  rw [← h4]; exact h1.2 g h3
 ·
  exact .inr (Int.le_trans h1.1 h)
theorem keeps_with (s : Sc) (nm : ByteArray) (ty pa : Int) : Keeps s (withS s nm ty pa) := by
 refine ⟨by show s.next ≤ s.next + 1; omega, fun f hf => ?_⟩
 rcases List.mem_append.1 hf with hf | hf
 ·
  exact .inl ⟨f, hf, rfl⟩
 ·
  rw [List.mem_singleton] at hf; subst hf; exact .inr (Int.le_refl _)
theorem keeps_drop (s : Sc) (i : Int) : Keeps s (dropS s i) := ⟨Int.le_refl _, fun f hf => .inl ⟨f, (mem_drop.1 hf).1, rfl⟩⟩
theorem keeps_put (s : Sc) (g : Fd) : Keeps s (putS s g) := ⟨Int.le_refl _, fun _ hf => .inl (put_ids hf)⟩
theorem edit_ok (ho : Ok s) {c : Ch} (h : (editE s c).2 = 0) : Pre (editE s c).1 ∧ Keeps s (editE s c).1 := by
 have t4 : typB 4 = true := by decide
 unfold editE at h ⊢
 split
 ·
  next hk =>
  rw [if_pos hk] at h
  unfold addE at h ⊢
  split
  ·
   next ht => exact ⟨pre_with ho.pre ht, keeps_with _ _ _ _⟩
  ·
   next ht => rw [if_neg ht] at h; cases h
 next hk =>
 rw [if_neg hk] at h
 split
 ·
  next hk =>
  rw [if_pos hk] at h
  unfold dropE at h ⊢
  split
  ·
   exact ⟨pre_drop ho.pre, keeps_drop _ _⟩
  ·
   next ht => rw [if_neg ht] at h; cases h
 next hk =>
 rw [if_neg hk] at h
 split
 ·
  next hk =>
  rw [if_pos hk] at h
  unfold renE at h ⊢
  split
  ·
   next hh => exact ⟨pre_put ho.pre (show typB (fieldD s.fs c.id).ty = true from ho.typ _ (fieldD_of hh).1), keeps_put _ _⟩
  ·
   next ht => rw [if_neg ht] at h; cases h
 next hk =>
 rw [if_neg hk] at h
 split
 ·
  next hk =>
  rw [if_pos hk] at h
  unfold widE at h ⊢
  split
  ·
   next hh =>
   rw [if_pos hh] at h
   split
   ·
    exact ⟨pre_put ho.pre (show typB 3 = true by decide), keeps_put _ _⟩
   ·
    next ht => rw [if_neg ht] at h; cases h
  ·
   next ht => rw [if_neg ht] at h; cases h
 next hk =>
 rw [if_neg hk] at h
 split
 ·
  next hk =>
  rw [if_pos hk] at h
  unfold movE at h ⊢
  split
  ·
   next hh => exact ⟨pre_put ho.pre (show typB (fieldD s.fs c.id).ty = true from ho.typ _ (fieldD_of hh).1), keeps_put _ _⟩
  ·
   next ht => rw [if_neg ht] at h; cases h
 next hk =>
 rw [if_neg hk] at h
 split
 ·
  next hk =>
  rw [if_pos hk] at h
  unfold splE at h ⊢
  split
  ·
   next hh =>
   rw [if_pos hh] at h
   split
   ·
    next ht =>
    rw [if_pos ht] at h
    split
    ·
     exact ⟨pre_with (pre_with (pre_drop ho.pre) t4) t4, keeps_trans (keeps_drop _ _) (keeps_trans (keeps_with _ _ _ _) (keeps_with _ _ _ _))⟩
    ·
     next hs => rw [if_neg hs] at h; cases h
   ·
    next ht => rw [if_neg ht] at h; cases h
  ·
   next ht => rw [if_neg ht] at h; cases h
 next hk =>
 rw [if_neg hk] at h
 unfold joiE at h ⊢
 split
 ·
  next hh =>
  rw [if_pos hh] at h
  split
  ·
   next ht =>
   rw [if_pos ht] at h
   split
   ·
    next hp =>
    rw [if_pos hp] at h
    split
    ·
     exact ⟨pre_with (pre_drop (pre_drop ho.pre)) t4, keeps_trans (keeps_drop _ _) (keeps_trans (keeps_drop _ _) (keeps_with _ _ _ _))⟩
    ·
     next hs => rw [if_neg hs] at h; cases h
   ·
    next ht => rw [if_neg ht] at h; cases h
  ·
   next ht => rw [if_neg ht] at h; cases h
 ·
  next ht => rw [if_neg ht] at h; cases h
/-- a change of a valid schema that is possible leaves a valid one -/
theorem ok_apply (ho : Ok s) {c : Ch} (h : (applyP s c).2 = 0) : Ok (applyP s c).1 ∧ Keeps s (applyP s c).1 := by
 unfold applyP at h ⊢
 split
 ·
  next hk =>
  rw [if_pos hk] at h
  unfold lastE at h ⊢
  split
  ·
   next h0 =>
   rw [if_pos h0] at h
   obtain ⟨hp, hkeep⟩ := edit_ok ho h0
   split
   ·
    next h1 =>
    rw [if_pos h1] at h
    split
    ·
     next h2 =>
     rw [if_pos h2] at h
     split
     ·
      next h3 => exact ⟨⟨hp.srt, hp.pos, hp.low, hp.nx, h3, hp.typ, (plcs_iff hp.num).1 h1, (nam_iff hp.srt).1 h2⟩, hkeep⟩
     ·
      next h3 => rw [if_neg h3] at h; cases h
    ·
     next h3 => rw [if_neg h3] at h; cases h
   ·
    next h3 => rw [if_neg h3] at h; cases h
  ·
   next h3 => rw [if_neg h3] at h; exact absurd h h3
 ·
  next hk => rw [if_neg hk] at h; cases h
theorem err_apply {c : Ch} (h : (applyP s c).2 ≠ 0) : (applyP s c).1 = Sc.zero := by
 unfold applyP at h ⊢
 split
 ·
  next hk =>
  rw [if_pos hk] at h
  unfold lastE at h ⊢
  split
  ·
   next h0 =>
   rw [if_pos h0] at h
   split
   ·
    next h1 =>
    rw [if_pos h1] at h
    split
    ·
     next h2 =>
     rw [if_pos h2] at h
     split
     ·
      next h3 => rw [if_pos h3] at h; exact absurd rfl h
     ·
      rfl
    ·
     rfl
   ·
    rfl
  ·
   rfl
 ·
  rfl
end
end Go.Proofs.YtfeemipnalgjnaaGreat
namespace Go.Proofs.YtfeemipnalgjnaaGreat
open Go.RowKit

/-- the reference's mod -/
def modR (x n : Int) : Int := if n ≤ 0 then 0 else Int.tmod (Int.tmod x n + n) n
def nameT : List ByteArray := [⟨#[97]⟩, ⟨#[98]⟩, ⟨#[99]⟩, ⟨#[100]⟩, ⟨#[101]⟩, ⟨#[102]⟩]
def nameR (s : ByteArray) : ByteArray := if namB s = true ∧ s.size ≤ 4 then s else nameT.getD (s.size % 6) ⟨#[]⟩
def chgR (s : Sc) (c : Ch) : Ch := ⟨1 + modR c.kind 7, 1 + modR c.id s.next, 1 + modR c.wi s.next, nameR c.nm, nameR c.ot, 1 + modR c.ty 6, if grpB s.fs (modR c.pa s.next) = true then modR c.pa s.next else 0, if sepB c.sep = true then c.sep else ⟨#[45]⟩⟩
def madeG : Sc → List Ch → List Ch
 | _, [] => []
 | s, c :: r => if (applyR s (chgR s c)).2 = 0 then chgR s c :: madeG (applyR s (chgR s c)).1 r else madeG s r
def madeR (l : List Ch) (n : Nat) : List Ch := madeG Sc.new (l.take n)
theorem ok_new : Ok Sc.new := ⟨List.Pairwise.nil, fun _ h => by simp [Sc.new] at h, fun _ h => by simp [Sc.new] at h, by decide, by decide, fun _ h => by simp [Sc.new] at h, fun _ h => by simp [Sc.new] at h, fun _ h => by simp [Sc.new] at h, fun _ h => by simp [Sc.new] at h⟩
theorem aft_ok : ∀ {m : List Ch} {s : Sc} {i : Int}, Ok s → (aft s i m).2.2 = 0 → Ok (aft s i m).1 ∧ Keeps s (aft s i m).1 ∧ (aft s i m).2.1 = i + m.length
 | [], s, i, ho, _ => ⟨ho, keeps_refl s, by simp [aft]⟩
 | c :: r, s, i, ho, h => by
  unfold aft at h ⊢
  by_cases hc : (applyP s c).2 = 0
  ·
   rw [if_pos hc] at h ⊢
   obtain ⟨h1, h2⟩ := ok_apply ho hc
   obtain ⟨h3, h4, h5⟩ := aft_ok h1 h
   exact ⟨h3, keeps_trans h2 h4, by rw [h5, List.length_cons]; omega⟩
  ·
   rw [if_neg hc] at h
   exact absurd h hc
theorem aft_oks : ∀ {m : List Ch} {s : Sc} {i : Int}, Ok s → Ok (aft s i m).1
 | [], _, _, ho => ho
 | c :: r, s, i, ho => by
  unfold aft
  split
  ·
   next hc => exact aft_oks (ok_apply ho hc).1
  ·
   exact ho
theorem aft_append : ∀ {m m' : List Ch} {s : Sc} {i : Int}, (aft s i (m ++ m')).2.2 = 0 → (aft s i m).2.2 = 0 ∧ aft s i (m ++ m') = aft (aft s i m).1 (aft s i m).2.1 m'
 | [], _, _, _, _ => ⟨rfl, rfl⟩
 | c :: r, m', s, i, h => by
  have e : ∀ r, aft s i (c :: r) = if (applyP s c).2 = 0 then aft (applyP s c).1 (i + 1) r else (s, i, (applyP s c).2) := fun _ => rfl
  rw [List.cons_append, e] at h
  rw [List.cons_append, e, e]
  by_cases hc : (applyP s c).2 = 0
  ·
   rw [if_pos hc] at h
   rw [if_pos hc, if_pos hc]
   exact aft_append h
  ·
   rw [if_neg hc] at h
   exact absurd h hc
theorem made_aft : ∀ {l : List Ch} {s : Sc} {i : Int}, Ok s → (aft s i (madeG s l)).2.2 = 0
 | [], _, _, _ => rfl
 | c :: r, s, i, ho => by
  unfold madeG
  split
  ·
   next hc =>
   unfold aft
   have hc' := hc
   rw [← apply_eq ho] at hc'
   rw [if_pos hc', ← apply_eq ho]
   exact made_aft (ok_apply ho hc').1
  ·
   exact made_aft ho
theorem made_len : ∀ {l : List Ch} {s : Sc}, (madeG s l).length ≤ l.length
 | [], _ => Nat.le_refl _
 | c :: r, s => by
  unfold madeG
  split
  ·
   have := made_len (l := r) (s := (applyR s (chgR s c)).1)
   rw [List.length_cons, List.length_cons]; omega
  ·
   have := made_len (l := r) (s := s)
   rw [List.length_cons]; omega
/-- the numbers after the first k changes and after all -/
theorem numbers {l : List Ch} {n k : Nat} : (aftP ((madeR l n).take k)).2.2 = 0 ∧ (aftP (madeR l n)).2.2 = 0 ∧ Ok (aftP ((madeR l n).take k)).1 ∧ Ok (aftP (madeR l n)).1 ∧ Keeps (aftP ((madeR l n).take k)).1 (aftP (madeR l n)).1 := by
 have h0 : (aft Sc.new 0 (madeG Sc.new (l.take n))).2.2 = 0 := made_aft ok_new
 have h1 : (aft Sc.new 0 ((madeR l n).take k ++ (madeR l n).drop k)).2.2 = 0 := by rw [List.take_append_drop]; exact h0
 obtain ⟨h2, h3⟩ := aft_append h1
 rw [List.take_append_drop] at h3
 obtain ⟨h4, _, _⟩ := aft_ok ok_new h2
 have h5 : (aft Sc.new 0 (madeR l n)).2.2 = 0 := h0
 refine ⟨h2, h0, h4, (aft_ok ok_new h5).1, ?_⟩
 unfold aftP
 rw [h3] at h5 ⊢
 exact (aft_ok h4 h5).2.1
end Go.Proofs.YtfeemipnalgjnaaGreat
namespace Go.Proofs.YtfeemipnalgjnaaGreat
open Go.RowKit

theorem alln_fd {l : List Fd} (h : AllN (fun s => s.size ≤ 9223372036854775807) l) (i : Int) : (fieldD l i).nm.size ≤ 9223372036854775807 := by
 by_cases hh : hasF l i = true
 ·
  exact alln_fld h hh
 ·
  have e : field l i = none := by
   unfold hasF at hh
   simpa using hh
  unfold fieldD
  rw [e]
  show (0 : Nat) ≤ _
  omega

set_option maxHeartbeats 2000000 in
set_option maxRecDepth 20000 in
theorem RApply_add (A : Option Addr) (n c : Nat) (x : Int) (l : List Fd) (id wi : Int) (nm ot : ByteArray) (ty pa : Int) (sep : ByteArray) (w : World) (hn : n = l.length) (hs : Fds w w.heap.size A l) (hl0 : n ≤ 1000) (hx0 : 0 ≤ x) (hx1 : x ≤ 2305843009213693952) (hnm : nm.size ≤ 9223372036854775807) (hot : ot.size ≤ 9223372036854775807) (hsep : sep.size ≤ 9223372036854775807) :
  Calls Tryz.prog 13 #[.agg #[.slice A n c, .int .i64 x], .agg #[.int .i64 1, .int .i64 id, .int .i64 wi, .string nm, .string ot, .int .i64 ty, .int .i64 pa, .string sep]] w fun e w' => ResS w w' (addR ⟨l, x⟩ ⟨1, id, wi, nm, ot, ty, pa, sep⟩) e ∧ Below w.heap.size w w' := by
 have HN := Li hn
 have HS := Li hs
 clear hn hs
 have B0 := qB w A n c x 1 id wi nm ot ty pa sep
 have R0 := qR w A n c x 1 id wi nm ot ty pa sep
 have zR0 := R0.out.lt
 go_enter Tryz.func13, Tryz.ntmps13
 obtain ⟨⟨⟨fs2, x2⟩, er⟩, hq⟩ : ∃ r, addR ⟨l, x⟩ ⟨1, id, wi, nm, ot, ty, pa, sep⟩ = r := ⟨_, rfl⟩
 rw [hq]
 have HQ := Li hq
 clear hq
 go_wp2_with (first | (go_at_call 32; refine (Radd_any A n c x l 1 id wi nm ot ty pa sep _ HN.out (HS.out.up B0.out) hl0 hx0 hx1 hnm hot hsep).mono ?_; rintro e w7 ⟨⟨A7, m7, c7, rfl, hm7, ho7⟩, hb7⟩; rw [HQ.out] at hm7 ho7; rw [HQ.out]; have R7 := Li (R0.out.up hb7); have B7 := Li (below_step B0.out B0.out.size hb7); have O7 := Li (ho7.low (b := w.heap.size) B0.out.size); have M7 := Li hm7; have zR7 := R7.out.lt; clear hb7 ho7 hm7) | ((with_reducible show wpList _ _ _ (Oper.mk none (.store _ _ _) _ _ _ _ :: _) _ _); refine wpList_store_cb rfl 35 (.tmp 4) (.tmp 13) rfl (w.heap.size + 1 + 1) [.slice A7 m7 c7, .int .i64 x2] rfl rfl 35 [.slice none 0 0, .int .i64 0] 2 (R7.out) sizeS rfl rfl (one_s _ _ _ _) ?_; intro wz hcz hgz hzz))
 refine bodyPost_ret (res_cell Tryz.results13 rfl rfl hcz Tryz.underlying35 sizeS rfl) rfl ⟨?_, below_grown B7.out hgz (by omega) (by omega)⟩
 exact ⟨A7, m7, c7, rfl, M7.out, O7.out.kept hgz (.inr (Own.ne O7.out R7.out (by decide)).symm)⟩

set_option maxHeartbeats 2000000 in
set_option maxRecDepth 20000 in
theorem RApply_drop (A : Option Addr) (n c : Nat) (x : Int) (l : List Fd) (id wi : Int) (nm ot : ByteArray) (ty pa : Int) (sep : ByteArray) (w : World) (hn : n = l.length) (hs : Fds w w.heap.size A l) (hl0 : n ≤ 1000) (hx0 : 0 ≤ x) (hx1 : x ≤ 2305843009213693952) (hnm : nm.size ≤ 9223372036854775807) (hot : ot.size ≤ 9223372036854775807) (hsep : sep.size ≤ 9223372036854775807) :
  Calls Tryz.prog 13 #[.agg #[.slice A n c, .int .i64 x], .agg #[.int .i64 2, .int .i64 id, .int .i64 wi, .string nm, .string ot, .int .i64 ty, .int .i64 pa, .string sep]] w fun e w' => ResS w w' (dropR ⟨l, x⟩ ⟨2, id, wi, nm, ot, ty, pa, sep⟩) e ∧ Below w.heap.size w w' := by
 have HN := Li hn
 have HS := Li hs
 clear hn hs
 have B0 := qB w A n c x 2 id wi nm ot ty pa sep
 have R0 := qR w A n c x 2 id wi nm ot ty pa sep
 have zR0 := R0.out.lt
 go_enter Tryz.func13, Tryz.ntmps13
 obtain ⟨⟨⟨fs2, x2⟩, er⟩, hq⟩ : ∃ r, dropR ⟨l, x⟩ ⟨2, id, wi, nm, ot, ty, pa, sep⟩ = r := ⟨_, rfl⟩
 rw [hq]
 have HQ := Li hq
 clear hq
 go_wp2_with (first | (go_at_call 33; refine (Rone_drop A n c x l id wi nm ot ty pa sep _ HN.out (HS.out.up B0.out) hl0 hx0 hx1 hnm hot hsep).mono ?_; rintro e w7 ⟨⟨A7, m7, c7, rfl, hm7, ho7⟩, hb7⟩; rw [HQ.out] at hm7 ho7; rw [HQ.out]; have R7 := Li (R0.out.up hb7); have B7 := Li (below_step B0.out B0.out.size hb7); have O7 := Li (ho7.low (b := w.heap.size) B0.out.size); have M7 := Li hm7; have zR7 := R7.out.lt; clear hb7 ho7 hm7) | ((with_reducible show wpList _ _ _ (Oper.mk none (.store _ _ _) _ _ _ _ :: _) _ _); refine wpList_store_cb rfl 35 (.tmp 4) (.tmp 23) rfl (w.heap.size + 1 + 1) [.slice A7 m7 c7, .int .i64 x2] rfl rfl 35 [.slice none 0 0, .int .i64 0] 2 (R7.out) sizeS rfl rfl (one_s _ _ _ _) ?_; intro wz hcz hgz hzz))
 refine bodyPost_ret (res_cell Tryz.results13 rfl rfl hcz Tryz.underlying35 sizeS rfl) rfl ⟨?_, below_grown B7.out hgz (by omega) (by omega)⟩
 exact ⟨A7, m7, c7, rfl, M7.out, O7.out.kept hgz (.inr (Own.ne O7.out R7.out (by decide)).symm)⟩

set_option maxHeartbeats 2000000 in
set_option maxRecDepth 20000 in
theorem RApply_ren (A : Option Addr) (n c : Nat) (x : Int) (l : List Fd) (id wi : Int) (nm ot : ByteArray) (ty pa : Int) (sep : ByteArray) (w : World) (hn : n = l.length) (hs : Fds w w.heap.size A l) (hl0 : n ≤ 1000) (hx0 : 0 ≤ x) (hx1 : x ≤ 2305843009213693952) (hnm : nm.size ≤ 9223372036854775807) (hot : ot.size ≤ 9223372036854775807) (hsep : sep.size ≤ 9223372036854775807) :
  Calls Tryz.prog 13 #[.agg #[.slice A n c, .int .i64 x], .agg #[.int .i64 3, .int .i64 id, .int .i64 wi, .string nm, .string ot, .int .i64 ty, .int .i64 pa, .string sep]] w fun e w' => ResS w w' (renR ⟨l, x⟩ ⟨3, id, wi, nm, ot, ty, pa, sep⟩) e ∧ Below w.heap.size w w' := by
 have HN := Li hn
 have HS := Li hs
 clear hn hs
 have B0 := qB w A n c x 3 id wi nm ot ty pa sep
 have R0 := qR w A n c x 3 id wi nm ot ty pa sep
 have zR0 := R0.out.lt
 go_enter Tryz.func13, Tryz.ntmps13
 obtain ⟨⟨⟨fs2, x2⟩, er⟩, hq⟩ : ∃ r, renR ⟨l, x⟩ ⟨3, id, wi, nm, ot, ty, pa, sep⟩ = r := ⟨_, rfl⟩
 rw [hq]
 have HQ := Li hq
 clear hq
 go_wp2_with (first | (go_at_call 33; refine (Rone_rename A n c x l id wi nm ot ty pa sep _ HN.out (HS.out.up B0.out) hl0 hx0 hx1 hnm hot hsep).mono ?_; rintro e w7 ⟨⟨A7, m7, c7, rfl, hm7, ho7⟩, hb7⟩; rw [HQ.out] at hm7 ho7; rw [HQ.out]; have R7 := Li (R0.out.up hb7); have B7 := Li (below_step B0.out B0.out.size hb7); have O7 := Li (ho7.low (b := w.heap.size) B0.out.size); have M7 := Li hm7; have zR7 := R7.out.lt; clear hb7 ho7 hm7) | ((with_reducible show wpList _ _ _ (Oper.mk none (.store _ _ _) _ _ _ _ :: _) _ _); refine wpList_store_cb rfl 35 (.tmp 4) (.tmp 23) rfl (w.heap.size + 1 + 1) [.slice A7 m7 c7, .int .i64 x2] rfl rfl 35 [.slice none 0 0, .int .i64 0] 2 (R7.out) sizeS rfl rfl (one_s _ _ _ _) ?_; intro wz hcz hgz hzz))
 refine bodyPost_ret (res_cell Tryz.results13 rfl rfl hcz Tryz.underlying35 sizeS rfl) rfl ⟨?_, below_grown B7.out hgz (by omega) (by omega)⟩
 exact ⟨A7, m7, c7, rfl, M7.out, O7.out.kept hgz (.inr (Own.ne O7.out R7.out (by decide)).symm)⟩

set_option maxHeartbeats 2000000 in
set_option maxRecDepth 20000 in
theorem RApply_wid (A : Option Addr) (n c : Nat) (x : Int) (l : List Fd) (id wi : Int) (nm ot : ByteArray) (ty pa : Int) (sep : ByteArray) (w : World) (hn : n = l.length) (hs : Fds w w.heap.size A l) (hl0 : n ≤ 1000) (hx0 : 0 ≤ x) (hx1 : x ≤ 2305843009213693952) (hnm : nm.size ≤ 9223372036854775807) (hot : ot.size ≤ 9223372036854775807) (hsep : sep.size ≤ 9223372036854775807) :
  Calls Tryz.prog 13 #[.agg #[.slice A n c, .int .i64 x], .agg #[.int .i64 4, .int .i64 id, .int .i64 wi, .string nm, .string ot, .int .i64 ty, .int .i64 pa, .string sep]] w fun e w' => ResS w w' (widR ⟨l, x⟩ ⟨4, id, wi, nm, ot, ty, pa, sep⟩) e ∧ Below w.heap.size w w' := by
 have HN := Li hn
 have HS := Li hs
 clear hn hs
 have B0 := qB w A n c x 4 id wi nm ot ty pa sep
 have R0 := qR w A n c x 4 id wi nm ot ty pa sep
 have zR0 := R0.out.lt
 go_enter Tryz.func13, Tryz.ntmps13
 obtain ⟨⟨⟨fs2, x2⟩, er⟩, hq⟩ : ∃ r, widR ⟨l, x⟩ ⟨4, id, wi, nm, ot, ty, pa, sep⟩ = r := ⟨_, rfl⟩
 rw [hq]
 have HQ := Li hq
 clear hq
 go_wp2_with (first | (go_at_call 33; refine (Rone_widen A n c x l id wi nm ot ty pa sep _ HN.out (HS.out.up B0.out) hl0 hx0 hx1 hnm hot hsep).mono ?_; rintro e w7 ⟨⟨A7, m7, c7, rfl, hm7, ho7⟩, hb7⟩; rw [HQ.out] at hm7 ho7; rw [HQ.out]; have R7 := Li (R0.out.up hb7); have B7 := Li (below_step B0.out B0.out.size hb7); have O7 := Li (ho7.low (b := w.heap.size) B0.out.size); have M7 := Li hm7; have zR7 := R7.out.lt; clear hb7 ho7 hm7) | ((with_reducible show wpList _ _ _ (Oper.mk none (.store _ _ _) _ _ _ _ :: _) _ _); refine wpList_store_cb rfl 35 (.tmp 4) (.tmp 23) rfl (w.heap.size + 1 + 1) [.slice A7 m7 c7, .int .i64 x2] rfl rfl 35 [.slice none 0 0, .int .i64 0] 2 (R7.out) sizeS rfl rfl (one_s _ _ _ _) ?_; intro wz hcz hgz hzz))
 refine bodyPost_ret (res_cell Tryz.results13 rfl rfl hcz Tryz.underlying35 sizeS rfl) rfl ⟨?_, below_grown B7.out hgz (by omega) (by omega)⟩
 exact ⟨A7, m7, c7, rfl, M7.out, O7.out.kept hgz (.inr (Own.ne O7.out R7.out (by decide)).symm)⟩

set_option maxHeartbeats 2000000 in
set_option maxRecDepth 20000 in
theorem RApply_mov (A : Option Addr) (n c : Nat) (x : Int) (l : List Fd) (id wi : Int) (nm ot : ByteArray) (ty pa : Int) (sep : ByteArray) (w : World) (hn : n = l.length) (hs : Fds w w.heap.size A l) (hl0 : n ≤ 1000) (hx0 : 0 ≤ x) (hx1 : x ≤ 2305843009213693952) (hnm : nm.size ≤ 9223372036854775807) (hot : ot.size ≤ 9223372036854775807) (hsep : sep.size ≤ 9223372036854775807) (hnl : AllN (fun s => s.size ≤ 9223372036854775807) l) :
  Calls Tryz.prog 13 #[.agg #[.slice A n c, .int .i64 x], .agg #[.int .i64 5, .int .i64 id, .int .i64 wi, .string nm, .string ot, .int .i64 ty, .int .i64 pa, .string sep]] w fun e w' => ResS w w' (moveR ⟨l, x⟩ ⟨5, id, wi, nm, ot, ty, pa, sep⟩) e ∧ Below w.heap.size w w' := by
 have HN := Li hn
 have HS := Li hs
 clear hn hs
 have B0 := qB w A n c x 5 id wi nm ot ty pa sep
 have R0 := qR w A n c x 5 id wi nm ot ty pa sep
 have zR0 := R0.out.lt
 go_enter Tryz.func13, Tryz.ntmps13
 obtain ⟨⟨⟨fs2, x2⟩, er⟩, hq⟩ : ∃ r, moveR ⟨l, x⟩ ⟨5, id, wi, nm, ot, ty, pa, sep⟩ = r := ⟨_, rfl⟩
 rw [hq]
 have HQ := Li hq
 clear hq
 go_wp2_with (first | (go_at_call 33; refine (Rone_move A n c x l id wi nm ot ty pa sep _ HN.out (HS.out.up B0.out) hl0 hx0 hx1 hnm hot hsep (alln_fd hnl id)).mono ?_; rintro e w7 ⟨⟨A7, m7, c7, rfl, hm7, ho7⟩, hb7⟩; rw [HQ.out] at hm7 ho7; rw [HQ.out]; have R7 := Li (R0.out.up hb7); have B7 := Li (below_step B0.out B0.out.size hb7); have O7 := Li (ho7.low (b := w.heap.size) B0.out.size); have M7 := Li hm7; have zR7 := R7.out.lt; clear hb7 ho7 hm7) | ((with_reducible show wpList _ _ _ (Oper.mk none (.store _ _ _) _ _ _ _ :: _) _ _); refine wpList_store_cb rfl 35 (.tmp 4) (.tmp 23) rfl (w.heap.size + 1 + 1) [.slice A7 m7 c7, .int .i64 x2] rfl rfl 35 [.slice none 0 0, .int .i64 0] 2 (R7.out) sizeS rfl rfl (one_s _ _ _ _) ?_; intro wz hcz hgz hzz))
 refine bodyPost_ret (res_cell Tryz.results13 rfl rfl hcz Tryz.underlying35 sizeS rfl) rfl ⟨?_, below_grown B7.out hgz (by omega) (by omega)⟩
 exact ⟨A7, m7, c7, rfl, M7.out, O7.out.kept hgz (.inr (Own.ne O7.out R7.out (by decide)).symm)⟩

set_option maxHeartbeats 2000000 in
set_option maxRecDepth 20000 in
theorem RApply_spl (A : Option Addr) (n c : Nat) (x : Int) (l : List Fd) (id wi : Int) (nm ot : ByteArray) (ty pa : Int) (sep : ByteArray) (w : World) (hn : n = l.length) (hs : Fds w w.heap.size A l) (hl0 : n ≤ 1000) (hx0 : 0 ≤ x) (hx1 : x ≤ 2305843009213693952) (hnm : nm.size ≤ 9223372036854775807) (hot : ot.size ≤ 9223372036854775807) (hsep : sep.size ≤ 9223372036854775807) :
  Calls Tryz.prog 13 #[.agg #[.slice A n c, .int .i64 x], .agg #[.int .i64 6, .int .i64 id, .int .i64 wi, .string nm, .string ot, .int .i64 ty, .int .i64 pa, .string sep]] w fun e w' => ResS w w' (splitR ⟨l, x⟩ ⟨6, id, wi, nm, ot, ty, pa, sep⟩) e ∧ Below w.heap.size w w' := by
 have HN := Li hn
 have HS := Li hs
 clear hn hs
 have B0 := qB w A n c x 6 id wi nm ot ty pa sep
 have R0 := qR w A n c x 6 id wi nm ot ty pa sep
 have zR0 := R0.out.lt
 go_enter Tryz.func13, Tryz.ntmps13
 obtain ⟨⟨⟨fs2, x2⟩, er⟩, hq⟩ : ∃ r, splitR ⟨l, x⟩ ⟨6, id, wi, nm, ot, ty, pa, sep⟩ = r := ⟨_, rfl⟩
 rw [hq]
 have HQ := Li hq
 clear hq
 go_wp2_with (first | (go_at_call 34; refine (Rsplit_any A n c x l 6 id wi nm ot ty pa sep _ HN.out (HS.out.up B0.out) hl0 hx0 hx1 hnm hot hsep).mono ?_; rintro e w7 ⟨⟨A7, m7, c7, rfl, hm7, ho7⟩, hb7⟩; rw [HQ.out] at hm7 ho7; rw [HQ.out]; have R7 := Li (R0.out.up hb7); have B7 := Li (below_step B0.out B0.out.size hb7); have O7 := Li (ho7.low (b := w.heap.size) B0.out.size); have M7 := Li hm7; have zR7 := R7.out.lt; clear hb7 ho7 hm7) | ((with_reducible show wpList _ _ _ (Oper.mk none (.store _ _ _) _ _ _ _ :: _) _ _); refine wpList_store_cb rfl 35 (.tmp 4) (.tmp 30) rfl (w.heap.size + 1 + 1) [.slice A7 m7 c7, .int .i64 x2] rfl rfl 35 [.slice none 0 0, .int .i64 0] 2 (R7.out) sizeS rfl rfl (one_s _ _ _ _) ?_; intro wz hcz hgz hzz))
 refine bodyPost_ret (res_cell Tryz.results13 rfl rfl hcz Tryz.underlying35 sizeS rfl) rfl ⟨?_, below_grown B7.out hgz (by omega) (by omega)⟩
 exact ⟨A7, m7, c7, rfl, M7.out, O7.out.kept hgz (.inr (Own.ne O7.out R7.out (by decide)).symm)⟩

set_option maxHeartbeats 2000000 in
set_option maxRecDepth 20000 in
theorem RApply_joi (A : Option Addr) (n c : Nat) (x : Int) (l : List Fd) (id wi : Int) (nm ot : ByteArray) (ty pa : Int) (sep : ByteArray) (w : World) (hn : n = l.length) (hs : Fds w w.heap.size A l) (hl0 : n ≤ 1000) (hx0 : 0 ≤ x) (hx1 : x ≤ 2305843009213693952) (hnm : nm.size ≤ 9223372036854775807) (hot : ot.size ≤ 9223372036854775807) (hsep : sep.size ≤ 9223372036854775807) :
  Calls Tryz.prog 13 #[.agg #[.slice A n c, .int .i64 x], .agg #[.int .i64 7, .int .i64 id, .int .i64 wi, .string nm, .string ot, .int .i64 ty, .int .i64 pa, .string sep]] w fun e w' => ResS w w' (joinR ⟨l, x⟩ ⟨7, id, wi, nm, ot, ty, pa, sep⟩) e ∧ Below w.heap.size w w' := by
 have HN := Li hn
 have HS := Li hs
 clear hn hs
 have B0 := qB w A n c x 7 id wi nm ot ty pa sep
 have R0 := qR w A n c x 7 id wi nm ot ty pa sep
 have zR0 := R0.out.lt
 go_enter Tryz.func13, Tryz.ntmps13
 obtain ⟨⟨⟨fs2, x2⟩, er⟩, hq⟩ : ∃ r, joinR ⟨l, x⟩ ⟨7, id, wi, nm, ot, ty, pa, sep⟩ = r := ⟨_, rfl⟩
 rw [hq]
 have HQ := Li hq
 clear hq
 go_wp2_with (first | (go_at_call 35; refine (Rjoin_any A n c x l 7 id wi nm ot ty pa sep _ HN.out (HS.out.up B0.out) hl0 hx0 hx1 hnm hot hsep).mono ?_; rintro e w7 ⟨⟨A7, m7, c7, rfl, hm7, ho7⟩, hb7⟩; rw [HQ.out] at hm7 ho7; rw [HQ.out]; have R7 := Li (R0.out.up hb7); have B7 := Li (below_step B0.out B0.out.size hb7); have O7 := Li (ho7.low (b := w.heap.size) B0.out.size); have M7 := Li hm7; have zR7 := R7.out.lt; clear hb7 ho7 hm7) | ((with_reducible show wpList _ _ _ (Oper.mk none (.store _ _ _) _ _ _ _ :: _) _ _); refine wpList_store_cb rfl 35 (.tmp 4) (.tmp 37) rfl (w.heap.size + 1 + 1) [.slice A7 m7 c7, .int .i64 x2] rfl rfl 35 [.slice none 0 0, .int .i64 0] 2 (R7.out) sizeS rfl rfl (one_s _ _ _ _) ?_; intro wz hcz hgz hzz))
 refine bodyPost_ret (res_cell Tryz.results13 rfl rfl hcz Tryz.underlying35 sizeS rfl) rfl ⟨?_, below_grown B7.out hgz (by omega) (by omega)⟩
 exact ⟨A7, m7, c7, rfl, M7.out, O7.out.kept hgz (.inr (Own.ne O7.out R7.out (by decide)).symm)⟩

set_option maxHeartbeats 2000000 in
set_option maxRecDepth 20000 in
theorem RApply_none (A : Option Addr) (n c : Nat) (x : Int) (l : List Fd) (kd id wi : Int) (nm ot : ByteArray) (ty pa : Int) (sep : ByteArray) (w : World) (hn : n = l.length) (hs : Fds w w.heap.size A l) (_hl0 : n ≤ 1000) (_hx0 : 0 ≤ x) (_hx1 : x ≤ 2305843009213693952) (_hnm : nm.size ≤ 9223372036854775807) (_hot : ot.size ≤ 9223372036854775807) (_hsep : sep.size ≤ 9223372036854775807) (hk : ¬ (1 ≤ kd ∧ kd ≤ 7)) :
  Calls Tryz.prog 13 #[.agg #[.slice A n c, .int .i64 x], .agg #[.int .i64 kd, .int .i64 id, .int .i64 wi, .string nm, .string ot, .int .i64 ty, .int .i64 pa, .string sep]] w fun e w' => ResS w w' (Sc.zero, 1) e ∧ Below w.heap.size w w' := by
 have k1 : (kd == 1) = false := by simp; omega
 have k2 : (kd == 2) = false := by simp; omega
 have k3 : (kd == 3) = false := by simp; omega
 have k4 : (kd == 4) = false := by simp; omega
 have k5 : (kd == 5) = false := by simp; omega
 have k6 : (kd == 6) = false := by simp; omega
 have k7 : (kd == 7) = false := by simp; omega
 clear hk
 have HN := Li hn
 have HS := Li hs
 clear hn hs
 have B0 := qB w A n c x kd id wi nm ot ty pa sep
 have R0 := qR w A n c x kd id wi nm ot ty pa sep
 have zR0 := R0.out.lt
 go_enter Tryz.func13, Tryz.ntmps13
 go_wp2_with (first | ((with_reducible show wpList _ _ _ (Oper.mk none (.store _ _ _) _ _ _ _ :: _) _ _); refine wpList_store_cb rfl 35 (.tmp 4) (.tmp 39) rfl (w.heap.size + 1 + 1) [.slice none 0 0, .int .i64 0] rfl rfl 35 [.slice none 0 0, .int .i64 0] 2 (R0.out) sizeS rfl rfl (one_s _ _ _ _) ?_; intro wz hcz hgz hzz))
 refine bodyPost_ret (res_cell Tryz.results13 rfl rfl hcz Tryz.underlying35 sizeS rfl) rfl ⟨?_, below_grown B0.out hgz B0.out.size (by omega)⟩
 exact res_zero _ _ _
theorem RApply_any (A : Option Addr) (n c : Nat) (x : Int) (l : List Fd) (kd id wi : Int) (nm ot : ByteArray) (ty pa : Int) (sep : ByteArray) (w : World) (hn : n = l.length) (hs : Fds w w.heap.size A l) (hl0 : n ≤ 1000) (hx0 : 0 ≤ x) (hx1 : x ≤ 2305843009213693952) (hnm : nm.size ≤ 9223372036854775807) (hot : ot.size ≤ 9223372036854775807) (hsep : sep.size ≤ 9223372036854775807) (hnl : AllN (fun s => s.size ≤ 9223372036854775807) l) :
  Calls Tryz.prog 13 #[.agg #[.slice A n c, .int .i64 x], .agg #[.int .i64 kd, .int .i64 id, .int .i64 wi, .string nm, .string ot, .int .i64 ty, .int .i64 pa, .string sep]] w fun e w' => ResS w w' (applyR ⟨l, x⟩ ⟨kd, id, wi, nm, ot, ty, pa, sep⟩) e ∧ Below w.heap.size w w' := by
 by_cases hk : 1 ≤ kd ∧ kd ≤ 7
 ·
  have h : kd = 1 ∨ kd = 2 ∨ kd = 3 ∨ kd = 4 ∨ kd = 5 ∨ kd = 6 ∨ kd = 7 := by omega
  rcases h with rfl | rfl | rfl | rfl | rfl | rfl | rfl
  ·
   exact RApply_add A n c x l id wi nm ot ty pa sep w hn hs hl0 hx0 hx1 hnm hot hsep
  ·
   exact RApply_drop A n c x l id wi nm ot ty pa sep w hn hs hl0 hx0 hx1 hnm hot hsep
  ·
   exact RApply_ren A n c x l id wi nm ot ty pa sep w hn hs hl0 hx0 hx1 hnm hot hsep
  ·
   exact RApply_wid A n c x l id wi nm ot ty pa sep w hn hs hl0 hx0 hx1 hnm hot hsep
  ·
   exact RApply_mov A n c x l id wi nm ot ty pa sep w hn hs hl0 hx0 hx1 hnm hot hsep hnl
  ·
   exact RApply_spl A n c x l id wi nm ot ty pa sep w hn hs hl0 hx0 hx1 hnm hot hsep
  ·
   exact RApply_joi A n c x l id wi nm ot ty pa sep w hn hs hl0 hx0 hx1 hnm hot hsep
 ·
  have h := RApply_none A n c x l kd id wi nm ot ty pa sep w hn hs hl0 hx0 hx1 hnm hot hsep hk
  have e : applyR ⟨l, x⟩ ⟨kd, id, wi, nm, ot, ty, pa, sep⟩ = (Sc.zero, 1) := by
   unfold applyR
   simp only
   rw [if_neg (by omega), if_neg (by omega), if_neg (by omega), if_neg (by omega), if_neg (by omega), if_neg (by omega), if_neg (by omega)]
  rw [e]
  exact h
end Go.Proofs.YtfeemipnalgjnaaGreat
