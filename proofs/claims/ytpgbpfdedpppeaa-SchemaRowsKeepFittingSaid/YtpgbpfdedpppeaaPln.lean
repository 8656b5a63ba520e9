/-
  Valid schemas, by what their fields are like (plain).
-/
import Derived.Test.YtpgbpfdedpppeaaFindP
import Derived.Test.YtpgbpfdedpppeaaRGrp
import Derived.Test.YtpgbpfdedpppeaaRTak
namespace Go.Proofs.Ytpgbpfdedpppeaa
open Go.RowKit

/-- numbers increase -/
def Srt (l : List Fd) : Prop := l.Pairwise fun f g => f.id < g.id
theorem srt_uniq : ∀ {l : List Fd}, Srt l → ∀ {f g : Fd}, f ∈ l → g ∈ l → f.id = g.id → f = g
  | [], _, _, _, h, _, _ => by simp at h
  | a :: r, hs, f, g, hf, hg, e => by
    unfold Srt at hs
    rw [List.pairwise_cons] at hs
    rcases List.mem_cons.1 hf with rfl | hf1
    · rcases List.mem_cons.1 hg with rfl | hg1
      · rfl
      · exact absurd e (by have := hs.1 g hg1; omega)
    · rcases List.mem_cons.1 hg with rfl | hg1
      · exact absurd e (by have := hs.1 f hf1; omega)
      · exact srt_uniq hs.2 hf1 hg1 e
theorem field_iff {l : List Fd} (hs : Srt l) {i : Int} {f : Fd} : field l i = some f ↔ f ∈ l ∧ f.id = i := by
  constructor
  · exact field_mem
  · rintro ⟨hf, rfl⟩
    cases h : field l f.id with
    | none => exact absurd rfl (field_none.1 h f hf)
    | some g =>
      have := field_mem h
      rw [srt_uniq hs this.1 hf this.2]
theorem has_iff {l : List Fd} {i : Int} : hasF l i = true ↔ ∃ f ∈ l, f.id = i := by
  unfold hasF
  constructor
  · intro h
    obtain ⟨f, hf⟩ := Option.isSome_iff_exists.1 h
    exact ⟨f, field_mem hf⟩
  · rintro ⟨f, hf, e⟩
    cases h : field l i with
    | none => exact absurd e (field_none.1 h f hf)
    | some g => rfl
theorem fieldD_of {l : List Fd} {i : Int} (h : hasF l i = true) : fieldD l i ∈ l ∧ (fieldD l i).id = i := by
  unfold hasF at h
  unfold fieldD
  obtain ⟨f, hf⟩ := Option.isSome_iff_exists.1 h
  rw [hf]
  exact field_mem hf
theorem fieldD_eq {l : List Fd} (hs : Srt l) {f : Fd} (hf : f ∈ l) : fieldD l f.id = f := by
  unfold fieldD
  rw [(field_iff hs).2 ⟨hf, rfl⟩]
  rfl
theorem fieldG_mem' {fi : Bool} : ∀ {l : List Fd} {i : Int} {f : Fd}, fieldG fi l i = some f → f ∈ l ∧ f.id = i ∧ (fi = true ∨ f.ty = 6)
  | [], _, _, h => by simp [fieldG] at h
  | g :: r, i, f, h => by
    unfold fieldG at h
    split at h
    · next hg => cases h; exact ⟨by simp, hg⟩
    · have := fieldG_mem' h; exact ⟨by simp [this.1], this.2⟩
theorem fieldG_none' {fi : Bool} : ∀ {l : List Fd} {i : Int}, fieldG fi l i = none → ∀ f ∈ l, ¬ (f.id = i ∧ (fi = true ∨ f.ty = 6))
  | [], _, _ => by simp
  | g :: r, i, h => by
    unfold fieldG at h
    split at h
    · cases h
    · next hg =>
      intro f hf
      rcases List.mem_cons.1 hf with rfl | hf
      · exact hg
      · exact fieldG_none' h f hf

/-- groups lead from a number to 0, m at most -/
inductive Up (l : List Fd) : Nat → Int → Prop
  | zero (m : Nat) : Up l m 0
  | step {m : Nat} {f : Fd} (hf : f ∈ l) (ht : f.ty = 6) (h : Up l m f.pa) : Up l (m + 1) f.id
/-- fields lead from a number to 0, m at most -/
inductive Dp (l : List Fd) : Nat → Int → Prop
  | zero (m : Nat) : Dp l m 0
  | step {m : Nat} {f : Fd} (hf : f ∈ l) (h : Dp l m f.pa) : Dp l (m + 1) f.id
/-- what lists of fields have in common: numbers increase and are positive -/
structure Num (l : List Fd) : Prop where
  srt : Srt l
  pos : ∀ f ∈ l, 0 < f.id
section
variable {l l' : List Fd}
theorem up_cases {m : Nat} {i : Int} (h : Up l m i) : i = 0 ∨ ∃ f ∈ l, f.id = i ∧ f.ty = 6 ∧ ∃ k, m = k + 1 ∧ Up l k f.pa := by
  cases h with
  | zero => exact .inl rfl
  | step hf ht h => exact .inr ⟨_, hf, rfl, ht, _, rfl, h⟩
theorem dp_cases {m : Nat} {i : Int} (h : Dp l m i) : i = 0 ∨ ∃ f ∈ l, f.id = i ∧ ∃ k, m = k + 1 ∧ Dp l k f.pa := by
  cases h with
  | zero => exact .inl rfl
  | step hf h => exact .inr ⟨_, hf, rfl, _, rfl, h⟩
theorem anc_iff (hn : Num l) : ∀ {m : Nat} {i : Int}, (anc l m false i).2 = 0 ↔ Up l m i
  | 0, i => by
    unfold anc
    constructor
    · rintro rfl; exact .zero _
    · intro h
      rcases up_cases h with h | ⟨_, _, _, _, k, hk, _⟩
      · exact h
      · cases hk
  | m + 1, i => by
    unfold anc
    by_cases h0 : i = 0
    · subst h0
      rw [if_pos rfl]
      exact ⟨fun _ => .zero _, fun _ => rfl⟩
    · rw [if_neg h0]
      cases hf : fieldG false l i with
      | none =>
        simp only
        refine ⟨fun h => absurd h h0, fun h => ?_⟩
        rcases up_cases h with h | ⟨f, hf1, hf2, hf3, _⟩
        · exact h
        · exact absurd ⟨hf2, .inr hf3⟩ (fieldG_none' hf f hf1)
      | some f =>
        simp only
        obtain ⟨h1, h2, h3⟩ := fieldG_mem' hf
        have h3 : f.ty = 6 := by simpa using h3
        rw [anc_iff hn]
        constructor
        · intro h; rw [← h2]; exact .step h1 h3 h
        · intro h
          rcases up_cases h with h | ⟨g, hg1, hg2, hg3, k, hk, hg4⟩
          · exact absurd h h0
          · cases hk
            rw [srt_uniq hn.srt h1 hg1 (by omega)]
            exact hg4
theorem plc_iff (hn : Num l) {f : Fd} (hf : f ∈ l) : plcB l f = true ↔ Up l 7 f.pa := by
  unfold plcB
  rw [decide_eq_true_iff]
  unfold anc
  have h0 : ¬ f.id = 0 := by have := hn.pos f hf; omega
  rw [if_neg h0]
  cases hg : fieldG true l f.id with
  | none => exact absurd ⟨rfl, .inl rfl⟩ (fieldG_none' hg f hf)
  | some g =>
    simp only
    have := fieldG_mem' hg
    rw [srt_uniq hn.srt this.1 hf this.2.1]
    exact anc_iff hn
theorem plcs_iff (hn : Num l) : plcsB l = true ↔ ∀ f ∈ l, Up l 7 f.pa := by
  unfold plcsB
  rw [List.all_eq_true]
  exact ⟨fun h f hf => (plc_iff hn hf).1 (h f hf), fun h f hf => (plc_iff hn hf).2 (h f hf)⟩
theorem dep_iff (hn : Num l) : ∀ {m k : Nat} {i n : Int}, k < m → n + m = 9 → (depG l m i n ≤ n + k ↔ Dp l k i)
  | 0, k, i, n, hk, _ => by omega
  | m + 1, k, i, n, hk, he => by
    unfold depG
    by_cases h0 : i = 0
    · subst h0
      rw [if_pos rfl]
      exact ⟨fun _ => .zero _, fun _ => by omega⟩
    · rw [if_neg h0]
      cases hh : hasF l i with
      | false =>
        rw [if_neg (by decide)]
        refine ⟨fun h => by omega, fun h => ?_⟩
        rcases dp_cases h with h | ⟨f, hf1, hf2, _⟩
        · exact absurd h h0
        · rw [has_iff.2 ⟨f, hf1, hf2⟩] at hh; cases hh
      | true =>
        rw [if_pos rfl]
        obtain ⟨h1, h2⟩ := fieldD_of hh
        generalize fieldD l i = f at h1 h2
        cases k with
        | zero =>
          constructor
          · intro h
            have := dep_ge (l := l) (m := m) (i := f.pa) (n := n + 1) (by omega)
            omega
          · intro h
            rcases dp_cases h with h | ⟨_, _, _, k, hk, _⟩
            · exact absurd h h0
            · cases hk
        | succ k =>
          have := dep_iff hn (m := m) (k := k) (i := f.pa) (n := n + 1) (by omega) (by omega)
          rw [show n + ((k + 1 : Nat) : Int) = n + 1 + (k : Int) by omega, this]
          constructor
          · intro h; rw [← h2]; exact .step h1 h
          · intro h
            rcases dp_cases h with h | ⟨g, hg1, hg2, k', hk', hg4⟩
            · exact absurd h h0
            · cases hk'
              rw [srt_uniq hn.srt h1 hg1 (by omega)]
              exact hg4
where
  dep_ge {l : List Fd} : ∀ {m : Nat} {i n : Int}, n + m ≤ 9 → n ≤ depG l m i n
    | 0, _, _, _ => Int.le_refl _
    | m + 1, i, n, h => by
      unfold depG
      split
      · exact Int.le_refl _
      · split
        · have := dep_ge (l := l) (m := m) (i := (fieldD l i).pa) (n := n + 1) (by omega)
          omega
        · omega
theorem depL_iff (hn : Num l) {k : Nat} {i : Int} (hk : k ≤ 8) : depL l i ≤ k ↔ Dp l k i := by
  have := dep_iff hn (m := 9) (k := k) (i := i) (n := 0) (by omega) (by omega)
  unfold depL
  rw [← this]
  omega
/-- parents are groups -/
def GP (l : List Fd) : Prop := ∀ f ∈ l, f.pa = 0 ∨ ∃ g ∈ l, g.id = f.pa ∧ g.ty = 6
theorem up_of_dp (hn : Num l) (hg : GP l) : ∀ {m : Nat} {i : Int}, (i = 0 ∨ ∃ g ∈ l, g.id = i ∧ g.ty = 6) → Dp l m i → Up l m i := by
  intro m i hi h
  induction h with
  | zero => exact .zero _
  | step hf h ih =>
    rename_i m f
    refine .step hf ?_ (ih (hg f hf))
    rcases hi with hi | ⟨g, h1, h2, h3⟩
    · exact absurd hi (by have := hn.pos f hf; omega)
    · rw [← srt_uniq hn.srt h1 hf h2]; exact h3
theorem dp_of_up {m : Nat} {i : Int} (h : Up l m i) : Dp l m i := by
  induction h with
  | zero => exact .zero _
  | step hf ht h ih => exact .step hf ih
theorem gp_of_up (h : ∀ f ∈ l, Up l 7 f.pa) : GP l := fun f hf => by
  rcases up_cases (h f hf) with h | ⟨g, h1, h2, h3, _⟩
  · exact .inl h
  · exact .inr ⟨g, h1, h2, h3⟩
theorem up_mono (h : ∀ f ∈ l, f.ty = 6 → ∃ g ∈ l', g.id = f.id ∧ g.ty = 6 ∧ g.pa = f.pa) {m : Nat} {i : Int} (hu : Up l m i) : Up l' m i := by
  induction hu with
  | zero => exact .zero _
  | step hf ht _ ih =>
    obtain ⟨g, h1, h2, h3, h4⟩ := h _ hf ht
    rw [← h2]
    exact .step h1 h3 (by rw [h4]; exact ih)
theorem up_more {m : Nat} {i : Int} (hu : Up l m i) : ∀ {k : Nat}, m ≤ k → Up l k i := by
  induction hu with
  | zero => exact fun _ => .zero _
  | step hf ht _ ih =>
    intro k hk
    obtain ⟨k, rfl⟩ : ∃ j, k = j + 1 := ⟨k - 1, by omega⟩
    exact .step hf ht (ih (by omega))
/-- where a climb goes that meets no field of number i -/
theorem up_avoid {i : Int} (hi : ∀ f ∈ l, f.pa ≠ i) (h : ∀ f ∈ l, f.id ≠ i → f ∈ l') {m : Nat} {j : Int} (hu : Up l m j) : j ≠ i → Up l' m j := by
  induction hu with
  | zero => exact fun _ => .zero _
  | step hf ht _ ih => exact fun hj => .step (h _ hf hj) ht (ih (hi _ hf))
theorem no_loop (hn : Num l) {f : Fd} (hf : f ∈ l) (he : f.pa = f.id) : ∀ {m : Nat}, ¬ Up l m f.id := by
  intro m
  induction m with
  | zero =>
    intro h
    rcases up_cases h with h | ⟨_, _, _, _, k, hk, _⟩
    · have := hn.pos f hf; omega
    · cases hk
  | succ m ih =>
    intro h
    rcases up_cases h with h | ⟨g, h1, h2, _, k, hk, h3⟩
    · have := hn.pos f hf; omega
    · cases hk
      rw [srt_uniq hn.srt h1 hf h2, he] at h3
      exact ih h3

/-- the names of a list of fields: each is one, and none twice in a group -/
def NamOk (l : List Fd) : Prop := (∀ f ∈ l, namB f.nm = true) ∧ ∀ f ∈ l, ∀ g ∈ l, f.id ≠ g.id → clash f g = false
theorem clash_comm (f g : Fd) : clash f g = clash g f := by
  unfold clash
  rw [Bool.eq_iff_iff]
  simp only [Bool.and_eq_true, decide_eq_true_iff, sameB_iff]
  exact ⟨fun h => ⟨h.1.symm, h.2.symm⟩, fun h => ⟨h.1.symm, h.2.symm⟩⟩
theorem namGo_iff : ∀ {l pre : List Fd}, Srt (pre ++ l) → (namGo pre l = true ↔ (∀ f ∈ l, namB f.nm = true) ∧ ∀ f ∈ l, ∀ g ∈ pre ++ l, g.id < f.id → clash f g = false)
  | [], _, _ => by simp [namGo]
  | f :: r, pre, hs => by
    have hs' : Srt ((pre ++ [f]) ++ r) := by simpa using hs
    unfold namGo
    have hlt : ∀ g ∈ pre, g.id < f.id := fun g hg => (List.pairwise_append.1 hs).2.2 g hg f (by simp)
    have hgt : ∀ g ∈ r, f.id < g.id := fun g hg => (List.pairwise_cons.1 (List.pairwise_append.1 hs).2.1).1 g hg
    cases h1 : namB f.nm with
    | false =>
      rw [if_neg (by decide)]
      refine ⟨fun h => (by cases h), fun h => ?_⟩
      have := h.1 f (by simp)
      rw [h1] at this; cases this
    | true =>
      rw [if_pos rfl]
      cases h2 : pre.any (clash f) with
      | true =>
        rw [if_pos rfl]
        refine ⟨fun h => (by cases h), fun h => ?_⟩
        obtain ⟨g, hg, hc⟩ := List.any_eq_true.1 h2
        rw [h.2 f (by simp) g (by simp [hg]) (hlt g hg)] at hc; cases hc
      | false =>
        rw [if_neg (by decide), namGo_iff hs']
        constructor
        · rintro ⟨a, b⟩
          refine ⟨fun g hg => ?_, fun g hg o ho hlo => ?_⟩
          · rcases List.mem_cons.1 hg with rfl | hg
            · exact h1
            · exact a g hg
          · rcases List.mem_cons.1 hg with rfl | hg
            · rcases List.mem_append.1 ho with ho | ho
              · cases hc : clash g o with
                | false => rfl
                | true => rw [List.any_eq_true.2 ⟨o, ho, hc⟩] at h2; cases h2
              · rcases List.mem_cons.1 ho with rfl | ho
                · omega
                · have := hgt o ho; omega
            · exact b g hg o (by simpa using ho) hlo
        · rintro ⟨a, b⟩
          exact ⟨fun g hg => a g (by simp [hg]), fun g hg o ho hlo => b g (by simp [hg]) o (by simpa using ho) hlo⟩
theorem nam_iff (hs : Srt l) : namGo [] l = true ↔ NamOk l := by
  rw [namGo_iff (l := l) (pre := []) (by simpa using hs)]
  unfold NamOk
  refine and_congr Iff.rfl ⟨fun h f hf g hg hne => ?_, fun h f hf g hg hlt => h f hf g (by simpa using hg) (by omega)⟩
  by_cases hlt : g.id < f.id
  · exact h f hf g (by simpa using hg) hlt
  · rw [clash_comm]
    exact h g hg f (by simpa using hf) (by omega)
theorem num_iff : ∀ {l : List Fd} {x a : Int}, numGo x a l = true ↔ Srt l ∧ (∀ f ∈ l, a < f.id ∧ f.id < x) ∧ a < x
  | [], x, a => by simp [numGo, Srt]
  | f :: r, x, a => by
    unfold numGo
    split
    · next h =>
      refine ⟨fun h => (by cases h), fun h' => ?_⟩
      have := (h'.2.1 f (by simp)).1
      omega
    · next h =>
      rw [num_iff]
      unfold Srt
      rw [List.pairwise_cons]
      constructor
      · rintro ⟨h1, h2, h3⟩
        refine ⟨⟨fun g hg => (h2 g hg).1, h1⟩, fun g hg => ?_, by omega⟩
        rcases List.mem_cons.1 hg with rfl | hg
        · exact ⟨by omega, h3⟩
        · have := h2 g hg; exact ⟨by omega, this.2⟩
      · rintro ⟨⟨h1, h2⟩, h3, h4⟩
        exact ⟨h2, fun g hg => ⟨h1 g hg, (h3 g (by simp [hg])).2⟩, (h3 f (by simp)).2⟩
end

/-- a valid schema -/
structure Ok (s : Sc) : Prop where
  srt : Srt s.fs
  pos : ∀ f ∈ s.fs, 0 < f.id
  low : ∀ f ∈ s.fs, f.id < s.next
  nx : 1 ≤ s.next
  big : s.fs.length ≤ 64 ∧ s.next ≤ 1073741824
  typ : ∀ f ∈ s.fs, typB f.ty = true
  plc : ∀ f ∈ s.fs, Up s.fs 7 f.pa
  nam : NamOk s.fs
theorem Ok.num {s : Sc} (h : Ok s) : Num s.fs := ⟨h.srt, h.pos⟩
theorem vld_iff {s : Sc} : vldP s = true ↔ Ok s := by
  unfold vldP
  simp only [Bool.and_eq_true, decide_eq_true_iff]
  constructor
  · rintro ⟨⟨⟨⟨h1, h2⟩, h3⟩, h4⟩, h5⟩
    obtain ⟨a, b, c⟩ := num_iff.1 h2
    exact ⟨a, fun f hf => (b f hf).1, fun f hf => (b f hf).2, by omega, h1, List.all_eq_true.1 h3, (plcs_iff ⟨a, fun f hf => (b f hf).1⟩).1 h4, (nam_iff a).1 h5⟩
  · intro h
    exact ⟨⟨⟨⟨h.big, num_iff.2 ⟨h.srt, fun f hf => ⟨h.pos f hf, h.low f hf⟩, by have := h.nx; omega⟩⟩, List.all_eq_true.2 h.typ⟩, (plcs_iff h.num).2 h.plc⟩, (nam_iff h.srt).2 h.nam⟩
end Go.Proofs.Ytpgbpfdedpppeaa
