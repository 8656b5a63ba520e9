/-
 What a change does to a row, forward and back, as plain functions; rows fit on the other side. Plain theorems.
-/
import Derived.Test.YtfeemipnalgjnaaGreatRowL
import Derived.Test.YtfeemipnalgjnaaGreatGG
import Derived.Lib.CutLaws
namespace Go.Proofs.YtfeemipnalgjnaaGreat

/-- a field's type -/
def Ty (l : List Fd) (i y : Int) : Prop := ∃ f ∈ l, f.id = i ∧ f.ty = y
/-- what a change does to the fields' types -/
inductive StC (s t : Sc) (c : Ch) : Prop
 | add : c.kind = 1 → (∀ i y, Ty t.fs i y ↔ Ty s.fs i y ∨ (i = s.next ∧ y = c.ty)) → s.next ≤ t.next → StC s t c
 | drop : c.kind = 2 → (∀ i y, Ty t.fs i y ↔ Ty s.fs i y ∧ i ≠ c.id) → s.next ≤ t.next → StC s t c
 | same : (c.kind = 3 ∨ c.kind = 5) → (∀ i y, Ty t.fs i y ↔ Ty s.fs i y) → s.next ≤ t.next → StC s t c
 | wid : c.kind = 4 → Ty s.fs c.id 2 → (∀ i y, Ty t.fs i y ↔ (Ty s.fs i y ∧ i ≠ c.id) ∨ (i = c.id ∧ y = 3)) → s.next ≤ t.next → StC s t c
 | spl : c.kind = 6 → Ty s.fs c.id 4 → sepB c.sep = true → (∀ i y, Ty t.fs i y ↔ (Ty s.fs i y ∧ i ≠ c.id) ∨ ((i = s.next ∨ i = s.next + 1) ∧ y = 4)) → s.next ≤ t.next → StC s t c
 | joi : c.kind = 7 → Ty s.fs c.id 4 → Ty s.fs c.wi 4 → c.id ≠ c.wi → sepB c.sep = true → (∀ i y, Ty t.fs i y ↔ (Ty s.fs i y ∧ i ≠ c.id ∧ i ≠ c.wi) ∨ (i = s.next ∧ y = 4)) → s.next ≤ t.next → StC s t c
section
variable {s t : Sc} {c : Ch} {l : List Fd} {i y : Int}
theorem ty_snoc (l : List Fd) (g : Fd) : Ty (l ++ [g]) i y ↔ Ty l i y ∨ (i = g.id ∧ y = g.ty) := by
 unfold Ty
 constructor
 ·
  rintro ⟨f, hf, rfl, rfl⟩
  rcases List.mem_append.1 hf with h | h
  ·
   exact .inl ⟨f, h, rfl, rfl⟩
  ·
   rw [List.mem_singleton] at h; subst h; exact .inr ⟨rfl, rfl⟩
 ·
  rintro (⟨f, hf, rfl, rfl⟩ | ⟨rfl, rfl⟩)
  ·
   exact ⟨f, by simp [hf], rfl, rfl⟩
  ·
   exact ⟨g, by simp, rfl, rfl⟩
theorem ty_drop (l : List Fd) (a : Int) : Ty (dropF l a) i y ↔ Ty l i y ∧ i ≠ a := by
 unfold Ty
 constructor
 ·
  rintro ⟨f, hf, rfl, rfl⟩
  have := mem_drop.1 hf
  exact ⟨⟨f, this.1, rfl, rfl⟩, this.2⟩
 ·
  rintro ⟨⟨f, hf, rfl, rfl⟩, hn⟩
  exact ⟨f, mem_drop.2 ⟨hf, hn⟩, rfl, rfl⟩
theorem ty_put (l : List Fd) (g : Fd) (hg : ∃ h ∈ l, h.id = g.id) : Ty (putF l g) i y ↔ (Ty l i y ∧ i ≠ g.id) ∨ (i = g.id ∧ y = g.ty) := by
 unfold Ty
 constructor
 ·
  rintro ⟨f, hf, rfl, rfl⟩
  rcases mem_put.1 hf with ⟨h1, h2⟩ | ⟨rfl, _⟩
  ·
   exact .inl ⟨⟨f, h1, rfl, rfl⟩, h2⟩
  ·
   exact .inr ⟨rfl, rfl⟩
 ·
  rintro (⟨⟨f, hf, rfl, rfl⟩, hn⟩ | ⟨rfl, rfl⟩)
  ·
   exact ⟨f, mem_put.2 (.inl ⟨hf, hn⟩), rfl, rfl⟩
  ·
   exact ⟨g, mem_put.2 (.inr ⟨rfl, hg⟩), rfl, rfl⟩
theorem ty_uniq (hs : Srt l) {y' : Int} (h : Ty l i y) (h' : Ty l i y') : y = y' := by
 obtain ⟨f, hf, rfl, rfl⟩ := h
 obtain ⟨g, hg, he, rfl⟩ := h'
 rw [srt_uniq hs hf hg he.symm]
theorem ty_low (ho : Ok s) (h : Ty s.fs i y) : 0 < i ∧ i < s.next := by
 obtain ⟨f, hf, rfl, rfl⟩ := h
 exact ⟨ho.pos f hf, ho.low f hf⟩
theorem ty_at (_hs : Srt l) (hh : hasF l i = true) : Ty l i (fieldD l i).ty := ⟨_, (fieldD_of hh).1, (fieldD_of hh).2, rfl⟩
theorem pr_fst {a t : Sc} {x y : Int} (h : (a, x) = (t, y)) : a = t := (Prod.mk.inj h).1
theorem pr_snd {a t : Sc} {x y : Int} (h : (a, x) = (t, y)) : x = y := (Prod.mk.inj h).2
theorem st_of (ho : Ok s) (h : applyP s c = (t, 0)) : StC s t c := by
 have hn : s.next ≤ t.next := by
  have := (ok_apply (c := c) ho (by rw [h])).2.1
  rw [h] at this
  exact this
 rw [apply_eq ho] at h
 unfold applyR at h
 split at h
 ·
  next hk =>
  refine .add hk (fun i y => ?_) hn
  have e : t = withS s c.nm c.ty c.pa := by
   unfold addR at h
   repeat' (split at h)
   all_goals first | exact (pr_fst h).symm | exact absurd (pr_snd h) (by decide)
  subst e
  exact ty_snoc _ _
 split at h
 ·
  next hk =>
  have e : hasF s.fs c.id = true ∧ t.fs = dropF s.fs c.id := by
   unfold dropR at h
   split at h
   ·
    next hh =>
    unfold dropR' at h
    split at h
    ·
     exact absurd (pr_snd h) (by decide)
    ·
     have := pr_fst h
     refine ⟨hh, ?_⟩
     rw [← this]
     show dropF2 _ _ _ = _
     rw [drop2_same, (fieldD_of hh).2]
   ·
    exact absurd (pr_snd h) (by decide)
  refine .drop hk (fun i y => ?_) hn
  rw [e.2]
  exact ty_drop _ _
 split at h
 ·
  next hk =>
  refine .same (.inl hk) (fun i y => ?_) hn
  unfold renR at h
  split at h
  ·
   next hh =>
   unfold renR' at h
   split at h
   ·
    exact absurd (pr_snd h) (by decide)
   ·
    have e := pr_fst h
    rw [← e]
    show Ty (putF _ _) _ _ ↔ _
    refine (ty_put _ _ ?_).trans ?_
    ·
     exact ⟨_, (fieldD_of hh).1, rfl⟩
    have := ty_at ho.srt hh
    constructor
    ·
     rintro (h | ⟨rfl, rfl⟩)
     ·
      exact h.1
     ·
      show Ty _ (fieldD s.fs c.id).id _; rw [(fieldD_of hh).2]; exact this
    ·
     intro h
     by_cases he : i = c.id
     ·
      subst he
      exact .inr ⟨(fieldD_of hh).2.symm, ty_uniq ho.srt h this⟩
     ·
      exact .inl ⟨h, fun e => he (e.trans (fieldD_of hh).2)⟩
  ·
   exact absurd (pr_snd h) (by decide)
 split at h
 ·
  next hk =>
  unfold widR at h
  split at h
  ·
   next hh =>
   unfold widR' at h
   split at h
   ·
    next ht =>
    have e := pr_fst h
    refine .wid hk (ht ▸ ty_at ho.srt hh) (fun i y => ?_) hn
    rw [← e]
    show Ty (putF _ _) _ _ ↔ _
    refine (ty_put _ _ ?_).trans ?_
    ·
     exact ⟨_, (fieldD_of hh).1, rfl⟩
    show (_ ∧ _ ≠ (fieldD s.fs c.id).id) ∨ (_ = (fieldD s.fs c.id).id ∧ _) ↔ _
    rw [(fieldD_of hh).2]
   ·
    exact absurd (pr_snd h) (by decide)
  ·
   exact absurd (pr_snd h) (by decide)
 split at h
 ·
  next hk =>
  refine .same (.inr hk) (fun i y => ?_) hn
  unfold moveR at h
  split at h
  ·
   next hh =>
   have e : t.fs = putF s.fs { fieldD s.fs c.id with pa := c.pa } := by
    unfold moveR' movR at h
    repeat' (split at h)
    all_goals first | exact (congrArg Sc.fs (pr_fst h)).symm | exact absurd (pr_snd h) (by decide)
   rw [e]
   refine (ty_put _ _ ?_).trans ?_
   ·
    exact ⟨_, (fieldD_of hh).1, rfl⟩
   have := ty_at ho.srt hh
   constructor
   ·
    rintro (h | ⟨rfl, rfl⟩)
    ·
     exact h.1
    ·
     show Ty _ (fieldD s.fs c.id).id _; rw [(fieldD_of hh).2]; exact this
   ·
    intro h
    by_cases he : i = c.id
    ·
     subst he
     exact .inr ⟨(fieldD_of hh).2.symm, ty_uniq ho.srt h this⟩
    ·
     exact .inl ⟨h, fun e => he (e.trans (fieldD_of hh).2)⟩
  ·
   exact absurd (pr_snd h) (by decide)
 split at h
 ·
  next hk =>
  unfold splitR at h
  split at h
  ·
   next hh =>
   have e : (fieldD s.fs c.id).ty = 4 ∧ sepB c.sep = true ∧ t = withS (withS ⟨dropF s.fs c.id, s.next⟩ c.nm 4 (fieldD s.fs c.id).pa) c.ot 4 (fieldD s.fs c.id).pa := by
    unfold splitR' at h
    split at h
    ·
     next h1 =>
     split at h
     ·
      next h2 =>
      rw [drop2_same, (fieldD_of hh).2] at h
      split at h
      ·
       exact absurd (pr_snd h) (by decide)
      ·
       split at h
       ·
        exact ⟨h1, h2, (pr_fst h).symm⟩
       ·
        exact absurd (pr_snd h) (by decide)
     ·
      exact absurd (pr_snd h) (by decide)
    ·
     exact absurd (pr_snd h) (by decide)
   obtain ⟨e1, e2, rfl⟩ := e
   refine .spl hk (e1 ▸ ty_at ho.srt hh) e2 (fun i y => ?_) hn
   show Ty ((_ ++ [_]) ++ [_]) _ _ ↔ _
   rw [ty_snoc, ty_snoc, ty_drop]
   show ((_ ∨ (i = s.next ∧ y = 4)) ∨ (i = s.next + 1 ∧ y = 4)) ↔ _
   constructor
   ·
    rintro ((h | ⟨h1, h2⟩) | ⟨h1, h2⟩)
    ·
     exact .inl h
    ·
     exact .inr ⟨.inl h1, h2⟩
    ·
     exact .inr ⟨.inr h1, h2⟩
   ·
    rintro (h | ⟨h1 | h1, h2⟩)
    ·
     exact .inl (.inl h)
    ·
     exact .inl (.inr ⟨h1, h2⟩)
    ·
     exact .inr ⟨h1, h2⟩
  ·
   exact absurd (pr_snd h) (by decide)
 split at h
 ·
  next hk =>
  unfold joinR at h
  split at h
  ·
   next hh =>
   obtain ⟨ha, hb, hne⟩ := hh
   rw [(fieldD_of ha).2, (fieldD_of hb).2] at hne
   have e : ((fieldD s.fs c.id).ty = 4 ∧ (fieldD s.fs c.wi).ty = 4) ∧ sepB c.sep = true ∧ t = withS ⟨dropF (dropF s.fs c.id) c.wi, s.next⟩ c.nm 4 (fieldD s.fs c.id).pa := by
    unfold joinR' at h
    split at h
    ·
     next h1 =>
     split at h
     ·
      split at h
      ·
       next h2 =>
       rw [drop2_eq, (fieldD_of ha).2, (fieldD_of hb).2] at h
       split at h
       ·
        exact absurd (pr_snd h) (by decide)
       ·
        split at h
        ·
         exact ⟨h1, h2, (pr_fst h).symm⟩
        ·
         exact absurd (pr_snd h) (by decide)
      ·
       exact absurd (pr_snd h) (by decide)
     ·
      exact absurd (pr_snd h) (by decide)
    ·
     exact absurd (pr_snd h) (by decide)
   obtain ⟨⟨e1, e3⟩, e2, rfl⟩ := e
   refine .joi hk (e1 ▸ ty_at ho.srt ha) (e3 ▸ ty_at ho.srt hb) hne e2 (fun i y => ?_) hn
   show Ty (_ ++ [_]) _ _ ↔ _
   rw [ty_snoc, ty_drop, ty_drop, and_assoc]
  ·
   exact absurd (pr_snd h) (by decide)
 ·
  exact absurd (pr_snd h) (by decide)
end

/-- rows that fit, by types -/
theorem fit_ty {l : List Fd} {r : List Ce} : FitL l r ↔ Inc r ∧ ∀ c ∈ r, c.v.b = false ∧ ∃ y, Ty l c.id y ∧ okV c.v y = true := by
 unfold FitL Ty
 constructor
 ·
  rintro ⟨h1, h2⟩
  refine ⟨h2, fun c hc => ?_⟩
  obtain ⟨f, hf, he, hb, hk⟩ := h1 c hc
  exact ⟨hb, _, ⟨f, hf, he, rfl⟩, hk⟩
 ·
  rintro ⟨h2, h1⟩
  refine ⟨fun c hc => ?_, h2⟩
  obtain ⟨hb, y, ⟨f, hf, he, rfl⟩, hk⟩ := h1 c hc
  exact ⟨f, hf, he, hb, hk⟩
theorem ok4 {v : Va} (hb : v.b = false) : okV v 4 = true ↔ v.n = 0 ∧ v.s.size ≤ 200 := by
 obtain ⟨b, n, s⟩ := v
 subst hb
 unfold okV
 simp
theorem ok2 {v : Va} (hb : v.b = false) (h : okV v 3 = true) : okV v 2 = true ↔ (-2147483648 ≤ v.n ∧ v.n ≤ 2147483647) := by
 obtain ⟨b, n, s⟩ := v
 subst hb
 unfold okV at h ⊢
 simp_all

/-- the first 200 bytes -/
def cut200 (s : ByteArray) : ByteArray := s.extract 0 (min s.size 200)
theorem cut200_size (s : ByteArray) : (cut200 s).size = min s.size 200 := by
 unfold cut200
 rw [ByteArray.size_extract]
 omega
theorem cut200_le {s : ByteArray} (h : s.size ≤ 200) : cut200 s = s := by
 unfold cut200
 rw [Nat.min_eq_left h]
 exact ByteArray.extract_zero_size
/-- the two parts of a text -/
def divL (t sep : ByteArray) : Va × Va :=
 if (Lib.cut t.data.toList sep.data.toList).2.2 = true then (⟨false, 0, ⟨(Lib.cut t.data.toList sep.data.toList).1.toArray⟩⟩, ⟨false, 0, ⟨(Lib.cut t.data.toList sep.data.toList).2.1.toArray⟩⟩) else (⟨false, 0, t⟩, Va.nul)
/-- two texts and the separator between them -/
def conL (a b : Va) (sep : ByteArray) : Va := if a.b = true ∧ b.b = true then Va.nul else ⟨false, 0, cut200 (a.s ++ sep ++ b.s)⟩
def fwdL (s : Sc) (c : Ch) (r : List Ce) : List Ce :=
 if c.kind = 2 then setL r c.id Va.nul
 else if c.kind = 6 then (if (getL r c.id).b = true then setL r c.id Va.nul else setL (setL (setL r c.id Va.nul) s.next (divL (getL r c.id).s c.sep).1) (s.next + 1) (divL (getL r c.id).s c.sep).2)
 else if c.kind = 7 then setL (setL (setL r c.id Va.nul) c.wi Va.nul) s.next (conL (getL r c.id) (getL r c.wi) c.sep)
 else r
def bakL (s : Sc) (c : Ch) (r : List Ce) : List Ce :=
 if c.kind = 1 then setL r s.next Va.nul
 else if c.kind = 4 then (if -2147483648 ≤ (getL r c.id).n ∧ (getL r c.id).n ≤ 2147483647 then r else setL r c.id Va.nul)
 else if c.kind = 6 then setL (setL (setL r s.next Va.nul) (s.next + 1) Va.nul) c.id (if (getL r (s.next + 1)).b = true then getL r s.next else conL (getL r s.next) (getL r (s.next + 1)) c.sep)
 else if c.kind = 7 then (if (getL r s.next).b = true then setL r s.next Va.nul else setL (setL (setL r s.next Va.nul) c.id (divL (getL r s.next).s c.sep).1) c.wi (divL (getL r s.next).s c.sep).2)
 else r
section
variable {s t : Sc} {c : Ch} {r : List Ce} {l m : List Fd} {i y : Int} {v a b : Va}
/-- what a field of a row that fits is -/
theorem fit_get (hf : FitL l r) (i : Int) : (getL r i = Va.nul ∧ ∀ c ∈ r, c.id ≠ i) ∨ ((getL r i).b = false ∧ ∃ y, Ty l i y ∧ okV (getL r i) y = true) := by
 obtain ⟨h1, h2⟩ := fit_ty.1 hf
 rcases get_cases r i h1 with ⟨c, hc, rfl, hg⟩ | ⟨hn, hg⟩
 ·
  rw [hg]
  exact .inr (h2 c hc)
 ·
  exact .inl ⟨hg, hn⟩
theorem fit_set (hs : Inc r) (h1 : ∀ c ∈ r, c.id ≠ i → c.v.b = false ∧ ∃ y, Ty m c.id y ∧ okV c.v y = true) (h2 : v.b = true ∨ ∃ y, Ty m i y ∧ okV v y = true) : FitL m (setL r i v) := by
 refine fit_ty.2 ⟨inc_set hs, fun c hc => ?_⟩
 rcases (mem_set hs).1 hc with ⟨hc', hn⟩ | ⟨hb, rfl⟩
 ·
  exact h1 c hc' hn
 ·
  refine ⟨hb, ?_⟩
  rcases h2 with h | h
  ·
   rw [hb] at h; cases h
  ·
   exact h
theorem cut_parts (t sep : List UInt8) : (Lib.cut t sep).1.length ≤ t.length ∧ (Lib.cut t sep).2.1.length ≤ t.length := by
 unfold Lib.cut
 split
 ·
  constructor
  ·
   simp only [List.length_take]; omega
  ·
   simp only [List.length_drop]; omega
 ·
  simp
theorem bsz (l : List UInt8) : (⟨l.toArray⟩ : ByteArray).size = l.length := by
 show l.toArray.size = _
 simp
theorem bln (b : ByteArray) : b.data.toList.length = b.size := by
 show _ = b.data.size
 simp
theorem div_ok (t sep : ByteArray) (h : t.size ≤ 200) : (divL t sep).1.b = false ∧ okV (divL t sep).1 4 = true ∧ ((divL t sep).2.b = true ∨ okV (divL t sep).2 4 = true) := by
 have hc := cut_parts t.data.toList sep.data.toList
 rw [bln] at hc
 unfold divL
 split
 ·
  refine ⟨rfl, (ok4 rfl).2 ⟨rfl, ?_⟩, .inr ((ok4 rfl).2 ⟨rfl, ?_⟩)⟩
  ·
   show ByteArray.size _ ≤ 200
   rw [bsz]; omega
  ·
   show ByteArray.size _ ≤ 200
   rw [bsz]; omega
 ·
  exact ⟨rfl, (ok4 rfl).2 ⟨rfl, h⟩, .inl rfl⟩
theorem con_ok (a b : Va) (sep : ByteArray) : (conL a b sep).b = true ∨ okV (conL a b sep) 4 = true := by
 unfold conL
 split
 ·
  exact .inl rfl
 ·
  refine .inr ((ok4 rfl).2 ⟨rfl, ?_⟩)
  show (cut200 _).size ≤ 200
  rw [cut200_size]; omega
theorem text_of (hs : Srt l) (ht : Ty l i 4) (hf : FitL l r) (hb : (getL r i).b = false) : (getL r i).n = 0 ∧ (getL r i).s.size ≤ 200 := by
 rcases fit_get hf i with ⟨h, _⟩ | ⟨_, y, hy, hk⟩
 ·
  rw [h] at hb; cases hb
 ·
  rw [ty_uniq hs hy ht] at hk
  exact (ok4 hb).1 hk
theorem ok_ty (ho : Ok s) (h : Ty s.fs i y) : i ≠ s.next ∧ i ≠ s.next + 1 := by have := ty_low ho h; omega
theorem fwd_fit (ho : Ok s) (hst : StC s t c) (hf : FitL s.fs r) : FitL t.fs (fwdL s c r) := by
 obtain ⟨hi, hc⟩ := fit_ty.1 hf
 unfold fwdL
 cases hst with
 | add hk ht hn =>
  rw [if_neg (by omega), if_neg (by omega), if_neg (by omega)]
  exact fit_ty.2 ⟨hi, fun d hd => ⟨(hc d hd).1, (hc d hd).2.imp fun y h => ⟨(ht _ _).2 (.inl h.1), h.2⟩⟩⟩
 | drop hk ht hn =>
  rw [if_pos hk]
  exact fit_set hi (fun d hd hne => ⟨(hc d hd).1, (hc d hd).2.imp fun y h => ⟨(ht _ _).2 ⟨h.1, hne⟩, h.2⟩⟩) (.inl rfl)
 | same hk ht hn =>
  rw [if_neg (by omega), if_neg (by omega), if_neg (by omega)]
  exact fit_ty.2 ⟨hi, fun d hd => ⟨(hc d hd).1, (hc d hd).2.imp fun y h => ⟨(ht _ _).2 h.1, h.2⟩⟩⟩
 | wid hk h2 ht hn =>
  rw [if_neg (by omega), if_neg (by omega), if_neg (by omega)]
  refine fit_ty.2 ⟨hi, fun d hd => ⟨(hc d hd).1, ?_⟩⟩
  obtain ⟨y, hy, hk'⟩ := (hc d hd).2
  by_cases he : d.id = c.id
  ·
   rw [he] at hy
   rw [ty_uniq ho.srt hy h2] at hk'
   exact ⟨3, (ht _ _).2 (.inr ⟨he, rfl⟩), okV_wide (hc d hd).1 hk'⟩
  ·
   exact ⟨y, (ht _ _).2 (.inl ⟨hy, he⟩), hk'⟩
 | spl hk h4 hsep ht hn =>
  rw [if_neg (by omega), if_pos hk]
  have h0 : ∀ d ∈ r, d.id ≠ c.id → d.v.b = false ∧ ∃ y, Ty t.fs d.id y ∧ okV d.v y = true := fun d hd hne => ⟨(hc d hd).1, (hc d hd).2.imp fun y h => ⟨(ht _ _).2 (.inl ⟨h.1, hne⟩), h.2⟩⟩
  have h1 : FitL t.fs (setL r c.id Va.nul) := fit_set hi h0 (.inl rfl)
  split
  ·
   exact h1
  ·
   next hb =>
   have hb' : (getL r c.id).b = false := by simpa using hb
   obtain ⟨_, hz⟩ := text_of ho.srt h4 hf hb'
   obtain ⟨d1, d2, d3⟩ := div_ok (getL r c.id).s c.sep hz
   have h2 : FitL t.fs (setL (setL r c.id Va.nul) s.next (divL (getL r c.id).s c.sep).1) := fit_set (fit_ty.1 h1).1 (fun d hd _ => (fit_ty.1 h1).2 d hd) (.inr ⟨4, (ht _ _).2 (.inr ⟨.inl rfl, rfl⟩), d2⟩)
   exact fit_set (fit_ty.1 h2).1 (fun d hd _ => (fit_ty.1 h2).2 d hd) (d3.imp id fun h => ⟨4, (ht _ _).2 (.inr ⟨.inr rfl, rfl⟩), h⟩)
 | joi hk h4 h4' hne hsep ht hn =>
  rw [if_neg (by omega), if_neg (by omega), if_pos hk]
  have h0 : FitL (dropF s.fs c.id) (setL r c.id Va.nul) := fit_set hi (fun d hd hne => ⟨(hc d hd).1, (hc d hd).2.imp fun y h => ⟨(ty_drop _ _).2 ⟨h.1, hne⟩, h.2⟩⟩) (.inl rfl)
  have h1 : FitL t.fs (setL (setL r c.id Va.nul) c.wi Va.nul) := by
   refine fit_set (fit_ty.1 h0).1 (fun d hd hne => ⟨((fit_ty.1 h0).2 d hd).1, ((fit_ty.1 h0).2 d hd).2.imp fun y h => ⟨?_, h.2⟩⟩) (.inl rfl)
   have := (ty_drop _ _).1 h.1
   exact (ht _ _).2 (.inl ⟨this.1, this.2, hne⟩)
  exact fit_set (fit_ty.1 h1).1 (fun d hd _ => (fit_ty.1 h1).2 d hd) ((con_ok _ _ _).imp id fun h => ⟨4, (ht _ _).2 (.inr ⟨rfl, rfl⟩), h⟩)
theorem bak_fit (_ho : Ok s) (ho' : Ok t) (hst : StC s t c) (hf : FitL t.fs r) : FitL s.fs (bakL s c r) := by
 obtain ⟨hi, hc⟩ := fit_ty.1 hf
 unfold bakL
 cases hst with
 | add hk ht hn =>
  rw [if_pos hk]
  refine fit_set hi (fun d hd hne => ⟨(hc d hd).1, (hc d hd).2.imp fun y h => ⟨?_, h.2⟩⟩) (.inl rfl)
  rcases (ht _ _).1 h.1 with h' | h'
  ·
   exact h'
  ·
   exact absurd h'.1 hne
 | drop hk ht hn =>
  rw [if_neg (by omega), if_neg (by omega), if_neg (by omega), if_neg (by omega)]
  exact fit_ty.2 ⟨hi, fun d hd => ⟨(hc d hd).1, (hc d hd).2.imp fun y h => ⟨((ht _ _).1 h.1).1, h.2⟩⟩⟩
 | same hk ht hn =>
  rw [if_neg (by omega), if_neg (by omega), if_neg (by omega), if_neg (by omega)]
  exact fit_ty.2 ⟨hi, fun d hd => ⟨(hc d hd).1, (hc d hd).2.imp fun y h => ⟨(ht _ _).1 h.1, h.2⟩⟩⟩
 | wid hk h2 ht hn =>
  rw [if_neg (by omega), if_pos hk]
  have h0 : ∀ d ∈ r, d.id ≠ c.id → d.v.b = false ∧ ∃ y, Ty s.fs d.id y ∧ okV d.v y = true := fun d hd hne => ⟨(hc d hd).1, (hc d hd).2.imp fun y h => ⟨by
   rcases (ht _ _).1 h.1 with h' | h'
   ·
    exact h'.1
   ·
    exact absurd h'.1 hne, h.2⟩⟩
  split
  ·
   next hr =>
   refine fit_ty.2 ⟨hi, fun d hd => ?_⟩
   by_cases he : d.id = c.id
   ·
    refine ⟨(hc d hd).1, 2, he ▸ h2, ?_⟩
    have hg : getL r c.id = d.v := by rw [← he]; exact get_mem hi hd
    rw [hg] at hr
    obtain ⟨y, hy, hk'⟩ := (hc d hd).2
    rw [ty_uniq ho'.srt hy ((ht _ _).2 (.inr ⟨he, rfl⟩))] at hk'
    exact (ok2 (hc d hd).1 hk').2 hr
   ·
    exact h0 d hd he
  ·
   exact fit_set hi h0 (.inl rfl)
 | spl hk h4 hsep ht hn =>
  rw [if_neg (by omega), if_neg (by omega), if_pos hk]
  have tn : Ty t.fs s.next 4 := (ht _ _).2 (.inr ⟨.inl rfl, rfl⟩)
  have h1 : Inc (setL (setL r s.next Va.nul) (s.next + 1) Va.nul) := inc_set (inc_set hi)
  refine fit_set h1 (fun d hd _ => ?_) ?_
  ·
   rcases (mem_set (inc_set hi)).1 hd with ⟨hd', hn'⟩ | ⟨hb, _⟩
   ·
    rcases (mem_set hi).1 hd' with ⟨hd'', hn''⟩ | ⟨hb, _⟩
    ·
     refine ⟨(hc d hd'').1, (hc d hd'').2.imp fun y h => ⟨?_, h.2⟩⟩
     rcases (ht _ _).1 h.1 with h' | ⟨h' | h', _⟩
     ·
      exact h'.1
     ·
      exact absurd h' hn''
     ·
      exact absurd h' hn'
    ·
     cases hb
   ·
    cases hb
  ·
   split
   ·
    cases hb : (getL r s.next).b with
    | true => exact .inl rfl
    | false =>
     have := text_of ho'.srt tn hf hb
     exact .inr ⟨4, h4, (ok4 hb).2 this⟩
   ·
    exact (con_ok _ _ _).imp id fun h => ⟨4, h4, h⟩
 | joi hk h4 h4' hne hsep ht hn =>
  rw [if_neg (by omega), if_neg (by omega), if_neg (by omega), if_pos hk]
  have tn : Ty t.fs s.next 4 := (ht _ _).2 (.inr ⟨rfl, rfl⟩)
  have h1 : FitL s.fs (setL r s.next Va.nul) := fit_set hi (fun d hd hne => ⟨(hc d hd).1, (hc d hd).2.imp fun y h => ⟨by
   rcases (ht _ _).1 h.1 with h' | h'
   ·
    exact h'.1
   ·
    exact absurd h'.1 hne, h.2⟩⟩) (.inl rfl)
  split
  ·
   exact h1
  ·
   next hb =>
   have hb' : (getL r s.next).b = false := by simpa using hb
   obtain ⟨_, hz⟩ := text_of ho'.srt tn hf hb'
   obtain ⟨d1, d2, d3⟩ := div_ok (getL r s.next).s c.sep hz
   have h2 : FitL s.fs (setL (setL r s.next Va.nul) c.id (divL (getL r s.next).s c.sep).1) := fit_set (fit_ty.1 h1).1 (fun d hd _ => (fit_ty.1 h1).2 d hd) (.inr ⟨4, h4, d2⟩)
   exact fit_set (fit_ty.1 h2).1 (fun d hd _ => (fit_ty.1 h2).2 d hd) (d3.imp id fun h => ⟨4, h4', h⟩)
end
end Go.Proofs.YtfeemipnalgjnaaGreat
