/-
  For valid schemas the program's Apply is the reference's, and leaves valid schemas (plain).
-/
import Derived.Test.YtpgbpfdedpppeaaPln
import Derived.Test.YtpgbpfdedpppeaaAppS
import Derived.Test.YtpgbpfdedpppeaaRSps
import Derived.Test.YtpgbpfdedpppeaaRAdd
import Derived.Test.YtpgbpfdedpppeaaRMov
import Derived.Test.YtpgbpfdedpppeaaROne
import Derived.Test.YtpgbpfdedpppeaaRJoi
namespace Go.Proofs.Ytpgbpfdedpppeaa
open Go.RowKit

def applyR (s : Sc) (c : Ch) : Sc × Int := if c.kind = 1 then addR s c else if c.kind = 2 then dropR s c else if c.kind = 3 then renR s c else if c.kind = 4 then widR s c else if c.kind = 5 then moveR s c else if c.kind = 6 then splitR s c else if c.kind = 7 then joinR s c else (Sc.zero, 1)
/-- what an edited schema keeps of validity before the last checks -/
structure Pre (s : Sc) : Prop where
  srt : Srt s.fs
  pos : ∀ f ∈ s.fs, 0 < f.id
  low : ∀ f ∈ s.fs, f.id < s.next
  nx : 1 ≤ s.next
  typ : ∀ f ∈ s.fs, typB f.ty = true
theorem Pre.num {s : Sc} (h : Pre s) : Num s.fs := ⟨h.srt, h.pos⟩
theorem Ok.pre {s : Sc} (h : Ok s) : Pre s := ⟨h.srt, h.pos, h.low, h.nx, h.typ⟩
section
variable {l : List Fd} {s : Sc} {f g h : Fd} {i : Int}
theorem mem_drop : f ∈ dropF l i ↔ f ∈ l ∧ f.id ≠ i := by
  unfold dropF
  rw [List.mem_filter]
  simp
theorem mem_put : f ∈ putF l g ↔ (f ∈ l ∧ f.id ≠ g.id) ∨ (f = g ∧ ∃ h ∈ l, h.id = g.id) := by
  unfold putF
  rw [List.mem_map]
  constructor
  · rintro ⟨h, hh, e⟩
    split at e
    · next he => exact .inr ⟨e.symm, h, hh, he⟩
    · next he => subst e; exact .inl ⟨hh, he⟩
  · rintro (⟨h1, h2⟩ | ⟨rfl, h, hh, e⟩)
    · exact ⟨f, h1, by rw [if_neg h2]⟩
    · exact ⟨h, hh, by rw [if_pos e]⟩
theorem drop2_eq (a b : Int) : dropF2 l a b = dropF (dropF l a) b := by
  unfold dropF2 dropF
  rw [List.filter_filter]
  congr 1
  funext f
  unfold dropH
  rw [Bool.and_comm]
  rfl
theorem drop2_same (a : Int) : dropF2 l a a = dropF l a := by
  unfold dropF2 dropF
  congr 1
  funext f
  unfold dropH
  rw [Bool.and_self]
  rfl
theorem pre_with (hp : Pre s) {nm : ByteArray} {ty pa : Int} (ht : typB ty = true) : Pre (withS s nm ty pa) := by
  have hn := hp.nx
  refine ⟨?_, ?_, ?_, by show 1 ≤ s.next + 1; omega, ?_⟩
  · show Srt (s.fs ++ [_])
    unfold Srt
    rw [List.pairwise_append]
    refine ⟨hp.srt, List.pairwise_singleton _ _, fun a ha b hb => ?_⟩
    rw [List.mem_singleton] at hb
    subst hb
    exact hp.low a ha
  · intro f hf
    rcases List.mem_append.1 hf with hf | hf
    · exact hp.pos f hf
    · rw [List.mem_singleton] at hf; subst hf; show 0 < s.next; omega
  · intro f hf
    show f.id < s.next + 1
    rcases List.mem_append.1 hf with hf | hf
    · have := hp.low f hf; omega
    · rw [List.mem_singleton] at hf; subst hf; show s.next < _; omega
  · intro f hf
    rcases List.mem_append.1 hf with hf | hf
    · exact hp.typ f hf
    · rw [List.mem_singleton] at hf; subst hf; exact ht
theorem srt_drop (hs : Srt l) : Srt (dropF l i) := by
  unfold dropF
  exact List.Pairwise.filter _ hs
theorem pre_drop (hp : Pre s) : Pre (dropS s i) :=
  ⟨srt_drop hp.srt, fun f hf => hp.pos f (mem_drop.1 hf).1, fun f hf => hp.low f (mem_drop.1 hf).1, hp.nx, fun f hf => hp.typ f (mem_drop.1 hf).1⟩
theorem srt_put (hs : Srt l) : Srt (putF l g) := by
  unfold Srt putF
  rw [List.pairwise_map]
  refine List.Pairwise.imp ?_ hs
  intro a b hab
  have e : ∀ a : Fd, (if a.id = g.id then g else a).id = a.id := fun a => by
    split
    · next h => exact h.symm
    · rfl
  rw [e, e]
  exact hab
theorem put_ids (hf : f ∈ putF l g) : ∃ h ∈ l, h.id = f.id := by
  rcases mem_put.1 hf with ⟨h1, _⟩ | ⟨rfl, h, h1, h2⟩
  · exact ⟨f, h1, rfl⟩
  · exact ⟨h, h1, h2⟩
theorem pre_put (hp : Pre s) (ht : typB g.ty = true) : Pre (putS s g) := by
  refine ⟨srt_put hp.srt, fun f hf => ?_, fun f hf => ?_, hp.nx, fun f hf => ?_⟩
  · obtain ⟨h, h1, h2⟩ := put_ids hf
    have := hp.pos h h1; omega
  · obtain ⟨h, h1, h2⟩ := put_ids hf
    have := hp.low h h1
    show f.id < s.next
    omega
  · rcases mem_put.1 hf with ⟨h1, _⟩ | ⟨rfl, _⟩
    · exact hp.typ f h1
    · exact ht
theorem tak_iff {a b : Int} : takB l g a b = true ↔ (∃ h ∈ l, h.id ≠ a ∧ h.id ≠ b ∧ clash g h = true) ∨ namB g.nm = false := by
  unfold takB
  rw [Bool.or_eq_true, List.any_eq_true]
  refine or_congr ⟨?_, ?_⟩ (by cases namB g.nm <;> simp)
  · rintro ⟨h, h1, h2⟩
    unfold takH at h2
    simp only [Bool.and_eq_true, bne_iff_ne] at h2
    exact ⟨h, h1, h2.1.2, h2.2, by unfold clash sameB; simp only [Bool.and_eq_true, decide_eq_true_iff]; exact ⟨by simpa using h2.1.1.1, h2.1.1.2⟩⟩
  · rintro ⟨h, h1, h2, h3, h4⟩
    unfold clash sameB at h4
    simp only [Bool.and_eq_true, decide_eq_true_iff] at h4
    refine ⟨h, h1, ?_⟩
    unfold takH
    simp only [Bool.and_eq_true, bne_iff_ne]
    exact ⟨⟨⟨by simpa using h4.1, h4.2⟩, h2⟩, h3⟩
theorem nam_snoc (hl : NamOk l) (hne : ∀ h ∈ l, h.id ≠ g.id) : NamOk (l ++ [g]) ↔ namB g.nm = true ∧ ∀ h ∈ l, clash g h = false := by
  constructor
  · intro hN
    exact ⟨hN.1 g (by simp), fun h hh => hN.2 g (by simp) h (by simp [hh]) (fun e => hne h hh e.symm)⟩
  · rintro ⟨a, b⟩
    refine ⟨fun f hf => ?_, fun f hf o ho hd => ?_⟩
    · rcases List.mem_append.1 hf with hf | hf
      · exact hl.1 f hf
      · rw [List.mem_singleton] at hf; subst hf; exact a
    · rcases List.mem_append.1 hf with hf1 | hf1
      · rcases List.mem_append.1 ho with ho | ho
        · exact hl.2 f hf1 o ho hd
        · rw [List.mem_singleton] at ho; subst ho; rw [clash_comm]; exact b f hf1
      · rw [List.mem_singleton] at hf1
        subst hf1
        rcases List.mem_append.1 ho with ho | ho
        · exact b o ho
        · rw [List.mem_singleton] at ho; subst ho; exact absurd rfl hd
theorem nam_sub {l' : List Fd} (hl : NamOk l) (h : ∀ f ∈ l', f ∈ l) : NamOk l' := ⟨fun f hf => hl.1 f (h f hf), fun f hf g hg hd => hl.2 f (h f hf) g (h g hg) hd⟩
theorem nam_put (_ : Srt l) (hl : NamOk l) (hf : f ∈ l) (he : g.id = f.id) : NamOk (putF l g) ↔ ¬ takB l g g.id g.id = true := by
  rw [tak_iff]
  constructor
  · rintro hN (⟨h, h1, h2, _, h3⟩ | h3)
    · have hg : g ∈ putF l g := mem_put.2 (.inr ⟨rfl, f, hf, he.symm⟩)
      rw [hN.2 g hg h (mem_put.2 (.inl ⟨h1, h2⟩)) (fun e => h2 e.symm)] at h3; cases h3
    · rw [hN.1 g (mem_put.2 (.inr ⟨rfl, f, hf, he.symm⟩))] at h3; cases h3
  · intro hN
    have h1 : namB g.nm = true := by
      cases hb : namB g.nm with
      | true => rfl
      | false => exact absurd (.inr hb) hN
    have h2 : ∀ h ∈ l, h.id ≠ g.id → clash g h = false := fun h hh hd => by
      cases hb : clash g h with
      | false => rfl
      | true => exact absurd (.inl ⟨h, hh, hd, hd, hb⟩) hN
    refine ⟨fun k hk => ?_, fun k hk o ho hd => ?_⟩
    · rcases mem_put.1 hk with ⟨hk, _⟩ | ⟨rfl, _⟩
      · exact hl.1 k hk
      · exact h1
    · rcases mem_put.1 hk with ⟨hk1, hk2⟩ | ⟨rfl, _⟩
      · rcases mem_put.1 ho with ⟨ho1, ho2⟩ | ⟨rfl, _⟩
        · exact hl.2 k hk1 o ho1 hd
        · rw [clash_comm]; exact h2 k hk1 hd
      · rcases mem_put.1 ho with ⟨ho1, ho2⟩ | ⟨rfl, _⟩
        · exact h2 o ho1 (fun e => hd e.symm)
        · exact absurd rfl hd
theorem grp_iff (hs : Srt l) : grpB l i = true ↔ i = 0 ∨ ∃ g ∈ l, g.id = i ∧ g.ty = 6 := by
  unfold grpB
  rw [Bool.or_eq_true, Bool.and_eq_true, decide_eq_true_iff, decide_eq_true_iff]
  refine or_congr Iff.rfl ⟨?_, ?_⟩
  · rintro ⟨h1, h2⟩
    obtain ⟨h3, h4⟩ := fieldD_of h1
    exact ⟨_, h3, h4, h2⟩
  · rintro ⟨g, h1, rfl, h3⟩
    exact ⟨has_iff.2 ⟨g, h1, rfl⟩, by rw [fieldD_eq hs h1]; exact h3⟩
theorem last_err {e : Int} (h : e ≠ 0) : lastE (Sc.zero, e) = (Sc.zero, e) := by
  unfold lastE
  rw [if_neg h]
theorem last_as {t : Sc} {p q r : Prop} [Decidable p] [Decidable q] [Decidable r] (e1 : plcsB t.fs = true ↔ p) (e2 : p → (namGo [] t.fs = true ↔ ¬ q)) (e3 : p → ¬ q → ((t.fs.length ≤ 64 ∧ t.next ≤ 1073741824) ↔ r)) :
    lastE (t, 0) = if p then (if q then (Sc.zero, 60) else if r then (t, 0) else (Sc.zero, 2)) else (Sc.zero, 63) := by
  unfold lastE
  rw [if_pos rfl]
  by_cases hp : p
  · rw [if_pos hp, if_pos (e1.2 hp)]
    by_cases hq : q
    · rw [if_pos hq, if_neg (fun h => (e2 hp).1 h hq)]
    · rw [if_neg hq, if_pos ((e2 hp).2 hq)]
      by_cases hr : r
      · rw [if_pos hr, if_pos ((e3 hp hq).2 hr)]
      · rw [if_neg hr, if_neg (fun h => hr ((e3 hp hq).1 h))]
  · rw [if_neg hp, if_neg (fun h => hp (e1.1 h))]

theorem up_app_inv (ho : Ok s) (hg : g.id = s.next) {m : Nat} {j : Int} (hu : Up (s.fs ++ [g]) m j) : (j = 0 ∨ ∃ f ∈ s.fs, f.id = j) → Up s.fs m j := by
  induction hu with
  | zero => exact fun _ => .zero _
  | step hf ht _ ih =>
    rename_i m f _
    intro hj
    rcases List.mem_append.1 hf with hf | hf
    · refine .step hf ht (ih ?_)
      rcases gp_of_up ho.plc f hf with h | ⟨k, h1, h2, _⟩
      · exact .inl h
      · exact .inr ⟨k, h1, h2⟩
    · rw [List.mem_singleton] at hf
      subst hf
      exfalso
      have := ho.nx
      rcases hj with hj | ⟨k, h1, h2⟩
      · omega
      · have := ho.low k h1; omega
theorem up_app {m : Nat} (ho : Up l m i) : Up (l ++ [g]) m i := up_mono (fun f hf ht => ⟨f, by simp [hf], rfl, ht, rfl⟩) ho
theorem plcs_app (ho : Ok s) {nm : ByteArray} {ty pa : Int} (ht : typB ty = true) : plcsB (withS s nm ty pa).fs = true ↔ (grpB s.fs pa = true ∧ depL s.fs pa < 8) := by
  have hp : Pre (withS s nm ty pa) := pre_with ho.pre ht
  rw [plcs_iff hp.num, grp_iff ho.srt]
  have hd : depL s.fs pa < 8 ↔ Dp s.fs 7 pa := by
    rw [← depL_iff ho.num (k := 7) (by omega)]
    omega
  rw [hd]
  have hnx := ho.nx
  constructor
  · intro h
    have hu : Up (s.fs ++ [⟨s.next, nm, ty, pa⟩]) 7 pa := h ⟨s.next, nm, ty, pa⟩ (by simp [withS])
    rcases up_cases hu with h0 | ⟨f, h1, h2, h3, _⟩
    · exact ⟨.inl h0, by rw [h0]; exact .zero _⟩
    · rcases List.mem_append.1 h1 with h1 | h1
      · exact ⟨.inr ⟨f, h1, h2, h3⟩, dp_of_up (up_app_inv ho rfl hu (.inr ⟨f, h1, h2⟩))⟩
      · rw [List.mem_singleton] at h1
        subst h1
        have h2 : s.next = pa := h2
        subst h2
        exact absurd hu (no_loop (l := s.fs ++ [⟨s.next, nm, ty, s.next⟩]) (f := ⟨s.next, nm, ty, s.next⟩) hp.num (by simp) rfl)
  · rintro ⟨h1, h2⟩ f hf
    have hu := up_of_dp ho.num (gp_of_up ho.plc) h1 h2
    rcases List.mem_append.1 hf with hf | hf
    · exact up_app (ho.plc f hf)
    · rw [List.mem_singleton] at hf; subst hf; exact up_app hu
theorem add_eq (ho : Ok s) {c : Ch} : lastE (addE s c) = addR s c := by
  unfold addE addR
  by_cases ht : typB c.ty = true
  · rw [if_pos ht, if_pos ht]
    refine last_as (plcs_app ho ht) (fun _ => ?_) (fun _ _ => ?_)
    · rw [nam_iff (pre_with ho.pre ht).srt, tak_iff]
      show NamOk (s.fs ++ [_]) ↔ _
      rw [nam_snoc ho.nam (fun h hh => by have := ho.low h hh; show h.id ≠ s.next; omega)]
      constructor
      · rintro ⟨a, b⟩ (⟨h, h1, _, _, h4⟩ | h)
        · have := b h h1
          rw [show clash ⟨s.next, c.nm, c.ty, c.pa⟩ h = clash ⟨0, c.nm, c.ty, c.pa⟩ h from rfl, h4] at this
          cases this
        · have a : namB c.nm = true := a
          have h : namB c.nm = false := h
          rw [a] at h; cases h
      · intro hN
        refine ⟨?_, fun h hh => ?_⟩
        · cases hb : namB c.nm with
          | true => rfl
          | false => exact absurd (.inr hb) hN
        · cases hb : clash ⟨s.next, c.nm, c.ty, c.pa⟩ h with
          | false => rfl
          | true => exact absurd (.inl ⟨h, hh, by have := ho.pos h hh; omega, by have := ho.pos h hh; omega, hb⟩) hN
    · show ((s.fs ++ [_]).length ≤ 64 ∧ s.next + 1 ≤ 1073741824) ↔ _
      rw [List.length_append, List.length_singleton]
      omega
  · rw [if_neg ht, if_neg ht]
    exact last_err (by decide)

theorem child_iff (ho : Ok s) (hf : f ∈ s.fs) : plcsB (dropF s.fs f.id) = true ↔ ¬ s.fs.any (subH f.id) = true := by
  rw [plcs_iff (l := dropF s.fs f.id) (pre_drop (i := f.id) ho.pre).num, List.any_eq_true]
  constructor
  · rintro hu ⟨k, hk, hp⟩
    have hp : k.pa = f.id := by simpa [subH] using hp
    have hne : k.id ≠ f.id := fun e => by
      have := srt_uniq ho.srt hk hf e
      subst this
      exact no_loop ho.num hk hp (by rw [← hp]; exact ho.plc k hk)
    rcases up_cases (hu k (mem_drop.2 ⟨hk, hne⟩)) with h | ⟨o, h1, h2, _⟩
    · have := ho.pos f hf; omega
    · exact (mem_drop.1 h1).2 (by omega)
  · intro hn k hk
    have hno : ∀ k ∈ s.fs, k.pa ≠ f.id := fun k hk e => hn ⟨k, hk, by simp [subH, e]⟩
    exact up_avoid hno (fun o ho hd => mem_drop.2 ⟨ho, hd⟩) (ho.plc k (mem_drop.1 hk).1) (hno k (mem_drop.1 hk).1)
theorem drop_eq (ho : Ok s) {c : Ch} : lastE (dropE s c) = dropR s c := by
  unfold dropE dropR dropR'
  by_cases hh : hasF s.fs c.id = true
  · rw [if_pos hh, if_pos hh]
    obtain ⟨h1, h2⟩ := fieldD_of hh
    generalize fieldD s.fs c.id = f at h1 h2
    have hp := pre_drop (i := f.id) ho.pre
    rw [last_as (t := dropS s f.id) (p := ¬ s.fs.any (subH f.id) = true) (q := False) (r := True) (child_iff ho h1) (fun _ => ?_) (fun _ _ => ?_), drop2_same]
    · by_cases hc : s.fs.any (subH f.id) = true
      · rw [if_pos hc, if_neg (fun h => h hc)]
      · rw [if_neg hc, if_pos hc]; rfl
    · rw [nam_iff hp.srt]
      exact ⟨fun _ h => h, fun _ => nam_sub ho.nam (fun o ho => (mem_drop.1 ho).1)⟩
    · have : (dropF s.fs f.id).length ≤ s.fs.length := List.length_filter_le _ _
      have := ho.big
      exact ⟨fun _ => trivial, fun _ => ⟨by show (dropF s.fs f.id).length ≤ 64; omega, this.2⟩⟩
  · rw [if_neg hh, if_neg hh]
    exact last_err (by decide)
theorem put_lenS (l : List Fd) (g : Fd) : (putF l g).length = l.length := by unfold putF; simp
theorem put_has (hs : Srt l) (hf : f ∈ l) (he : g.id = f.id) (ht : f.ty = 6 → g.ty = 6) (k : Fd) (hk : k ∈ l) (hk6 : k.ty = 6) : ∃ o ∈ putF l g, o.id = k.id ∧ o.ty = 6 := by
  by_cases e : k.id = g.id
  · refine ⟨g, mem_put.2 (.inr ⟨rfl, k, hk, e⟩), e.symm, ht ?_⟩
    rw [← srt_uniq hs hk hf (by omega)]; exact hk6
  · exact ⟨k, mem_put.2 (.inl ⟨hk, e⟩), rfl, hk6⟩
theorem plcs_put (ho : Ok s) (hf : f ∈ s.fs) (he : g.id = f.id) (hp : g.pa = f.pa) (ht : f.ty = 6 → g.ty = 6) : plcsB (putF s.fs g) = true := by
  have hn : Num (putF s.fs g) := ⟨srt_put ho.srt, fun k hk => by
    obtain ⟨o, h1, h2⟩ := put_ids hk
    have := ho.pos o h1; omega⟩
  have hm : ∀ {j : Int}, Up s.fs 7 j → Up (putF s.fs g) 7 j := fun h => up_mono (fun k hk hk6 => by
    by_cases e : k.id = g.id
    · have := srt_uniq ho.srt hk hf (by omega)
      subst this
      exact ⟨g, mem_put.2 (.inr ⟨rfl, k, hk, e⟩), e.symm, ht hk6, hp⟩
    · exact ⟨k, mem_put.2 (.inl ⟨hk, e⟩), rfl, hk6, rfl⟩) h
  rw [plcs_iff hn]
  intro k hk
  rcases mem_put.1 hk with ⟨hk, _⟩ | ⟨rfl, _⟩
  · exact hm (ho.plc k hk)
  · rw [hp]; exact hm (ho.plc f hf)
theorem ren_eq (ho : Ok s) {c : Ch} : lastE (renE s c) = renR s c := by
  unfold renE renR renR'
  by_cases hh : hasF s.fs c.id = true
  · rw [if_pos hh, if_pos hh]
    obtain ⟨h1, h2⟩ := fieldD_of hh
    generalize fieldD s.fs c.id = f at h1 h2
    rw [last_as (t := putS s { f with nm := c.nm }) (p := True) (q := takB s.fs { f with nm := c.nm } f.id f.id = true) (r := True) ⟨fun _ => trivial, fun _ => plcs_put ho h1 rfl rfl id⟩ (fun _ => ?_) (fun _ _ => ?_)]
    · rw [if_pos trivial, if_pos trivial]; rfl
    · show namGo [] (putF s.fs _) = true ↔ _
      rw [nam_iff (srt_put ho.srt)]
      exact nam_put ho.srt ho.nam h1 rfl
    · exact ⟨fun _ => trivial, fun _ => by show (putF s.fs _).length ≤ 64 ∧ _; rw [put_lenS]; exact ho.big⟩
  · rw [if_neg hh, if_neg hh]
    exact last_err (by decide)
theorem wid_eq (ho : Ok s) {c : Ch} : lastE (widE s c) = widR s c := by
  unfold widE widR widR'
  by_cases hh : hasF s.fs c.id = true
  · rw [if_pos hh, if_pos hh]
    obtain ⟨h1, h2⟩ := fieldD_of hh
    generalize fieldD s.fs c.id = f at h1 h2
    by_cases ht : f.ty = 2
    · rw [if_pos ht, if_pos ht]
      rw [last_as (t := putS s { f with ty := 3 }) (p := True) (q := False) (r := True) ⟨fun _ => trivial, fun _ => plcs_put ho h1 rfl rfl (fun h => by rw [ht] at h; cases h)⟩ (fun _ => ?_) (fun _ _ => ?_)]
      · rw [if_pos trivial, if_pos trivial]; rfl
      · show namGo [] (putF s.fs _) = true ↔ _
        rw [nam_iff (srt_put ho.srt), nam_put (f := f) (g := { f with ty := 3 }) ho.srt ho.nam h1 rfl, tak_iff]
        refine ⟨fun _ h => h, fun _ h => ?_⟩
        rcases h with ⟨k, k1, k2, _, k3⟩ | h
        · have := ho.nam.2 f h1 k k1 (fun e => k2 e.symm)
          rw [show clash { f with ty := 3 } k = clash f k from rfl, this] at k3; cases k3
        · have := ho.nam.1 f h1
          have h : namB f.nm = false := h
          rw [this] at h; cases h
      · exact ⟨fun _ => trivial, fun _ => by show (putF s.fs _).length ≤ 64 ∧ _; rw [put_lenS]; exact ho.big⟩
    · rw [if_neg ht, if_neg ht]
      exact last_err (by decide)
  · rw [if_neg hh, if_neg hh]
    exact last_err (by decide)
theorem ins_inv {a : Int} : ∀ {n : Nat} {i : Int}, insG l a n i = true → i ≠ 0 ∧ (i = a ∨ ∃ k, insG l a k (fieldD l i).pa = true)
  | 0, _, h => by simp [insG] at h
  | n + 1, i, h => by
    unfold insG at h
    split at h
    · cases h
    · next h0 =>
      refine ⟨h0, ?_⟩
      split at h
      · next h1 => exact .inl h1
      · exact .inr ⟨n, h⟩
theorem ins_up (ho : Ok s) (he : g.id = f.id) (hi : ∃ k, insG s.fs f.id k g.pa = true) {m : Nat} {j : Int} (hu : Up (putF s.fs g) m j) : ¬ ∃ k, insG s.fs f.id k j = true := by
  induction hu with
  | zero =>
    rintro ⟨k, hk⟩
    exact (ins_inv hk).1 rfl
  | step h1 _ _ ih =>
    rintro ⟨k, hk⟩
    obtain ⟨hj, hk2⟩ := ins_inv hk
    rcases mem_put.1 h1 with ⟨h1, h5⟩ | ⟨rfl, _⟩
    · rcases hk2 with e | hk2
      · omega
      · rw [fieldD_eq ho.srt h1] at hk2
        exact ih hk2
    · exact ih hi
theorem plcs_mov (ho : Ok s) (hf : f ∈ s.fs) {p : Int} : plcsB (putF s.fs { f with pa := p }) = true ↔ (grpB s.fs p = true ∧ insB s.fs p f.id = false) ∧ (putF s.fs { f with pa := p }).all (depOk (putF s.fs { f with pa := p })) = true := by
  obtain ⟨g, hg⟩ : ∃ g : Fd, g = { f with pa := p } := ⟨_, rfl⟩
  have gi : g.id = f.id := by rw [hg]
  have gt : g.ty = f.ty := by rw [hg]
  have gp : g.pa = p := by rw [hg]
  rw [← hg]
  have hn : Num (putF s.fs g) := ⟨srt_put ho.srt, fun k hk => by
    obtain ⟨o, h1, h2⟩ := put_ids hk
    have := ho.pos o h1; omega⟩
  have hgm : g ∈ putF s.fs g := mem_put.2 (.inr ⟨rfl, f, hf, gi.symm⟩)
  have hdep : (putF s.fs g).all (depOk (putF s.fs g)) = true ↔ ∀ k ∈ putF s.fs g, Dp (putF s.fs g) 8 k.id := by
    rw [List.all_eq_true]
    refine ⟨fun h k hk => ?_, fun h k hk => ?_⟩
    · have := h k hk
      unfold depOk at this
      exact (depL_iff hn (k := 8) (by omega)).1 (by simpa using this)
    · unfold depOk
      have := (depL_iff hn (k := 8) (by omega)).2 (h k hk)
      simpa using this
  have hgrp : grpB s.fs p = true ↔ p = 0 ∨ ∃ k ∈ putF s.fs g, k.id = p ∧ k.ty = 6 := by
    rw [grp_iff ho.srt]
    refine or_congr Iff.rfl ⟨?_, ?_⟩
    · rintro ⟨k, h1, h2, h3⟩
      obtain ⟨o, h4, h5, h6⟩ := put_has (g := g) ho.srt hf gi (fun h => by rw [gt]; exact h) k h1 h3
      exact ⟨o, h4, by omega, h6⟩
    · rintro ⟨k, h1, h2, h3⟩
      rcases mem_put.1 h1 with ⟨h1, _⟩ | ⟨rfl, _⟩
      · exact ⟨k, h1, h2, h3⟩
      · exact ⟨f, hf, by omega, by omega⟩
  rw [plcs_iff hn, hdep, hgrp]
  constructor
  · intro h
    have hp := h g hgm
    rw [gp] at hp
    refine ⟨⟨?_, ?_⟩, fun k hk => ?_⟩
    · rcases up_cases hp with h | ⟨k, h1, h2, h3, _⟩
      · exact .inl h
      · exact .inr ⟨k, h1, h2, h3⟩
    · cases hi : insB s.fs p f.id with
      | false => rfl
      | true => exact absurd ⟨9, hi⟩ (ins_up (f := f) ho gi ⟨9, by rw [gp]; exact hi⟩ hp)
    · exact .step hk (dp_of_up (h k hk))
  · rintro ⟨⟨h1, _⟩, h3⟩ k hk
    have hgp : GP (putF s.fs g) := fun k hk => by
      rcases mem_put.1 hk with ⟨hk1, _⟩ | ⟨rfl, _⟩
      · rcases gp_of_up ho.plc k hk1 with h | ⟨o, o1, o2, o3⟩
        · exact .inl h
        · obtain ⟨q, q1, q2, q3⟩ := put_has (g := g) ho.srt hf gi (fun h => by rw [gt]; exact h) o o1 o3
          exact .inr ⟨q, q1, by omega, q3⟩
      · rw [gp]; exact h1
    refine up_of_dp hn hgp (hgp k hk) ?_
    rcases dp_cases (h3 k hk) with h | ⟨o, o1, o2, j, o3, o4⟩
    · have := hn.pos k hk; omega
    · cases o3
      rw [← srt_uniq hn.srt o1 hk o2]; exact o4
theorem mov_eq (ho : Ok s) {c : Ch} : lastE (movE s c) = moveR s c := by
  unfold movE moveR moveR' movR
  by_cases hh : hasF s.fs c.id = true
  · rw [if_pos hh, if_pos hh]
    obtain ⟨h1, h2⟩ := fieldD_of hh
    generalize fieldD s.fs c.id = f at h1 h2
    rw [last_as (t := putS s { f with pa := c.pa }) (p := (grpB s.fs c.pa = true ∧ insB s.fs c.pa f.id = false) ∧ (putF s.fs { f with pa := c.pa }).all (depOk (putF s.fs { f with pa := c.pa })) = true) (q := takB s.fs { f with pa := c.pa } f.id f.id = true) (r := True) (plcs_mov ho h1) (fun _ => ?_) (fun _ _ => ?_)]
    · by_cases ha : grpB s.fs c.pa = true ∧ insB s.fs c.pa f.id = false
      · rw [if_pos ha]
        by_cases hb : (putF s.fs { f with pa := c.pa }).all (depOk (putF s.fs { f with pa := c.pa })) = true
        · rw [if_pos hb, if_pos ⟨ha, hb⟩, if_pos trivial]; rfl
        · rw [if_neg hb, if_neg (fun h => hb h.2)]
      · rw [if_neg ha, if_neg (fun h => ha h.1)]
    · show namGo [] (putF s.fs _) = true ↔ _
      rw [nam_iff (srt_put ho.srt)]
      exact nam_put ho.srt ho.nam h1 rfl
    · exact ⟨fun _ => trivial, fun _ => by show (putF s.fs _).length ≤ 64 ∧ _; rw [put_lenS]; exact ho.big⟩
  · rw [if_neg hh, if_neg hh]
    exact last_err (by decide)

theorem drop_len (hs : Srt l) (hf : f ∈ l) : (dropF l f.id).length + 1 = l.length := by
  induction l with
  | nil => simp at hf
  | cons a r ih =>
    unfold Srt at hs
    rw [List.pairwise_cons] at hs
    unfold dropF
    rw [List.filter_cons]
    rcases List.mem_cons.1 hf with rfl | hf1
    · rw [if_neg (by simp)]
      have : r.filter (fun o => !(o.id == f.id)) = r := List.filter_eq_self.2 (fun o ho => by have := hs.1 o ho; simp; omega)
      rw [this]
      rfl
    · have hne : ¬ a.id = f.id := by have := hs.1 f hf1; omega
      rw [if_pos (by simp [hne])]
      have := ih hs.2 hf1
      unfold dropF at this
      simp [this]
/-- no field has a text for a group -/
theorem no_child (ho : Ok s) (hf : f ∈ s.fs) (ht : f.ty = 4) : ∀ k ∈ s.fs, k.pa ≠ f.id := fun k hk e => by
  rcases up_cases (ho.plc k hk) with h | ⟨o, h1, h2, h3, _⟩
  · have := ho.pos f hf; omega
  · rw [srt_uniq ho.srt h1 hf (by omega)] at h3; omega
theorem ok_drop (ho : Ok s) (hf : f ∈ s.fs) (ht : f.ty = 4) : Ok (dropS s f.id) := by
  have hp := pre_drop (i := f.id) ho.pre
  have hl : (dropF s.fs f.id).length ≤ s.fs.length := List.length_filter_le _ _
  have hb := ho.big
  exact ⟨hp.srt, hp.pos, hp.low, hp.nx, ⟨by show (dropF s.fs f.id).length ≤ 64; omega, hb.2⟩, hp.typ, fun k hk => up_avoid (no_child ho hf ht) (fun o h1 h2 => mem_drop.2 ⟨h1, h2⟩) (ho.plc k (mem_drop.1 hk).1) (no_child ho hf ht k (mem_drop.1 hk).1), nam_sub ho.nam (fun o h => (mem_drop.1 h).1)⟩
theorem plc_drop (ho : Ok s) (hf : f ∈ s.fs) (ht : f.ty = 4) (hk : g ∈ s.fs) : Up (dropF s.fs f.id) 7 g.pa :=
  up_avoid (no_child ho hf ht) (fun _ h1 h2 => mem_drop.2 ⟨h1, h2⟩) (ho.plc g hk) (no_child ho hf ht g hk)
theorem nm_iff {d : List Fd} {x : Int} {nm : ByteArray} {ty pa : Int} : (namB nm = true ∧ ∀ h ∈ d, clash ⟨x, nm, ty, pa⟩ h = false) ↔ ¬ ((∃ h ∈ d, clash ⟨0, nm, ty, pa⟩ h = true) ∨ namB nm = false) := by
  constructor
  · rintro ⟨a, b⟩ (⟨h, h1, h2⟩ | h)
    · rw [show clash ⟨0, nm, ty, pa⟩ h = clash ⟨x, nm, ty, pa⟩ h from rfl, b h h1] at h2; cases h2
    · rw [a] at h; cases h
  · intro hN
    refine ⟨?_, fun h hh => ?_⟩
    · cases hb : namB nm with
      | true => rfl
      | false => exact absurd (.inr hb) hN
    · cases hb : clash ⟨x, nm, ty, pa⟩ h with
      | false => rfl
      | true => exact absurd (.inl ⟨h, hh, hb⟩) hN
theorem tak_drop {a b : Int} : takB l g a b = true ↔ (∃ h ∈ dropF (dropF l a) b, clash g h = true) ∨ namB g.nm = false := by
  rw [tak_iff]
  refine or_congr ⟨?_, ?_⟩ Iff.rfl
  · rintro ⟨h, h1, h2, h3, h4⟩
    exact ⟨h, mem_drop.2 ⟨mem_drop.2 ⟨h1, h2⟩, h3⟩, h4⟩
  · rintro ⟨h, h1, h4⟩
    obtain ⟨h1, h3⟩ := mem_drop.1 h1
    obtain ⟨h1, h2⟩ := mem_drop.1 h1
    exact ⟨h, h1, h2, h3, h4⟩
theorem nam_with (hp : Ok s) {nm : ByteArray} {ty pa : Int} : NamOk (withS s nm ty pa).fs ↔ ¬ ((∃ h ∈ s.fs, clash ⟨0, nm, ty, pa⟩ h = true) ∨ namB nm = false) := by
  rw [← nm_iff (x := s.next)]
  exact nam_snoc hp.nam (fun h hh => by have := hp.low h hh; show h.id ≠ s.next; omega)
theorem drop_drop (l : List Fd) (a : Int) : dropF (dropF l a) a = dropF l a := by rw [← drop2_eq, drop2_same]
theorem spl_eq (ho : Ok s) {c : Ch} : lastE (splE s c) = splitR s c := by
  unfold splE splitR splitR'
  by_cases hh : hasF s.fs c.id = true
  · rw [if_pos hh, if_pos hh]
    obtain ⟨h1, h2⟩ := fieldD_of hh
    generalize fieldD s.fs c.id = f at h1 h2
    by_cases ht : f.ty = 4
    · rw [if_pos ht, if_pos ht]
      by_cases hs : sepB c.sep = true
      · rw [if_pos hs, if_pos hs, drop2_same]
        have hd := ok_drop ho h1 ht
        have t4 : typB 4 = true := by decide
        have p1 := pre_with hd.pre (nm := c.nm) (ty := 4) (pa := f.pa) t4
        have p2 := pre_with p1 (nm := c.ot) (ty := 4) (pa := f.pa) t4
        have hlen := drop_len ho.srt h1
        refine (last_as (p := True) (q := takB s.fs ⟨0, c.nm, 4, f.pa⟩ f.id f.id = true ∨ takB s.fs ⟨0, c.ot, 4, f.pa⟩ f.id f.id = true ∨ (c.nm.toList == c.ot.toList) = true) (r := s.fs.length < 64 ∧ s.next ≤ 1073741822) ?_ (fun _ => ?_) (fun _ _ => ?_)).trans (if_pos trivial)
        · refine ⟨fun _ => trivial, fun _ => (plcs_iff p2.num).2 fun k hk => ?_⟩
          refine up_app (up_app ?_)
          rcases List.mem_append.1 hk with hk | hk
          · rcases List.mem_append.1 hk with hk | hk
            · exact plc_drop ho h1 ht (mem_drop.1 hk).1
            · rw [List.mem_singleton] at hk; subst hk; show Up _ 7 f.pa; exact plc_drop ho h1 ht h1
          · rw [List.mem_singleton] at hk; subst hk; show Up _ 7 f.pa; exact plc_drop ho h1 ht h1
        · rw [nam_iff p2.srt, tak_drop, tak_drop, drop_drop]
          have e1 := nam_with (s := dropS s f.id) (nm := c.nm) (ty := 4) (pa := f.pa) hd
          have hne : ∀ h ∈ (withS (dropS s f.id) c.nm 4 f.pa).fs, h.id ≠ s.next + 1 := fun h hh => by have := p1.low h hh; have : h.id < s.next + 1 := this; omega
          constructor
          · intro hN hq
            have hN1 : NamOk (withS (dropS s f.id) c.nm 4 f.pa).fs := nam_sub hN (fun o h => by show o ∈ _ ++ _; exact List.mem_append.2 (.inl h))
            have hN2 := (nam_snoc hN1 hne).1 hN
            rcases hq with h | h | h
            · exact e1.1 hN1 h
            · rcases h with ⟨o, k1, k2⟩ | h
              · have : clash ⟨0, c.ot, 4, f.pa⟩ o = false := hN2.2 o (by show o ∈ _ ++ _; exact List.mem_append.2 (.inl k1))
                rw [k2] at this; cases this
              · have a : namB c.ot = true := hN2.1
                have h : namB c.ot = false := h
                rw [a] at h; cases h
            · have : clash ⟨0, c.ot, 4, f.pa⟩ ⟨s.next, c.nm, 4, f.pa⟩ = false := hN2.2 ⟨s.next, c.nm, 4, f.pa⟩ (by show _ ∈ _ ++ _; exact List.mem_append.2 (.inr (by simp [dropS])))
              unfold clash sameB at this
              simp only [decide_true, Bool.true_and] at this
              rw [h] at this; cases this
          · intro hq
            have hN1 := e1.2 (fun h => hq (.inl h))
            refine (nam_snoc hN1 hne).2 ⟨?_, fun o hm => ?_⟩
            · cases hb : namB c.ot with
              | true => rfl
              | false => exact absurd (.inr (.inl (.inr hb))) hq
            · show clash ⟨0, c.ot, 4, f.pa⟩ o = false
              cases hb : clash ⟨0, c.ot, 4, f.pa⟩ o with
              | false => rfl
              | true =>
                rcases List.mem_append.1 hm with hm | hm
                · exact absurd (.inr (.inl (.inl ⟨o, hm, hb⟩))) hq
                · rw [List.mem_singleton] at hm
                  subst hm
                  unfold clash sameB at hb
                  simp only [decide_true, Bool.true_and] at hb
                  exact absurd (.inr (.inr hb)) hq
        · show (((dropF s.fs f.id ++ [_]) ++ [_]).length ≤ 64 ∧ s.next + 1 + 1 ≤ 1073741824) ↔ _
          rw [List.length_append, List.length_append, List.length_singleton, List.length_singleton]
          omega
      · rw [if_neg hs, if_neg hs]
        exact last_err (by decide)
    · rw [if_neg ht, if_neg ht]
      exact last_err (by decide)
  · rw [if_neg hh, if_neg hh]
    exact last_err (by decide)
theorem joi_eq (ho : Ok s) {c : Ch} : lastE (joiE s c) = joinR s c := by
  unfold joiE joinR joinR'
  by_cases hh : hasF s.fs c.id = true ∧ hasF s.fs c.wi = true ∧ (fieldD s.fs c.id).id ≠ (fieldD s.fs c.wi).id
  · rw [if_pos hh, if_pos hh]
    obtain ⟨h1, h2⟩ := fieldD_of hh.1
    obtain ⟨h3, h4⟩ := fieldD_of hh.2.1
    have hne := hh.2.2
    generalize fieldD s.fs c.id = f at h1 h2 hne
    generalize fieldD s.fs c.wi = g at h3 h4 hne
    by_cases ht : f.ty = 4 ∧ g.ty = 4
    · rw [if_pos ht, if_pos ht]
      by_cases hp : f.pa = g.pa
      · rw [if_pos hp, if_pos hp]
        by_cases hs : sepB c.sep = true
        · rw [if_pos hs, if_pos hs, drop2_eq]
          have hd := ok_drop ho h1 ht.1
          have hg : g ∈ (dropS s f.id).fs := mem_drop.2 ⟨h3, fun e => hne e.symm⟩
          have hd2 := ok_drop hd hg ht.2
          have t4 : typB 4 = true := by decide
          have p1 := pre_with hd2.pre (nm := c.nm) (ty := 4) (pa := f.pa) t4
          have hlen := drop_len ho.srt h1
          have hlen2 : (dropF (dropF s.fs f.id) g.id).length + 1 = (dropF s.fs f.id).length := drop_len hd.srt hg
          have hb := ho.big
          refine (last_as (p := True) (q := takB s.fs ⟨0, c.nm, 4, f.pa⟩ f.id g.id = true) (r := s.next < 1073741824) ?_ (fun _ => ?_) (fun _ _ => ?_)).trans (if_pos trivial)
          · refine ⟨fun _ => trivial, fun _ => (plcs_iff p1.num).2 fun k hk => ?_⟩
            refine up_app ?_
            rcases List.mem_append.1 hk with hk | hk
            · exact hd2.plc k hk
            · rw [List.mem_singleton] at hk
              subst hk
              show Up (dropF (dropF s.fs f.id) g.id) 7 f.pa
              rw [hp]
              exact plc_drop hd hg ht.2 hg
          · rw [nam_iff p1.srt, tak_drop]
            exact nam_with (s := dropS (dropS s f.id) g.id) hd2
          · show ((dropF (dropF s.fs f.id) g.id ++ [_]).length ≤ 64 ∧ s.next + 1 ≤ 1073741824) ↔ _
            rw [List.length_append, List.length_singleton]
            omega
        · rw [if_neg hs, if_neg hs]
          exact last_err (by decide)
      · rw [if_neg hp, if_neg hp]
        exact last_err (by decide)
    · rw [if_neg ht, if_neg ht]
      exact last_err (by decide)
  · rw [if_neg hh, if_neg hh]
    exact last_err (by decide)
/-- for valid schemas the program's Apply is the reference's -/
theorem apply_eq (ho : Ok s) (c : Ch) : applyP s c = applyR s c := by
  unfold applyP applyR editE
  by_cases h1 : c.kind = 1
  · rw [if_pos h1, if_pos h1, if_pos (by omega)]; exact add_eq ho
  by_cases h2 : c.kind = 2
  · rw [if_neg h1, if_neg h1, if_pos h2, if_pos h2, if_pos (by omega)]; exact drop_eq ho
  by_cases h3 : c.kind = 3
  · rw [if_neg h1, if_neg h1, if_neg h2, if_neg h2, if_pos h3, if_pos h3, if_pos (by omega)]; exact ren_eq ho
  by_cases h4 : c.kind = 4
  · rw [if_neg h1, if_neg h1, if_neg h2, if_neg h2, if_neg h3, if_neg h3, if_pos h4, if_pos h4, if_pos (by omega)]; exact wid_eq ho
  by_cases h5 : c.kind = 5
  · rw [if_neg h1, if_neg h1, if_neg h2, if_neg h2, if_neg h3, if_neg h3, if_neg h4, if_neg h4, if_pos h5, if_pos h5, if_pos (by omega)]; exact mov_eq ho
  by_cases h6 : c.kind = 6
  · rw [if_neg h1, if_neg h1, if_neg h2, if_neg h2, if_neg h3, if_neg h3, if_neg h4, if_neg h4, if_neg h5, if_neg h5, if_pos h6, if_pos h6, if_pos (by omega)]; exact spl_eq ho
  rw [if_neg h1, if_neg h1, if_neg h2, if_neg h2, if_neg h3, if_neg h3, if_neg h4, if_neg h4, if_neg h5, if_neg h5, if_neg h6, if_neg h6]
  by_cases h7 : c.kind = 7
  · rw [if_pos h7, if_pos (by omega)]; exact joi_eq ho
  · rw [if_neg h7, if_neg (by omega)]

/-- numbers never return: what a change leaves of the numbers -/
def Keeps (s t : Sc) : Prop := s.next ≤ t.next ∧ ∀ f ∈ t.fs, (∃ g ∈ s.fs, g.id = f.id) ∨ s.next ≤ f.id
theorem keeps_refl (s : Sc) : Keeps s s := ⟨Int.le_refl _, fun f hf => .inl ⟨f, hf, rfl⟩⟩
theorem keeps_trans {s t u : Sc} (h1 : Keeps s t) (h2 : Keeps t u) : Keeps s u := by
  refine ⟨Int.le_trans h1.1 h2.1, fun f hf => ?_⟩
  rcases h2.2 f hf with ⟨g, h3, h4⟩ | h
  · rw [← h4]; exact h1.2 g h3
  · exact .inr (Int.le_trans h1.1 h)
theorem keeps_with (s : Sc) (nm : ByteArray) (ty pa : Int) : Keeps s (withS s nm ty pa) := by
  refine ⟨by show s.next ≤ s.next + 1; omega, fun f hf => ?_⟩
  rcases List.mem_append.1 hf with hf | hf
  · exact .inl ⟨f, hf, rfl⟩
  · rw [List.mem_singleton] at hf; subst hf; exact .inr (Int.le_refl _)
theorem keeps_drop (s : Sc) (i : Int) : Keeps s (dropS s i) := ⟨Int.le_refl _, fun f hf => .inl ⟨f, (mem_drop.1 hf).1, rfl⟩⟩
theorem keeps_put (s : Sc) (g : Fd) : Keeps s (putS s g) := ⟨Int.le_refl _, fun _ hf => .inl (put_ids hf)⟩
theorem edit_ok (ho : Ok s) {c : Ch} (h : (editE s c).2 = 0) : Pre (editE s c).1 ∧ Keeps s (editE s c).1 := by
  have t4 : typB 4 = true := by decide
  unfold editE at h ⊢
  split
  · next hk =>
    rw [if_pos hk] at h
    unfold addE at h ⊢
    split
    · next ht => exact ⟨pre_with ho.pre ht, keeps_with _ _ _ _⟩
    · next ht => rw [if_neg ht] at h; cases h
  next hk =>
  rw [if_neg hk] at h
  split
  · next hk =>
    rw [if_pos hk] at h
    unfold dropE at h ⊢
    split
    · exact ⟨pre_drop ho.pre, keeps_drop _ _⟩
    · next ht => rw [if_neg ht] at h; cases h
  next hk =>
  rw [if_neg hk] at h
  split
  · next hk =>
    rw [if_pos hk] at h
    unfold renE at h ⊢
    split
    · next hh => exact ⟨pre_put ho.pre (show typB (fieldD s.fs c.id).ty = true from ho.typ _ (fieldD_of hh).1), keeps_put _ _⟩
    · next ht => rw [if_neg ht] at h; cases h
  next hk =>
  rw [if_neg hk] at h
  split
  · next hk =>
    rw [if_pos hk] at h
    unfold widE at h ⊢
    split
    · next hh =>
      rw [if_pos hh] at h
      split
      · exact ⟨pre_put ho.pre (show typB 3 = true by decide), keeps_put _ _⟩
      · next ht => rw [if_neg ht] at h; cases h
    · next ht => rw [if_neg ht] at h; cases h
  next hk =>
  rw [if_neg hk] at h
  split
  · next hk =>
    rw [if_pos hk] at h
    unfold movE at h ⊢
    split
    · next hh => exact ⟨pre_put ho.pre (show typB (fieldD s.fs c.id).ty = true from ho.typ _ (fieldD_of hh).1), keeps_put _ _⟩
    · next ht => rw [if_neg ht] at h; cases h
  next hk =>
  rw [if_neg hk] at h
  split
  · next hk =>
    rw [if_pos hk] at h
    unfold splE at h ⊢
    split
    · next hh =>
      rw [if_pos hh] at h
      split
      · next ht =>
        rw [if_pos ht] at h
        split
        · exact ⟨pre_with (pre_with (pre_drop ho.pre) t4) t4, keeps_trans (keeps_drop _ _) (keeps_trans (keeps_with _ _ _ _) (keeps_with _ _ _ _))⟩
        · next hs => rw [if_neg hs] at h; cases h
      · next ht => rw [if_neg ht] at h; cases h
    · next ht => rw [if_neg ht] at h; cases h
  next hk =>
  rw [if_neg hk] at h
  unfold joiE at h ⊢
  split
  · next hh =>
    rw [if_pos hh] at h
    split
    · next ht =>
      rw [if_pos ht] at h
      split
      · next hp =>
        rw [if_pos hp] at h
        split
        · exact ⟨pre_with (pre_drop (pre_drop ho.pre)) t4, keeps_trans (keeps_drop _ _) (keeps_trans (keeps_drop _ _) (keeps_with _ _ _ _))⟩
        · next hs => rw [if_neg hs] at h; cases h
      · next ht => rw [if_neg ht] at h; cases h
    · next ht => rw [if_neg ht] at h; cases h
  · next ht => rw [if_neg ht] at h; cases h
/-- a change of a valid schema that is possible leaves a valid one -/
theorem ok_apply (ho : Ok s) {c : Ch} (h : (applyP s c).2 = 0) : Ok (applyP s c).1 ∧ Keeps s (applyP s c).1 := by
  unfold applyP at h ⊢
  split
  · next hk =>
    rw [if_pos hk] at h
    unfold lastE at h ⊢
    split
    · next h0 =>
      rw [if_pos h0] at h
      obtain ⟨hp, hkeep⟩ := edit_ok ho h0
      split
      · next h1 =>
        rw [if_pos h1] at h
        split
        · next h2 =>
          rw [if_pos h2] at h
          split
          · next h3 => exact ⟨⟨hp.srt, hp.pos, hp.low, hp.nx, h3, hp.typ, (plcs_iff hp.num).1 h1, (nam_iff hp.srt).1 h2⟩, hkeep⟩
          · next h3 => rw [if_neg h3] at h; cases h
        · next h3 => rw [if_neg h3] at h; cases h
      · next h3 => rw [if_neg h3] at h; cases h
    · next h3 => rw [if_neg h3] at h; exact absurd h h3
  · next hk => rw [if_neg hk] at h; cases h
theorem err_apply {c : Ch} (h : (applyP s c).2 ≠ 0) : (applyP s c).1 = Sc.zero := by
  unfold applyP at h ⊢
  split
  · next hk =>
    rw [if_pos hk] at h
    unfold lastE at h ⊢
    split
    · next h0 =>
      rw [if_pos h0] at h
      split
      · next h1 =>
        rw [if_pos h1] at h
        split
        · next h2 =>
          rw [if_pos h2] at h
          split
          · next h3 => rw [if_pos h3] at h; exact absurd rfl h
          · rfl
        · rfl
      · rfl
    · rfl
  · rfl
end
end Go.Proofs.Ytpgbpfdedpppeaa
