/-
 What the program's closures do to rows that fit is what a change does; the program's Forward, Back, Lossless, Translate as plain functions.
-/
import Derived.Test.YtfeemipnalgjnaaGreatPaO
namespace Go.Proofs.YtfeemipnalgjnaaGreat
open Go.RowKit

section
variable {s t : Sc} {c : Ch} {r : List Ce} {l : List Fd} {i : Int} {v : Va}
theorem set_same (hi : Inc r) (hn : NoN r) (h : getL r i = v) : setL r i v = r := by
 refine row_ext (inc_set hi) hi (non_set hi hn) hn fun j => ?_
 rw [get_set hi]
 split
 ·
  next e =>
  subst e
  split
  ·
   next hv =>
   rw [h]
   rcases get_cases r j hi with ⟨d, hd, he, hg⟩ | ⟨_, hg⟩
   ·
    have := hn d hd
    rw [← hg, h, hv] at this
    cases this
   ·
    rw [← h, hg]
  ·
   exact h.symm
 ·
  rfl
theorem cut_nil {sep : ByteArray} (h : sepB sep = true) : (Lib.cut [] sep.data.toList).2.2 = false := by
 unfold Lib.cut
 split
 ·
  next hn =>
  exfalso
  have hz : sep.data.toList ≠ [] := fun e => by
   unfold sepB at h
   have h1 := of_decide_eq_true h
   have h2 := bln sep
   rw [e] at h2
   simp at h2
   omega
  unfold Lib.index at hn
  cases hq : sep.data.toList with
  | nil => exact hz hq
  | cons a q => rw [hq] at hn; simp at hn
 ·
  rfl
theorem divP_nul {sep : ByteArray} (h : sepB sep = true) : divP Va.nul sep = (Va.nul, Va.nul) := by
 unfold divP
 rw [show Va.nul.s.data.toList = [] from rfl, cut_nil h]
 rfl
theorem divP_text {sep : ByteArray} (hn : v.n = 0) (hb : v.b = false) : divP v sep = divL v.s sep := by
 unfold divP divL
 split
 ·
  rfl
 ·
  rw [← va_eq v hn hb]
theorem no_set {v : Va} (hi : Inc r) (h : ∀ c ∈ r, c.id ≠ i) (hv : v.b = true) : setL r i v = r := set_nul h hi hv
theorem abs_set {j : Int} {v : Va} (hi : Inc r) (h : ∀ c ∈ r, c.id ≠ i) (hv : v.b = true ∨ i ≠ j) : ∀ c ∈ setL r j v, c.id ≠ i := fun c hc => by
 rcases (mem_set hi).1 hc with ⟨h', _⟩ | ⟨hb, rfl⟩
 ·
  exact h c h'
 ·
  rcases hv with hv | hv
  ·
   rw [hv] at hb; cases hb
  ·
   exact fun e => hv e.symm
theorem fwdK_ap (ho : Ok s) (hst : StC s t c) (hf : FitL s.fs r) : (fwdK s c).ap r = fwdL s c r := by
 have hi := fit_inc hf
 unfold fwdK fwdL
 cases hst with
 | add hk ht hn => rw [if_neg (by omega), if_neg (by omega), if_neg (by omega), if_neg (by omega), if_neg (by omega), if_neg (by omega)]; rfl
 | drop hk ht hn => rw [if_pos hk, if_pos hk]; rfl
 | same hk ht hn => rw [if_neg (by omega), if_neg (by omega), if_neg (by omega), if_neg (by omega), if_neg (by omega), if_neg (by omega)]; rfl
 | wid hk h2 ht hn => rw [if_neg (by omega), if_neg (by omega), if_neg (by omega), if_neg (by omega), if_neg (by omega), if_neg (by omega)]; rfl
 | spl hk h4 hsep ht hn =>
  rw [if_neg (by omega), if_pos hk, if_neg (by omega), if_pos hk]
  show diP r c.id s.next (s.next + 1) c.sep = _
  unfold diP
  split
  ·
   next hb =>
   rw [fit_nul hf hb, divP_nul hsep]
   have h1 := abs_set (j := c.id) (v := Va.nul) hi (fit_abs hf (no_next ho)) (.inl rfl)
   have h2 := abs_set (j := c.id) (v := Va.nul) hi (fit_abs hf (no_next1 ho)) (.inl rfl)
   rw [no_set (i := s.next) (inc_set hi) h1 rfl, no_set (inc_set hi) h2 rfl]
  ·
   next hb =>
   have hb' : (getL r c.id).b = false := by simpa using hb
   rw [divP_text (text_of ho.srt h4 hf hb').1 hb']
 | joi hk h4 h4' hne hsep ht hn =>
  rw [if_neg (by omega), if_neg (by omega), if_pos hk, if_neg (by omega), if_neg (by omega), if_pos hk]
  rfl
theorem okV_nul2 : okV Va.nul 2 = true := (okn 2).trans rfl
theorem bakK_ap (ho : Ok s) (ho' : Ok t) (hst : StC s t c) (hf : FitL t.fs r) : (bakK s c).ap r = bakL s c r := by
 have hi := fit_inc hf
 have hnn := fit_absn hf
 unfold bakK bakL
 cases hst with
 | add hk ht hn => rw [if_pos hk, if_pos hk]; rfl
 | drop hk ht hn => rw [if_neg (by omega), if_neg (by omega), if_neg (by omega), if_neg (by omega), if_neg (by omega), if_neg (by omega), if_neg (by omega), if_neg (by omega)]; rfl
 | same hk ht hn => rw [if_neg (by omega), if_neg (by omega), if_neg (by omega), if_neg (by omega), if_neg (by omega), if_neg (by omega), if_neg (by omega), if_neg (by omega)]; rfl
 | wid hk h2 ht hn =>
  rw [if_neg (by omega), if_pos hk, if_neg (by omega), if_pos hk]
  show narP r c.id = _
  unfold narP
  rcases fit_get hf c.id with ⟨h, _⟩ | ⟨hb, y, hy, hk'⟩
  ·
   rw [h, okV_nul2, if_pos rfl, if_pos (by simp [Va.nul])]
   exact set_same hi hnn h
  ·
   rw [ty_uniq ho'.srt hy ((ht _ _).2 (.inr ⟨rfl, rfl⟩))] at hk'
   by_cases hr : -2147483648 ≤ (getL r c.id).n ∧ (getL r c.id).n ≤ 2147483647
   ·
    rw [if_pos ((ok2 hb hk').2 hr), if_pos hr]
    exact set_same hi hnn rfl
   ·
    rw [if_neg (fun h => hr ((ok2 hb hk').1 h)), if_neg hr]
 | spl hk h4 hsep ht hn =>
  rw [if_neg (by omega), if_neg (by omega), if_pos hk, if_neg (by omega), if_neg (by omega), if_pos hk]
  rfl
 | joi hk h4 h4' hne hsep ht hn =>
  rw [if_neg (by omega), if_neg (by omega), if_neg (by omega), if_pos hk, if_neg (by omega), if_neg (by omega), if_neg (by omega), if_pos hk]
  show diP r s.next c.id c.wi c.sep = _
  unfold diP
  have a1 : ∀ y, ¬ Ty t.fs c.id y := fun y h => by
   rcases (ht _ _).1 h with h | h
   ·
    exact h.2.1 rfl
   ·
    have := ok_ty ho h4; omega
  have a2 : ∀ y, ¬ Ty t.fs c.wi y := fun y h => by
   rcases (ht _ _).1 h with h | h
   ·
    exact h.2.2 rfl
   ·
    have := ok_ty ho h4'; omega
  split
  ·
   next hb =>
   rw [fit_nul hf hb, divP_nul hsep]
   have h1 := abs_set (j := s.next) (v := Va.nul) hi (fit_abs hf a1) (.inl rfl)
   have h2 := abs_set (j := s.next) (v := Va.nul) hi (fit_abs hf a2) (.inl rfl)
   rw [no_set (i := c.id) (inc_set hi) h1 rfl, no_set (inc_set hi) h2 rfl]
  ·
   next hb =>
   have hb' : (getL r s.next).b = false := by simpa using hb
   rw [divP_text (text_of ho'.srt ((ht _ _).2 (.inr ⟨rfl, rfl⟩)) hf hb').1 hb']
end
def fwdQ (s : Sc) (c : Ch) (r : List Ce) : List Ce := if (applyP s c).2 = 0 ∧ fitGo s.fs 0 r = true then fwdL s c r else []
def bakQ (s : Sc) (c : Ch) (r : List Ce) : List Ce := if (applyP s c).2 = 0 ∧ fitGo (applyP s c).1.fs 0 r = true then bakL s c r else []
/-- two rows are the same -/
def eqCe (a b : Ce) : Bool := a.id == b.id && (a.v.b == b.v.b && (a.v.n == b.v.n && a.v.s.toList == b.v.s.toList))
def eqCs : List Ce → List Ce → Bool
 | [], [] => true
 | a :: l, b :: q => eqCe a b && eqCs l q
 | _, _ => false
theorem eqCe_iff (a b : Ce) : eqCe a b = true ↔ a = b := by
 obtain ⟨i, bb, n, s⟩ := a
 obtain ⟨j, cc, m, t⟩ := b
 unfold eqCe
 simp only [Bool.and_eq_true, beq_iff_eq]
 constructor
 ·
  rintro ⟨rfl, rfl, rfl, h⟩
  have : s = t := sameB_iff.1 (by unfold sameB; simpa using h)
  rw [this]
 ·
  intro h
  injection h with h1 h2
  injection h2 with h3 h4 h5
  subst h1 h3 h4 h5
  exact ⟨rfl, rfl, rfl, rfl⟩
theorem eqCs_iff : ∀ {l q : List Ce}, eqCs l q = true ↔ l = q
 | [], [] => by simp [eqCs]
 | [], _ :: _ => by simp [eqCs]
 | _ :: _, [] => by simp [eqCs]
 | a :: l, b :: q => by
  unfold eqCs
  rw [Bool.and_eq_true, eqCe_iff, eqCs_iff, List.cons.injEq]
def losQ (s : Sc) (c : Ch) (r : List Ce) : Bool := decide ((applyP s c).2 = 0) && (fitGo s.fs 0 r && eqCs (bakL s c (fwdL s c r)) r)
end Go.Proofs.YtfeemipnalgjnaaGreat
