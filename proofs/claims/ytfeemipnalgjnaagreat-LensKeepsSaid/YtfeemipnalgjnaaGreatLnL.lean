/-
 What follows for rows: forward, back and forward again; fields that stay; lists of changes. Plain theorems.
-/
import Derived.Test.YtfeemipnalgjnaaGreatLnM
namespace Go.Proofs.YtfeemipnalgjnaaGreat

section
variable {s t : Sc} {c : Ch} {r : List Ce} {l m : List Fd} {i j y : Int} {v a b : Va}
theorem arr_toList (b : ByteArray) : (⟨b.data.toList.toArray⟩ : ByteArray) = b := by cases b; simp
theorem ba_ext {a b : ByteArray} (h : a.data.toList = b.data.toList) : a = b := by
 rw [← arr_toList a, h, arr_toList]
theorem app_list (a b : ByteArray) : (a ++ b).data.toList = a.data.toList ++ b.data.toList := by simp
theorem cut_hit (p sep q : List UInt8) : (Lib.cut (p ++ sep ++ q) sep).2.2 = true := by
 unfold Lib.cut
 split
 ·
  rfl
 ·
  next hn =>
  rcases Lib.index_spec (p ++ sep ++ q) sep with ⟨_, h⟩ | ⟨i, h, _⟩
  ·
   have := h p.length (by simp)
   unfold Lib.occAt at this
   rw [List.append_assoc, List.drop_left, List.isPrefixOf_iff_prefix.2 (List.prefix_append _ _)] at this
   cases this
  ·
   rw [h] at hn; omega
theorem cut_join {t sep : List UInt8} (h : (Lib.cut t sep).2.2 = true) : (Lib.cut t sep).1 ++ sep ++ (Lib.cut t sep).2.1 = t := by
 unfold Lib.cut at h ⊢
 split
 ·
  next hn =>
  rcases Lib.index_spec t sep with ⟨h1, _⟩ | ⟨i, h1, h2, h3, _⟩
  ·
   rw [h1] at hn; omega
  ·
   rw [h1]
   unfold Lib.occAt at h3
   obtain ⟨q, hq⟩ := List.isPrefixOf_iff_prefix.1 h3
   have e : t = t.take i ++ (sep ++ q) := by rw [hq]; exact (List.take_append_drop i t).symm
   show t.take (i : Int).toNat ++ sep ++ t.drop ((i : Int).toNat + sep.length) = t
   rw [Int.toNat_natCast]
   have e2 : t.drop (i + sep.length) = q := by rw [← List.drop_drop, ← hq, List.drop_left]
   rw [e2, List.append_assoc]
   exact e.symm
 ·
  next hn => rw [if_neg hn] at h; cases h
/-- a text that is divided is connected again -/
theorem con_div {t sep : ByteArray} (ht : t.size ≤ 200) (h : (divL t sep).2.b = false) : conL (divL t sep).1 (divL t sep).2 sep = ⟨false, 0, t⟩ := by
 unfold divL at h ⊢
 split
 ·
  next hc =>
  unfold conL
  rw [if_neg (by simp)]
  have e : (⟨(Lib.cut t.data.toList sep.data.toList).1.toArray⟩ : ByteArray) ++ sep ++ ⟨(Lib.cut t.data.toList sep.data.toList).2.1.toArray⟩ = t := by
   apply ba_ext
   rw [app_list, app_list]
   exact cut_join hc
  show (⟨false, 0, cut200 (_ ++ sep ++ _)⟩ : Va) = _
  rw [e, cut200_le ht]
 ·
  next hc => rw [if_neg hc] at h; cases h
theorem div_none {t sep : ByteArray} (h : (divL t sep).2.b = true) : divL t sep = (⟨false, 0, t⟩, Va.nul) := by
 unfold divL at h ⊢
 split
 ·
  next hc => rw [if_pos hc] at h; cases h
 ·
  rfl
theorem div_fst (t sep : ByteArray) : (divL t sep).1.b = false := by
 unfold divL
 split <;> rfl
theorem nul_iff {t sep : ByteArray} : (if (divL t sep).2.b = true then Va.nul else (divL t sep).2) = (divL t sep).2 := by
 split
 ·
  next h => rw [div_none h]
 ·
  rfl
theorem cut200_more {s q : ByteArray} (h : s.size = 200) : cut200 (s ++ q) = s := by
 apply ba_ext
 unfold cut200
 rw [Lib.extract_eq]
 have hs : s.data.toList.length = 200 := by rw [bln, h]
 have : min (s ++ q).size 200 = 200 := by rw [ByteArray.size_append, h]; omega
 rw [this]
 simp only [List.drop_zero, app_list, Nat.sub_zero]
 show (List.take 200 (s.data.toList ++ q.data.toList)) = _
 rw [← hs, List.take_left]
/-- what was connected, divided, and connected again -/
theorem con_again {a b : Va} {sep : ByteArray} (h : ¬ (a.b = true ∧ b.b = true)) : conL (divL (conL a b sep).s sep).1 (divL (conL a b sep).s sep).2 sep = conL a b sep := by
 have e : conL a b sep = ⟨false, 0, cut200 (a.s ++ sep ++ b.s)⟩ := by unfold conL; rw [if_neg h]
 rw [e]
 obtain ⟨S, hS⟩ : ∃ S, cut200 (a.s ++ sep ++ b.s) = S := ⟨_, rfl⟩
 rw [hS]
 have hz : S.size ≤ 200 := by rw [← hS, cut200_size]; omega
 show conL (divL S sep).1 (divL S sep).2 sep = _
 cases hd : (divL S sep).2.b with
 | false => exact con_div hz hd
 | true =>
  rw [div_none hd]
  unfold conL
  rw [if_neg (by simp)]
  by_cases h2 : S.size = 200
  ·
   show (⟨false, 0, cut200 (S ++ sep ++ Va.nul.s)⟩ : Va) = _
   have : S ++ sep ++ Va.nul.s = S ++ (sep ++ Va.nul.s) := by apply ba_ext; simp
   rw [this, cut200_more h2]
  ·
   exfalso
   have hl : (a.s ++ sep ++ b.s).size ≤ 200 := by rw [← hS, cut200_size] at h2; omega
   rw [cut200_le hl] at hS
   have hc := cut_hit a.s.data.toList sep.data.toList b.s.data.toList
   rw [← app_list, ← app_list, hS] at hc
   unfold divL at hd
   rw [if_pos hc] at hd
   cases hd
theorem fit_inc (hf : FitL l r) : Inc r := hf.2
theorem fit_absn (hf : FitL l r) : NoN r := fun c hc => ((fit_ty.1 hf).2 c hc).1
theorem fit_abs (hf : FitL l r) (h : ∀ y, ¬ Ty l i y) : ∀ c ∈ r, c.id ≠ i := fun c hc e => by
 obtain ⟨_, y, hy, _⟩ := (fit_ty.1 hf).2 c hc
 rw [e] at hy
 exact h y hy
theorem no_next (ho : Ok s) : ∀ y, ¬ Ty s.fs s.next y := fun _ h => (ok_ty ho h).1 rfl
theorem no_next1 (ho : Ok s) : ∀ y, ¬ Ty s.fs (s.next + 1) y := fun _ h => (ok_ty ho h).2 rfl
theorem fit_nul (hf : FitL l r) (h : (getL r i).b = true) : getL r i = Va.nul := by
 rcases fit_get hf i with ⟨h', _⟩ | ⟨h', _⟩
 ·
  exact h'
 ·
  rw [h] at h'; cases h'
theorem va_eq (v : Va) (hn : v.n = 0) (hb : v.b = false) : v = ⟨false, 0, v.s⟩ := by
 obtain ⟨b, n, s⟩ := v
 simp only at hn hb
 subst hn hb
 rfl
def nz (v : Va) : Va := if v.b = true then Va.nul else v
theorem nz_nul : nz Va.nul = Va.nul := rfl
theorem nz_of (h : v.b = false) : nz v = v := by unfold nz; rw [h]; rfl
theorem get3 {p q u : Int} {x z k : Va} (hs : Inc r) : getL (setL (setL (setL r p x) q z) u k) j = if j = u then nz k else if j = q then nz z else if j = p then nz x else getL r j := by
 rw [get_set (inc_set (inc_set hs)), get_set (inc_set hs), get_set hs]
 rfl
theorem get4 {p q u o : Int} {x z k f : Va} (hs : Inc r) : getL (setL (setL (setL (setL r p x) q z) u k) o f) j = if j = o then nz f else if j = u then nz k else if j = q then nz z else if j = p then nz x else getL r j := by
 rw [get_set (inc_set (inc_set (inc_set hs))), get3 hs]
 rfl
theorem stable (ho : Ok s) (hst : StC s t c) (hf : FitL s.fs r) : fwdL s c (bakL s c (fwdL s c r)) = fwdL s c r := by
 have hi := fit_inc hf
 have hnn := fit_absn hf
 have g0 : getL r s.next = Va.nul := get_none (fit_abs hf (no_next ho))
 have g1 : getL r (s.next + 1) = Va.nul := get_none (fit_abs hf (no_next1 ho))
 cases hst with
 | add hk ht hn =>
  have e : ∀ q, fwdL s c q = q := fun q => by unfold fwdL; rw [if_neg (by omega), if_neg (by omega), if_neg (by omega)]
  rw [e, e]
  unfold bakL
  rw [if_pos hk]
  exact set_nul (fit_abs hf (no_next ho)) hi rfl
 | drop hk ht hn =>
  have e : ∀ q, bakL s c q = q := fun q => by unfold bakL; rw [if_neg (by omega), if_neg (by omega), if_neg (by omega), if_neg (by omega)]
  have e' : ∀ q, fwdL s c q = setL q c.id Va.nul := fun q => by unfold fwdL; rw [if_pos hk]
  rw [e, e', e']
  refine set_nul (fun d hd => ?_) (inc_set hi) rfl
  rcases (mem_set hi).1 hd with ⟨_, h⟩ | ⟨h, _⟩
  ·
   exact h
  ·
   cases h
 | same hk ht hn =>
  have e : ∀ q, bakL s c q = q := fun q => by unfold bakL; rw [if_neg (by omega), if_neg (by omega), if_neg (by omega), if_neg (by omega)]
  have e' : ∀ q, fwdL s c q = q := fun q => by unfold fwdL; rw [if_neg (by omega), if_neg (by omega), if_neg (by omega)]
  rw [e, e', e']
 | wid hk h2 ht hn =>
  have e' : ∀ q, fwdL s c q = q := fun q => by unfold fwdL; rw [if_neg (by omega), if_neg (by omega), if_neg (by omega)]
  rw [e', e']
  unfold bakL
  rw [if_neg (by omega), if_pos hk]
  rcases fit_get hf c.id with ⟨h, _⟩ | ⟨hb, y, hy, hk'⟩
  ·
   rw [h, if_pos (by simp [Va.nul])]
  ·
   rw [ty_uniq ho.srt hy h2] at hk'
   rw [if_pos ((ok2 hb (okV_wide hb hk')).1 hk')]
 | spl hk h4 hsep ht hn =>
  have hni : s.next ≠ c.id ∧ s.next + 1 ≠ c.id := by have := ok_ty ho h4; omega
  have key : bakL s c (fwdL s c r) = r := by
   unfold fwdL
   rw [if_neg (by omega), if_pos hk]
   unfold bakL
   rw [if_neg (by omega), if_neg (by omega), if_pos hk]
   split
   ·
    next hb =>
    have hg := fit_nul hf hb
    have q1 : getL (setL r c.id Va.nul) (s.next + 1) = Va.nul := by rw [get_set hi, if_neg hni.2, g1]
    have q0 : getL (setL r c.id Va.nul) s.next = Va.nul := by rw [get_set hi, if_neg hni.1, g0]
    rw [q1, q0, if_pos (show Va.nul.b = true from rfl)]
    refine row_ext (by repeat' (first | exact hi | apply inc_set)) hi (by repeat' (first | exact hnn | exact hi | apply inc_set | apply non_set)) hnn fun j => ?_
    rw [get4 hi]
    by_cases e1 : j = c.id
    ·
     subst e1; simp [nz, Va.nul, hg]
    ·
     by_cases e2 : j = s.next
     ·
      subst e2; simp [nz, Va.nul, e1, g0]
     ·
      by_cases e3 : j = s.next + 1
      ·
       subst e3; simp [nz, Va.nul, e1, g1]
      ·
       simp [e1, e2, e3]
   ·
    next hb =>
    have hb' : (getL r c.id).b = false := by simpa using hb
    obtain ⟨hz0, hz⟩ := text_of ho.srt h4 hf hb'
    have hv : (if (getL (setL (setL (setL r c.id Va.nul) s.next (divL (getL r c.id).s c.sep).1) (s.next + 1) (divL (getL r c.id).s c.sep).2) (s.next + 1)).b = true then getL (setL (setL (setL r c.id Va.nul) s.next (divL (getL r c.id).s c.sep).1) (s.next + 1) (divL (getL r c.id).s c.sep).2) s.next else conL (getL (setL (setL (setL r c.id Va.nul) s.next (divL (getL r c.id).s c.sep).1) (s.next + 1) (divL (getL r c.id).s c.sep).2) s.next) (getL (setL (setL (setL r c.id Va.nul) s.next (divL (getL r c.id).s c.sep).1) (s.next + 1) (divL (getL r c.id).s c.sep).2) (s.next + 1)) c.sep) = getL r c.id := by
     have q1 : getL (setL (setL (setL r c.id Va.nul) s.next (divL (getL r c.id).s c.sep).1) (s.next + 1) (divL (getL r c.id).s c.sep).2) (s.next + 1) = (divL (getL r c.id).s c.sep).2 := by
      rw [get_set (inc_set (inc_set hi)), if_pos rfl, nul_iff]
     have q2 : getL (setL (setL (setL r c.id Va.nul) s.next (divL (getL r c.id).s c.sep).1) (s.next + 1) (divL (getL r c.id).s c.sep).2) s.next = (divL (getL r c.id).s c.sep).1 := by
      rw [get_set (inc_set (inc_set hi)), if_neg (by omega), get_set (inc_set hi), if_pos rfl, if_neg (by rw [div_fst]; simp)]
     rw [q1, q2]
     cases hd : (divL (getL r c.id).s c.sep).2.b with
     | true => rw [if_pos rfl, div_none hd]; exact (va_eq _ hz0 hb').symm
     | false => rw [if_neg (by simp), con_div hz hd]; exact (va_eq _ hz0 hb').symm
    rw [hv]
    refine row_ext (by repeat' (first | exact hi | apply inc_set)) hi (by repeat' (first | exact hnn | exact hi | apply inc_set | apply non_set)) hnn fun j => ?_
    rw [get3 (inc_set (inc_set (inc_set hi))), get3 hi]
    by_cases e1 : j = c.id
    ·
     subst e1; simp [nz, hb']
    ·
     by_cases e2 : j = s.next
     ·
      subst e2; simp [nz, Va.nul, e1, g0]
     ·
      by_cases e3 : j = s.next + 1
      ·
       subst e3; simp [nz, Va.nul, e1, g1]
      ·
       simp [e1, e2, e3]
  rw [key]
 | joi hk h4 h4' hne hsep ht hn =>
  have hni : s.next ≠ c.id ∧ s.next ≠ c.wi := by have := ok_ty ho h4; have := ok_ty ho h4'; omega
  have ef : ∀ q, fwdL s c q = setL (setL (setL q c.id Va.nul) c.wi Va.nul) s.next (conL (getL q c.id) (getL q c.wi) c.sep) := fun q => by
   unfold fwdL; rw [if_neg (by omega), if_neg (by omega), if_pos hk]
  have eb : ∀ q, bakL s c q = (if (getL q s.next).b = true then setL q s.next Va.nul else setL (setL (setL q s.next Va.nul) c.id (divL (getL q s.next).s c.sep).1) c.wi (divL (getL q s.next).s c.sep).2) := fun q => by
   unfold bakL; rw [if_neg (by omega), if_neg (by omega), if_neg (by omega), if_pos hk]
  obtain ⟨x, hx⟩ : ∃ x, fwdL s c r = x := ⟨_, rfl⟩
  have hix : Inc x := by rw [← hx, ef]; exact inc_set (inc_set (inc_set hi))
  have hnx : NoN x := by rw [← hx, ef]; repeat' (first | exact hnn | exact hi | apply inc_set | apply non_set)
  have gx : ∀ j, getL x j = if j = s.next then (if (conL (getL r c.id) (getL r c.wi) c.sep).b = true then Va.nul else conL (getL r c.id) (getL r c.wi) c.sep) else if j = c.wi ∨ j = c.id then Va.nul else getL r j := fun j => by
   rw [← hx, ef]
   rw [get3 hi]
   by_cases e1 : j = s.next
   ·
    simp [nz, Va.nul, e1]
   ·
    by_cases e2 : j = c.wi
    ·
     subst e2; simp [nz, Va.nul, e1]
    ·
     by_cases e3 : j = c.id
     ·
      subst e3; simp [nz, Va.nul, e1, e2]
     ·
      simp [e1, e2, e3]
  rw [hx, eb]
  by_cases hab : (getL r c.id).b = true ∧ (getL r c.wi).b = true
  ·
   have hcn : conL (getL r c.id) (getL r c.wi) c.sep = Va.nul := by unfold conL; rw [if_pos hab]
   have gn : getL x s.next = Va.nul := by rw [gx, if_pos rfl, hcn]; rfl
   rw [gn, if_pos (show Va.nul.b = true from rfl), ef]
   have hq : ∀ j, getL (setL x s.next Va.nul) j = if j = s.next then Va.nul else getL x j := fun j => by rw [get_set hix]; simp [Va.nul]
   have hc2 : conL (getL (setL x s.next Va.nul) c.id) (getL (setL x s.next Va.nul) c.wi) c.sep = Va.nul := by
    rw [hq, hq, if_neg hni.1.symm, if_neg hni.2.symm, gx, gx, if_neg hni.1.symm, if_neg hni.2.symm, if_pos (.inr rfl), if_pos (.inl rfl)]
    rfl
   rw [hc2]
   refine row_ext (by repeat' (first | exact hix | apply inc_set)) hix (by repeat' (first | exact hnx | exact hix | apply inc_set | apply non_set)) hnx fun j => ?_
   rw [get4 hix]
   rw [gx]
   by_cases e1 : j = s.next
   ·
    simp [nz, Va.nul, e1, hcn]
   ·
    by_cases e2 : j = c.wi
    ·
     subst e2; simp [nz, Va.nul, e1]
    ·
     by_cases e3 : j = c.id
     ·
      subst e3; simp [nz, Va.nul, e1, e2]
     ·
      simp [e1, e2, e3]
  ·
   have hcb : (conL (getL r c.id) (getL r c.wi) c.sep).b = false := by unfold conL; rw [if_neg hab]
   have gn : getL x s.next = conL (getL r c.id) (getL r c.wi) c.sep := by rw [gx, if_pos rfl, if_neg (by rw [hcb]; simp)]
   rw [gn, if_neg (by rw [hcb]; simp), ef]
   obtain ⟨d1, h1⟩ : ∃ d1, (divL (conL (getL r c.id) (getL r c.wi) c.sep).s c.sep).1 = d1 := ⟨_, rfl⟩
   obtain ⟨d2, h2⟩ : ∃ d2, (divL (conL (getL r c.id) (getL r c.wi) c.sep).s c.sep).2 = d2 := ⟨_, rfl⟩
   have hd1 : d1.b = false := by rw [← h1]; exact div_fst _ _
   have hd2 : (if d2.b = true then Va.nul else d2) = d2 := by rw [← h2]; exact nul_iff
   have hag := con_again (sep := c.sep) hab
   rw [h1, h2] at hag ⊢
   have q1 : getL (setL (setL (setL x s.next Va.nul) c.id d1) c.wi d2) c.id = d1 := by
    rw [get_set (inc_set (inc_set hix)), if_neg hne, get_set (inc_set hix), if_pos rfl, if_neg (by rw [hd1]; simp)]
   have q2 : getL (setL (setL (setL x s.next Va.nul) c.id d1) c.wi d2) c.wi = d2 := by
    rw [get_set (inc_set (inc_set hix)), if_pos rfl, hd2]
   rw [q1, q2, hag]
   refine row_ext (by repeat' (first | exact hix | apply inc_set)) hix (by repeat' (first | exact hnx | exact hix | apply inc_set | apply non_set)) hnx fun j => ?_
   rw [get3 (inc_set (inc_set (inc_set hix))), get3 hix]
   rw [gx]
   by_cases e1 : j = s.next
   ·
    simp [nz, Va.nul, e1]
   ·
    by_cases e2 : j = c.wi
    ·
     subst e2; simp [nz, Va.nul, e1]
    ·
     by_cases e3 : j = c.id
     ·
      subst e3; simp [nz, Va.nul, e1, e2]
     ·
      simp [e1, e2, e3]
theorem fwd_keep (ho : Ok s) (hst : StC s t c) (hf : FitL s.fs r) (h : Ty s.fs i y) (h' : Ty t.fs i y) : getL (fwdL s c r) i = getL r i := by
 have hi := fit_inc hf
 have hlow := ok_ty ho h
 unfold fwdL
 cases hst with
 | add hk ht hn => rw [if_neg (by omega), if_neg (by omega), if_neg (by omega)]
 | same hk ht hn => rw [if_neg (by omega), if_neg (by omega), if_neg (by omega)]
 | wid hk h2 ht hn => rw [if_neg (by omega), if_neg (by omega), if_neg (by omega)]
 | drop hk ht hn => rw [if_pos hk, get_set hi, if_neg ((ht _ _).1 h').2]
 | spl hk h4 hsep ht hn =>
  have hid : i ≠ c.id := by
   rcases (ht _ _).1 h' with h | ⟨h | h, _⟩
   ·
    exact h.2
   ·
    exact absurd h hlow.1
   ·
    exact absurd h hlow.2
  rw [if_neg (by omega), if_pos hk]
  split
  ·
   rw [get_set hi, if_neg hid]
  ·
   rw [get_set (inc_set (inc_set hi)), if_neg hlow.2, get_set (inc_set hi), if_neg hlow.1, get_set hi, if_neg hid]
 | joi hk h4 h4' hne hsep ht hn =>
  have hid : i ≠ c.id ∧ i ≠ c.wi := by
   rcases (ht _ _).1 h' with h | ⟨h, _⟩
   ·
    exact h.2
   ·
    exact absurd h hlow.1
  rw [if_neg (by omega), if_neg (by omega), if_pos hk, get_set (inc_set (inc_set hi)), if_neg hlow.1, get_set (inc_set hi), if_neg hid.2, get_set hi, if_neg hid.1]
theorem bak_keep (ho : Ok s) (hst : StC s t c) (hf : FitL t.fs r) (h : Ty s.fs i y) (h' : Ty t.fs i y) : getL (bakL s c r) i = getL r i := by
 have hi := fit_inc hf
 have hlow := ok_ty ho h
 unfold bakL
 cases hst with
 | add hk ht hn => rw [if_pos hk, get_set hi, if_neg hlow.1]
 | same hk ht hn => rw [if_neg (by omega), if_neg (by omega), if_neg (by omega), if_neg (by omega)]
 | drop hk ht hn => rw [if_neg (by omega), if_neg (by omega), if_neg (by omega), if_neg (by omega)]
 | wid hk h2 ht hn =>
  rw [if_neg (by omega), if_pos hk]
  split
  ·
   rfl
  ·
   have hid : i ≠ c.id := fun e => by
    subst e
    have e2 := ty_uniq ho.srt h h2
    rcases (ht _ _).1 h' with h3 | ⟨_, h3⟩
    ·
     exact h3.2 rfl
    ·
     omega
   rw [get_set hi, if_neg hid]
 | spl hk h4 hsep ht hn =>
  have hid : i ≠ c.id := by
   rcases (ht _ _).1 h' with h | ⟨h | h, _⟩
   ·
    exact h.2
   ·
    exact absurd h hlow.1
   ·
    exact absurd h hlow.2
  rw [if_neg (by omega), if_neg (by omega), if_pos hk, get_set (inc_set (inc_set hi)), if_neg hid, get_set (inc_set hi), if_neg hlow.2, get_set hi, if_neg hlow.1]
 | joi hk h4 h4' hne hsep ht hn =>
  have hid : i ≠ c.id ∧ i ≠ c.wi := by
   rcases (ht _ _).1 h' with h | ⟨h, _⟩
   ·
    exact h.2
   ·
    exact absurd h hlow.1
  rw [if_neg (by omega), if_neg (by omega), if_neg (by omega), if_pos hk]
  split
  ·
   rw [get_set hi, if_neg hlow.1]
  ·
   rw [get_set (inc_set (inc_set hi)), if_neg hid.2, get_set (inc_set hi), if_neg hid.1, get_set hi, if_neg hlow.1]
end

/-- lists of changes -/
def endS : Sc → List Ch → Sc
 | s, [] => s
 | s, c :: m => endS (applyP s c).1 m
def goodG : Sc → List Ch → Prop
 | _, [] => True
 | s, c :: m => (applyP s c).2 = 0 ∧ goodG (applyP s c).1 m
def fwdG : Sc → List Ch → List Ce → List Ce
 | _, [], r => r
 | s, c :: m, r => fwdG (applyP s c).1 m (fwdL s c r)
def bakG : Sc → List Ch → List Ce → List Ce
 | _, [], r => r
 | s, c :: m, r => bakL s c (bakG (applyP s c).1 m r)
section
variable {s : Sc} {c : Ch} {m m' : List Ch} {r : List Ce} {i y k : Int}
theorem aft_good : ∀ {m : List Ch} {s : Sc} {k : Int}, (aft s k m).2.2 = 0 ↔ goodG s m
 | [], _, _ => by simp [aft, goodG]
 | c :: m, s, k => by
  unfold aft goodG
  by_cases h : (applyP s c).2 = 0
  ·
   rw [if_pos h]
   simp only [h, true_and]
   exact aft_good
  ·
   rw [if_neg h]
   simp [h]
theorem aft_endS : ∀ {m : List Ch} {s : Sc} {k : Int}, goodG s m → (aft s k m).1 = endS s m
 | [], _, _, _ => rfl
 | c :: m, s, k, h => by
  unfold aft endS
  rw [if_pos h.1]
  exact aft_endS h.2
theorem st_app (ho : Ok s) (h : (applyP s c).2 = 0) : StC s (applyP s c).1 c := st_of ho (by rw [← h])
theorem good_ok : ∀ {m : List Ch} {s : Sc}, Ok s → goodG s m → Ok (endS s m)
 | [], _, ho, _ => ho
 | c :: m, s, ho, h => good_ok (m := m) (s := (applyP s c).1) (ok_apply ho h.1).1 h.2
theorem good_app : ∀ {m : List Ch} {s : Sc}, goodG s (m ++ m') ↔ goodG s m ∧ goodG (endS s m) m'
 | [], _ => by simp [goodG, endS]
 | c :: m, s => by
  show (_ ∧ goodG _ (m ++ m')) ↔ (_ ∧ _) ∧ _
  rw [good_app, and_assoc]
  rfl
theorem end_app : ∀ {m : List Ch} {s : Sc}, endS s (m ++ m') = endS (endS s m) m'
 | [], _ => rfl
 | c :: m, s => end_app (m := m) (s := (applyP s c).1)
theorem fwd_app : ∀ {m : List Ch} {s : Sc} {r : List Ce}, fwdG s (m ++ m') r = fwdG (endS s m) m' (fwdG s m r)
 | [], _, _ => rfl
 | c :: m, s, r => fwd_app (m := m) (s := (applyP s c).1) (r := fwdL s c r)
theorem bak_app : ∀ {m : List Ch} {s : Sc}, bakG s (m ++ m') r = bakG s m (bakG (endS s m) m' r)
 | [], _ => rfl
 | c :: m, s => by
  show bakL s c (bakG _ (m ++ m') r) = _
  rw [bak_app]
  rfl
theorem fwdG_fit : ∀ {m : List Ch} {s : Sc} {r : List Ce}, Ok s → goodG s m → FitL s.fs r → FitL (endS s m).fs (fwdG s m r)
 | [], _, _, _, _, hf => hf
 | c :: m, s, r, ho, h, hf => fwdG_fit (m := m) (s := (applyP s c).1) (r := fwdL s c r) (ok_apply ho h.1).1 h.2 (fwd_fit ho (st_app ho h.1) hf)
theorem bakG_fit : ∀ {m : List Ch} {s : Sc}, Ok s → goodG s m → FitL (endS s m).fs r → FitL s.fs (bakG s m r)
 | [], _, _, _, hf => hf
 | c :: m, s, ho, h, hf => bak_fit ho (ok_apply ho h.1).1 (st_app ho h.1) (bakG_fit (m := m) (s := (applyP s c).1) (ok_apply ho h.1).1 h.2 hf)
theorem ty_back {t : Sc} (_ho : Ok s) (hst : StC s t c) (h : Ty t.fs i y) (hl : i < s.next) : ∃ z, Ty s.fs i z ∧ (y = z ∨ (z = 2 ∧ y = 3)) := by
 cases hst with
 | add hk ht hn =>
  rcases (ht _ _).1 h with h | h
  ·
   exact ⟨y, h, .inl rfl⟩
  ·
   omega
 | drop hk ht hn => exact ⟨y, ((ht _ _).1 h).1, .inl rfl⟩
 | same hk ht hn => exact ⟨y, (ht _ _).1 h, .inl rfl⟩
 | wid hk h2 ht hn =>
  rcases (ht _ _).1 h with h | ⟨rfl, rfl⟩
  ·
   exact ⟨y, h.1, .inl rfl⟩
  ·
   exact ⟨2, h2, .inr ⟨rfl, rfl⟩⟩
 | spl hk h4 hsep ht hn =>
  rcases (ht _ _).1 h with h | h
  ·
   exact ⟨y, h.1, .inl rfl⟩
  ·
   omega
 | joi hk h4 h4' hne hsep ht hn =>
  rcases (ht _ _).1 h with h | h
  ·
   exact ⟨y, h.1, .inl rfl⟩
  ·
   omega
theorem st_next {t : Sc} (hst : StC s t c) : s.next ≤ t.next := by cases hst <;> assumption
theorem ty_backG : ∀ {m : List Ch} {s : Sc}, Ok s → goodG s m → Ty (endS s m).fs i y → i < s.next → ∃ z, Ty s.fs i z ∧ (y = z ∨ (z = 2 ∧ y = 3))
 | [], _, _, _, h, _ => ⟨y, h, .inl rfl⟩
 | c :: m, s, ho, hg, h, hl => by
  have hst := st_app ho hg.1
  have hn := st_next hst
  obtain ⟨z, hz, h1⟩ := ty_backG (m := m) (ok_apply ho hg.1).1 hg.2 h (by omega)
  obtain ⟨u, hu, h2⟩ := ty_back ho hst hz hl
  exact ⟨u, hu, by omega⟩
theorem ty_mid (ho : Ok s) (hg : goodG s (c :: m)) (h : Ty s.fs i y) (h' : Ty (endS s (c :: m)).fs i y) : Ty (applyP s c).1.fs i y := by
 have hst := st_app ho hg.1
 have hn := st_next hst
 have hl := (ty_low ho h).2
 obtain ⟨z, hz, h1⟩ := ty_backG (m := m) (ok_apply ho hg.1).1 hg.2 h' (by omega)
 obtain ⟨u, hu, h2⟩ := ty_back ho hst hz hl
 have := ty_uniq ho.srt hu h
 have e : z = y := by omega
 rw [← e]
 exact hz
theorem fwdG_keep : ∀ {m : List Ch} {s : Sc} {r : List Ce}, Ok s → goodG s m → FitL s.fs r → Ty s.fs i y → Ty (endS s m).fs i y → getL (fwdG s m r) i = getL r i
 | [], _, _, _, _, _, _, _ => rfl
 | c :: m, s, r, ho, hg, hf, h, h' => by
  have hm := ty_mid ho hg h h'
  have hst := st_app ho hg.1
  show getL (fwdG _ m _) i = _
  rw [fwdG_keep (ok_apply ho hg.1).1 hg.2 (fwd_fit ho hst hf) hm h', fwd_keep ho hst hf h hm]
theorem bakG_keep : ∀ {m : List Ch} {s : Sc}, Ok s → goodG s m → FitL (endS s m).fs r → Ty s.fs i y → Ty (endS s m).fs i y → getL (bakG s m r) i = getL r i
 | [], _, _, _, _, _, _ => rfl
 | c :: m, s, ho, hg, hf, h, h' => by
  have hm := ty_mid ho hg h h'
  have hst := st_app ho hg.1
  show getL (bakL s c (bakG _ m r)) i = _
  rw [bak_keep ho hst (bakG_fit (ok_apply ho hg.1).1 hg.2 hf) h hm]
  exact bakG_keep (ok_apply ho hg.1).1 hg.2 hf hm h'
end
end Go.Proofs.YtfeemipnalgjnaaGreat
