/-
  Numbers, days and texts that are parsed again: what Show writes, Parse reads. Nothing of the program.
-/
import Derived.Test.YteaaadccjnmacaaGreatDoorDateP
import Derived.Test.YteaaadccjnmacaaGreatDoorQuoS
import Derived.Lib.ParseIntB
namespace Go.Proofs.YteaaadccjnmacaaGreatDoor

/-- the number beside strconv.Atoi's error, too -/
def atoiN (l : List UInt8) : Int := match Lib.atoiAll l with | .ok v => v | .range => Lib.atoiSat l | _ => 0
/-- the number beside strconv.ParseInt's error, too -/
def pintN (l : List UInt8) : Int := match Lib.parseIntB 64 l with | .ok v => v | .range => Lib.intSat 64 l | _ => 0

/-- a row of decimal digits -/
def digs (l : List UInt8) : Prop := ∀ c ∈ l, 48 ≤ c.toNat ∧ c.toNat ≤ 57
def valD (acc : Nat) : List UInt8 → Nat
  | [] => acc
  | c :: r => valD (acc * 10 + (c.toNat - 48)) r
theorem valD_app (acc : Nat) (a b : List UInt8) : valD acc (a ++ b) = valD (valD acc a) b := by
  induction a generalizing acc with
  | nil => rfl
  | cons c a ih => exact ih _
theorem valD_le (acc : Nat) (l : List UInt8) : acc ≤ valD acc l := by
  induction l generalizing acc with
  | nil => exact Nat.le_refl _
  | cons c l ih =>
    have := ih (acc * 10 + (c.toNat - 48))
    show acc ≤ valD (acc * 10 + (c.toNat - 48)) l
    omega
theorem puM (l : List UInt8) (acc : Nat) (h : digs l) (hv : valD acc l < 18446744073709551616) : Lib.parseUintM (2 ^ 64 - 1) acc l = .ok (valD acc l) := by
  induction l generalizing acc with
  | nil => rfl
  | cons c l ih =>
    have hc := h c (List.mem_cons_self ..)
    have hl : digs l := fun d hd => h d (List.mem_cons_of_mem _ hd)
    have hk : valD acc (c :: l) = valD (acc * 10 + (c.toNat - 48)) l := rfl
    rw [hk] at hv ⊢
    have hle := valD_le (acc * 10 + (c.toNat - 48)) l
    unfold Lib.parseUintM
    rw [if_pos hc, if_neg (by omega), if_neg (by omega), ih _ hl hv]
theorem pu10 (l : List UInt8) (acc : Nat) (h : digs l) (hv : valD acc l < 18446744073709551616) : Lib.parseUint10 acc l = .ok (valD acc l) := by
  induction l generalizing acc with
  | nil => rfl
  | cons c l ih =>
    have hc := h c (List.mem_cons_self ..)
    have hl : digs l := fun d hd => h d (List.mem_cons_of_mem _ hd)
    have hk : valD acc (c :: l) = valD (acc * 10 + (c.toNat - 48)) l := rfl
    rw [hk] at hv ⊢
    have hle := valD_le (acc * 10 + (c.toNat - 48)) l
    unfold Lib.parseUint10
    rw [if_pos hc, if_neg (by omega), if_neg (by omega), ih _ hl hv]
theorem dig8 (n : Nat) (h : n < 10) : (UInt8.ofNat (48 + n)).toNat = 48 + n := by
  simp; omega
theorem digs_app {a b : List UInt8} (ha : digs a) (hb : digs b) : digs (a ++ b) := fun c hc => by
  rcases List.mem_append.1 hc with h | h
  · exact ha c h
  · exact hb c h
theorem digs_one (n : Nat) (h : n < 10) : digs [UInt8.ofNat (48 + n)] := fun c hc => by
  rw [List.mem_singleton] at hc
  rw [hc, dig8 n h]
  omega
theorem dd_digs (u : Nat) : digs (Lib.decDigits u) := by
  induction u using Nat.strongRecOn with
  | _ u ih =>
    rw [Lib.decDigits]
    split
    · exact digs_one u (by assumption)
    · exact digs_app (ih (u / 10) (by omega)) (digs_one _ (by omega))
theorem dd_val (u : Nat) : valD 0 (Lib.decDigits u) = u := by
  induction u using Nat.strongRecOn with
  | _ u ih =>
    rw [Lib.decDigits]
    split
    · rename_i h
      show 0 * 10 + ((UInt8.ofNat (48 + u)).toNat - 48) = u
      rw [dig8 u h]
      omega
    · rw [valD_app, ih (u / 10) (by omega)]
      show u / 10 * 10 + ((UInt8.ofNat (48 + u % 10)).toNat - 48) = u
      rw [dig8 _ (by omega)]
      omega
theorem dd_ne (u : Nat) : Lib.decDigits u ≠ [] := by
  rw [Lib.decDigits]
  split <;> simp
theorem digs_head {c : UInt8} {r : List UInt8} (h : digs (c :: r)) : ¬ (c.toNat = 43 ∨ c.toNat = 45) ∧ ¬ c.toNat = 45 := by
  have := h c (List.mem_cons_self ..)
  omega
/-- what is parsed of a row of digits, with a sign or without -/
theorem atoi_digs {l : List UInt8} (h : digs l) (h0 : l ≠ []) (hv : valD 0 l < 9223372036854775808) : atoiN l = (valD 0 l : Nat) := by
  unfold atoiN Lib.atoiAll
  cases l with
  | nil => exact absurd rfl h0
  | cons c r =>
    obtain ⟨h1, h2⟩ := digs_head h
    simp only
    rw [if_neg h1]
    unfold Lib.parseMag
    rw [if_neg h0, pu10 _ _ h (by omega)]
    simp only [h2]
    rw [if_neg (by omega), if_neg (by omega)]
    simp
theorem atoi_neg {l : List UInt8} (h : digs l) (h0 : l ≠ []) (hv : valD 0 l < 9223372036854775808) : atoiN (45 :: l) = -((valD 0 l : Nat) : Int) := by
  unfold atoiN Lib.atoiAll
  have e : (45 : UInt8).toNat = 45 := rfl
  simp only [e]
  rw [if_pos (.inr trivial)]
  unfold Lib.parseMag
  rw [if_neg h0, pu10 _ _ h (by omega)]
  simp only
  rw [if_neg (by omega), if_neg (by omega)]
  simp
theorem pint_digs {l : List UInt8} (h : digs l) (h0 : l ≠ []) (hv : valD 0 l < 9223372036854775808) : pintN l = (valD 0 l : Nat) := by
  unfold pintN Lib.parseIntB
  cases l with
  | nil => exact absurd rfl h0
  | cons c r =>
    obtain ⟨h1, h2⟩ := digs_head h
    simp only
    rw [if_neg h1]
    unfold Lib.parseUintB
    rw [if_neg h0, puM _ _ h (by omega)]
    simp only [h2]
    rw [if_neg (by omega), if_neg (by omega)]
    simp
theorem pint_neg {l : List UInt8} (h : digs l) (h0 : l ≠ []) (hv : valD 0 l ≤ 9223372036854775808) : pintN (45 :: l) = -((valD 0 l : Nat) : Int) := by
  unfold pintN Lib.parseIntB
  have e : (45 : UInt8).toNat = 45 := rfl
  simp only [e]
  rw [if_pos (.inr trivial)]
  unfold Lib.parseUintB
  rw [if_neg h0, puM _ _ h (by omega)]
  simp only
  rw [if_neg (fun k => by simp at k), if_neg (fun k => by have := k.2; simp at this; omega)]
  simp
theorem pint_itoa (n : Int) (h0 : -9223372036854775808 ≤ n) (h1 : n ≤ 9223372036854775807) : pintN (Lib.itoa n) = n := by
  unfold Lib.itoa
  split
  · rw [pint_neg (dd_digs _) (dd_ne _) (by rw [dd_val]; omega), dd_val]
    omega
  · rw [pint_digs (dd_digs _) (dd_ne _) (by rw [dd_val]; omega), dd_val]
    omega
theorem digs_rep (k : Nat) : digs (Lib.repeatL [48] k) := by
  induction k with
  | zero => intro c hc; cases hc
  | succ k ih => exact digs_app (fun c hc => by rw [List.mem_singleton] at hc; rw [hc]; decide) ih
theorem val_rep (k : Nat) (l : List UInt8) : valD 0 (Lib.repeatL [48] k ++ l) = valD 0 l := by
  induction k with
  | zero => rfl
  | succ k ih => exact ih
theorem pad_digs (n k : Nat) : digs (padL n k) := digs_app (digs_rep _) (dd_digs n)
theorem pad_val (n k : Nat) : valD 0 (padL n k) = n := by unfold padL; rw [val_rep, dd_val]
theorem pad_ne (n k : Nat) : padL n k ≠ [] := by
  unfold padL
  intro h
  exact dd_ne n (List.append_eq_nil_iff.1 h).2
/-- the day of a notation -/
def dayL (s : List UInt8) : Int :=
  if s.length < 6 then 0 else
  if atoiN (s.take (s.length - 6)) < -799 ∨ 4800 ≤ atoiN (s.take (s.length - 6)) ∨ atoiN ((s.drop (s.length - 5)).take 2) < 1 ∨ 12 < atoiN ((s.drop (s.length - 5)).take 2) then 0
  else mStart ((atoiN (s.take (s.length - 6)) + 799) * 12 + atoiN ((s.drop (s.length - 5)).take 2) - 1).toNat + (atoiN (s.drop (s.length - 2)) - 1)
theorem day_date (d : Int) (h0 : -1000000 ≤ d) (h1 : d ≤ 1000000) : dayL (dateL d) = d := by
  obtain ⟨p1, p2, p3, p4⟩ := date_parts d h0 h1
  obtain ⟨q1, q2, q3⟩ := monOf_at d h0 h1
  obtain ⟨Y, hY⟩ : ∃ Y, Y = (if ((monOf d / 12 : Nat) : Int) - 799 < 0 then [45] else []) ++ padL (((monOf d / 12 : Nat) : Int) - 799).natAbs 4 := ⟨_, rfl⟩
  obtain ⟨M, hM⟩ : ∃ M, M = padL (monOf d % 12 + 1) 2 := ⟨_, rfl⟩
  obtain ⟨D, hD⟩ : ∃ D, D = padL (d - mStart (monOf d) + 1).toNat 2 := ⟨_, rfl⟩
  have e : dateL d = Y ++ ([45] ++ M ++ [45] ++ D) := by unfold dateL; rw [hY, hM, hD]; simp
  have lM : M.length = 2 := by rw [hM]; exact padL_len _ _ (dd_len 1 _ (by omega))
  have lD : D.length = 2 := by rw [hD]; exact padL_len _ _ (dd_len 1 _ (by omega))
  have len : (dateL d).length = Y.length + 6 := by rw [e]; simp [lM, lD]
  have aY : atoiN Y = ((monOf d / 12 : Nat) : Int) - 799 := by
    rw [hY]
    split
    · rw [List.cons_append, List.nil_append, atoi_neg (pad_digs _ _) (pad_ne _ _) (by rw [pad_val]; omega), pad_val]
      omega
    · rw [List.nil_append, atoi_digs (pad_digs _ _) (pad_ne _ _) (by rw [pad_val]; omega), pad_val]
      omega
  have aM : atoiN M = ((monOf d % 12 + 1 : Nat) : Int) := by rw [hM, atoi_digs (pad_digs _ _) (pad_ne _ _) (by rw [pad_val]; omega), pad_val]
  have aD : atoiN D = d - mStart (monOf d) + 1 := by
    rw [hD, atoi_digs (pad_digs _ _) (pad_ne _ _) (by rw [pad_val]; omega), pad_val]
    omega
  have tY : (dateL d).take ((dateL d).length - 6) = Y := by
    rw [len, e, show Y.length + 6 - 6 = Y.length by omega, List.take_left]
  have tM : ((dateL d).drop ((dateL d).length - 5)).take 2 = M := by
    rw [len, e, show Y.length + 6 - 5 = Y.length + 1 by omega, List.drop_append]
    simp only [List.drop_eq_nil_of_le (by omega : Y.length ≤ Y.length + 1), List.nil_append]
    rw [show Y.length + 1 - Y.length = 1 by omega]
    simp only [List.cons_append, List.nil_append, List.drop_succ_cons, List.drop_zero, List.append_assoc]
    rw [List.take_append_of_le_length (by omega), List.take_of_length_le (by omega)]
  have tD : (dateL d).drop ((dateL d).length - 2) = D := by
    rw [len, e, show Y ++ ([45] ++ M ++ [45] ++ D) = (Y ++ [45] ++ M ++ [45]) ++ D by simp, List.drop_left' (by simp; omega)]
  unfold dayL
  rw [if_neg (by omega), tY, tM, tD, aY, aM, aD, if_neg (by omega)]
  rw [show ((((monOf d / 12 : Nat) : Int) - 799 + 799) * 12 + ((monOf d % 12 + 1 : Nat) : Int) - 1).toNat = monOf d by omega]
  omega
/-- the value of a hexadecimal digit; 16 for another byte -/
def hexV (c : UInt8) : Nat := if 48 ≤ c.toNat ∧ c.toNat ≤ 57 then c.toNat - 48 else if 97 ≤ c.toNat ∧ c.toNat ≤ 102 then c.toNat - 87 else if 65 ≤ c.toNat ∧ c.toNat ≤ 70 then c.toNat - 55 else 16
def hex2 (a b : UInt8) : Nat := if hexV a < 16 ∧ hexV b < 16 then hexV a * 16 + hexV b else 0
/-- the text of a notation, from its second byte on -/
def unq : List UInt8 → List UInt8
  | [] => []
  | c :: r =>
    if c = 34 then [] else if c = 92 then (match r with | _ :: a :: b :: r' => UInt8.ofNat (hex2 a b) :: unq r' | _ => []) else c :: unq r
theorem hex_hex (n : Nat) (h : n < 16) : hexV (hexD n) = n := by
  have : n = 0 ∨ n = 1 ∨ n = 2 ∨ n = 3 ∨ n = 4 ∨ n = 5 ∨ n = 6 ∨ n = 7 ∨ n = 8 ∨ n = 9 ∨ n = 10 ∨ n = 11 ∨ n = 12 ∨ n = 13 ∨ n = 14 ∨ n = 15 := by omega
  rcases this with rfl | rfl | rfl | rfl | rfl | rfl | rfl | rfl | rfl | rfl | rfl | rfl | rfl | rfl | rfl | rfl <;> rfl
theorem unq_34 (r : List UInt8) : unq (34 :: r) = [] := by rw [unq.eq_def]; simp
theorem unq_c (c : UInt8) (r : List UInt8) (h1 : c ≠ 34) (h2 : c ≠ 92) : unq (c :: r) = c :: unq r := by
  rw [unq.eq_def]
  simp [h1, h2]
theorem unq_x (x a b : UInt8) (r : List UInt8) : unq (92 :: x :: a :: b :: r) = UInt8.ofNat (hex2 a b) :: unq r := by
  rw [unq.eq_def]
  simp
theorem unq_short (r : List UInt8) (h : r.length < 3) : unq (92 :: r) = [] := by
  rw [unq.eq_def]
  match r, h with
  | [], _ => rfl
  | [_], _ => rfl
  | [_, _], _ => rfl
theorem unq_q (l r : List UInt8) : unq (qBs l ++ 34 :: r) = l := by
  induction l with
  | nil => exact unq_34 r
  | cons c l ih =>
    have e : qBs (c :: l) = qB c ++ qBs l := by simp [qBs]
    rw [e, List.append_assoc]
    unfold qB
    split
    · rename_i hp
      unfold plainB at hp
      simp only [decide_eq_true_eq] at hp
      rw [List.cons_append, List.nil_append, unq_c _ _ (fun h => hp.2.2.1 (by rw [h]; rfl)) (fun h => hp.2.2.2 (by rw [h]; rfl)), ih]
    · have hlt := UInt8.toNat_lt c
      show unq (92 :: 120 :: hexD (c.toNat / 16) :: hexD (c.toNat % 16) :: (qBs l ++ 34 :: r)) = _
      rw [unq_x, ih]
      unfold hex2
      rw [hex_hex _ (by omega), hex_hex _ (by omega), if_pos ⟨by omega, by omega⟩]
      congr 1
      apply UInt8.toNat_inj.1
      simp
      omega
def nullB : List UInt8 := [110, 117, 108, 108]
def trueB : List UInt8 := [116, 114, 117, 101]
def falseB : List UInt8 := [102, 97, 108, 115, 101]
/-- the notation of a value; nothing if it is not valid -/
def showL (v : Va) (t : Int) : List UInt8 :=
  if okV v t = true then (if v.b = true then nullB else if t = 4 then quoteL v.s.data.toList else if t = 5 then dateL v.n else if t = 1 then (if v.n = 0 then falseB else trueB) else Lib.itoa v.n) else []
/-- the value that a notation suggests -/
def candV (s : List UInt8) (t : Int) : Va :=
  if s = nullB then ⟨true, 0, ⟨#[]⟩⟩ else if t = 4 then ⟨false, 0, str (unq (s.drop 1))⟩ else if t = 5 then ⟨false, dayL s, ⟨#[]⟩⟩
  else if t = 1 then ⟨false, if s = trueB then 1 else 0, ⟨#[]⟩⟩ else ⟨false, pintN s, ⟨#[]⟩⟩
/-- Parse -/
def parV (s : List UInt8) (t : Int) : Va × Nat :=
  if ¬ (1 ≤ t ∧ t ≤ 5) then (⟨false, 0, ⟨#[]⟩⟩, 7) else if okV (candV s t) t = true ∧ showL (candV s t) t = s then (candV s t, 0) else (⟨false, 0, ⟨#[]⟩⟩, 5)
theorem ok_ty {v : Va} {t : Int} (h : okV v t = true) : 1 ≤ t ∧ t ≤ 5 := by
  unfold okV at h
  split at h
  · simp at h; exact h.1
  · split at h
    · omega
    · split at h
      · omega
      · split at h
        · omega
        · split at h
          · omega
          · split at h
            · omega
            · cases h
theorem ok_null {v : Va} {t : Int} (h : okV v t = true) (hb : v.b = true) : v = ⟨true, 0, ⟨#[]⟩⟩ := by
  unfold okV at h
  rw [if_pos hb] at h
  simp at h
  obtain ⟨b, n, s⟩ := v
  simp only at hb h
  rw [hb, h.2.1, emp_eq h.2.2]
theorem ok_bool {v : Va} (h : okV v 1 = true) (hb : v.b = false) : 0 ≤ v.n ∧ v.n ≤ 1 ∧ v.s = ⟨#[]⟩ := by
  unfold okV at h
  rw [if_neg (by simp [hb]), if_pos rfl] at h
  simp at h
  exact ⟨h.1.1, h.1.2, emp_eq h.2⟩
theorem ok_day {v : Va} (h : okV v 5 = true) (hb : v.b = false) : -1000000 ≤ v.n ∧ v.n ≤ 1000000 ∧ v.s = ⟨#[]⟩ := by
  unfold okV at h
  rw [if_neg (by simp [hb]), if_neg (by omega), if_pos rfl] at h
  simp at h
  exact ⟨h.1.1, h.1.2, emp_eq h.2⟩
theorem ok_num {v : Va} {t : Int} (h : okV v t = true) (hb : v.b = false) (ht : t = 2 ∨ t = 3) : v.s = ⟨#[]⟩ := by
  unfold okV at h
  rw [if_neg (by simp [hb]), if_neg (by omega), if_neg (by omega)] at h
  rcases ht with rfl | rfl
  · rw [if_pos rfl] at h
    simp at h
    exact emp_eq h.2
  · rw [if_neg (by omega), if_pos rfl] at h
    exact emp_eq h
theorem ok_text {v : Va} (h : okV v 4 = true) (hb : v.b = false) : v.n = 0 ∧ v.s.size ≤ 200 := by
  unfold okV at h
  rw [if_neg (by simp [hb]), if_neg (by omega), if_neg (by omega), if_neg (by omega), if_neg (by omega), if_pos rfl] at h
  simpa using h
theorem date_len (d : Int) (h0 : -1000000 ≤ d) (h1 : d ≤ 1000000) : 10 ≤ (dateL d).length ∧ (dateL d).length ≤ 11 := by
  obtain ⟨p1, p2, p3, p4⟩ := date_parts d h0 h1
  have l0 := padL_len (((monOf d / 12 : Nat) : Int) - 799).natAbs 4 (dd_len 3 _ (by omega))
  have l1 := padL_len (monOf d % 12 + 1) 2 (dd_len 1 _ (by omega))
  have l2 := padL_len (d - mStart (monOf d) + 1).toNat 2 (dd_len 1 _ (by omega))
  unfold dateL
  split <;> simp only [List.length_append, List.length_cons, List.length_nil, l0, l1, l2] <;> omega
theorem quote_len (l : List UInt8) : (quoteL l).length ≤ 4 * l.length + 2 := by
  have := qBs_len l
  unfold quoteL
  simp
  omega
theorem dd_nlen (n : Nat) (h : n < 10 ^ 20) : (Lib.decDigits n).length ≤ 20 := dd_len 19 n h
theorem itoa_len (n : Int) (h0 : -9223372036854775808 ≤ n) (h1 : n ≤ 9223372036854775807) : (Lib.itoa n).length ≤ 21 := by
  unfold Lib.itoa
  split
  · have := dd_nlen n.natAbs (by omega)
    simp
    omega
  · have := dd_nlen n.toNat (by omega)
    omega
theorem show_len (v : Va) (t : Int) (hv : v.Fine) : (showL v t).length ≤ 802 := by
  unfold showL
  split
  · rename_i h
    split
    · decide
    · rename_i hb
      have hb : v.b = false := by simpa using hb
      split
      · rename_i ht
        subst ht
        have h1 := quote_len v.s.data.toList
        have h2 := (ok_text h hb).2
        have h3 : v.s.data.toList.length = v.s.size := rfl
        omega
      · split
        · rename_i ht
          subst ht
          have := ok_day h hb
          have := date_len v.n (by omega) (by omega)
          omega
        · split
          · split <;> decide
          · have := itoa_len v.n hv.lo hv.hi
            omega
  · decide
theorem cand_show {v : Va} {t : Int} (h : okV v t = true) (hv : v.Fine) : candV (showL v t) t = v := by
  have hs : showL v t = (if v.b = true then nullB else if t = 4 then quoteL v.s.data.toList else if t = 5 then dateL v.n else if t = 1 then (if v.n = 0 then falseB else trueB) else Lib.itoa v.n) := by unfold showL; rw [if_pos h]
  rw [hs]
  by_cases hb : v.b = true
  · rw [if_pos hb]
    unfold candV
    rw [if_pos rfl, ok_null h hb]
  · rw [if_neg hb]
    have hb : v.b = false := by simpa using hb
    have hty := ok_ty h
    obtain ⟨b, n, s⟩ := v
    simp only at hb hv ⊢
    subst hb
    by_cases h4 : t = 4
    · subst h4
      rw [if_pos rfl]
      have hk := ok_text h rfl
      simp only at hk
      unfold candV
      rw [if_neg (fun e => by unfold quoteL nullB at e; rw [List.append_assoc, List.singleton_append] at e; exact absurd (List.cons.inj e).1 (by decide)), if_pos rfl, hk.1]
      unfold quoteL
      rw [List.append_assoc, List.singleton_append, List.drop_succ_cons, List.drop_zero, unq_q, str_of]
    · rw [if_neg h4]
      by_cases h5 : t = 5
      · subst h5
        rw [if_pos rfl]
        have hk := ok_day h rfl
        simp only at hk
        have hl := date_len n hk.1 hk.2.1
        unfold candV
        rw [if_neg (fun e => by rw [e] at hl; exact absurd hl.1 (by decide)), if_neg h4, if_pos rfl, day_date n hk.1 hk.2.1, hk.2.2]
      · rw [if_neg h5]
        by_cases h1 : t = 1
        · subst h1
          rw [if_pos rfl]
          have hk := ok_bool h rfl
          simp only at hk
          unfold candV
          have : n = 0 ∨ n = 1 := by omega
          rcases this with rfl | rfl
          · rw [if_pos rfl, if_neg (by decide), if_neg h4, if_neg h5, if_pos rfl, if_neg (by decide), hk.2.2]
          · rw [if_neg (by omega : ¬ (1 : Int) = 0), if_neg (by decide), if_neg h4, if_neg h5, if_pos rfl, if_pos rfl, hk.2.2]
        · rw [if_neg h1]
          have hk := ok_num h rfl (by omega)
          simp only at hk
          unfold candV
          rw [if_neg ?_, if_neg h4, if_neg h5, if_neg h1, pint_itoa n hv.lo hv.hi, hk]
          intro e
          unfold Lib.itoa nullB at e
          split at e
          · injection e with e1 _
            exact absurd e1 (by decide)
          · have hd := dd_digs n.toNat
            rw [e] at hd
            have := hd 110 (List.mem_cons_self ..)
            have e1 : (110 : UInt8).toNat = 110 := rfl
            omega
theorem par_show {v : Va} {t : Int} (h : okV v t = true) (hv : v.Fine) : parV (showL v t) t = (v, 0) := by
  unfold parV
  rw [if_neg (by have := ok_ty h; omega), cand_show h hv, if_pos ⟨h, rfl⟩]
theorem show_inj {v u : Va} {t : Int} (h : okV v t = true) (hv : v.Fine) (k : okV u t = true) (hu : u.Fine) (e : showL v t = showL u t) : v = u := by
  rw [← cand_show h hv, e, cand_show k hu]
theorem par_ok {s : List UInt8} {t : Int} (h : (parV s t).2 = 0) : okV (parV s t).1 t = true ∧ showL (parV s t).1 t = s := by
  unfold parV at h ⊢
  split
  · rename_i k
    rw [if_pos k] at h
    cases h
  · rename_i k
    rw [if_neg k] at h
    split
    · rename_i j
      exact j
    · rename_i j
      rw [if_neg j] at h
      cases h
theorem par_bad {s : List UInt8} {t : Int} (h : (parV s t).2 ≠ 0) : (parV s t).1 = ⟨false, 0, ⟨#[]⟩⟩ := by
  unfold parV at h ⊢
  split
  · rfl
  · rename_i k
    rw [if_neg k] at h
    split
    · rename_i j
      rw [if_pos j] at h
      exact absurd rfl h
    · rfl
end Go.Proofs.YteaaadccjnmacaaGreatDoor
