/-
  Sketches as lists of bytes and their bits. Plain.
-/
import Derived.Test.YtmdokldbggingaaDoorFin
namespace Go.Proofs.YtmdokldbggingaaDoor

/-- bit j of a row of bytes -/
def tb (l : List UInt8) (j : Nat) : Bool := (l.getD (j / 8) 0).toNat.testBit (j % 8)
def bit8 (r : Nat) : UInt8 := UInt8.ofNat (2 ^ r)
/-- bit j set -/
def putB (l : List UInt8) (j : Nat) : List UInt8 := l.set (j / 8) (l.getD (j / 8) 0 ||| bit8 (j % 8))
theorem putB_len (l : List UInt8) (j : Nat) : (putB l j).length = l.length := by simp [putB]
theorem bit8_nat {r : Nat} (h : r < 8) : (bit8 r).toNat = 2 ^ r := by
  have : ∀ r : Fin 8, (bit8 r.1).toNat = 2 ^ r.1 := by decide
  exact this ⟨r, h⟩
theorem tb_putB (l : List UInt8) (p j : Nat) (hp : p / 8 < l.length) : tb (putB l p) j = (tb l j || decide (j = p)) := by
  unfold tb putB
  by_cases h : p / 8 = j / 8
  · rw [List.getD_eq_getElem?_getD, List.getElem?_set, if_pos h, if_pos (by omega), h]
    simp only [Option.getD_some, UInt8.toNat_or, Nat.testBit_or]
    rw [bit8_nat (by omega), Nat.testBit_two_pow]
    congr 1
    by_cases e : p % 8 = j % 8
    · rw [decide_eq_true e, decide_eq_true (by omega)]
    · rw [decide_eq_false e, decide_eq_false (by intro h; subst h; exact e rfl)]
  · rw [List.getD_eq_getElem?_getD, List.getElem?_set, if_neg h, ← List.getD_eq_getElem?_getD, decide_eq_false (by intro e; subst e; exact h rfl), Bool.or_false]
theorem tb_ext {a b : List UInt8} (hl : a.length = b.length) (h : ∀ j, j < 8 * a.length → tb a j = tb b j) : a = b := by
  apply List.ext_getElem hl
  intro i h1 h2
  apply UInt8.toNat_inj.1
  apply Nat.eq_of_testBit_eq
  intro r
  by_cases hr : r < 8
  · have e := h (8 * i + r) (by omega)
    unfold tb at e
    rw [show (8 * i + r) / 8 = i by omega, show (8 * i + r) % 8 = r by omega] at e
    simpa [List.getD_eq_getElem?_getD, h1, h2] using e
  · have h8 : 2 ^ 8 ≤ 2 ^ r := Nat.pow_le_pow_right (by decide) (by omega)
    have x := a[i].toNat_lt
    have y := b[i].toNat_lt
    rw [Nat.testBit_lt_two_pow (by omega), Nat.testBit_lt_two_pow (by omega)]
theorem tb_out (l : List UInt8) (j : Nat) (h : 8 * l.length ≤ j) : tb l j = false := by
  unfold tb
  rw [List.getD_eq_getElem?_getD, List.getElem?_eq_none (by omega)]
  simp
def addB (ps : List Nat) (l : List UInt8) : List UInt8 := ps.foldl putB l
theorem addB_len (ps : List Nat) : ∀ l, (addB ps l).length = l.length := by
  induction ps with
  | nil => intro l; rfl
  | cons p ps ih => intro l; show (addB ps (putB l p)).length = _; rw [ih, putB_len]
theorem tb_addB (ps : List Nat) : ∀ (l : List UInt8), (∀ p ∈ ps, p < 8 * l.length) → ∀ j, tb (addB ps l) j = (tb l j || decide (j ∈ ps)) := by
  induction ps with
  | nil => intro l _ j; simp [addB]
  | cons p ps ih =>
    intro l h j
    show tb (addB ps (putB l p)) j = _
    have hp := h p (by simp)
    rw [ih _ (fun q hq => by rw [putB_len]; exact h q (by simp [hq])), tb_putB _ _ _ (by omega), Bool.or_assoc]
    congr 1
    by_cases e : j = p
    · simp [e]
    · simp [e]
def hasB (ps : List Nat) (l : List UInt8) : Bool := ps.all (tb l)
def orL (a b : List UInt8) : List UInt8 := List.zipWith (· ||| ·) a b
theorem orL_len {a b : List UInt8} (h : a.length = b.length) : (orL a b).length = a.length := by simp [orL]; omega
theorem tb_orL {a b : List UInt8} (h : a.length = b.length) (j : Nat) : tb (orL a b) j = (tb a j || tb b j) := by
  unfold tb orL
  simp only [List.getD_eq_getElem?_getD, List.getElem?_zipWith]
  by_cases hj : j / 8 < a.length
  · rw [List.getElem?_eq_getElem hj, List.getElem?_eq_getElem (by omega)]
    simp
  · rw [List.getElem?_eq_none (by omega), List.getElem?_eq_none (by omega)]
    simp
def foldL (l : List UInt8) : List UInt8 := orL (l.take (l.length / 2)) (l.drop (l.length / 2))
theorem tb_take (l : List UInt8) (n j : Nat) (h : j < 8 * n) : tb (l.take n) j = tb l j := by
  unfold tb
  rw [List.getD_eq_getElem?_getD, List.getD_eq_getElem?_getD, List.getElem?_take, if_pos (by omega)]
theorem tb_drop (l : List UInt8) (n j : Nat) : tb (l.drop n) j = tb l (j + 8 * n) := by
  unfold tb
  rw [List.getD_eq_getElem?_getD, List.getD_eq_getElem?_getD, List.getElem?_drop, show (j + 8 * n) / 8 = n + j / 8 by omega, show (j + 8 * n) % 8 = j % 8 by omega]
theorem foldL_len {l : List UInt8} {n : Nat} (h : l.length = 2 * n) : (foldL l).length = n := by
  unfold foldL
  rw [orL_len (by simp; omega)]
  simp
  omega
theorem tb_foldL {l : List UInt8} {n j : Nat} (h : l.length = 2 * n) (hj : j < 8 * n) : tb (foldL l) j = (tb l j || tb l (j + 8 * n)) := by
  unfold foldL
  have e : l.length / 2 = n := by omega
  rw [e, tb_orL (by simp; omega), tb_take _ _ _ hj, tb_drop]

/-- the number that bytes form, the least significant one first -/
def numL : List UInt8 → Nat
  | [] => 0
  | x :: l => x.toNat + 256 * numL l
theorem numL_lt : ∀ l : List UInt8, numL l < 256 ^ l.length
  | [] => by simp [numL]
  | x :: l => by
    have := numL_lt l
    have := x.toNat_lt
    simp only [numL, List.length_cons, Nat.pow_succ]
    omega
/-- the sums that lead to the bits -/
def sumN (h1 h2 i : Nat) : Nat := (h1 + i * h2) % 18446744073709551616
def posL (K h1 h2 m : Nat) : List Nat := (List.range K).map fun i => sumN h1 h2 i % m
theorem posL_len (K h1 h2 m : Nat) : (posL K h1 h2 m).length = K := by simp [posL]
theorem posL_lt {K h1 h2 m : Nat} (hm : 0 < m) : ∀ p ∈ posL K h1 h2 m, p < m := fun p hp => by
  obtain ⟨i, _, rfl⟩ := List.mem_map.1 hp
  exact Nat.mod_lt _ hm
theorem posL_half (K h1 h2 m : Nat) : posL K h1 h2 m = (posL K h1 h2 (2 * m)).map (· % m) := by
  unfold posL
  rw [List.map_map]
  apply List.map_congr_left
  intro i _
  show _ = (sumN h1 h2 i % (2 * m)) % m
  rw [Nat.mod_mod_of_dvd _ ⟨2, by omega⟩]
def dgK (key : List UInt8) : List UInt8 := digestOf [] (0 :: key)
def hA (key : List UInt8) : Nat := numL ((dgK key).take 8)
def hC (key : List UInt8) : Nat := numL (((dgK key).drop 8).take 8)
def hB (key : List UInt8) : Nat := hC key / 2 * 2 + 1
def keyB (K n : Nat) (key : List UInt8) : List Nat := posL K (hA key) (hB key) (8 * n)
theorem keyB_lt {K n : Nat} {key : List UInt8} (hn : 0 < n) : ∀ p ∈ keyB K n key, p < 8 * n := posL_lt (by omega)
theorem keyB_half (K n : Nat) (key : List UInt8) : keyB K n key = (keyB K (2 * n) key).map (· % (8 * n)) := by
  unfold keyB
  rw [show 8 * (2 * n) = 2 * (8 * n) by omega]
  exact posL_half _ _ _ _
def addK (K : Nat) (l key : List UInt8) : List UInt8 := addB (keyB K l.length key) l
def bldF (K : Nat) (l : List UInt8) (keys : List (List UInt8)) : List UInt8 := keys.foldl (addK K) l
theorem addK_len (K : Nat) (l key : List UInt8) : (addK K l key).length = l.length := addB_len _ _
theorem bldF_len (K : Nat) (keys : List (List UInt8)) : ∀ l, (bldF K l keys).length = l.length := by
  induction keys with
  | nil => intro l; rfl
  | cons k ks ih => intro l; show (bldF K (addK K l k) ks).length = _; rw [ih, addK_len]
theorem tb_addK (K : Nat) (l key : List UInt8) (h : 0 < l.length) (j : Nat) : tb (addK K l key) j = (tb l j || decide (j ∈ keyB K l.length key)) := tb_addB _ _ (fun _ hp => keyB_lt h _ hp) _
theorem tb_bldF (K : Nat) (keys : List (List UInt8)) : ∀ (l : List UInt8), 0 < l.length → ∀ j, tb (bldF K l keys) j = (tb l j || keys.any fun k => decide (j ∈ keyB K l.length k)) := by
  induction keys with
  | nil => intro l _ j; simp [bldF]
  | cons k ks ih =>
    intro l h j
    show tb (bldF K (addK K l k) ks) j = _
    rw [ih _ (by rw [addK_len]; exact h), tb_addK _ _ _ h, addK_len, List.any_cons, Bool.or_assoc]
def bld (K n : Nat) (keys : List (List UInt8)) : List UInt8 := bldF K (List.replicate n 0) keys
theorem bld_len (K n : Nat) (keys : List (List UInt8)) : (bld K n keys).length = n := by simp [bld, bldF_len]
theorem bld_snoc (K n : Nat) (keys : List (List UInt8)) (k : List UInt8) : bld K n (keys ++ [k]) = addK K (bld K n keys) k := by simp [bld, bldF]
theorem tb_zero (n j : Nat) : tb (List.replicate n 0) j = false := by
  unfold tb
  rw [List.getD_eq_getElem?_getD, List.getElem?_replicate]
  split <;> simp
theorem tb_bld (K n : Nat) (keys : List (List UInt8)) (h : 0 < n) (j : Nat) : tb (bld K n keys) j = keys.any fun k => decide (j ∈ keyB K n k) := by
  unfold bld
  rw [tb_bldF _ _ _ (by simpa using h), tb_zero, Bool.false_or, List.length_replicate]
/-- P11.3 -/
theorem bld_same (K n : Nat) (a b : List (List UInt8)) (h : 0 < n) (hab : ∀ k, k ∈ a ↔ k ∈ b) : bld K n a = bld K n b := by
  apply tb_ext (by rw [bld_len, bld_len])
  intro j _
  rw [tb_bld _ _ _ h, tb_bld _ _ _ h, Bool.eq_iff_iff]
  simp only [List.any_eq_true]
  exact ⟨fun ⟨k, hk, hj⟩ => ⟨k, (hab k).1 hk, hj⟩, fun ⟨k, hk, hj⟩ => ⟨k, (hab k).2 hk, hj⟩⟩
theorem bld_or (K n : Nat) (a b : List (List UInt8)) (h : 0 < n) : orL (bld K n a) (bld K n b) = bld K n (a ++ b) := by
  apply tb_ext (by rw [orL_len (by rw [bld_len, bld_len]), bld_len, bld_len])
  intro j _
  rw [tb_orL (by rw [bld_len, bld_len]), tb_bld _ _ _ h, tb_bld _ _ _ h, tb_bld _ _ _ h, List.any_append]
theorem orL_comm (a b : List UInt8) : orL a b = orL b a := by
  unfold orL
  rw [List.zipWith_comm]
  congr 1
  funext x y
  exact UInt8.or_comm _ _
/-- P11.4 -/
theorem fold_bld (K n : Nat) (keys : List (List UInt8)) (h : 0 < n) : foldL (bld K (2 * n) keys) = bld K n keys := by
  have hl : (bld K (2 * n) keys).length = 2 * n := bld_len _ _ _
  apply tb_ext (by rw [foldL_len hl, bld_len])
  intro j hj
  rw [foldL_len hl] at hj
  rw [tb_foldL hl hj, tb_bld _ _ _ (by omega), tb_bld _ _ _ (by omega), tb_bld _ _ _ h, Bool.eq_iff_iff]
  simp only [Bool.or_eq_true, List.any_eq_true, decide_eq_true_eq]
  have key : ∀ k, j ∈ keyB K n k ↔ j ∈ keyB K (2 * n) k ∨ j + 8 * n ∈ keyB K (2 * n) k := fun k => by
    rw [keyB_half]
    simp only [List.mem_map]
    constructor
    · rintro ⟨q, hq, rfl⟩
      have hlt := keyB_lt (K := K) (n := 2 * n) (key := k) (by omega) q hq
      by_cases hs : q < 8 * n
      · rw [Nat.mod_eq_of_lt hs]
        exact .inl hq
      · have e : q % (8 * n) + 8 * n = q := by
          rw [Nat.mod_eq_sub_mod (by omega), Nat.mod_eq_of_lt (by omega)]
          omega
        rw [e]
        exact .inr hq
    · rintro (h | h)
      · exact ⟨j, h, Nat.mod_eq_of_lt hj⟩
      · exact ⟨_, h, by rw [Nat.add_mod_right, Nat.mod_eq_of_lt hj]⟩
  constructor
  · rintro (⟨k, hk, h⟩ | ⟨k, hk, h⟩)
    · exact ⟨k, hk, (key k).2 (.inl h)⟩
    · exact ⟨k, hk, (key k).2 (.inr h)⟩
  · rintro ⟨k, hk, h⟩
    rcases (key k).1 h with h | h
    · exact .inl ⟨k, hk, h⟩
    · exact .inr ⟨k, hk, h⟩
theorem fold_or {a b : List UInt8} {n : Nat} (ha : a.length = 2 * n) (hb : b.length = 2 * n) : foldL (orL a b) = orL (foldL a) (foldL b) := by
  have ho : (orL a b).length = 2 * n := by rw [orL_len (by omega), ha]
  apply tb_ext (by rw [foldL_len ho, orL_len (by rw [foldL_len ha, foldL_len hb]), foldL_len ha])
  intro j hj
  rw [foldL_len ho] at hj
  rw [tb_foldL ho hj, tb_orL (by omega), tb_orL (by omega), tb_orL (by rw [foldL_len ha, foldL_len hb]), tb_foldL ha hj, tb_foldL hb hj]
  generalize tb a j = x
  generalize tb b j = y
  generalize tb a (j + 8 * n) = z
  generalize tb b (j + 8 * n) = u
  cases x <;> cases y <;> cases z <;> cases u <;> rfl
/-- what is held: each key of a list -/
def holds (K : Nat) (l : List UInt8) (keys : List (List UInt8)) : Prop := ∀ k ∈ keys, hasB (keyB K l.length k) l = true
theorem holds_bld (K n : Nat) (keys : List (List UInt8)) (h : 0 < n) : holds K (bld K n keys) keys := fun k hk => by
  unfold hasB
  rw [bld_len, List.all_eq_true]
  intro j hj
  rw [tb_bld _ _ _ h, List.any_eq_true]
  exact ⟨k, hk, decide_eq_true hj⟩
theorem holds_or {K : Nat} {a b : List UInt8} {keys : List (List UInt8)} (hl : a.length = b.length) (h : holds K a keys) : holds K (orL a b) keys := fun k hk => by
  have := h k hk
  unfold hasB at this ⊢
  rw [List.all_eq_true] at this ⊢
  rw [orL_len hl]
  intro j hj
  rw [tb_orL hl, this j hj, Bool.true_or]
theorem holds_fold {K n : Nat} {a : List UInt8} {keys : List (List UInt8)} (hl : a.length = 2 * n) (hn : 0 < n) (h : holds K a keys) : holds K (foldL a) keys := fun k hk => by
  have := h k hk
  unfold hasB at this ⊢
  rw [List.all_eq_true] at this ⊢
  rw [foldL_len hl, keyB_half]
  intro j hj
  obtain ⟨q, hq, rfl⟩ := List.mem_map.1 hj
  have hlt := keyB_lt (K := K) (n := 2 * n) (key := k) (by omega) q hq
  have ht := this q (by rw [hl]; exact hq)
  show tb _ (q % (8 * n)) = true
  rw [tb_foldL hl (Nat.mod_lt _ (by omega))]
  by_cases hs : q < 8 * n
  · rw [Nat.mod_eq_of_lt hs, ht, Bool.true_or]
  · have e : q % (8 * n) + 8 * n = q := by
      rw [Nat.mod_eq_sub_mod (by omega), Nat.mod_eq_of_lt (by omega)]
      omega
    rw [e, ht, Bool.or_true]
/-- the number of bits that are 1 -/
def onesN (l : List UInt8) (n : Nat) : Nat := (List.range n).countP (tb l)
def ones (l : List UInt8) : Nat := onesN l (8 * l.length)
theorem onesN_succ (l : List UInt8) (n : Nat) : onesN l (n + 1) = onesN l n + if tb l n = true then 1 else 0 := by
  unfold onesN
  rw [List.range_succ, List.countP_append]
  simp [List.countP_cons]
theorem onesN_put (l : List UInt8) (p : Nat) (hp : p / 8 < l.length) : ∀ n, onesN (putB l p) n = onesN l n + if p < n ∧ tb l p = false then 1 else 0
  | 0 => by simp [onesN]
  | n + 1 => by
    rw [onesN_succ, onesN_succ, onesN_put l p hp n, tb_putB _ _ _ hp]
    by_cases e : n = p
    · subst e
      cases h : tb l n <;> simp
    · by_cases hlt : p < n
      · cases h : tb l p <;> simp [e, show p < n + 1 by omega, hlt] <;> omega
      · cases h : tb l p <;> simp [e, show ¬ p < n + 1 by omega, hlt]
theorem ones_put (l : List UInt8) (p : Nat) (hp : p < 8 * l.length) : ones (putB l p) = ones l + if tb l p = false then 1 else 0 := by
  unfold ones
  rw [putB_len, onesN_put l p (by omega)]
  simp [hp]
theorem putB_same (l : List UInt8) (p : Nat) (hp : p < 8 * l.length) (h : tb l p = true) : putB l p = l := by
  apply tb_ext (putB_len _ _)
  intro j _
  rw [tb_putB _ _ _ (by omega)]
  by_cases e : j = p
  · subst e; simp [h]
  · simp [e]
/-- P11.5 -/
theorem ones_addB (ps : List Nat) : ∀ (l : List UInt8), (∀ p ∈ ps, p < 8 * l.length) → ones l ≤ ones (addB ps l) ∧ ones (addB ps l) ≤ ones l + ps.length ∧ (ones (addB ps l) = ones l ↔ hasB ps l = true) := by
  induction ps with
  | nil => intro l _; exact ⟨Nat.le_refl _, Nat.le_refl _, by simp [addB, hasB]⟩
  | cons p ps ih =>
    intro l h
    have hp := h p (by simp)
    obtain ⟨a, b, c⟩ := ih (putB l p) (fun q hq => by rw [putB_len]; exact h q (by simp [hq]))
    show ones l ≤ ones (addB ps (putB l p)) ∧ ones (addB ps (putB l p)) ≤ ones l + (ps.length + 1) ∧ (ones (addB ps (putB l p)) = ones l ↔ (tb l p && hasB ps l) = true)
    have e := ones_put l p hp
    cases ht : tb l p
    · rw [ht, if_pos rfl] at e
      exact ⟨by omega, by omega, by simp; omega⟩
    · have es := putB_same l p hp ht
      rw [es] at a b c ⊢
      exact ⟨a, by omega, by rw [Bool.true_and]; exact c⟩
theorem or_addB (ps : List Nat) (l : List UInt8) (h : ∀ p ∈ ps, p < 8 * l.length) : orL l (addB ps l) = addB ps l := by
  apply tb_ext (by rw [orL_len (by rw [addB_len]), addB_len])
  intro j _
  rw [tb_orL (by rw [addB_len]), tb_addB _ _ h]
  cases tb l j <;> simp
end Go.Proofs.YtmdokldbggingaaDoor
