/-
  The reference's guess of a text, by a contract.
-/
import Derived.Test.YteaaadccjnmacaaGreatDoorGueM
import Derived.Test.YteaaadccjnmacaaGreatDoorDigR
import Derived.Test.YteaaadccjnmacaaGreatDoorStep
import Derived.Test.YteaaadccjnmacaaGreatDoorValR
namespace Go.Proofs.YteaaadccjnmacaaGreatDoor

def hexB (a b : UInt8) : UInt8 := UInt8.ofNat (16 * digV a + digV b)
def gT : Nat → List UInt8 → List UInt8
  | 0, _ => []
  | f + 1, c :: d :: r => if c.toNat = 92 ∧ 2 ≤ r.length then hexB (r.getD 0 0) (r.getD 1 0) :: gT f (r.drop 2) else c :: gT f (d :: r)
  | _ + 1, _ => []
theorem gT_more (f : Nat) : ∀ (l : List UInt8) (g : Nat), l.length ≤ f → l.length ≤ g → gT f l = gT g l := by
  induction f with
  | zero =>
    intro l g h _
    have : l = [] := List.eq_nil_of_length_eq_zero (by omega)
    subst this
    cases g <;> rfl
  | succ f ih =>
    intro l g h hg
    cases g with
    | zero =>
      have : l = [] := List.eq_nil_of_length_eq_zero (by omega)
      subst this
      rfl
    | succ g =>
      match l with
      | [] => rfl
      | [_] => rfl
      | c :: d :: r =>
        simp only [List.length_cons] at h hg
        unfold gT
        rw [ih (r.drop 2) g (by simp; omega) (by simp; omega), ih (d :: r) g (by simp; omega) (by simp; omega)]
def gTx (l : List UInt8) : List UInt8 := gT l.length l
theorem gTx_hex (c d : UInt8) (r : List UInt8) (h : c.toNat = 92) (h2 : 2 ≤ r.length) : gTx (c :: d :: r) = hexB (r.getD 0 0) (r.getD 1 0) :: gTx (r.drop 2) := by
  unfold gTx
  rw [List.length_cons]
  show (if c.toNat = 92 ∧ 2 ≤ r.length then _ else _) = _
  rw [if_pos ⟨h, h2⟩, gT_more _ (r.drop 2) (r.drop 2).length (by simp; omega) (Nat.le_refl _)]
theorem gTx_one (c d : UInt8) (r : List UInt8) (h : ¬ (c.toNat = 92 ∧ 2 ≤ r.length)) : gTx (c :: d :: r) = c :: gTx (d :: r) := by
  unfold gTx
  rw [List.length_cons]
  show (if c.toNat = 92 ∧ 2 ≤ r.length then _ else _) = _
  rw [if_neg h]
theorem gTx_end (l : List UInt8) (h : l.length ≤ 1) : gTx l = [] := by
  match l, h with
  | [], _ => rfl
  | [_], _ => rfl
theorem digV_hexD (n : Nat) (h : n < 16) : digV (hexD n) = n := by
  have : n = 0 ∨ n = 1 ∨ n = 2 ∨ n = 3 ∨ n = 4 ∨ n = 5 ∨ n = 6 ∨ n = 7 ∨ n = 8 ∨ n = 9 ∨ n = 10 ∨ n = 11 ∨ n = 12 ∨ n = 13 ∨ n = 14 ∨ n = 15 := by omega
  rcases this with rfl | rfl | rfl | rfl | rfl | rfl | rfl | rfl | rfl | rfl | rfl | rfl | rfl | rfl | rfl | rfl <;> rfl
theorem gTx_q (l : List UInt8) : gTx (qBs l ++ [34]) = l := by
  induction l with
  | nil => exact gTx_end _ (by simp [qBs])
  | cons c l ih =>
    have e : qBs (c :: l) = qB c ++ qBs l := by simp [qBs]
    rw [e, List.append_assoc]
    unfold qB
    split
    · rename_i hp
      unfold plainB at hp
      simp only [decide_eq_true_eq] at hp
      obtain ⟨d, r, hd⟩ : ∃ d r, qBs l ++ [34] = d :: r := by
        cases h : qBs l ++ [34] with
        | nil => simp at h
        | cons d r => exact ⟨d, r, rfl⟩
      rw [List.cons_append, List.nil_append, hd, gTx_one _ _ _ (fun h => hp.2.2.2 h.1), ← hd, ih]
    · have hlt := UInt8.toNat_lt c
      show gTx (92 :: 120 :: (hexD (c.toNat / 16) :: hexD (c.toNat % 16) :: (qBs l ++ [34]))) = _
      rw [gTx_hex _ _ _ rfl (by simp)]
      show hexB (hexD (c.toNat / 16)) (hexD (c.toNat % 16)) :: gTx (qBs l ++ [34]) = _
      rw [ih]
      congr 1
      apply UInt8.toNat_inj.1
      unfold hexB
      rw [digV_hexD _ (by omega), digV_hexD _ (by omega), UInt8.toNat_ofNat']
      omega
/-- the text that a notation suggests -/
def gText (l : List UInt8) : List UInt8 := gTx (l.drop 1)
theorem gText_q (l : List UInt8) : gText (quoteL l) = l := by
  unfold gText quoteL
  rw [List.append_assoc, List.singleton_append, List.drop_succ_cons, List.drop_zero, gTx_q]
theorem gT_len (f : Nat) : ∀ l : List UInt8, (gT f l).length ≤ l.length := by
  induction f with
  | zero => intro l; simp [gT]
  | succ f ih =>
    intro l
    match l with
    | [] => simp [gT]
    | [_] => simp [gT]
    | c :: d :: r =>
      unfold gT
      have h1 := ih (r.drop 2)
      have h2 := ih (d :: r)
      simp only [List.length_drop, List.length_cons] at h1 h2
      split <;> simp only [List.length_cons] <;> omega
end Go.Proofs.YteaaadccjnmacaaGreatDoor
namespace Go.Proofs.YteaaadccjnmacaaGreatDoor
open Go.RowKit Go.Lib

theorem drop_two5 {l : List UInt8} {k : Nat} {c d : UInt8} (h0 : l[k]? = some c) (h1 : l[k + 1]? = some d) : l.drop k = c :: d :: l.drop (k + 2) := by
  obtain ⟨a0, rfl⟩ := List.getElem?_eq_some_iff.1 h0
  obtain ⟨a1, rfl⟩ := List.getElem?_eq_some_iff.1 h1
  rw [List.drop_eq_getElem_cons a0, List.drop_eq_getElem_cons a1]
theorem G4.dn {base : Nat} {w0 w : World} {v : Value} {l p : List UInt8} {g n : Nat} (h : G4 base w0 w v l p g) : G4 base w0 (w.drewN n) v l p g := ⟨below_dn h.bel n, h.own, h.top, h.blk⟩
set_option maxHeartbeats 4000000 in
set_option maxRecDepth 20000 in
theorem RguessText_any (s : ByteArray) (w : World) (hs : s.size ≤ 1000000) : Calls Tryz.prog 38 #[.string s] w fun e w' => e = .returned (.string (str (gText s.data.toList))) ∧ Below w.heap.size w w' := by
  obtain ⟨n, hn⟩ : ∃ n, n = s.size := ⟨_, rfl⟩
  obtain ⟨l, hl⟩ : ∃ l, l = s.data.toList := ⟨_, rfl⟩
  have HLN : Hid (l.length = n) := by show _ = _; rw [hl, hn]; rfl
  have HBY : Hid (∀ k c, l[k]? = some c → ∀ h' : k < s.size, (s[k]'h').toNat = c.toNat) := fun k c h => byte_at s k c (by rw [← hl]; exact h)
  have hsz : (s.size : Int) = (n : Int) := by rw [hn]
  rw [← hl]
  have hn6 : n ≤ 1000000 := by omega
  clear hl
  go_enter Tryz.func38, Tryz.ntmps38
  go_wp2
  go_loopw [3, 4] (fun v i wr => ∃ (k : Nat) (P : List UInt8) (A' : Option Addr) (c' : Nat), 1 ≤ k ∧ k ≤ n + 1 ∧ P.length ≤ k ∧ i = .int .i64 k ∧ v = .slice A' P.length c' ∧ Hid (P ++ gTx (l.drop k) = gText l) ∧ Hid (Owns wr w.heap.size (.slice A' P.length c') P) ∧ Hid (Below w.heap.size w wr)) (fun _ i _ => n + 2 - (RowKit.intOf i).toNat)
  case atStart => exact ⟨1, [], _, _, Nat.le_refl _, by omega, by simp, rfl, rfl, rfl, owns_empty w #[] rfl, val_al w _⟩
  case round =>
    obtain ⟨k, P, A', c', hk1, hk, hP, rfl, rfl, hE, ho, hb⟩ := hrel
    by_cases hlt : k + 1 < n
    · obtain ⟨c, hc⟩ : ∃ c, l[k]? = some c := ⟨_, List.getElem?_eq_getElem (by rw [HLN.out]; omega)⟩
      obtain ⟨d, hd⟩ : ∃ c, l[k + 1]? = some c := ⟨_, List.getElem?_eq_getElem (by rw [HLN.out]; exact hlt)⟩
      have hby := HBY.out k c hc
      have hdr := drop_two5 hc hd
      have HDL : Hid ((l.drop (k + 2)).length = n - (k + 2)) := by show _ = _; rw [List.length_drop, HLN.out]
      have j1 : (k : Int) < (n : Int) - 1 := by omega
      have j0 : k < n := by omega
      by_cases hx : c.toNat = 92 ∧ k + 3 < n
      · obtain ⟨hx1, hx2⟩ := hx
        obtain ⟨a, ha⟩ : ∃ c, l[k + 2]? = some c := ⟨_, List.getElem?_eq_getElem (by rw [HLN.out]; omega)⟩
        obtain ⟨b, hb2⟩ : ∃ c, l[k + 3]? = some c := ⟨_, List.getElem?_eq_getElem (by rw [HLN.out]; omega)⟩
        have hba := HBY.out (k + 2) a ha
        have hbb := HBY.out (k + 3) b hb2
        have g0 : (l.drop (k + 2)).getD 0 0 = a := by rw [List.getD_eq_getElem?_getD, List.getElem?_drop]; simp [ha]
        have g1 : (l.drop (k + 2)).getD 1 0 = b := by rw [List.getD_eq_getElem?_getD, List.getElem?_drop]; simp [hb2]
        obtain ⟨x, hx0⟩ : ∃ x, x = hexB a b := ⟨_, rfl⟩
        have HE2 : Hid ((P ++ [x]) ++ gTx (l.drop (k + 3 + 1)) = gText l) := by
          show _ = _
          rw [← hE.out, hdr, gTx_hex c d _ hx1 (by rw [HDL.out]; omega), g0, g1, List.drop_drop, ← hx0, List.append_assoc]
          rfl
        have hda := digV_lt a
        have hdb := digV_lt b
        have HXN : Hid ((x.toNat : Int) = 16 * (digV a : Int) + (digV b : Int)) := by
          show _ = _
          rw [hx0, hexB, UInt8.toNat_ofNat']
          omega
        have HA := Lib.hid (Rdigit_any a)
        have HB := Lib.hid (Rdigit_any b)
        rw [hx1] at hby
        generalize a.toNat = an at *
        generalize b.toNat = bn at *
        generalize digV a = da at *
        generalize digV b = db at *
        have w1 : IntKind.i64.wrap ((k : Int) + 2) = (k : Int) + 2 := IntWalk.i64_in _ ⟨by omega, by omega⟩
        have w2 : IntKind.i64.wrap ((k : Int) + 3) = (k : Int) + 3 := IntWalk.i64_in _ ⟨by omega, by omega⟩
        have i1 : 0 ≤ (k : Int) + 2 := by omega
        have i2 : ((k : Int) + 2).toNat = k + 2 := by omega
        have i3 : 0 ≤ (k : Int) + 3 := by omega
        have i4 : ((k : Int) + 3).toNat = k + 3 := by omega
        have i5 : (k : Int) + 2 < (n : Int) := by omega
        have i6 : (k : Int) + 3 < (n : Int) := by omega
        have i7 : k + 2 < s.size := by omega
        have i8 : k + 3 < s.size := by omega
        have v1 : IntKind.u8.wrap (16 * (da : Int)) = 16 * (da : Int) := IntWalk.u8_in _ (by omega)
        have v2 : IntKind.u8.wrap (16 * (da : Int) + (db : Int)) = (x.toNat : Int) := by rw [HXN.out]; exact IntWalk.u8_in _ (by omega)
        have FH : Hid (F4 w.heap.size w wr (.slice A' P.length c') P) := ⟨hb.out, ho.out, hb.out.size⟩
        have HCS : Hid (#[Value.int .u8 (x.toNat : Int)] = (cb [x]).toArray) := by show _ = _; simp [cb]
        clear hc hd ha hb2 hdr g0 g1 hx0 hx1 hda hdb
        go_wp2_with fail
        go_region_held_law (fun _ => True) (exact trivial)
          (first
            | ((with_reducible show Calls _ 61 #[.int .u8 (an : Int)] _ _); refine (HA.out _).mono ?_; rintro e w' ⟨rfl, rfl⟩)
            | ((with_reducible show Calls _ 61 _ _ _); refine (HB.out _).mono ?_; rintro e w' ⟨rfl, rfl⟩)
            | (refine step_grow4 rfl (.tmp 24) (.tmp 37) rfl w.heap.size w _ P [x] wr.heap.size 1 rfl rfl rfl (by omega) (by first | exact FH.out.al _ _ HCS.out | exact (FH.out.al _ _ HCS.out).dr | exact (FH.out.al _ _ HCS.out).dr.dr | exact (FH.out.al _ _ HCS.out).dn | exact FH.out.dr.al _ _ HCS.out) (by omega) ?_; intro A3 c3 w3 ho3 hb3; have HO3 := Lib.hid ho3; have HB3 := Lib.hid hb3; clear ho3 hb3))
        all_goals (
          go_wp2_with fail
          go_roundw
          case rel => exact ⟨k + 3 + 1, P ++ [x], A3, c3, by omega, by omega, by simp; omega, by go_num, by rw [List.length_append]; rfl, HE2, HO3, HB3⟩
          case measure => simp [RowKit.intOf]; omega)
      · have HE2 : Hid ((P ++ [c]) ++ gTx (l.drop (k + 1)) = gText l) := by
          show _ = _
          rw [← hE.out, hdr, gTx_one c d _ (by rw [HDL.out]; omega), List.append_assoc]
          congr 2
          have h := (List.getElem?_eq_some_iff.1 hd).2
          have h1 := (List.getElem?_eq_some_iff.1 hd).1
          rw [List.drop_eq_getElem_cons h1, h]
          rfl
        obtain ⟨x, hx0⟩ : ∃ x, x = c.toNat := ⟨_, rfl⟩
        have HXC : Hid ((x : Int) = (c.toNat : Int)) := by show _ = _; rw [hx0]
        rw [← hx0] at hby hx
        clear hc hd hdr hx0
        by_cases h92 : x = 92
        · subst h92
          have i6 : ¬ (k : Int) + 3 < (n : Int) := by omega
          have w2 : IntKind.i64.wrap ((k : Int) + 3) = (k : Int) + 3 := IntWalk.i64_in _ ⟨by omega, by omega⟩
          clear hx
          go_wp2_with (at_builtin; refine wpList_growC rfl (.tmp 41) (.tmp 45) _ rfl Tryz.underlying22 info5 w.heap.size (.slice A' P.length c') P c _ rfl rfl rfl HXC.out ho.out (by omega) hb.out.size ?_; intro A3 c3 w3 ho3 hg3)
          have HB3 : Hid (Below w.heap.size w w3) := grown_owns ho.out hg3 hb.out hb.out.size (Nat.le_refl _)
          have HO3 : Hid (Owns w3 w.heap.size (.slice A3 (P ++ [c]).length c3) (P ++ [c])) := ho3
          clear ho3 hg3
          go_wp2_with fail
          go_roundw
          case rel => exact ⟨k + 1, P ++ [c], A3, c3, by omega, by omega, by simp; omega, by go_num, by rw [List.length_append]; rfl, HE2, HO3, HB3⟩
          case measure => simp [RowKit.intOf]; omega
        · have i6 : ¬ (x : Int) = 92 := by omega
          clear hx
          go_wp2_with (at_builtin; refine wpList_growC rfl (.tmp 41) (.tmp 45) _ rfl Tryz.underlying22 info5 w.heap.size (.slice A' P.length c') P c _ rfl rfl rfl HXC.out ho.out (by omega) hb.out.size ?_; intro A3 c3 w3 ho3 hg3)
          have HB3 : Hid (Below w.heap.size w w3) := grown_owns ho.out hg3 hb.out hb.out.size (Nat.le_refl _)
          have HO3 : Hid (Owns w3 w.heap.size (.slice A3 (P ++ [c]).length c3) (P ++ [c])) := ho3
          clear ho3 hg3
          go_wp2_with fail
          go_roundw
          case rel => exact ⟨k + 1, P ++ [c], A3, c3, by omega, by omega, by simp; omega, by go_num, by rw [List.length_append]; rfl, HE2, HO3, HB3⟩
          case measure => simp [RowKit.intOf]; omega
    · have j1 : ¬ (k : Int) < (n : Int) - 1 := by omega
      have HP : Hid (P = gText l) := by
        show _ = _
        rw [← hE.out, gTx_end _ (by rw [List.length_drop, HLN.out]; omega), List.append_nil]
      have hconv := run_string_shows (P := Tryz.prog) wr 22 9 Tryz.underlying22 Tryz.underlying5 Tryz.underlying9 (n := P.length) (c := c') rfl ho.out.shows.2.2
      clear hn
      go_wp2
      go_ret
      exact ⟨by rw [← HP.out]; rfl, hb.out⟩
end Go.Proofs.YteaaadccjnmacaaGreatDoor
