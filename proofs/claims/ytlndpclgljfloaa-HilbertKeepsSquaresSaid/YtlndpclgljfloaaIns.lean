/-
  The library's insertion sort over rows: by a contract.
-/
import Derived.Test.YtlndpclgljfloaaSrt
import Derived.Test.YtlndpclgljfloaaJoi
namespace Go.Proofs.Ytlndpclgljfloaa
open Go.RowKit

/-- the order of rows: by their places, then by their numbers -/
def Rk (P : List Nat) (x y : Nat) : Prop := ky P x < ky P y ∨ (ky P x = ky P y ∧ x < y)
theorem Rk.trans {P : List Nat} {x y z : Nat} (h : Rk P x y) (k : Rk P y z) : Rk P x z := by
  unfold Rk at *
  omega
theorem at_mid {L R : List Nat} {x : Nat} {w : World} {g : Nat} {t : TypeId} (h : CB w g t ((L ++ x :: R).map iV)) : w.cell? ⟨g, L.length, none⟩ = some (.int .i64 x) :=
  h.cell L.length (by simp [iV])
/-- two neighbours change their places -/
theorem swap_at {L R : List Nat} {x y : Nat} {w : World} {g : Nat} {t : TypeId} (h : CB w g t ((L ++ x :: y :: R).map iV)) :
    CB ((w.setCell ⟨g, L.length + 1, none⟩ (iV x)).setCell ⟨g, L.length, none⟩ (iV y)) g t ((L ++ y :: x :: R).map iV) := by
  have := (h.set_ (L.length + 1) (iV x)).set_ L.length (iV y)
  have e : (((L ++ x :: y :: R).map iV).set (L.length + 1) (iV x)).set L.length (iV y) = (L ++ y :: x :: R).map iV := by
    rw [List.map_append, List.map_append, List.set_append_right _ _ (by simp), List.length_map, Nat.add_sub_cancel_left, List.set_append_right _ _ (by simp), List.length_map, Nat.sub_self]
    rfl
  rw [e] at this
  exact this
theorem SoS.swap {w0 : World} {db pb qb n : Nat} {P L R : List Nat} {x y : Nat} {X : World} (h : SoS w0 db pb qb n P (L ++ x :: y :: R) X) :
    SoS w0 db pb qb n P (L ++ y :: x :: R) ((X.setCell ⟨db, L.length + 1, none⟩ (iV x)).setCell ⟨db, L.length, none⟩ (iV y)) := by
  have g1 := grown_step (grown_set X db (L.length + 1) (iV x)) (grown_set _ db L.length (iV y))
  refine ⟨h.bel.grown g1 h.bel.size (fun g e => by injection e with e; rw [← e]; exact h.d0), swap_at h.d, h.p.grown g1 (fun e => ?_), h.q.grown g1 (fun e => ?_), ?_, h.pl, ?_, h.d0, h.nm⟩
  · injection e with e
    have h1 := h.p; have h2 := h.d
    unfold CB at h1 h2
    rw [e, h2] at h1
    have := Option.some.inj h1
    injection this with _ h3
    exact absurd h3 (by decide)
  · injection e with e
    have h1 := h.q; have h2 := h.d
    unfold CB at h1 h2
    rw [e, h2] at h1
    have := Option.some.inj h1
    injection this with _ h3
    exact absurd h3 (by decide)
  · rw [← h.dl]; simp
  · intro z hz
    refine h.lt z ?_
    simp only [List.mem_append, List.mem_cons] at hz ⊢
    rcases hz with hz | hz | hz | hz
    · exact .inl hz
    · exact .inr (.inr (.inl hz))
    · exact .inr (.inl hz)
    · exact .inr (.inr (.inr hz))
/-- the element e on its way to the left -/
structure InI (w0 : World) (db pb qb n : Nat) (P pre L : List Nat) (e : Nat) (post L1 L2 : List Nat) (X0 X : World) : Prop where
  s : SoS w0 db pb qb n P ((pre ++ L1) ++ e :: (L2 ++ post)) X
  l : L = L1 ++ L2
  k : ∀ x ∈ L2, ky P e < ky P x
  g : X0.grownBy X (some db)
theorem ins_end {P L L1 L2 : List Nat} {e : Nat} (hL : L = L1 ++ L2) (hp : L.Pairwise (Rk P)) (hlt : ∀ x ∈ L, x < e) (hk : ∀ x ∈ L2, ky P e < ky P x) (hs : L1 = [] ∨ ∃ M y, L1 = M ++ [y] ∧ ¬ ky P e < ky P y) :
    (L1 ++ e :: L2).Perm (L ++ [e]) ∧ (L1 ++ e :: L2).Pairwise (Rk P) := by
  subst hL
  constructor
  · have h1 : (L1 ++ e :: L2).Perm (e :: (L1 ++ L2)) := List.perm_middle
    exact h1.trans (List.perm_append_comm (l₁ := [e]) (l₂ := L1 ++ L2))
  · rw [List.pairwise_append] at hp ⊢
    obtain ⟨p1, p2, p3⟩ := hp
    have hle : ∀ x ∈ L1, Rk P x e := by
      rcases hs with rfl | ⟨M, y, rfl, hy⟩
      · intro x hx; cases hx
      · have hye : Rk P y e := by
          have := hlt y (by simp)
          unfold Rk
          omega
        intro x hx
        rw [List.mem_append, List.mem_singleton] at hx
        rcases hx with hx | rfl
        · rw [List.pairwise_append] at p1
          exact (p1.2.2 x hx y (by simp)).trans hye
        · exact hye
    refine ⟨p1, List.pairwise_cons.2 ⟨fun x hx => .inl (hk x hx), p2⟩, fun x hx y hy => ?_⟩
    rw [List.mem_cons] at hy
    rcases hy with rfl | hy
    · exact hle x hx
    · exact p3 x hx y hy
/-- the head of the sort's loop -/
structure OuI (w0 : World) (db pb qb n : Nat) (P pre S post L : List Nat) (t : Nat) (X0 X : World) : Prop where
  s : SoS w0 db pb qb n P (pre ++ (L ++ (S.drop t ++ post))) X
  p : L.Perm (S.take t)
  o : L.Pairwise (Rk P)
  g : X0.grownBy X (some db)
  t : 1 ≤ t ∧ t ≤ S.length
set_option maxHeartbeats 4000000 in
set_option maxRecDepth 20000 in
theorem isort_any {w0 : World} {db pb qb n : Nat} {P pre S post : List Nat} {X : World} (h : SoS w0 db pb qb n P (pre ++ (S ++ post)) X) (hS : S.Pairwise (· < ·)) (h0 : 0 < S.length) :
    Calls Try.prog 55 #[.slice (some ⟨db, 0, none⟩) n n, .int .i64 pre.length, .int .i64 (pre.length + S.length : Nat), (.func (.func 35) #[] #[.pointer (some ⟨pb, 0, none⟩)])] X fun e X' => e = .returned (.tuple #[]) ∧ ∃ S' : List Nat, S'.Perm S ∧ S'.Pairwise (Rk P) ∧ SoS w0 db pb qb n P (pre ++ (S' ++ post)) X' ∧ X.grownBy X' (some db) := by
  have hnm := h.nm
  have hdl : pre.length + S.length + post.length = n := by rw [← h.dl]; simp; omega
  obtain ⟨a, ha⟩ : ∃ a, pre.length = a := ⟨_, rfl⟩
  obtain ⟨m, hm⟩ : ∃ m, S.length = m := ⟨_, rfl⟩
  have H0 := Li (show OuI w0 db pb qb n P pre S post (S.take 1) 1 X X from ⟨by rw [← List.append_assoc (S.take 1), List.take_append_drop]; exact h, List.Perm.refl _, by
    cases S with
    | nil => exact .nil
    | cons x r => exact List.pairwise_singleton _ _, ⟨rfl, rfl, rfl, Nat.le_refl _, fun _ _ _ => rfl⟩, Nat.le_refl _, h0⟩)
  have HA := Li ha
  have HM := Li hm
  have HS := Li hS
  rw [ha, hm] at hdl ⊢
  rw [hm] at h0
  have hb : a + m ≤ 1000000 := by omega
  have hbn : a + m ≤ n := by omega
  clear h ha hm hS hdl
  go_enter Try.func55, Try.ntmps55
  go_wp2_with fail
  go_loopw [8] (fun i wr => ∃ (t : Nat) (L : List Nat), i = .int .i64 (a + t : Nat) ∧ Hid (OuI w0 db pb qb n P pre S post L t X wr)) (fun i _ => a + m - (intOf i).toNat)
  case atStart => exact ⟨1, _, by go_num, H0⟩
  case round =>
    clear H0
    obtain ⟨t, L, rfl, HI⟩ := hrel
    have ht := HI.out.t
    rw [HM.out] at ht
    by_cases htm : t < m
    · obtain ⟨e, he⟩ : ∃ e, S[t]? = some e := ⟨_, List.getElem?_eq_getElem (by rw [HM.out]; exact htm)⟩
      have HE := Li he
      have HD := Li (show S.drop t = e :: S.drop (t + 1) by rw [List.drop_eq_getElem?_toList_append]; simp [he])
      have hLl : L.length = t := by have := HI.out.p.length_eq; rw [this, List.length_take, HM.out]; omega
      have i1 : ((a : Int) + (t : Int)) < (a : Int) + (m : Int) := by omega
      clear he
      go_wp2_with fail
      go_loopw [9] (fun s9 wy => ∃ (j : Nat) (L1 L2 : List Nat), s9 = .int .i64 j ∧ Hid (j = a + L1.length) ∧ Hid (InI w0 db pb qb n P pre L e (S.drop (t + 1) ++ post) L1 L2 X wy)) (fun s9 _ => (intOf s9).toNat)
      case atStart => exact ⟨a + t, L, [], rfl, Li (by rw [hLl]), Li ⟨by rw [List.append_assoc]; have := HI.out.s; rw [HD.out] at this; exact this, by simp, (fun x hx => by cases hx), HI.out.g⟩⟩
      case round =>
        obtain ⟨j, L1, L2, rfl, HJ, HN⟩ := hrel
        have hkeep : ∀ (hs : L1 = [] ∨ ∃ M y, L1 = M ++ [y] ∧ ¬ ky P e < ky P y) (W : World), SoS w0 db pb qb n P ((pre ++ L1) ++ e :: (L2 ++ (S.drop (t + 1) ++ post))) W → X.grownBy W (some db) → OuI w0 db pb qb n P pre S post (L1 ++ e :: L2) (t + 1) X W := by
          intro hs W h1 h2
          obtain ⟨k1, k2⟩ := ins_end HN.out.l HI.out.o (fun x hx => by
            have h3 := HI.out.p.mem_iff.1 hx
            have h4 := HS.out
            rw [← List.take_append_drop t S, HD.out, List.pairwise_append] at h4
            exact h4.2.2 x h3 e (by simp)) HN.out.k hs
          refine ⟨?_, k1.trans ?_, k2, h2, by omega, by rw [HM.out]; omega⟩
          · simpa [List.append_assoc] using h1
          · rw [List.take_add_one, HE.out]
            exact List.Perm.append_right _ HI.out.p
        have HK := Li hkeep
        clear hkeep
        have hdlt := HN.out.s.d.lt
        rcases List.eq_nil_or_concat L1 with hL1 | ⟨M, y, hL1⟩
        · subst hL1
          obtain rfl : j = a := by have := HJ.out; simpa using this
          have HK2 := Li (fun m => HK.out (.inl rfl) _ (HN.out.s.dr m) (grown_step HN.out.g (grown_of (below_drewN (Below.refl _ _) m))))
          clear HK
          go_wp2_with fail
          go_quiet (fail)
          go_wp2_with fail
          go_roundw
          case rel => first | exact ⟨t + 1, _, by go_num, Li (HK2.out _)⟩ | ((repeat apply Exists.intro); exact ⟨⟨t + 1, _, by go_num, Li (HK2.out _)⟩, rfl⟩)
          case measure => simp [intOf]; omega
        · rw [List.concat_eq_append] at hL1
          subst hL1
          obtain ⟨J, hJ⟩ : ∃ J, (pre ++ M).length = J := ⟨_, rfl⟩
          have HJL := Li hJ
          obtain rfl : j = J + 1 := by
            have h1 := HJ.out
            have h2 := HA.out
            rw [List.length_append] at hJ h1
            simp only [List.length_cons, List.length_nil] at h1
            omega
          have hs0 : SoS w0 db pb qb n P ((pre ++ M) ++ y :: e :: (L2 ++ (S.drop (t + 1) ++ post))) wr := by
            have := HN.out.s
            simpa [List.append_assoc] using this
          have hJa : a ≤ J := by have h2 := HA.out; rw [List.length_append] at hJ; omega
          have c0 := at_mid hs0.d
          have c1 := at_mid (L := (pre ++ M) ++ [y]) (x := e) (R := L2 ++ (S.drop (t + 1) ++ post)) (by have := hs0.d; rwa [show (pre ++ M) ++ y :: e :: (L2 ++ (S.drop (t + 1) ++ post)) = ((pre ++ M) ++ [y]) ++ e :: (L2 ++ (S.drop (t + 1) ++ post)) by simp] at this)
          rw [List.length_append, hJ] at c1
          replace c1 : wr.cell? ⟨db, J + 1, none⟩ = some (.int .i64 e) := c1
          rw [hJ] at c0
          have f0 := hs0.d.frozen J
          have f1 := hs0.d.frozen (J + 1)
          have HS0 := Li hs0
          have hen := hs0.lt e (by simp)
          have hyn := hs0.lt y (by simp)
          have hJn : J + 1 < n := by
            have h1 := hs0.dl
            rw [List.length_append, hJ] at h1
            simp at h1
            omega
          have g1 : (a : Int) < (J : Int) + 1 := by omega
          have g2 : (J : Int) + 1 < (n : Int) := by omega
          have g3 : (J : Int) < (n : Int) := by omega
          have g4 : ((J : Int) + 1).toNat = J + 1 := by omega
          have g5 : (0 : Int) ≤ (J : Int) + 1 := by omega
          have g6 : (0 : Int) ≤ (J : Int) := by omega
          have g7 : IntKind.i64.wrap (J : Int) = (J : Int) := by rw [IntKind.wrap_i64]; omega
          clear hJ hs0 hJa hJn
          by_cases hk : ky P e < ky P y
          · have hv : cmpV (ky P e) (ky P y) = -1 := if_pos hk
            have HL := Li (fun q => by have := less_any (HS0.out.dr q) e y hen hyn; rw [hv] at this; exact this)
            have HKY := Li hk
            clear hv hk
            go_wp2_with fail
            go_quiet (first | (go_at_call 35; exact Calls.quiet_of (HL.out _)))
            go_wp2_with fail
            go_region
            go_wp2_with fail
            have HSW := Li (fun q => by have := (HS0.out.dr q).swap; rw [HJL.out] at this; exact this)
            have HGW := Li (fun q => grown_step HN.out.g (grown_step (grown_of (row := some db) (below_drewN (Below.refl _ wr) q)) (grown_step (grown_set (wr.drewN q) db (J + 1) (iV y)) (grown_set _ db J (iV e)))))
            have HLL := Li (show L = M ++ y :: L2 by have := HN.out.l; simpa using this)
            have HKK := Li (show ∀ x ∈ y :: L2, ky P e < ky P x from fun x hx => by
              rcases List.mem_cons.1 hx with rfl | hx
              · exact HKY.out
              · exact HN.out.k x hx)
            have HJ2 := Li (show J = a + M.length by have h1 := HJ.out; simp only [List.length_append, List.length_cons, List.length_nil] at h1; omega)
            go_roundw
            case rel => first | exact ⟨J, M, y :: L2, by go_num, HJ2, Li ⟨HSW.out _, HLL.out, HKK.out, HGW.out _⟩⟩ | ((repeat apply Exists.intro); exact ⟨⟨J, M, y :: L2, by go_num, HJ2, Li ⟨HSW.out _, HLL.out, HKK.out, HGW.out _⟩⟩, rfl⟩)
            case measure => first | (simp [intOf]; done) | (simp [intOf]; omega)
          · have hv : ∃ v, cmpV (ky P e) (ky P y) = v ∧ ¬ v < 0 := ⟨_, rfl, fun h => by
              have := cmp_neg (ky P e) (ky P y)
              rw [decide_eq_true h, decide_eq_false hk] at this
              cases this⟩
            obtain ⟨v, hv, hv0⟩ := hv
            have HL := Li (fun q => by have := less_any (HS0.out.dr q) e y hen hyn; rw [hv] at this; exact this)
            have HK2 := Li (fun m => HK.out (.inr ⟨M, y, rfl, hk⟩) _ (HN.out.s.dr m) (grown_step HN.out.g (grown_of (below_drewN (Below.refl _ _) m))))
            have hv1 : decide (v < 0) = false := decide_eq_false hv0
            clear hv hk HK hv0
            go_wp2_with fail
            go_quiet (first | (go_at_call 35; exact Calls.quiet_of (HL.out _)))
            go_wp2_with fail
            go_roundw
            case rel => first | exact ⟨t + 1, _, by go_num, Li (HK2.out _)⟩ | ((repeat apply Exists.intro); exact ⟨⟨t + 1, _, by go_num, Li (HK2.out _)⟩, rfl⟩)
            case measure => simp [intOf]; omega
    · obtain rfl : t = m := by omega
      go_wp2_with fail
      go_end0
      exact ⟨rfl, L, by have := HI.out.p; rw [List.take_of_length_le (by rw [HM.out]; exact Nat.le_refl _)] at this; exact this, HI.out.o, by have := HI.out.s; rw [List.drop_of_length_le (by rw [HM.out]; exact Nat.le_refl _)] at this; exact this, HI.out.g⟩
end Go.Proofs.Ytlndpclgljfloaa
