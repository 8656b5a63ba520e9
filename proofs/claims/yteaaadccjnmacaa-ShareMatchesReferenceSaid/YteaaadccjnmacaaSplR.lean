/-
  The reference's Split, by contracts.
-/
import Derived.Test.YteaaadccjnmacaaPolyR
import Derived.Test.YteaaadccjnmacaaCombM
import Derived.Test.YteaaadccjnmacaaSplitB
namespace Go.Proofs.Yteaaadccjnmacaa
open Go.RowKit

theorem FS.up {base : Nat} {w0 w w' : World} {v : Value} {l : List UInt8} (h : FS base w0 w v l) (hb : Below w.heap.size w w') : FS base w0 w' v l :=
  ⟨h.bel.trans (hb.mono h.top), row_up h.own hb, Nat.le_trans h.top hb.size⟩
theorem FS.drN {base : Nat} {w0 w : World} {v : Value} {l : List UInt8} (h : FS base w0 w v l) (n : Nat) : FS base w0 (w.drewN n) v l := h.up (below_drewN (Below.refl _ _) n)
theorem owns_low {w : World} {base base' : Nat} {v : Value} {l : List UInt8} (h : Owns w base' v l) (hle : base ≤ base') : Owns w base v l := by
  refine ⟨h.1, ?_⟩
  rcases h.2 with h2 | ⟨g, cap, cur, e, hb2, r⟩
  · exact .inl h2
  · exact .inr ⟨g, cap, cur, e, Nat.le_trans hle hb2, r⟩
theorem fn_al {base n : Nat} {w0 w : World} {v : Value} {L : List Sh} (h : FN base w0 w v L) (s : Sh) (A : Option Addr) (c : Nat) (hn : n = s.2.length) (ho : Owns w base (.slice A n c) s.2) :
    GN base w0 (w.alloc (.cells #[.int .u8 (s.1.toNat : Int), .slice A n c] 29)) v L s A c w.heap.size := by
  subst hn
  exact h.al s A c ho

theorem wpList_growN {w : World} {ops : Array Oper} {rest : List Oper} {o : Oper} {a : Act} {Q : Exit → Act → World → Prop} (hgd : o.guard = none) (d x : Operand)
    (ho : o.op = .call { callee := .builtin .append, args := #[d, x], argTypes := #[26, 26] }) (base : Nat) (w0 : World) (v : Value) (L : List Sh) (s : Sh) (A : Option Addr) (c g : Nat)
    (hs : a.eval d = v) (hx : a.eval x = .slice (some ⟨g, 0, none⟩) 1 1) (hG : GN base w0 w v L s A c g) (hroom : L.length + 1 ≤ 1000000)
    (hK : ∀ A' c' w', OwnN w' base (.slice A' (L ++ [s]).length c') (L ++ [s]) → Below base w0 w' → wpList Try.prog ops Q rest (a.put o.dst (.slice A' (L ++ [s]).length c')) w') : wpList Try.prog ops Q (o :: rest) a w := by
  refine wpList_plain hgd fun K hK' => ?_
  have h := step_growN (ops := ops) (K := K) (Q := Q) (E := False) hgd d x ho base w0 v L s A c g hs hx hG hroom (fun A' c' w' h1 h2 => hK' _ _ (hK A' c' w' h1 h2))
  rwa [if_pos (by simp [Region.wanted, hgd])] at h
theorem split_take (secret r : List UInt8) (P m T k : Nat) (hP : P = m + 1) (hk : k < T) : (splitL secret r P T).take k ++ [(UInt8.ofNat (k + 1), maskB (UInt8.ofNat (k + 1)) m r secret)] = (splitL secret r P T).take (k + 1) := by
  rw [List.take_add_one, split_get _ _ _ _ _ hk, show P - 1 = m by omega]
  rfl
theorem RSplit_bad (v r : Value) (a b : Int) (w : World) (hok : ¬ (1 ≤ a ∧ a ≤ b ∧ b ≤ 255)) :
    Calls Try.prog 8 #[v, r, .agg #[.int .i64 a, .int .i64 b]] w
      fun e w' => e = .returned (.tuple #[.slice none 0 0, .int .i64 1]) ∧ Below w.heap.size w w' := by
  have hb := below_alloc (w := w) (.cells #[.int .i64 a, .int .i64 b] 25)
  by_cases i1 : a < 1
  · clear hok
    go_enter Try.func8, Try.ntmps8
    go_wp2
    go_ret2
    exact ⟨rfl, hb⟩
  · by_cases i2 : b < a
    · clear hok
      go_enter Try.func8, Try.ntmps8
      go_wp2
      go_ret2
      exact ⟨rfl, hb⟩
    · have i3 : 255 < b := by omega
      clear hok
      go_enter Try.func8, Try.ntmps8
      go_wp2
      go_ret2
      exact ⟨rfl, hb⟩

theorem mask_take (x : UInt8) (m : Nat) (r secret : List UInt8) (i : Nat) (hi : i < secret.length) : (maskB x m r secret).take i ++ [ev (polyL (byte secret i) r m i m) x] = (maskB x m r secret).take (i + 1) := by
  rw [List.take_add_one, byte_get (by rw [maskB_len]; exact hi), mask_coef x secret r m i hi, polyL_ev]
  rfl

set_option maxHeartbeats 4000000 in
set_option maxRecDepth 100000 in
theorem RSplit_any (A : Option Addr) (N cap : Nat) (secret : List UInt8) (R : Option Addr) (q rcap : Nat) (r : List UInt8) (P m T : Nat) (w : World) (hN : N = secret.length) (hq : q = r.length) (hs : Shows w w.heap.size A secret) (hr : Shows w w.heap.size R r)
    (hP : P = m + 1) (hPT : P ≤ T) (hT : T ≤ 255) (hNl : N ≤ 1000) (hrl : r.length ≤ 140737488351232) :
    Calls Try.prog 8 #[.slice A N cap, .slice R q rcap, .agg #[.int .i64 (P : Int), .int .i64 (T : Int)]] w
      fun e w' => ∃ A' c', e = .returned (.tuple #[.slice A' T c', .int .i64 0]) ∧ ShL w' w'.heap.size A' (splitL secret r P T) ∧ Below w.heap.size w w' := by
  have HS := Lib.hid hs
  have HR := Lib.hid hr
  have HN := Lib.hid hN
  have HQ := Lib.hid hq
  have HP := Lib.hid hP
  have HRL := Lib.hid hrl
  have i1 : ¬ (P : Int) < 1 := by omega
  have i2 : ¬ (T : Int) < (P : Int) := by omega
  have i3 : ¬ 255 < (T : Int) := by omega
  have HB1 := Lib.hid (ba1 w (.cells #[.int .i64 (P : Int), .int .i64 (T : Int)] 25))
  have HN1 := Lib.hid (heap_alloc_new w (.cells #[.int .i64 (P : Int), .int .i64 (T : Int)] 25))
  have HM : Hid (m ≤ 255) := by show _ ≤ _; omega
  clear hs hr hN hq hP hrl
  go_enter Try.func8, Try.ntmps8
  go_wp2
  have HZ1 : Hid ((w.alloc (.cells #[.int .i64 (P : Int), .int .i64 (T : Int)] 25)).heap.size = w.heap.size + 1) := hz _ _
  have hown : Hid (FN (w.alloc (.cells #[.int .i64 (P : Int), .int .i64 (T : Int)] 25)).heap.size (w.alloc (.cells #[.int .i64 (P : Int), .int .i64 (T : Int)] 25)) ((w.alloc (.cells #[.int .i64 (P : Int), .int .i64 (T : Int)] 25)).alloc (.cells #[] 29)) (.slice (some ⟨w.heap.size + 1, 0, none⟩) 0 0) ((splitL secret r P T).take 0)) := by
    have h := own_newN (w.alloc (.cells #[.int .i64 (P : Int), .int .i64 (T : Int)] 25))
    rw [← hz w (.cells #[.int .i64 (P : Int), .int .i64 (T : Int)] 25)]
    exact ⟨ba1 _ _, h, by rw [hz (w.alloc _)]; exact Nat.le_succ _⟩
  generalize ((w.alloc (.cells #[.int .i64 (P : Int), .int .i64 (T : Int)] 25)).alloc (.cells #[] 29)) = w2 at *
  generalize (w.alloc (.cells #[.int .i64 (P : Int), .int .i64 (T : Int)] 25)) = w1 at *
  go_loopw [8, 9] (fun u x wr => ∃ (k : Nat) (A' : Option Addr) (c' : Nat), k ≤ T ∧ x = .int .i64 ((k : Int) + 1) ∧ u = .slice A' k c' ∧ Hid (FN w1.heap.size w1 wr (.slice A' k c') ((splitL secret r P T).take k))) (fun _ x _ => T + 1 - (intOf x).toNat)
  case atStart => exact ⟨0, _, _, Nat.zero_le _, rfl, rfl, hown⟩
  case round =>
    clear hown
    obtain ⟨k, A', c', hk, rfl, rfl, hF⟩ := hrel
    obtain ⟨wo, hwo⟩ : ∃ wo : World, wo = wr := ⟨_, rfl⟩
    subst hwo
    have hD : w.heap.size < w1.heap.size := by have := HZ1.out; omega
    have HDB : Hid (Below w.heap.size w wo) := HB1.out.trans (hF.out.bel.mono (Nat.le_of_lt hD))
    have HD : Hid (∀ w3, Below wo.heap.size wo w3 → w3.cell? ⟨w.heap.size, 0, none⟩ = some (.int .i64 (P : Int)) ∧ w3.cell? ⟨w.heap.size, 1, none⟩ = some (.int .i64 (T : Int))) := fun w3 hb =>
      have h3 := hF.out.bel.trans (hb.mono hF.out.top)
      ⟨(h3.cell (p := ⟨w.heap.size, 0, none⟩) hD).trans (cell_of_row _ w.heap.size 0 _ _ (0, 0) HN1.out), (h3.cell (p := ⟨w.heap.size, 1, none⟩) hD).trans (cell_of_row _ w.heap.size 1 _ _ (0, 0) HN1.out)⟩
    obtain ⟨d0, d1⟩ := HD.out wo (Below.refl _ _)
    clear hD
    by_cases hlt : k < T
    · have j1 : (k : Int) + 1 ≤ (T : Int) := by omega
      obtain ⟨X, hX⟩ : ∃ X, X = UInt8.ofNat (k + 1) := ⟨_, rfl⟩
      have hXn : X.toNat = k + 1 := by rw [hX]; exact UInt8.toNat_ofNat_of_lt' (by simpa using (by omega : k + 1 < 256))
      have e1 : IntKind.u8.wrap ((k : Int) + 1) = (X.toNat : Int) := by rw [IntKind.wrap_u8, hXn]; omega
      have e2 : ((k : Int) + 1) % 256 = (X.toNat : Int) := by rw [hXn]; omega
      have HX := Lib.hid hX
      clear hX hXn
      have ho : Hid (FS wo.heap.size wo (wo.alloc (.cells #[] 5)) (.slice (some ⟨wo.heap.size, 0, none⟩) 0 0) ((maskB X m r secret).take 0)) :=
        ⟨ba1 _ _, owns_empty wo _ rfl, by rw [hz]; exact Nat.le_succ _⟩
      go_wp2
      generalize (wo.alloc (.cells #[] 5)) = w3 at *
      go_loopw [10, 11] (fun u i wr => ∃ (i' : Nat) (A7 : Option Addr) (c7 : Nat), i' ≤ N ∧ i = .int .i64 i' ∧ u = .slice A7 i' c7 ∧ Hid (FS wo.heap.size wo wr (.slice A7 i' c7) ((maskB X m r secret).take i'))) (fun _ i _ => N - (intOf i).toNat)
      case atStart => exact ⟨0, _, _, Nat.zero_le _, rfl, rfl, ho⟩
      case round =>
        clear ho d0 d1
        obtain ⟨i, A7, c7, hi, rfl, rfl, hG⟩ := hrel
        obtain ⟨wi, hwi⟩ : ∃ wi : World, wi = wr := ⟨_, rfl⟩
        subst hwi
        by_cases hli : i < N
        · have j2 : (i : Int) < (N : Int) := by omega
          have hiS : i < secret.length := by rw [← HN.out]; exact hli
          obtain ⟨b1, off1, rfl, hbB, hcell⟩ := (HS.out.below HDB.out) (by omega)
          have c1 := hcell i _ (byte_get hiS)
          have hb1 : b1 < wo.heap.size := Nat.lt_of_lt_of_le hbB HDB.out.size
          have HC : Hid (∀ w4, Below wo.heap.size wo w4 → w4.cell? ⟨b1, off1 + i, none⟩ = some (.int .u8 ((byte secret i).toNat : Int)) ∧ w4.cell? ⟨w.heap.size, 0, none⟩ = some (.int .i64 (P : Int))) := fun w4 hb =>
            ⟨(hb.cell (p := ⟨b1, off1 + i, none⟩) hb1).trans c1, (HD.out w4 hb).1⟩
          have HPO : Hid (∀ w4, Below wo.heap.size wo w4 → Calls Try.prog 22 #[.int .u8 ((byte secret i).toNat : Int), .slice R q rcap, .agg #[.int .i64 (P : Int), .int .i64 (i : Int)]] w4
              fun e w' => ∃ A' c', e = .returned (.slice A' P c') ∧ Owns w' w4.heap.size (.slice A' P c') (polyL (byte secret i) r m i m) ∧ Below w4.heap.size w4 w') := fun w4 hb =>
            PolyR_any (byte secret i) R q rcap r P m i w.heap.size w4 HQ.out (HR.out.below (HDB.out.trans (hb.mono HDB.out.size))) (Nat.le_trans HDB.out.size hb.size) HP.out HM.out (by omega) HRL.out
          have HE := Lib.hid (mask_take X m r secret i hiS)
          have HPL : Hid (P = (polyL (byte secret i) r m i m).length) := by show _ = _; rw [polyL_len]; exact HP.out
          have hPle : P ≤ 1000000 := by omega
          have HML : Hid ((maskB X m r secret).length = N) := by show _ = _; rw [maskB_len]; exact HN.out.symm
          generalize polyL (byte secret i) r m i m = pl at *
          generalize byte secret i = y at *
          clear hcell c1
          obtain ⟨c1, d0⟩ := HC.out wi hG.out.bel
          go_wp2
          go_region_held_law (fun w' => w'.cell? ⟨b1, off1 + i, none⟩ = some (.int .u8 (y.toNat : Int)) ∧ w'.cell? ⟨w.heap.size, 0, none⟩ = some (.int .i64 (P : Int)))
            (first | exact hS9 | exact hS8 | exact hS7 | go_keep)
            (first
              | (go_at_call 22; refine (HPO.out _ (by first | exact hG.out.bel | exact hG.out.dr.bel | exact hG.out.dr.dr.bel | exact hG.out.dr.dr.dr.bel)).mono ?_; rintro e w7 ⟨A8, c8, rfl, ho7, hb7⟩; have HG7 : Hid (FS wo.heap.size wo w7 (.slice A7 i c7) ((maskB X m r secret).take i)) := (by first | exact hG.out.up hb7 | exact hG.out.dr.up hb7 | exact hG.out.dr.dr.up hb7 | exact hG.out.dr.dr.dr.up hb7); have HO7 := Lib.hid ho7.shows.2.2; have hS7 := HC.out w7 HG7.out.bel; clear ho7 hb7)
              | (go_at_call 21; refine (AtR_any A8 P c8 w7.heap.size pl X _ HPL.out (by first | exact HO7.out | exact HO7.out.below (Below.drew (Below.refl _ _)) | exact HO7.out.below (Below.drew (Below.drew (Below.refl _ _)))) hPle).mono ?_; rintro e w8 ⟨rfl, m8, hw8⟩; have HG8 : Hid (FS wo.heap.size wo w8 (.slice A7 i c7) ((maskB X m r secret).take i)) := (by rw [hw8]; first | exact HG7.out.drN m8 | exact HG7.out.dr.drN m8 | exact HG7.out.dr.dr.drN m8); have hS8 := HC.out w8 HG8.out.bel; clear hw8)
              | (refine step_growS rfl (.tmp 41) (.tmp 55) rfl wo.heap.size wo _ ((maskB X m r secret).take i) (ev pl X) ((ev pl X).toNat : Int) w8.heap.size rfl rfl rfl (by first | exact HG8.out.al _ | exact (HG8.out.al _).dr | exact HG8.out.dr.al _ | exact (HG8.out.dr.al _).dr | exact HG8.out.dr.dr.al _) (by rw [List.length_take]; omega) ?_; intro A9 c9 w9 ho9 hb9; have HO9 := Lib.hid ho9; have HB9 := Lib.hid hb9; have hS9 := HC.out w9 hb9; clear ho9 hb9))
          go_wp2_with fail
          go_roundw
          case rel =>
            have e3 : ((maskB X m r secret).take i ++ [ev pl X]).length = i + 1 := by rw [List.length_append, List.length_take, HML.out]; simp; omega
            refine ⟨i + 1, A9, c9, by omega, by go_num, by rw [HML.out, Nat.min_eq_left (by omega)], ?_⟩
            have h9 := HO9.out
            rw [e3, HE.out] at h9
            exact ⟨HB9.out, h9, HB9.out.size⟩
          case measure => simp [intOf]; omega
        · have hiN : i = N := by omega
          have j2 : ¬ (i : Int) < (N : Int) := by omega
          subst hiN
          have HML : Hid ((maskB X m r secret).length = i) := by show _ = _; rw [maskB_len]; exact HN.out.symm
          have hGf := hG.out
          rw [List.take_of_length_le (by rw [HML.out]; exact Nat.le_refl _)] at hGf
          have HFN := Lib.hid (hF.out.up hGf.bel)
          have HGN : Hid (GN w1.heap.size w1 (wi.alloc (.cells #[.int .u8 (X.toNat : Int), .slice A7 i c7] 29)) (.slice A' k c') ((splitL secret r P T).take k) (X, maskB X m r secret) A7 c7 wi.heap.size) :=
            fn_al HFN.out (X, maskB X m r secret) A7 c7 HML.out.symm (owns_low hGf.own hF.out.top)
          have hTl : (splitL secret r P T).length = T := splitL_len _ _ _ _
          have hroom : ((splitL secret r P T).take k).length + 1 ≤ 1000000 := by rw [List.length_take]; omega
          have hek : Hid (((splitL secret r P T).take k).length = k) := by show _ = _; rw [List.length_take]; omega
          have HEN : Hid ((splitL secret r P T).take k ++ [(X, maskB X m r secret)] = (splitL secret r P T).take (k + 1)) := by show _ = _; rw [HX.out]; exact split_take secret r P m T k HP.out hlt
          clear hGf hTl hG
          go_wp2_with (at_builtin; refine wpList_growN rfl (.tmp 57) (.tmp 62) rfl w1.heap.size w1 _ ((splitL secret r P T).take k) (X, maskB X m r secret) A7 c7 wi.heap.size rfl rfl HGN.out hroom ?_; intro A9 c9 w9 ho9 hb9; have HO9 := Lib.hid ho9; have HB9 := Lib.hid hb9; clear ho9 hb9)
          go_roundw
          case rel =>
            have e3 : ((splitL secret r P T).take k ++ [(X, maskB X m r secret)]).length = k + 1 := by rw [List.length_append, hek.out]; rfl
            refine ⟨k + 1, A9, c9, by omega, by go_num, by simp [splitL_len]; omega, ?_⟩
            have h9 := HO9.out
            rw [e3, HEN.out] at h9
            exact ⟨HB9.out, h9, HB9.out.size⟩
          case measure => simp [intOf]; omega
    · have j1 : ¬ (k : Int) + 1 ≤ (T : Int) := by omega
      have hkT : k = T := by omega
      subst hkT
      have hFo := hF.out.own
      rw [List.take_of_length_le (by rw [splitL_len]; exact Nat.le_refl _)] at hFo
      have HSH := Lib.hid hFo.shl.2.2.2
      clear hFo
      go_wp2
      go_ret2
      exact ⟨A', ⟨c', rfl⟩, HSH.out, HDB.out⟩
end Go.Proofs.Yteaaadccjnmacaa
