/-
  The program's Decode, by a contract.
-/
import Derived.Test.YteaaadccjnmacaaGreatDoorEncP
import Derived.Test.YteaaadccjnmacaaGreatDoorReadB
namespace Go.Proofs.YteaaadccjnmacaaGreatDoor
open Go.RowKit Go.Lib

def va0 : Va := ⟨false, 0, ⟨#[]⟩⟩
/-- what follows the first byte -/
def bodyL (l : List UInt8) (a : Nat) (t : Int) : Va × Nat × Nat :=
  if t = 4 then (⟨false, 0, ⟨(Num.taken l a).toArray⟩⟩, (Num.span l a).2.1, (Num.span l a).2.2) else (⟨false, Num.zag (Num.readU l a).1, ⟨#[]⟩⟩, (Num.readU l a).2.1, (Num.readU l a).2.2)
def decB (l : List UInt8) (a : Nat) (t : Int) : Va × Nat × Nat :=
  if (bodyL l a t).2.2 ≠ 0 then (va0, 0, (bodyL l a t).2.2) else if okV (bodyL l a t).1 t = true then ((bodyL l a t).1, (bodyL l a t).2.1, 0) else (va0, 0, 7)
/-- Decode -/
def decL (l : List UInt8) (a t : Int) : Va × Nat × Nat :=
  if a < 0 ∨ (l.length : Int) < a then (va0, 0, 1) else if ¬ (1 ≤ t ∧ t ≤ 5) then (va0, 0, 7) else if (l.length : Int) = a then (va0, 0, 6)
  else if l.getD a.toNat 0 = 0 then (⟨true, 0, ⟨#[]⟩⟩, a.toNat + 1, 0) else if l.getD a.toNat 0 ≠ 1 then (va0, 0, 5) else decB l (a.toNat + 1) t
def retV (r : Va × Nat × Nat) : Ending := .returned (.tuple #[r.1.val, .int .i64 r.2.1, .int .i64 r.2.2])

theorem ret3 {w0 w' : World} {v : Value} {k z : Int} {r : Va × Nat × Nat} (h1 : v = r.1.val) (h2 : k = r.2.1) (h3 : z = r.2.2) (h : Below w0.heap.size w0 w') :
    Ending.returned (.tuple #[v, .int .i64 k, .int .i64 z]) = retV r ∧ Below w0.heap.size w0 w' := by
  subst h1 h2 h3
  exact ⟨rfl, h⟩

theorem content_any (A : Option Addr) (N cap : Nat) (l : List UInt8) (a : Nat) (t : Int) (w : World) (hN : N = l.length) (hs : Shows w w.heap.size A l) (hc : N ≤ cap) (hl : cap ≤ 9223372036854775807) :
    Calls Tryz.prog 34 #[.slice A N cap, .int .i64 (a : Int), .int .i64 t] w fun e w' => e = retV (bodyL l a t) ∧ Below w.heap.size w w' := by
  have hs' := hs.up (val_al w (.cells #[.bool false, .int .i64 0, .string ⟨#[]⟩] 24))
  by_cases ht : t = 4
  · have HR := Lib.hid (ReadText_any A cap l (a : Int) _ hs' (by omega) hl)
    have hb : bodyL l a t = (⟨false, 0, ⟨(Num.taken l a).toArray⟩⟩, (Num.span l a).2.1, (Num.span l a).2.2) := by unfold bodyL; rw [if_pos ht]
    rw [hb]
    rw [← hN] at HR
    subst ht
    clear hb hs hs' hN
    go_enter Tryz.func34, Tryz.ntmps34
    go_wp2_with (go_at_call 54; refine HR.out.mono ?_; rintro e w1 ⟨rfl, rfl⟩)
    refine bodyPost_ret (v := .tuple #[.agg #[.bool false, .int .i64 0, .string ⟨(Num.taken l a).toArray⟩], .int .i64 (Num.span l a).2.1, .int .i64 (Num.span l a).2.2]) (by simp [results, Tryz.results34, go_sem]) rfl (ret3 rfl rfl rfl ?_)
    exact val_al _ _
  · have HR := Lib.hid (ReadS_any A cap l (a : Int) _ hs' (by omega))
    have hb : bodyL l a t = (⟨false, Num.zag (Num.readU l a).1, ⟨#[]⟩⟩, (Num.readU l a).2.1, (Num.readU l a).2.2) := by unfold bodyL; rw [if_neg ht]
    rw [hb]
    rw [← hN] at HR
    unfold retS at HR
    clear hb hs hs' hN
    go_enter Tryz.func34, Tryz.ntmps34
    go_wp2_with (go_at_call 55; refine HR.out.mono ?_; rintro e w1 ⟨rfl, rfl⟩)
    refine bodyPost_ret (v := .tuple #[.agg #[.bool false, .int .i64 (Num.zag (Num.readU l a).1), .string ⟨#[]⟩], .int .i64 (Num.readU l a).2.1, .int .i64 (Num.readU l a).2.2]) (by simp [results, Tryz.results34, go_sem]) rfl (ret3 rfl rfl rfl ?_)
    exact val_al _ _
theorem size_mk (l : List UInt8) : (⟨l.toArray⟩ : ByteArray).size = l.length := by simp [ByteArray.size]
theorem taken_le (l : List UInt8) (a : Int) : (Num.taken l a).length ≤ l.length := by
  unfold Num.taken
  simp only [List.length_take, List.length_drop]
  omega
theorem dec_err {w w' : World} {l : List UInt8} {a t : Int} {z : Int} {r : Va × Nat × Nat} (hr : decL l a t = r) (h1 : r.1 = va0) (h2 : r.2.1 = 0) (h3 : z = r.2.2) (hb : Below w.heap.size w w') :
    Ending.returned (.tuple #[.agg #[.bool false, .int .i64 0, .string ⟨#[]⟩], .int .i64 0, .int .i64 z]) = retV (decL l a t) ∧ Below w.heap.size w w' := by
  rw [hr]
  exact ret3 (by rw [h1]; rfl) (by rw [h2]; rfl) h3 hb

/-- a box of a value, in a later world -/
structure VB (w : World) (h : Nat) (b : Bool) (n : Int) (s : ByteArray) : Prop where
  c0 : w.cell? ⟨h, 0, none⟩ = some (.bool b)
  c1 : w.cell? ⟨h, 1, none⟩ = some (.int .i64 n)
  c2 : w.cell? ⟨h, 2, none⟩ = some (.string s)
  f0 : w.frozen? ⟨h, 0, none⟩ = false
  f1 : w.frozen? ⟨h, 1, none⟩ = false
  f2 : w.frozen? ⟨h, 2, none⟩ = false
  lt : h < w.heap.size
theorem VB.new (w : World) (b : Bool) (n : Int) (s : ByteArray) : VB (w.alloc (.cells #[.bool b, .int .i64 n, .string s] 24)) w.heap.size b n s :=
  ⟨by simp, by simp, by simp, by simp [World.frozen?_alloc_new], by simp [World.frozen?_alloc_new], by simp [World.frozen?_alloc_new], by simp⟩
theorem VB.up {w w' : World} {h : Nat} {b : Bool} {n : Int} {s : ByteArray} (k : VB w h b n s) (hb : Below w.heap.size w w') : VB w' h b n s :=
  ⟨(hb.cell (p := ⟨h, 0, none⟩) k.lt).trans k.c0, (hb.cell (p := ⟨h, 1, none⟩) k.lt).trans k.c1, (hb.cell (p := ⟨h, 2, none⟩) k.lt).trans k.c2, (hb.frozen (p := ⟨h, 0, none⟩) k.lt).trans k.f0, (hb.frozen (p := ⟨h, 1, none⟩) k.lt).trans k.f1, (hb.frozen (p := ⟨h, 2, none⟩) k.lt).trans k.f2, Nat.lt_of_lt_of_le k.lt hb.size⟩

set_option maxHeartbeats 2000000 in
/-- Decode. -/
theorem Decode_any (A : Option Addr) (N cap : Nat) (l : List UInt8) (a t : Int) (w : World) (hN : N = l.length) (hs : Shows w w.heap.size A l) (hc : N ≤ cap) (hl : N ≤ 9223372036854775000) (hcap : cap ≤ 9223372036854775807) :
    Calls Tryz.prog 13 #[.slice A N cap, .int .i64 a, .int .i64 t] w fun e w' => e = retV (decL l a t) ∧ Below w.heap.size w w' := by
  have HN := Lib.hid hN
  by_cases h1 : a < 0
  · have hr : decL l a t = (va0, 0, 1) := by unfold decL; rw [if_pos (.inl h1)]
    clear hN hs
    have HR := Lib.hid hr
    clear hr
    go_enter Tryz.func13, Tryz.ntmps13
    go_wp2_with fail
    exact bodyPost_ret (v := .tuple #[.agg #[.bool false, .int .i64 0, .string ⟨#[]⟩], .int .i64 0, .int .i64 1]) (by simp [results, Tryz.results13, go_sem]) rfl (dec_err HR.out rfl rfl rfl (val_al _ _))
  by_cases h2 : (N : Int) < a
  · have hr : decL l a t = (va0, 0, 1) := by unfold decL; rw [if_pos (.inr (by omega))]
    clear hN hs
    have HR := Lib.hid hr
    clear hr
    go_enter Tryz.func13, Tryz.ntmps13
    go_wp2_with fail
    exact bodyPost_ret (v := .tuple #[.agg #[.bool false, .int .i64 0, .string ⟨#[]⟩], .int .i64 0, .int .i64 1]) (by simp [results, Tryz.results13, go_sem]) rfl (dec_err HR.out rfl rfl rfl (val_al _ _))
  have ho : ¬ (a < 0 ∨ (l.length : Int) < a) := by omega
  by_cases h3' : ¬ (1 ≤ t ∧ t ≤ 5)
  · have h3 := h3'
    clear h3'
    have hr : decL l a t = (va0, 0, 7) := by unfold decL; rw [if_neg ho, if_pos h3]
    have HT := Lib.hid (fun w1 => isType_any t false w1 (by simpa using h3))
    clear hN hs h3 ho
    have HR := Lib.hid hr
    clear hr
    go_enter Tryz.func13, Tryz.ntmps13
    go_wp2_with (go_at_call 21; refine (HT.out _).mono ?_; rintro e w1 ⟨rfl, rfl⟩)
    exact bodyPost_ret (v := .tuple #[.agg #[.bool false, .int .i64 0, .string ⟨#[]⟩], .int .i64 0, .int .i64 7]) (by simp [results, Tryz.results13, go_sem]) rfl (dec_err HR.out rfl rfl rfl (val_al _ _))
  have h3 : 1 ≤ t ∧ t ≤ 5 := Decidable.not_not.1 h3'
  clear h3'
  have HT := Lib.hid (fun w1 => isType_any t true w1 (by simpa using h3))
  by_cases h4 : a = (N : Int)
  · have hr : decL l a t = (va0, 0, 6) := by unfold decL; rw [if_neg ho, if_neg (by simpa using h3), if_pos (by omega)]
    subst h4
    clear hN hs h3 ho
    have HR := Lib.hid hr
    clear hr
    go_enter Tryz.func13, Tryz.ntmps13
    go_wp2_with (go_at_call 21; refine (HT.out _).mono ?_; rintro e w1 ⟨rfl, rfl⟩)
    exact bodyPost_ret (v := .tuple #[.agg #[.bool false, .int .i64 0, .string ⟨#[]⟩], .int .i64 0, .int .i64 6]) (by simp [results, Tryz.results13, go_sem]) rfl (dec_err HR.out rfl rfl rfl (val_al _ _))
  obtain ⟨k, rfl⟩ := Int.eq_ofNat_of_zero_le (by omega : 0 ≤ a)
  have hk : k < l.length := by omega
  obtain ⟨c, hck⟩ : ∃ c, l[k]? = some c := ⟨_, List.getElem?_eq_getElem hk⟩
  have hcd : l.getD k 0 = c := by simp [List.getD, hck]
  obtain ⟨g, off, rfl, hg, hcell⟩ := hs (by omega)
  have hcc := hcell k c hck
  have hbl := val_al w (.cells #[.bool false, .int .i64 0, .string ⟨#[]⟩] 24)
  have hcw := (hbl.cell (p := ⟨g, off + k, none⟩) hg).trans hcc
  have j1 : (k : Int) < (N : Int) := by omega
  by_cases h5 : c = 0
  · have hr : decL l k t = (⟨true, 0, ⟨#[]⟩⟩, k + 1, 0) := by
      unfold decL
      rw [if_neg ho, if_neg (by simpa using h3), if_neg (by omega), Int.toNat_natCast, hcd, if_pos h5]
    subst h5
    clear hN hs h3 ho hcd hck hcell hbl
    have HR := Lib.hid hr
    clear hr hcw
    go_enter Tryz.func13, Tryz.ntmps13
    go_wp2_with (go_at_call 21; refine (HT.out _).mono ?_; rintro e w1 ⟨rfl, rfl⟩)
    refine bodyPost_ret (v := .tuple #[.agg #[.bool true, .int .i64 0, .string ⟨#[]⟩], .int .i64 ((k : Int) + 1), .int .i64 0]) (by simp [results, Tryz.results13, go_sem]) rfl ?_
    rw [HR.out]
    exact ret3 rfl (by simp) rfl (val_al _ _)
  by_cases h6 : c = 1
  · obtain ⟨r, hr0⟩ : ∃ r, r = bodyL l (k + 1) t := ⟨_, rfl⟩
    have hr : decL l k t = if r.2.2 ≠ 0 then (va0, 0, r.2.2) else if okV r.1 t = true then (r.1, r.2.1, 0) else (va0, 0, 7) := by
      rw [hr0]
      show decL l k t = decB l (k + 1) t
      unfold decL
      rw [if_neg ho, if_neg (by simpa using h3), if_neg (by omega), Int.toNat_natCast, hcd, if_neg h5, if_neg (by simpa using h6)]
    have HC := Lib.hid (content_any (some ⟨g, off, none⟩) N cap l (k + 1) t _ hN (hs.up hbl) hc (by omega))
    rw [← hr0] at HC
    unfold retV at HC
    obtain ⟨⟨rb, rn, rs⟩, rk, rz⟩ := r
    unfold Va.val at HC
    have hrs : rs.size ≤ 9223372036854775807 := by
      have e2 : rs = (bodyL l (k + 1) t).1.s := by rw [← hr0]
      rw [e2]
      unfold bodyL
      split
      · rw [size_mk]
        have := taken_le l ((k + 1 : Nat) : Int)
        show (Num.taken l ((k + 1 : Nat) : Int)).length ≤ _
        omega
      · exact Nat.zero_le _
    have HR := Lib.hid hr
    subst h6
    clear hN hs h3 ho hcd hck hcell hbl hr hr0 h5
    simp only at HC HR
    by_cases hz : rz = 0
    · subst hz
      obtain ⟨q, hq⟩ : ∃ q, okV ⟨rb, rn, rs⟩ t = q := ⟨_, rfl⟩
      have HV := Lib.hid (fun w1 => Valid_any ⟨rb, rn, rs⟩ t q w1 hq hrs)
      unfold Va.val at HV
      simp only at HV
      have HQ := Lib.hid hq
      clear hq hcw
      have ARM1 : Hid (∀ w1, Below (w.alloc (.cells #[.bool false, .int .i64 0, .string ⟨#[]⟩] 24)).heap.size (w.alloc (.cells #[.bool false, .int .i64 0, .string ⟨#[]⟩] 24)) w1 → VB w1 w.heap.size false 0 ⟨#[]⟩) := fun w1 hb => (VB.new w false 0 ⟨#[]⟩).up hb
      cases q with
      | true =>
        go_enter Tryz.func13, Tryz.ntmps13
        go_wp2_with (first
          | (go_at_call 21; refine (HT.out _).mono ?_; rintro e w1 ⟨rfl, rfl⟩)
          | (go_at_call 34; refine HC.out.mono ?_; rintro e w1 ⟨rfl, hb1⟩; have HB1 : Hid (Below w.heap.size w w1) := (val_al _ _).trans (hb1.mono (by simp)); have X1 := Lib.hid (ARM1.out w1 hb1); clear hb1)
          | (go_at_call 6; refine (HV.out _).mono ?_; rintro e w2 ⟨rfl, hb2⟩; have hv2 := (VB.new w1 rb rn rs).up hb2; have hv1 := (X1.out.up (val_al w1 _)).up hb2; have c0 := hv1.c0; have c1 := hv1.c1; have c2 := hv1.c2; have f0 := hv1.f0; have f1 := hv1.f1; have f2 := hv1.f2; have d0 := hv2.c0; have d1 := hv2.c1; have d2 := hv2.c2; have hne : ¬ w.heap.size = w1.heap.size := (by have := X1.out.lt; omega); have HB2 : Hid (Below w.heap.size w w2) := (HB1.out.trans ((val_al w1 _).mono HB1.out.size)).trans (hb2.mono (by have := HB1.out.size; simp; omega)); clear hb2 hv1 hv2))
        refine bodyPost_ret (v := .tuple #[.agg #[.bool rb, .int .i64 rn, .string rs], .int .i64 (rk : Int), .int .i64 0]) (by simp [results, Tryz.results13, go_sem, c0, c1, c2]) rfl ?_
        rw [HR.out, if_neg (by simp), if_pos HQ.out]
        exact ret3 rfl rfl rfl (((HB2.out.setCell (Nat.le_refl _) _).setCell (Nat.le_refl _) _).setCell (Nat.le_refl _) _)
      | false =>
        go_enter Tryz.func13, Tryz.ntmps13
        go_wp2_with (first
          | (go_at_call 21; refine (HT.out _).mono ?_; rintro e w1 ⟨rfl, rfl⟩)
          | (go_at_call 34; refine HC.out.mono ?_; rintro e w1 ⟨rfl, hb1⟩; have HB1 : Hid (Below w.heap.size w w1) := (val_al _ _).trans (hb1.mono (by simp)); have X1 := Lib.hid (ARM1.out w1 hb1); clear hb1)
          | (go_at_call 6; refine (HV.out _).mono ?_; rintro e w2 ⟨rfl, hb2⟩; have hv1 := (X1.out.up (val_al w1 _)).up hb2; have c0 := hv1.c0; have c1 := hv1.c1; have c2 := hv1.c2; have f0 := hv1.f0; have f1 := hv1.f1; have f2 := hv1.f2; have HB2 : Hid (Below w.heap.size w w2) := (HB1.out.trans ((val_al w1 _).mono HB1.out.size)).trans (hb2.mono (by have := HB1.out.size; simp; omega)); clear hb2 hv1))
        refine bodyPost_ret (v := .tuple #[.agg #[.bool false, .int .i64 0, .string ⟨#[]⟩], .int .i64 0, .int .i64 7]) (by simp [results, Tryz.results13, go_sem, c0, c1, c2]) rfl ?_
        rw [HR.out, if_neg (by simp), if_neg (by rw [HQ.out]; simp)]
        exact ret3 rfl rfl rfl (((HB2.out.setCell (Nat.le_refl _) _).setCell (Nat.le_refl _) _).setCell (Nat.le_refl _) _)
    · have i7 : ¬ (rz : Int) = 0 := by omega
      have HZ := Lib.hid hz
      have ARM1 : Hid (∀ w1, Below (w.alloc (.cells #[.bool false, .int .i64 0, .string ⟨#[]⟩] 24)).heap.size (w.alloc (.cells #[.bool false, .int .i64 0, .string ⟨#[]⟩] 24)) w1 → VB w1 w.heap.size false 0 ⟨#[]⟩) := fun w1 hb => (VB.new w false 0 ⟨#[]⟩).up hb
      clear hz hcw
      go_enter Tryz.func13, Tryz.ntmps13
      go_wp2_with (first
        | (go_at_call 21; refine (HT.out _).mono ?_; rintro e w1 ⟨rfl, rfl⟩)
        | (go_at_call 34; refine HC.out.mono ?_; rintro e w1 ⟨rfl, hb1⟩; have HB1 : Hid (Below w.heap.size w w1) := (val_al _ _).trans (hb1.mono (by simp)); have hv1 := (ARM1.out w1 hb1).up (val_al w1 (.cells #[.bool rb, .int .i64 rn, .string rs] 24)); have c0 := hv1.c0; have c1 := hv1.c1; have c2 := hv1.c2; have f0 := hv1.f0; have f1 := hv1.f1; have f2 := hv1.f2; clear hb1 hv1))
      refine bodyPost_ret (v := .tuple #[.agg #[.bool false, .int .i64 0, .string ⟨#[]⟩], .int .i64 0, .int .i64 (rz : Int)]) (by simp [results, Tryz.results13, go_sem, c0, c1, c2]) rfl ?_
      rw [HR.out, if_pos (by simpa using HZ.out)]
      exact ret3 rfl rfl rfl ((((HB1.out.trans ((val_al w1 _).mono HB1.out.size)).setCell (Nat.le_refl _) _).setCell (Nat.le_refl _) _).setCell (Nat.le_refl _) _)
  · have hr : decL l k t = (va0, 0, 5) := by
      unfold decL
      rw [if_neg ho, if_neg (by simpa using h3), if_neg (by omega), Int.toNat_natCast, hcd, if_neg h5, if_pos h6]
    have i5 : ¬ (c.toNat : Int) = 0 := fun h => h5 (UInt8.toNat_inj.1 (by simpa using h))
    have i6 : ¬ (c.toNat : Int) = 1 := fun h => h6 (UInt8.toNat_inj.1 (by have : c.toNat = 1 := by omega
                                                                          simpa using this))
    clear hN hs h3 ho hcd hck hcell hbl h5 h6
    have HR := Lib.hid hr
    clear hr hcw
    go_enter Tryz.func13, Tryz.ntmps13
    go_wp2_with (go_at_call 21; refine (HT.out _).mono ?_; rintro e w1 ⟨rfl, rfl⟩)
    exact bodyPost_ret (v := .tuple #[.agg #[.bool false, .int .i64 0, .string ⟨#[]⟩], .int .i64 0, .int .i64 5]) (by simp [results, Tryz.results13, go_sem]) rfl (dec_err HR.out rfl rfl rfl (val_al _ _))
end Go.Proofs.YteaaadccjnmacaaGreatDoor
