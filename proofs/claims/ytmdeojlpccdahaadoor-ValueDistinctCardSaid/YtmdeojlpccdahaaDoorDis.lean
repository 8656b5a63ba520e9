/-
  Different valid values of a type have different encodings and notations: the law's walk.
-/
import Derived.Test.YtmdeojlpccdahaaDoorStep
import Derived.Test.YtmdeojlpccdahaaDoorFitR
import Derived.Test.YtmdeojlpccdahaaDoorEqV
namespace Go.Proofs.YtmdeojlpccdahaaDoor.dis
open Go.RowKit Go.Lib

/-- the box of two values -/
structure Bx2 (w : World) (g : Nat) (ab : Bool) (an : Int) (as' : ByteArray) (bb : Bool) (bn : Int) (bs : ByteArray) : Prop where
  c0 : w.cell? ⟨g, 0, none⟩ = some (.bool ab)
  c1 : w.cell? ⟨g, 1, none⟩ = some (.int .i64 an)
  c2 : w.cell? ⟨g, 2, none⟩ = some (.string as')
  c3 : w.cell? ⟨g, 3, none⟩ = some (.bool bb)
  c4 : w.cell? ⟨g, 4, none⟩ = some (.int .i64 bn)
  c5 : w.cell? ⟨g, 5, none⟩ = some (.string bs)
def S6 (w : World) (g : Nat) (ab : Bool) (an : Int) (as' : ByteArray) (bb : Bool) (bn : Int) (bs : ByteArray) : Prop :=
  w.cell? ⟨g, 0, none⟩ = some (.bool ab) ∧ w.cell? ⟨g, 1, none⟩ = some (.int .i64 an) ∧ w.cell? ⟨g, 2, none⟩ = some (.string as') ∧ w.cell? ⟨g, 3, none⟩ = some (.bool bb) ∧ w.cell? ⟨g, 4, none⟩ = some (.int .i64 bn) ∧ w.cell? ⟨g, 5, none⟩ = some (.string bs)
theorem S6.up {w w' : World} {g B : Nat} {ab : Bool} {an : Int} {as' : ByteArray} {bb : Bool} {bn : Int} {bs : ByteArray} (h : S6 w g ab an as' bb bn bs) (hb : Below B w w') (hB : g < B) : S6 w' g ab an as' bb bn bs := by
  obtain ⟨h0, h1, h2, h3, h4, h5⟩ := h
  exact ⟨(hb.cell (p := ⟨g, 0, none⟩) hB).trans h0, (hb.cell (p := ⟨g, 1, none⟩) hB).trans h1, (hb.cell (p := ⟨g, 2, none⟩) hB).trans h2, (hb.cell (p := ⟨g, 3, none⟩) hB).trans h3, (hb.cell (p := ⟨g, 4, none⟩) hB).trans h4, (hb.cell (p := ⟨g, 5, none⟩) hB).trans h5⟩
theorem S6.dr {w : World} {g : Nat} {ab : Bool} {an : Int} {as' : ByteArray} {bb : Bool} {bn : Int} {bs : ByteArray} (h : S6 w g ab an as' bb bn bs) : S6 w.drew g ab an as' bb bn bs := h
theorem S6.new (w : World) (ab : Bool) (an : Int) (as' : ByteArray) (bb : Bool) (bn : Int) (bs : ByteArray) (t : TypeId) : S6 (w.alloc (.cells #[.bool ab, .int .i64 an, .string as', .bool bb, .int .i64 bn, .string bs] t)) w.heap.size ab an as' bb bn bs :=
  ⟨by simp, by simp, by simp, by simp, by simp, by simp⟩

def S33 (w : World) (g : Nat) (ab : Bool) (an : Int) (as' : ByteArray) (h : Nat) (bb : Bool) (bn : Int) (bs : ByteArray) : Prop :=
  w.cell? ⟨g, 0, none⟩ = some (.bool ab) ∧ w.cell? ⟨g, 1, none⟩ = some (.int .i64 an) ∧ w.cell? ⟨g, 2, none⟩ = some (.string as') ∧ w.cell? ⟨h, 0, none⟩ = some (.bool bb) ∧ w.cell? ⟨h, 1, none⟩ = some (.int .i64 bn) ∧ w.cell? ⟨h, 2, none⟩ = some (.string bs)
set_option maxHeartbeats 8000000 in
set_option maxRecDepth 100000 in
attribute [local irreducible] okV showL decL parV encL dateL str in
attribute [local go_sem high] run_eq_va in
theorem walk (ab : Bool) (an : Int) (as' : ByteArray) (bb : Bool) (bn : Int) (bs : ByteArray) (t : Nat) (w : World) (hva : Va.Fine ⟨ab, an, as'⟩) (hvb : Va.Fine ⟨bb, bn, bs⟩) (ht : t < 256) (hG : Glob5 w) :
    Calls Tryd.prog 6 #[.agg #[.bool ab, .int .i64 an, .string as', .bool bb, .int .i64 bn, .string bs], .int .u8 (t : Int)] w fun e w' => e = .returned (.bool true) ∧ Below w.heap.size w w' := by
  have HVA := Lib.hid hva
  have HVB := Lib.hid hvb
  have HG := Lib.hid hG
  clear hva hvb hG
  by_cases g1 : 400 < as'.size
  · have i1 : 400 < (as'.size : Int) := by omega
    go_enter Tryd.func6, Tryd.ntmps6
    go_wp2_with fail
    refine (sanity_any _ (HG.out.up (val_al w _))).mono ?_
    rintro e w1 ⟨rfl, hb⟩
    obtain ⟨c0, c1, c2, c3, c4, c5⟩ := (S6.new w ab an as' bb bn bs 43).up hb (by simp)
    have B1 : Hid (Below w.heap.size w w1) := (val_al w _).trans (hb.mono (by simp))
    clear hb
    go_wp2_with fail
    go_ret
    exact ⟨rfl, B1.out⟩
  by_cases g2 : 400 < bs.size
  · have i1 : ¬ 400 < (as'.size : Int) := by omega
    have i2 : 400 < (bs.size : Int) := by omega
    go_enter Tryd.func6, Tryd.ntmps6
    go_wp2_with fail
    refine (sanity_any _ (HG.out.up (val_al w _))).mono ?_
    rintro e w1 ⟨rfl, hb⟩
    obtain ⟨c0, c1, c2, c3, c4, c5⟩ := (S6.new w ab an as' bb bn bs 43).up hb (by simp)
    have B1 : Hid (Below w.heap.size w w1) := (val_al w _).trans (hb.mono (by simp))
    clear hb
    go_wp2_with fail
    go_ret
    exact ⟨rfl, B1.out⟩
  have h1 : as'.size ≤ 400 := by omega
  have h2 : bs.size ≤ 400 := by omega
  go_enter Tryd.func6, Tryd.ntmps6
  go_wp2_with fail
  refine (sanity_any _ (HG.out.up (val_al w _))).mono ?_
  rintro e w1 ⟨rfl, hb⟩
  have hS := (S6.new w ab an as' bb bn bs 43).up hb (by simp)
  have HS := Lib.hid hS
  obtain ⟨c0, c1, c2, c3, c4, c5⟩ := hS
  have B1 : Hid (Below w.heap.size w w1) := (val_al w _).trans (hb.mono (by simp))
  have hww : w.heap.size < w1.heap.size := by have := hb.size; simp at this; omega
  clear hb
  obtain ⟨k, hk⟩ : ∃ k : Int, 1 + (t : Int) % 5 = k := ⟨_, rfl⟩
  have hk5 : 1 ≤ k ∧ k ≤ 5 := by omega
  have hne1 : ¬ w.heap.size = w1.heap.size := by omega
  have hme1 : ¬ w1.heap.size = w.heap.size := by omega
  go_wp2_with fail
  rename_i K hK hx
  have TAIL : ∀ {v0 v1 v2 v3 v4 x9 x10 x11 x12 x13 x14 x15 x16 x17 x18 x19 x20 x21 x22 x23 x24 x25 x26 x27 x28 x29 x30 x31 x32 x33 x34 x35 x36 x37 x38 x39 x40 x41 x42 x43 x44 x45 x46 x47 x48 x49 x50 x51 x52 x53 x54 x55 x56 x57 x58 x59 x60 x61 x62 x63 x64 x65 x66 x67 x68 x69 x70 x71 x72 x73 x74 x75 : Value} {g7 g8 : Nat} {W : World} {ub : Bool} {un : Int} {us : ByteArray} {vb : Bool} {vn : Int} {vs : ByteArray}, Hid (VB W g7 ub un us) → Hid (VB W g8 vb vn vs) → Hid (Below w.heap.size w W) →
      Hid (okV ⟨ub, un, us⟩ k = true) → Hid (Va.Fine ⟨ub, un, us⟩) → Hid (okV ⟨vb, vn, vs⟩ k = true) → Hid (Va.Fine ⟨vb, vn, vs⟩) → K ⟨#[v0, v1, v2, v3, v4, .bool true, .int .i64 k, .pointer (some ⟨g7, 0, none⟩), .pointer (some ⟨g8, 0, none⟩), x9, x10, x11, x12, x13, x14, x15, x16, x17, x18, x19, x20, x21, x22, x23, x24, x25, x26, x27, x28, x29, x30, x31, x32, x33, x34, x35, x36, x37, x38, x39, x40, x41, x42, x43, x44, x45, x46, x47, x48, x49, x50, x51, x52, x53, x54, x55, x56, x57, x58, x59, x60, x61, x62, x63, x64, x65, x66, x67, x68, x69, x70, x71, x72, x73, x74, x75], []⟩ W := by
    clear c0 c1 c2 c3 c4 c5 HS B1 hne1 hme1 hww HVA HVB h1 h2 g1 g2 hx
    intro v0 v1 v2 v3 v4 x9 x10 x11 x12 x13 x14 x15 x16 x17 x18 x19 x20 x21 x22 x23 x24 x25 x26 x27 x28 x29 x30 x31 x32 x33 x34 x35 x36 x37 x38 x39 x40 x41 x42 x43 x44 x45 x46 x47 x48 x49 x50 x51 x52 x53 x54 x55 x56 x57 x58 x59 x60 x61 x62 x63 x64 x65 x66 x67 x68 x69 x70 x71 x72 x73 x74 x75 g7 g8 W ub un us vb vn vs V7 V8 HB HKU HFU HKV HFV
    refine hK _ _ ?_
    obtain ⟨q, hq⟩ : ∃ q, eqVa ⟨ub, un, us⟩ ⟨vb, vn, vs⟩ = q := ⟨_, rfl⟩
    obtain ⟨la, hla⟩ : ∃ la, encL ⟨ub, un, us⟩ k = la := ⟨_, rfl⟩
    obtain ⟨lb, hlb⟩ : ∃ lb, encL ⟨vb, vn, vs⟩ k = lb := ⟨_, rfl⟩
    obtain ⟨La, hLa⟩ : ∃ La, La = la.length := ⟨_, rfl⟩
    obtain ⟨Lb, hLb⟩ : ∃ Lb, Lb = lb.length := ⟨_, rfl⟩
    obtain ⟨ra, hra⟩ : ∃ ra, str (showL ⟨ub, un, us⟩ k) = ra := ⟨_, rfl⟩
    obtain ⟨rb, hrb⟩ : ∃ rb, str (showL ⟨vb, vn, vs⟩ k) = rb := ⟨_, rfl⟩
    obtain ⟨n, hn⟩ : ∃ n : Nat, min La Lb = n := ⟨_, rfl⟩
    have hT : decide (la.take n = lb.take n) = q := by
      rw [← hq, ← hla, ← hlb]
      have h := enc_take HKU.out HFU.out HKV.out HFV.out n (by rw [hla, hlb, ← hLa, ← hLb, hn])
      rw [Bool.eq_iff_iff, decide_eq_true_iff, h, eqVa_iff]
    have hS : (ra.toList == rb.toList) = q := by
      rw [← hq, ← hra, ← hrb, Lib.toList_data, Lib.toList_data, str_data, str_data]
      have h := show_iff HKU.out HFU.out HKV.out HFV.out
      rw [Bool.eq_iff_iff, beq_iff_eq, h, eqVa_iff]
    have hea : La ≤ 211 := by rw [hLa, ← hla]; exact encL_len _ _ HFU.out
    have heb : Lb ≤ 211 := by rw [hLb, ← hlb]; exact encL_len _ _ HFV.out
    have hnz : min (La : Int) (Lb : Int) = (n : Int) := by omega
    have hna : n ≤ La := by omega
    have hnb : n ≤ Lb := by omega
    have HLA := Lib.hid hla
    have HLB := Lib.hid hlb
    have HLa := Lib.hid hLa
    have HLb := Lib.hid hLb
    have HRA := Lib.hid hra
    have HRB := Lib.hid hrb
    have HT := Lib.hid hT
    have HS := Lib.hid hS
    clear hla hlb hLa hLb hra hrb hn hT hS
    have hl7 := V7.out.lt
    have hl8 := V8.out.lt
    have SS : Hid (∀ w', Below W.heap.size W w' → S33 w' g7 ub un us g8 vb vn vs) := fun w' h => ⟨(V7.out.up h).c0, (V7.out.up h).c1, (V7.out.up h).c2, (V8.out.up h).c0, (V8.out.up h).c1, (V8.out.up h).c2⟩
    obtain ⟨a0, a1, a2⟩ := V7.out.s3
    obtain ⟨b0, b1, b2⟩ := V8.out.s3
    go_wp2_with fail
    go_region_held_law (fun w' => w'.cell? ⟨g7, 0, none⟩ = some (.bool ub) ∧ w'.cell? ⟨g7, 1, none⟩ = some (.int .i64 un) ∧ w'.cell? ⟨g7, 2, none⟩ = some (.string us) ∧ w'.cell? ⟨g8, 0, none⟩ = some (.bool vb) ∧ w'.cell? ⟨g8, 1, none⟩ = some (.int .i64 vn) ∧ w'.cell? ⟨g8, 2, none⟩ = some (.string vs))
      (first | exact hS7 | go_keep)
      (first
        | (go_at_call 12; with_reducible refine (enc_ni La la ub un us k _ HLA.out HLa.out HFU.out).mono ?_; rintro e w7 ⟨A7, c7, rfl, ho7, hb7⟩; have HO7 := Lib.hid ho7; have HB7 : Hid (Below W.heap.size W w7) := Lib.hid (by first | exact hb7 | exact bl_of_dr hb7); have hS7 := SS.out w7 HB7.out; clear ho7 hb7)
        | (go_at_call 12; with_reducible refine (enc_ni Lb lb vb vn vs k _ HLB.out HLb.out HFV.out).mono ?_; rintro e w8 ⟨A8, c8, rfl, ho8, hb8⟩; have HO8 := Lib.hid ho8; have HB8 : Hid (Below w7.heap.size w7 w8) := Lib.hid (by first | exact hb8 | exact bl_of_dr hb8); have hS7 := SS.out w8 (HB7.out.trans (HB8.out.mono HB7.out.size)); clear ho8 hb8)
        | fail)
    obtain ⟨a0, a1, a2, b0, b1, b2⟩ := hS7
    have HB8W : Hid (Below W.heap.size W w8) := HB7.out.trans (HB8.out.mono HB7.out.size)
    have HO7' : Hid (Owns w8 W.heap.size (.slice A7 La c7) la) := (HO7.out.low (Nat.le_refl _)).up (HB8.out)
    have i1 : (n : Int) ≤ (c7 : Int) := by have := HO7.out.shows.2.1; have := HLa.out; omega
    have i2 : (n : Int) ≤ (c8 : Int) := by have := HO8.out.shows.2.1; have := HLb.out; omega
    have SH1 : Hid (Shows w8 w8.heap.size A7 la) := HO7'.out.shows.2.2
    have SH2 : Hid (Shows w8 w8.heap.size A8 lb) := HO8.out.shows.2.2
    have HG8 : Hid (Glob5 w8) := (HG.out.up HB.out).up HB8W.out
    have SS8 : Hid (∀ w', Below w8.heap.size w8 w' → S33 w' g7 ub un us g8 vb vn vs) := fun w' h => SS.out w' (HB8W.out.trans (h.mono HB8W.out.size))
    have HBW : Hid (Below w.heap.size w w8) := HB.out.trans (HB8W.out.mono HB.out.size)
    have hl7 : g7 < w8.heap.size := by have := HB8W.out.size; omega
    clear HO7 HO8 HO7' HB7 HB8 HB8W SS V7 V8 HB HG
    have hhq := hq
    cases q
    · go_wp2_with fail
      have hST : (ra.toList == rb.toList) = false := HS.out
      go_region_held_law (fun w' => w'.cell? ⟨g7, 0, none⟩ = some (.bool ub) ∧ w'.cell? ⟨g7, 1, none⟩ = some (.int .i64 un) ∧ w'.cell? ⟨g7, 2, none⟩ = some (.string us) ∧ w'.cell? ⟨g8, 0, none⟩ = some (.bool vb) ∧ w'.cell? ⟨g8, 1, none⟩ = some (.int .i64 vn) ∧ w'.cell? ⟨g8, 2, none⟩ = some (.string vs))
        (first | exact hS9 | go_keep)
        (first
          | (go_at_call 17; with_reducible refine (same_tk A7 A8 c7 c8 n la lb false _ HT.out (by first | exact SH1.out | exact shows_dr SH1.out | exact shows_dr (shows_dr SH1.out) | exact shows_dn SH1.out) (by first | exact SH2.out | exact shows_dr SH2.out | exact shows_dr (shows_dr SH2.out) | exact shows_dn SH2.out) (by have := HLa.out; omega) (by have := HLb.out; omega) (by omega)).mono ?_; rintro e w9 ⟨rfl, hb9⟩; have HB9 : Hid (Below w8.heap.size w8 w9) := Lib.hid (by first | exact hb9 | exact bl_of_dr hb9); have hS9 := SS8.out w9 HB9.out; clear hb9)
          | (go_at_call 15; with_reducible refine (show_rt ub un us k ra _ HRA.out (by first | exact HG8.out.up HB9.out | exact (HG8.out.up HB9.out).dr | exact (HG8.out.up HB9.out).dr.dr) HFU.out).mono ?_; rintro e w10 ⟨rfl, hb10⟩; have HB10 : Hid (Below w9.heap.size w9 w10) := Lib.hid (by first | exact hb10 | exact bl_of_dr hb10); have hS9 := SS8.out w10 (HB9.out.trans (HB10.out.mono HB9.out.size)); clear hb10)
          | (go_at_call 15; with_reducible refine (show_rt vb vn vs k rb _ HRB.out (by first | exact (HG8.out.up HB9.out).up HB10.out | exact ((HG8.out.up HB9.out).up HB10.out).dr | exact ((HG8.out.up HB9.out).up HB10.out).dr.dr) HFV.out).mono ?_; rintro e w11 ⟨rfl, hb11⟩; have HB11 : Hid (Below w10.heap.size w10 w11) := Lib.hid (by first | exact hb11 | exact bl_of_dr hb11); have hS9 := SS8.out w11 ((HB9.out.trans (HB10.out.mono HB9.out.size)).trans (HB11.out.mono (by have := HB9.out.size; have := HB10.out.size; omega))); clear hb11)
          | fail)
      go_wp2_with fail
      go_ret
      have s9 := HB9.out.size
      have s10 := HB10.out.size
      have s8 := HBW.out.size
      exact ⟨by simp, ((HBW.out.trans (HB9.out.mono s8)).trans (HB10.out.mono (by omega))).trans (HB11.out.mono (by omega))⟩
    · go_wp2_with fail
      have hST : (ra.toList == rb.toList) = true := HS.out
      go_region_held_law (fun w' => w'.cell? ⟨g7, 0, none⟩ = some (.bool ub) ∧ w'.cell? ⟨g7, 1, none⟩ = some (.int .i64 un) ∧ w'.cell? ⟨g7, 2, none⟩ = some (.string us) ∧ w'.cell? ⟨g8, 0, none⟩ = some (.bool vb) ∧ w'.cell? ⟨g8, 1, none⟩ = some (.int .i64 vn) ∧ w'.cell? ⟨g8, 2, none⟩ = some (.string vs))
        (first | exact hS9 | go_keep)
        (first
          | (go_at_call 17; with_reducible refine (same_tk A7 A8 c7 c8 n la lb true _ HT.out (by first | exact SH1.out | exact shows_dr SH1.out | exact shows_dr (shows_dr SH1.out) | exact shows_dn SH1.out) (by first | exact SH2.out | exact shows_dr SH2.out | exact shows_dr (shows_dr SH2.out) | exact shows_dn SH2.out) (by have := HLa.out; omega) (by have := HLb.out; omega) (by omega)).mono ?_; rintro e w9 ⟨rfl, hb9⟩; have HB9 : Hid (Below w8.heap.size w8 w9) := Lib.hid (by first | exact hb9 | exact bl_of_dr hb9); have hS9 := SS8.out w9 HB9.out; clear hb9)
          | (go_at_call 15; with_reducible refine (show_rt ub un us k ra _ HRA.out (by first | exact HG8.out.up HB9.out | exact (HG8.out.up HB9.out).dr | exact (HG8.out.up HB9.out).dr.dr) HFU.out).mono ?_; rintro e w10 ⟨rfl, hb10⟩; have HB10 : Hid (Below w9.heap.size w9 w10) := Lib.hid (by first | exact hb10 | exact bl_of_dr hb10); have hS9 := SS8.out w10 (HB9.out.trans (HB10.out.mono HB9.out.size)); clear hb10)
          | (go_at_call 15; with_reducible refine (show_rt vb vn vs k rb _ HRB.out (by first | exact (HG8.out.up HB9.out).up HB10.out | exact ((HG8.out.up HB9.out).up HB10.out).dr | exact ((HG8.out.up HB9.out).up HB10.out).dr.dr) HFV.out).mono ?_; rintro e w11 ⟨rfl, hb11⟩; have HB11 : Hid (Below w10.heap.size w10 w11) := Lib.hid (by first | exact hb11 | exact bl_of_dr hb11); have hS9 := SS8.out w11 ((HB9.out.trans (HB10.out.mono HB9.out.size)).trans (HB11.out.mono (by have := HB9.out.size; have := HB10.out.size; omega))); clear hb11)
          | fail)
      go_wp2_with fail
      go_ret
      have s9 := HB9.out.size
      have s10 := HB10.out.size
      have s8 := HBW.out.size
      exact ⟨by simp, ((HBW.out.trans (HB9.out.mono s8)).trans (HB10.out.mono (by omega))).trans (HB11.out.mono (by omega))⟩
  clear hK
  go_region_held_law (fun w' => w'.cell? ⟨w.heap.size, 0, none⟩ = some (.bool ab) ∧ w'.cell? ⟨w.heap.size, 1, none⟩ = some (.int .i64 an) ∧ w'.cell? ⟨w.heap.size, 2, none⟩ = some (.string as') ∧ w'.cell? ⟨w.heap.size, 3, none⟩ = some (.bool bb) ∧ w'.cell? ⟨w.heap.size, 4, none⟩ = some (.int .i64 bn) ∧ w'.cell? ⟨w.heap.size, 5, none⟩ = some (.string bs))
    ((refine S6.up HS.out ?_ hww; repeat (first | exact Below.refl _ _ | apply bl_al | apply bl_dr | (refine bl_st ?_ (by simp <;> omega)))))
    (first
      | (go_at_call 11; with_reducible refine (Fit_w ab an as' k _ HVA.out h1 hk5).mono ?_; rintro e w7 ⟨⟨⟨ub, un, us⟩, rfl, hku, hfu, hsu⟩, o1, o2, rfl⟩; have HKU := Lib.hid hku; have HFU := Lib.hid hfu; clear hku hfu hsu; unfold Va.val)
      | (go_at_call 11; with_reducible refine (Fit_w bb bn bs k _ HVB.out h2 hk5).mono ?_; rintro e w8 ⟨⟨⟨vb, vn, vs⟩, rfl, hkv, hfv, hsv⟩, o3, o4, rfl⟩; have HKV := Lib.hid hkv; have HFV := Lib.hid hfv; clear hkv hfv hsv; unfold Va.val)
      | fail)
  all_goals
    show K _ _
    refine TAIL (Lib.hid ?_) (Lib.hid ?_) (Lib.hid ?_) HKU HFU HKV HFV
    · refine VB.dr ?_
      repeat (first | (with_reducible refine VB.newAt _ _ _ _ _ ?_; simp; done) | (with_reducible refine VB.al ?_ _))
    · refine VB.dr ?_
      repeat (first | (with_reducible refine VB.newAt _ _ _ _ _ ?_; simp; done) | (with_reducible refine VB.al ?_ _))
    · repeat (first | exact B1.out | with_reducible apply bl_dr | with_reducible apply bl_al)
end Go.Proofs.YtmdeojlpccdahaaDoor.dis
namespace Go.Proofs.YtmdeojlpccdahaaDoor
open Go.RowKit Go.Lib
theorem walkDis (a b : Va) (t : Nat) (w : World) (ha : a.Fine) (hb : b.Fine) (ht : t < 256) (hG : Glob5 w) :
    Calls Tryd.prog 6 #[.agg #[.bool a.b, .int .i64 a.n, .string a.s, .bool b.b, .int .i64 b.n, .string b.s], .int .u8 (t : Int)] w fun e w' => e = .returned (.bool true) ∧ Below w.heap.size w w' :=
  dis.walk a.b a.n a.s b.b b.n b.s t w ha hb ht hG
end Go.Proofs.YtmdeojlpccdahaaDoor
