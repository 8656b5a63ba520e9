/-
  The law's sanity returns true.
-/
import Derived.Test.YteaaadccjnmacaaGreatDoorSanL
import Derived.Test.YteaaadccjnmacaaGreatDoorParP
import Derived.Test.YteaaadccjnmacaaGreatDoorSane
namespace Go.Proofs.YteaaadccjnmacaaGreatDoor
open Go.RowKit

theorem num_any (n : Int) (w : World) : Calls Tryz.prog 18 #[.int .i64 n] w fun e w' => e = .returned (.agg #[.bool false, .int .i64 n, .string ⟨#[]⟩]) ∧ ∃ o, w' = w.alloc o := by
  go_enter Tryz.func18, Tryz.ntmps18
  go_wp2
  exact bodyPost_ret (v := .agg #[.bool false, .int .i64 n, .string ⟨#[]⟩]) (by simp [results, Tryz.results18, go_sem]) rfl ⟨rfl, _, rfl⟩
theorem text_any (s : ByteArray) (w : World) : Calls Tryz.prog 19 #[.string s] w fun e w' => e = .returned (.agg #[.bool false, .int .i64 0, .string s]) ∧ ∃ o, w' = w.alloc o := by
  go_enter Tryz.func19, Tryz.ntmps19
  go_wp2
  exact bodyPost_ret (v := .agg #[.bool false, .int .i64 0, .string s]) (by simp [results, Tryz.results19, go_sem]) rfl ⟨rfl, _, rfl⟩
theorem null_any (w : World) : Calls Tryz.prog 17 #[] w fun e w' => e = .returned (.agg #[.bool true, .int .i64 0, .string ⟨#[]⟩]) ∧ ∃ o, w' = w.alloc o := by
  go_enter Tryz.func17, Tryz.ntmps17
  go_wp2
  exact bodyPost_ret (v := .agg #[.bool true, .int .i64 0, .string ⟨#[]⟩]) (by simp [results, Tryz.results17, go_sem]) rfl ⟨rfl, _, rfl⟩
theorem ch {w X w' : World} (h : Below w.heap.size w X) (k : Below X.heap.size X w') : Below w.heap.size w w' := h.trans (k.mono h.size)
theorem fineI (b : Bool) (n : Int) (s : ByteArray) (h0 : -9223372036854775808 ≤ n) (h1 : n ≤ 9223372036854775807) (h2 : s.size ≤ 1000) : Va.Fine ⟨b, n, s⟩ := ⟨h0, h1, by show s.size ≤ _; omega⟩
theorem dec_at (l : List UInt8) (n : Nat) (t : Int) (z : Nat) (hz : decL l 0 t = (va0, 0, z)) (cs : Array Value) (hc : cs = (cb l).toArray) (hn : n = l.length) (hl : l.length ≤ 1000) (g : Nat) (w X : World) (hg : g = X.heap.size) (h : Below w.heap.size w X) :
    Calls Tryz.prog 13 #[.slice (some ⟨g, 0, none⟩) n n, .int .i64 0, .int .i64 t] (X.alloc (.cells cs 5)) fun e w' => e = .returned (.tuple #[.agg #[.bool false, .int .i64 0, .string ⟨#[]⟩], .int .i64 0, .int .i64 (z : Nat)]) ∧ Below w.heap.size w w' := by
  subst hg
  refine (Decode_any _ n n l 0 t _ hn (shows_lit X cs l hc) (Nat.le_refl _) (by omega) (by omega)).mono ?_
  rintro e w' ⟨rfl, hb⟩
  rw [hz]
  exact ⟨rfl, ch (h.alloc h.size _) hb⟩
theorem par_at (s : ByteArray) (t : Int) (vb : Bool) (vn : Int) (vs : ByteArray) (z : Nat) (hz : parV s.data.toList t = (⟨vb, vn, vs⟩, z)) (hs : s.size ≤ 1000) (w X : World) (hG : Glob5 w) (h : Below w.heap.size w X) :
    Calls Tryz.prog 15 #[.string s, .int .i64 t] X fun e w' => e = .returned (.tuple #[.agg #[.bool vb, .int .i64 vn, .string vs], .int .i64 (z : Nat)]) ∧ Below w.heap.size w w' ∧ Below X.heap.size X w' := by
  refine (Parse_any s t X (hG.up h) (by omega)).mono ?_
  rintro e w' ⟨rfl, hb⟩
  rw [hz]
  exact ⟨rfl, ch h hb, hb⟩
theorem show_at (b : Bool) (n : Int) (s : ByteArray) (t : Int) (r : List UInt8) (hr : showL ⟨b, n, s⟩ t = r) (hf : Va.Fine ⟨b, n, s⟩) (w X : World) (hG : Glob5 w) (h : Below w.heap.size w X) :
    Calls Tryz.prog 11 #[.agg #[.bool b, .int .i64 n, .string s], .int .i64 t] X fun e w' => e = .returned (.string (str r)) ∧ Below w.heap.size w w' ∧ (str r).toList = r := by
  refine (Show_any ⟨b, n, s⟩ t X (hG.up h) hf).mono ?_
  rintro e w' ⟨rfl, hb⟩
  rw [hr]
  exact ⟨rfl, ch h hb, by rw [Lib.toList_data, str_data]⟩
theorem cmp_at (x y : Bool) (a b : Int) (s t : ByteArray) (z : Int) (hz : cmpV ⟨x, a, s⟩ ⟨y, b, t⟩ = z) (w X : World) (h : Below w.heap.size w X) :
    Calls Tryz.prog 20 #[.agg #[.bool x, .int .i64 a, .string s], .agg #[.bool y, .int .i64 b, .string t]] X fun e w' => e = .returned (.int .i64 z) ∧ Below w.heap.size w w' := by
  refine (Compare_b x y a b s t z X hz).mono ?_
  rintro e w' ⟨rfl, hb⟩
  exact ⟨rfl, ch h hb⟩
theorem val_at (b : Bool) (n : Int) (s : ByteArray) (t : Int) (z : Bool) (hz : okV ⟨b, n, s⟩ t = z) (hs : s.size ≤ 1000) (w X : World) (h : Below w.heap.size w X) :
    Calls Tryz.prog 6 #[.agg #[.bool b, .int .i64 n, .string s], .int .i64 t] X fun e w' => e = .returned (.bool z) ∧ Below w.heap.size w w' := by
  refine (Valid_any ⟨b, n, s⟩ t z X hz (by show s.size ≤ _; omega)).mono ?_
  rintro e w' ⟨rfl, hb⟩
  exact ⟨rfl, ch h hb⟩
theorem enc_nil (b : Bool) (n : Int) (s : ByteArray) (t : Int) (r : List UInt8) (m : Nat) (hr : [] ++ encL ⟨b, n, s⟩ t = r) (hm : m = r.length) (hf : Va.Fine ⟨b, n, s⟩) (w X : World) (h : Below w.heap.size w X) :
    Calls Tryz.prog 9 #[.slice none 0 0, .agg #[.bool b, .int .i64 n, .string s], .int .i64 t] X fun e w' => ∃ A c, e = .returned (.slice A m c) ∧ Shows w' w'.heap.size A r ∧ Below w.heap.size w w' := by
  subst hm
  refine (Encode_b none 0 0 [] b n s t X rfl Shows.nil (by omega) hf).mono ?_
  rintro e w' ⟨A, c, rfl, ho, hb⟩
  rw [hr] at ho ⊢
  exact ⟨A, c, rfl, ho.shows.2.2, ch h hb⟩
theorem enc_lit (x : UInt8) (b : Bool) (n : Int) (s : ByteArray) (t : Int) (r : List UInt8) (m : Nat) (cs : Array Value) (hc : cs = (cb [x]).toArray) (hr : [x] ++ encL ⟨b, n, s⟩ t = r) (hm : m = r.length) (hf : Va.Fine ⟨b, n, s⟩) (g : Nat) (w X : World) (hg : g = X.heap.size) (o : Obj) (h : Below w.heap.size w X) :
    Calls Tryz.prog 9 #[.slice (some ⟨g, 0, none⟩) 1 1, .agg #[.bool b, .int .i64 n, .string s], .int .i64 t] ((X.alloc (.cells cs 5)).alloc o) fun e w' => ∃ A c, e = .returned (.slice A m c) ∧ Shows w' w'.heap.size A r ∧ Below w.heap.size w w' := by
  subst hg
  subst hm
  refine (Encode_b _ 1 1 [x] b n s t _ rfl ((shows_lit X cs [x] hc).up (val_al _ _)) (by omega) hf).mono ?_
  rintro e w' ⟨A, c, rfl, ho, hb⟩
  rw [hr] at ho ⊢
  exact ⟨A, c, rfl, ho.shows.2.2, ch ((h.alloc h.size _).alloc (by have := h.size; simp; omega) _) hb⟩
theorem same_lit (A : Option Addr) (m c : Nat) (r : List UInt8) (cs : Array Value) (hc : cs = (cb r).toArray) (hm : m = r.length) (hl : r.length ≤ 1000) (g : Nat) (w X : World) (hg : g = X.heap.size) (hs : Shows X X.heap.size A r) (h : Below w.heap.size w X) :
    Calls Tryz.prog 8 #[.slice A m c, .slice (some ⟨g, 0, none⟩) m m] (X.alloc (.cells cs 5)) fun e w' => e = .returned (.bool true) ∧ Below w.heap.size w w' := by
  subst hg
  refine (Same_yes A m c _ m m r r _ (hs.up (val_al X _)) (shows_lit X cs r hc) rfl hm hm (by omega)).mono ?_
  rintro e w' ⟨rfl, hb⟩
  exact ⟨rfl, ch (h.alloc h.size _) hb⟩

theorem bl_al {w X : World} {o : Obj} (h : Below w.heap.size w X) : Below w.heap.size w (X.alloc o) := h.alloc h.size o
theorem bl_dr {w X : World} (h : Below w.heap.size w X) : Below w.heap.size w X.drew := h.drew
/-- the three cells of a box of a value -/
def S3 (h : Nat) (b : Bool) (n : Int) (s : ByteArray) (w : World) : Prop := w.cell? ⟨h, 0, none⟩ = some (.bool b) ∧ w.cell? ⟨h, 1, none⟩ = some (.int .i64 n) ∧ w.cell? ⟨h, 2, none⟩ = some (.string s)
theorem VB.s3 {w : World} {h : Nat} {b : Bool} {n : Int} {s : ByteArray} (k : VB w h b n s) : S3 h b n s w := ⟨k.c0, k.c1, k.c2⟩
theorem VB.al {w : World} {h : Nat} {b : Bool} {n : Int} {s : ByteArray} (k : VB w h b n s) (o : Obj) : VB (w.alloc o) h b n s := k.up (val_al w o)
theorem VB.dr {w : World} {h : Nat} {b : Bool} {n : Int} {s : ByteArray} (k : VB w h b n s) : VB w.drew h b n s := k.up ((Below.refl _ _).drew)
set_option maxRecDepth 100000 in
set_option maxHeartbeats 400000 in
attribute [local irreducible] okV showL decL parV encL dateL mStart monOf cmpV str in
theorem sanity_any (w : World) (h : Glob5 w) : Calls Tryz.prog 5 #[] w fun e w' => e = .returned (.bool true) ∧ Below w.heap.size w w' := by
  have hG := Lib.hid h
  have B : Hid (Below w.heap.size w w) := Below.refl _ _
  clear h
  go_enter Tryz.func5, Tryz.ntmps5
  go_wp2_with fail
  refine Calls.mono (dec_at [1, 4] 2 1 7 dec_1 _ rfl rfl (by decide) _ w _ (by simp) (by first | exact B.out | exact B.out.alloc B.out.size _ | exact (B.out.alloc B.out.size _).alloc (by have := B.out.size; simp; omega) _ | exact ((B.out.alloc B.out.size _).alloc (by have := B.out.size; simp; omega) _).alloc (by have := B.out.size; simp; omega) _)) ?_
  rintro e w1 ⟨rfl, hb⟩
  have B := Lib.hid hb
  clear hb
  go_wp2_with fail
  refine Calls.mono (dec_at [2] 1 3 5 dec_2 _ rfl rfl (by decide) _ w _ (by simp) (by first | exact B.out | exact B.out.alloc B.out.size _ | exact (B.out.alloc B.out.size _).alloc (by have := B.out.size; simp; omega) _ | exact ((B.out.alloc B.out.size _).alloc (by have := B.out.size; simp; omega) _).alloc (by have := B.out.size; simp; omega) _)) ?_
  rintro e w2 ⟨rfl, hb⟩
  have B := Lib.hid hb
  clear hb
  go_wp2_with fail
  refine Calls.mono (par_at ⟨#[45, 48]⟩ 3 _ _ _ _ par_1 (by decide) w _ hG.out (by first | exact B.out | exact B.out.alloc B.out.size _ | exact (B.out.alloc B.out.size _).alloc (by have := B.out.size; simp; omega) _ | exact ((B.out.alloc B.out.size _).alloc (by have := B.out.size; simp; omega) _).alloc (by have := B.out.size; simp; omega) _)) ?_
  rintro e w3 ⟨rfl, hb, hl⟩
  have B := Lib.hid hb
  clear hb hl
  go_wp2_with fail
  refine Calls.mono (par_at ⟨#[110, 117, 108, 108]⟩ 1 _ _ _ _ par_2 (by decide) w _ hG.out (by first | exact B.out | exact B.out.alloc B.out.size _ | exact (B.out.alloc B.out.size _).alloc (by have := B.out.size; simp; omega) _ | exact ((B.out.alloc B.out.size _).alloc (by have := B.out.size; simp; omega) _).alloc (by have := B.out.size; simp; omega) _)) ?_
  rintro e w4 ⟨rfl, hb, hl⟩
  have V := Lib.hid (VB.new w4 true 0 ⟨#[]⟩); have B := Lib.hid hb
  clear hb hl
  go_wp2_with fail
  refine Calls.mono (par_at ⟨#[50, 48, 48, 49, 45, 48, 50, 45, 50, 57]⟩ 5 _ _ _ _ par_3 (by decide) w _ hG.out (by first | exact B.out | exact B.out.alloc B.out.size _ | exact (B.out.alloc B.out.size _).alloc (by have := B.out.size; simp; omega) _ | exact ((B.out.alloc B.out.size _).alloc (by have := B.out.size; simp; omega) _).alloc (by have := B.out.size; simp; omega) _)) ?_
  rintro e w5 ⟨rfl, hb, hl⟩
  have V := Lib.hid (V.out.up hl); have B := Lib.hid hb
  clear hb hl
  go_wp2_with fail
  refine Calls.mono (par_at ⟨#[110, 117, 108, 108]⟩ 6 _ _ _ _ par_4 (by decide) w _ hG.out (by first | exact B.out | exact B.out.alloc B.out.size _ | exact (B.out.alloc B.out.size _).alloc (by have := B.out.size; simp; omega) _ | exact ((B.out.alloc B.out.size _).alloc (by have := B.out.size; simp; omega) _).alloc (by have := B.out.size; simp; omega) _)) ?_
  rintro e w6 ⟨rfl, hb, hl⟩
  have V := Lib.hid ((V.out.up (val_al _ _)).up hl); have B := Lib.hid hb
  clear hb hl
  go_wp2_with fail
  have V := Lib.hid (V.out.al (.cells #[.bool false, .int .i64 0, .string ⟨#[]⟩] 24))
  obtain ⟨q0, q1, q2⟩ := V.out.s3
  go_region_held_law (fun w' => w'.cell? ⟨w4.heap.size, 0, none⟩ = some (.bool true) ∧ w'.cell? ⟨w4.heap.size, 1, none⟩ = some (.int .i64 0) ∧ w'.cell? ⟨w4.heap.size, 2, none⟩ = some (.string ⟨#[]⟩))
    (first | exact hS | go_keep)
    ((go_at_call 17; refine (null_any _).mono ?_; rintro e wq ⟨rfl, o, rfl⟩; have hS := (by first | exact (V.out.al o).s3 | exact (V.out.dr.al o).s3 | exact (V.out.dr.dr.al o).s3)))
  clear V q0 q1 q2
  go_wp2_with fail
  refine Calls.mono (null_any _) ?_
  rintro e wq ⟨rfl, o, rfl⟩
  go_wp2_with fail
  refine Calls.mono (enc_nil _ _ _ _ _ 1 encL_1 rfl (fineI _ _ _ (by decide) (by decide) (by decide)) w _ (by repeat first | exact B.out | apply bl_al | apply bl_dr)) ?_
  rintro e w7 ⟨A, c, rfl, hs, hb⟩
  have S := Lib.hid hs; clear hs; have B := Lib.hid hb
  clear hb
  go_wp2_with fail
  refine Calls.mono (same_lit _ 1 _ [0] _ rfl rfl (by decide) _ w _ (by simp) S.out (by repeat first | exact B.out | apply bl_al | apply bl_dr)) ?_
  rintro e w8 ⟨rfl, hb⟩
  have B := Lib.hid hb
  clear hb
  go_wp2_with fail
  refine Calls.mono (num_any _ _) ?_
  rintro e wq ⟨rfl, o, rfl⟩
  go_wp2_with fail
  refine Calls.mono (enc_nil _ _ _ _ _ 2 encL_2 rfl (fineI _ _ _ (by decide) (by decide) (by decide)) w _ (by repeat first | exact B.out | apply bl_al | apply bl_dr)) ?_
  rintro e w9 ⟨A, c, rfl, hs, hb⟩
  have S := Lib.hid hs; clear hs; have B := Lib.hid hb
  clear hb
  go_wp2_with fail
  refine Calls.mono (same_lit _ 2 _ [1, 1] _ rfl rfl (by decide) _ w _ (by simp) S.out (by repeat first | exact B.out | apply bl_al | apply bl_dr)) ?_
  rintro e w10 ⟨rfl, hb⟩
  have B := Lib.hid hb
  clear hb
  go_wp2_with fail
  refine Calls.mono (text_any _ _) ?_
  rintro e wq ⟨rfl, o, rfl⟩
  go_wp2_with fail
  refine Calls.mono (enc_lit 7 _ _ _ _ _ 5 _ rfl encL_3 rfl (fineI _ _ _ (by decide) (by decide) (by decide)) _ w _ (by simp) _ (by repeat first | exact B.out | apply bl_al | apply bl_dr)) ?_
  rintro e w11 ⟨A, c, rfl, hs, hb⟩
  have S := Lib.hid hs; clear hs; have B := Lib.hid hb
  clear hb
  go_wp2_with fail
  refine Calls.mono (same_lit _ 5 _ [7, 1, 2, 97, 98] _ rfl rfl (by decide) _ w _ (by simp) S.out (by repeat first | exact B.out | apply bl_al | apply bl_dr)) ?_
  rintro e w12 ⟨rfl, hb⟩
  have B := Lib.hid hb
  clear hb
  go_wp2_with fail
  refine Calls.mono (num_any _ _) ?_
  rintro e wq ⟨rfl, o, rfl⟩
  go_wp2_with fail
  refine Calls.mono (enc_lit 7 _ _ _ _ _ 1 _ rfl encL_4 rfl (fineI _ _ _ (by decide) (by decide) (by decide)) _ w _ (by simp) _ (by repeat first | exact B.out | apply bl_al | apply bl_dr)) ?_
  rintro e w13 ⟨A, c, rfl, hs, hb⟩
  have S := Lib.hid hs; clear hs; have B := Lib.hid hb
  clear hb
  go_wp2_with fail
  refine Calls.mono (same_lit _ 1 _ [7] _ rfl rfl (by decide) _ w _ (by simp) S.out (by repeat first | exact B.out | apply bl_al | apply bl_dr)) ?_
  rintro e w14 ⟨rfl, hb⟩
  have B := Lib.hid hb
  clear hb
  go_wp2_with fail
  refine Calls.mono (text_any _ _) ?_
  rintro e wq ⟨rfl, o, rfl⟩
  go_wp2_with fail
  refine Calls.mono (show_at _ _ _ _ _ show_text (fineI _ _ _ (by decide) (by decide) (by decide)) w _ hG.out (by repeat first | exact B.out | apply bl_al | apply bl_dr)) ?_
  rintro e w15 ⟨rfl, hb, hq⟩
  have B := Lib.hid hb
  clear hb
  go_wp2_with fail
  clear hq
  refine Calls.mono (num_any _ _) ?_
  rintro e wq ⟨rfl, o, rfl⟩
  go_wp2_with fail
  refine Calls.mono (show_at _ _ _ _ _ ((show_d _ (by decide) (by decide)).trans date_0) (fineI _ _ _ (by decide) (by decide) (by decide)) w _ hG.out (by repeat first | exact B.out | apply bl_al | apply bl_dr)) ?_
  rintro e w16 ⟨rfl, hb, hq⟩
  have B := Lib.hid hb
  clear hb
  go_wp2_with fail
  clear hq
  refine Calls.mono (num_any _ _) ?_
  rintro e wq ⟨rfl, o, rfl⟩
  go_wp2_with fail
  refine Calls.mono (show_at _ _ _ _ _ ((show_d _ (by decide) (by decide)).trans date_1) (fineI _ _ _ (by decide) (by decide) (by decide)) w _ hG.out (by repeat first | exact B.out | apply bl_al | apply bl_dr)) ?_
  rintro e w17 ⟨rfl, hb, hq⟩
  have B := Lib.hid hb
  clear hb
  go_wp2_with fail
  clear hq
  refine Calls.mono (num_any _ _) ?_
  rintro e wq ⟨rfl, o, rfl⟩
  go_wp2_with fail
  refine Calls.mono (show_at _ _ _ _ _ ((show_d _ (by decide) (by decide)).trans date_2) (fineI _ _ _ (by decide) (by decide) (by decide)) w _ hG.out (by repeat first | exact B.out | apply bl_al | apply bl_dr)) ?_
  rintro e w18 ⟨rfl, hb, hq⟩
  have B := Lib.hid hb
  clear hb
  go_wp2_with fail
  clear hq
  refine Calls.mono (num_any _ _) ?_
  rintro e wq ⟨rfl, o, rfl⟩
  go_wp2_with fail
  refine Calls.mono (show_at _ _ _ _ _ ((show_d _ (by decide) (by decide)).trans date_3) (fineI _ _ _ (by decide) (by decide) (by decide)) w _ hG.out (by repeat first | exact B.out | apply bl_al | apply bl_dr)) ?_
  rintro e w19 ⟨rfl, hb, hq⟩
  have B := Lib.hid hb
  clear hb
  go_wp2_with fail
  clear hq
  refine Calls.mono (num_any _ _) ?_
  rintro e wq ⟨rfl, o, rfl⟩
  go_wp2_with fail
  refine Calls.mono (show_at _ _ _ _ [116, 114, 117, 101] show_b1 (fineI _ _ _ (by decide) (by decide) (by decide)) w _ hG.out (by repeat first | exact B.out | apply bl_al | apply bl_dr)) ?_
  rintro e w20 ⟨rfl, hb, hq⟩
  have B := Lib.hid hb
  clear hb
  go_wp2_with fail
  clear hq
  refine Calls.mono (num_any _ _) ?_
  rintro e wq ⟨rfl, o, rfl⟩
  go_wp2_with fail
  refine Calls.mono (show_at _ _ _ _ _ show_b2 (fineI _ _ _ (by decide) (by decide) (by decide)) w _ hG.out (by repeat first | exact B.out | apply bl_al | apply bl_dr)) ?_
  rintro e w21 ⟨rfl, hb, hq⟩
  have B := Lib.hid hb
  clear hb
  go_wp2_with fail
  clear hq
  refine Calls.mono (null_any _) ?_
  rintro e wq ⟨rfl, o, rfl⟩
  go_wp2_with fail
  refine Calls.mono (num_any _ _) ?_
  rintro e wq ⟨rfl, o, rfl⟩
  go_wp2_with fail
  refine Calls.mono (cmp_at _ _ _ _ _ _ (-1) cmp_1 w _ (by repeat first | exact B.out | apply bl_al | apply bl_dr)) ?_
  rintro e w22 ⟨rfl, hb⟩
  have B := Lib.hid hb
  clear hb
  go_wp2_with fail
  refine Calls.mono (text_any _ _) ?_
  rintro e wq ⟨rfl, o, rfl⟩
  go_wp2_with fail
  refine Calls.mono (text_any _ _) ?_
  rintro e wq ⟨rfl, o, rfl⟩
  go_wp2_with fail
  refine Calls.mono (cmp_at _ _ _ _ _ _ 1 cmp_2 w _ (by repeat first | exact B.out | apply bl_al | apply bl_dr)) ?_
  rintro e w23 ⟨rfl, hb⟩
  have B := Lib.hid hb
  clear hb
  go_wp2_with fail
  refine Calls.mono (null_any _) ?_
  rintro e wq ⟨rfl, o, rfl⟩
  go_wp2_with fail
  refine Calls.mono (val_at _ _ _ _ false val_1 (by decide) w _ (by repeat first | exact B.out | apply bl_al | apply bl_dr)) ?_
  rintro e w24 ⟨rfl, hb⟩
  have B := Lib.hid hb
  clear hb
  go_wp2_with fail
  refine Calls.mono (num_any _ _) ?_
  rintro e wq ⟨rfl, o, rfl⟩
  go_wp2_with fail
  refine Calls.mono (val_at _ _ _ _ true val_2 (by decide) w _ (by repeat first | exact B.out | apply bl_al | apply bl_dr)) ?_
  rintro e w25 ⟨rfl, hb⟩
  have B := Lib.hid hb
  clear hb
  go_wp2_with fail
  refine Calls.mono (num_any _ _) ?_
  rintro e wq ⟨rfl, o, rfl⟩
  go_wp2_with fail
  refine Calls.mono (val_at _ _ _ _ false val_3 (by decide) w _ (by repeat first | exact B.out | apply bl_al | apply bl_dr)) ?_
  rintro e w26 ⟨rfl, hb⟩
  have B := Lib.hid hb
  clear hb
  go_wp2_with fail
  go_ret
  exact ⟨rfl, B.out⟩
end Go.Proofs.YteaaadccjnmacaaGreatDoor
