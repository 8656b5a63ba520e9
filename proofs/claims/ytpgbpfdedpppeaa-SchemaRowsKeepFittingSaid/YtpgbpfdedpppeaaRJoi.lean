/-
  The reference's sep, join, by contracts.
-/
import Derived.Test.YtpgbpfdedpppeaaRPls
import Derived.Test.YtpgbpfdedpppeaaKindP
import Derived.Deep.RegionHeldLaw
namespace Go.Proofs.Ytpgbpfdedpppeaa
open Go.RowKit

theorem RSep_any (s : ByteArray) (z : Bool) (w : World) (hz : sepB s = z) (hs : s.size ≤ 9223372036854775807) : Calls Try.prog 42 #[.string s] w fun e w' => e = .returned (.bool z) ∧ w' = w := by
  unfold sepB at hz
  by_cases h1 : 1 ≤ s.size
  · by_cases h2 : s.size ≤ 16
    · obtain rfl : z = true := by rw [← hz]; simp; omega
      clear hz
      have i1 : (1 : Int) ≤ (s.size : Int) := by omega
      have i2 : (s.size : Int) ≤ 16 := by omega
      go_enter Try.func42, Try.ntmps42
      go_wp2
      go_ret
      exact ⟨rfl, rfl⟩
    · obtain rfl : z = false := by rw [← hz]; simp; omega
      clear hz
      have i1 : (1 : Int) ≤ (s.size : Int) := by omega
      have i2 : ¬ (s.size : Int) ≤ 16 := by omega
      go_enter Try.func42, Try.ntmps42
      go_wp2
      go_ret
      exact ⟨rfl, rfl⟩
  · obtain rfl : z = false := by rw [← hz]; simp; omega
    clear hz
    have i1 : ¬ (1 : Int) ≤ (s.size : Int) := by omega
    go_enter Try.func42, Try.ntmps42
    go_wp2
    go_ret
    exact ⟨rfl, rfl⟩

def joinR' (s : Sc) (c : Ch) (f g : Fd) : Sc × Int :=
  if f.ty = 4 ∧ g.ty = 4 then (if f.pa = g.pa then (if sepB c.sep = true then (if takB s.fs ⟨0, c.nm, 4, f.pa⟩ f.id g.id = true then (Sc.zero, 60) else if s.next < 1073741824 then (withS ⟨dropF2 s.fs f.id g.id, s.next⟩ c.nm 4 f.pa, 0) else (Sc.zero, 2)) else (Sc.zero, 1)) else (Sc.zero, 63)) else (Sc.zero, 7)
def joinR (s : Sc) (c : Ch) : Sc × Int :=
  if hasF s.fs c.id = true ∧ hasF s.fs c.wi = true ∧ (fieldD s.fs c.id).id ≠ (fieldD s.fs c.wi).id then joinR' s c (fieldD s.fs c.id) (fieldD s.fs c.wi) else (Sc.zero, 61)

set_option maxHeartbeats 4000000 in
set_option maxRecDepth 20000 in
theorem Rjoin_any (A : Option Addr) (n c : Nat) (x : Int) (l : List Fd) (kd id wi : Int) (nm ot : ByteArray) (ty pa : Int) (sep : ByteArray) (w : World) (hn : n = l.length) (hs : Fds w w.heap.size A l) (hl0 : n ≤ 1000) (hx0 : 0 ≤ x) (hx1 : x ≤ 2305843009213693952) (hnm : nm.size ≤ 9223372036854775807) (_hot : ot.size ≤ 9223372036854775807) (hsep : sep.size ≤ 9223372036854775807) :
    Calls Try.prog 39 #[.agg #[.slice A n c, .int .i64 x], .agg #[.int .i64 kd, .int .i64 id, .int .i64 wi, .string nm, .string ot, .int .i64 ty, .int .i64 pa, .string sep]] w fun e w' => ResS w w' (joinR ⟨l, x⟩ ⟨kd, id, wi, nm, ot, ty, pa, sep⟩) e ∧ Below w.heap.size w w' := by
  have HN := Lib.hid hn
  have HS := Lib.hid hs
  clear hn hs
  have hl : n ≤ 100000 := by omega
  have hl2 : n ≤ 9223372036854775807 := by omega
  have hl3 : n ≤ 1000000 := by omega
  have hx2 : x ≤ 4611686018427387904 := by omega
  obtain ⟨f, hf⟩ : ∃ f, fieldD l id = f := ⟨_, rfl⟩
  obtain ⟨g, hg⟩ : ∃ g, fieldD l wi = g := ⟨_, rfl⟩
  obtain ⟨o1, ho1⟩ : ∃ b, hasF l id = b := ⟨_, rfl⟩
  obtain ⟨o2, ho2⟩ : ∃ b, hasF l wi = b := ⟨_, rfl⟩
  obtain ⟨bP, hP⟩ : ∃ b, sepB sep = b := ⟨_, rfl⟩
  obtain ⟨bT, hT⟩ : ∃ b, takB l ⟨0, nm, 4, f.pa⟩ f.id g.id = b := ⟨_, rfl⟩
  have HE : Hid (joinR ⟨l, x⟩ ⟨kd, id, wi, nm, ot, ty, pa, sep⟩ = if o1 = true ∧ o2 = true ∧ f.id ≠ g.id then (if f.ty = 4 ∧ g.ty = 4 then (if f.pa = g.pa then (if bP = true then (if bT = true then (Sc.zero, 60) else if x < 1073741824 then (withS ⟨dropF2 l f.id g.id, x⟩ nm 4 f.pa, 0) else (Sc.zero, 2)) else (Sc.zero, 1)) else (Sc.zero, 63)) else (Sc.zero, 7)) else (Sc.zero, 61)) := by
    show _ = _
    unfold joinR joinR'
    simp only [hf, hg, ho1, ho2, hP, hT]
  have HF := Lib.hid hf
  have HG := Lib.hid hg
  have HO1 := Lib.hid ho1
  have HO2 := Lib.hid ho2
  have HP := Lib.hid hP
  have HT := Lib.hid hT
  clear hf hg ho1 ho2 hP hT
  cases o1 with
  | false =>
    have HRX := Lib.hid (HE.out.trans (if_neg (by simp)))
    clear HE
    have S0 := Lib.hid (((CB.new w 30 [.slice A n c, .int .i64 x]).alloc (.cells #[.int .i64 kd, .int .i64 id, .int .i64 wi, .string nm, .string ot, .int .i64 ty, .int .i64 pa, .string sep] 24)).alloc (.cells #[.slice none 0 0, .int .i64 0] 30))
    have C0 := Lib.hid ((CB.new1 w (.cells #[.slice A n c, .int .i64 x] 30) 24 [.int .i64 kd, .int .i64 id, .int .i64 wi, .string nm, .string ot, .int .i64 ty, .int .i64 pa, .string sep]).alloc (.cells #[.slice none 0 0, .int .i64 0] 30))
    have R0 := Lib.hid (CB.new2 w (.cells #[.slice A n c, .int .i64 x] 30) (.cells #[.int .i64 kd, .int .i64 id, .int .i64 wi, .string nm, .string ot, .int .i64 ty, .int .i64 pa, .string sep] 24) 30 [.slice none 0 0, .int .i64 0])
    have B0 := Lib.hid (al3 w (.cells #[.slice A n c, .int .i64 x] 30) (.cells #[.int .i64 kd, .int .i64 id, .int .i64 wi, .string nm, .string ot, .int .i64 ty, .int .i64 pa, .string sep] 24) (.cells #[.slice none 0 0, .int .i64 0] 30))
    have zR0 := R0.out.lt
    have tokV : Hid True := Lib.hid trivial
    go_enter Try.func39, Try.ntmps39
    go_wp2_with (first | (have tokW := tokV; go_at_call 20; refine (RField_any A n c x l id _ HN.out (HS.out.up B0.out) hl2).mono ?_; rintro e w5 ⟨rfl, hb5⟩; rw [HF.out, HO1.out]; have S5 := Lib.hid (S0.out.up hb5); have C5 := Lib.hid (C0.out.up hb5); have R5 := Lib.hid (R0.out.up hb5); have B5 := Lib.hid (below_step B0.out B0.out.size hb5); have s50 := S5.out.cell 0 rfl; have s51 := S5.out.cell 1 rfl; have c50 := C5.out.cell 0 rfl; have c51 := C5.out.cell 1 rfl; have c52 := C5.out.cell 2 rfl; have c53 := C5.out.cell 3 rfl; have c54 := C5.out.cell 4 rfl; have c55 := C5.out.cell 5 rfl; have c56 := C5.out.cell 6 rfl; have c57 := C5.out.cell 7 rfl; have zS5 := S5.out.lt; have zC5 := C5.out.lt; have zR5 := R5.out.lt; clear hb5 tokV tokW) | (go_at_call 20; refine (RField_any A n c x l wi _ HN.out (HS.out.up (B5.out.alloc B5.out.size _)) hl2).mono ?_; rintro e w6 ⟨rfl, hb6⟩; rw [HG.out, HO2.out]; have hb6' := (al1 w5 (.cells #[.int .i64 f.id, .string f.nm, .int .i64 f.ty, .int .i64 f.pa] 41)).trans (hb6.mono (al1 w5 (.cells #[.int .i64 f.id, .string f.nm, .int .i64 f.ty, .int .i64 f.pa] 41)).size); have F6 := Lib.hid ((CB.new w5 41 [.int .i64 f.id, .string f.nm, .int .i64 f.ty, .int .i64 f.pa]).up hb6); have S6 := Lib.hid (S5.out.up hb6'); have C6 := Lib.hid (C5.out.up hb6'); have R6 := Lib.hid (R5.out.up hb6'); have B6 := Lib.hid (below_step B5.out B5.out.size hb6'); have s60 := S6.out.cell 0 rfl; have s61 := S6.out.cell 1 rfl; have c60 := C6.out.cell 0 rfl; have c61 := C6.out.cell 1 rfl; have c62 := C6.out.cell 2 rfl; have c63 := C6.out.cell 3 rfl; have c64 := C6.out.cell 4 rfl; have c65 := C6.out.cell 5 rfl; have c66 := C6.out.cell 6 rfl; have c67 := C6.out.cell 7 rfl; have zS6 := S6.out.lt; have zC6 := C6.out.lt; have zR6 := R6.out.lt; have f60 := F6.out.cell 0 rfl; have f62 := F6.out.cell 2 rfl; have f63 := F6.out.cell 3 rfl; have zF6 := F6.out.lt; clear hb6 hb6') | ((with_reducible show wpList _ _ _ _ _ _); refine wpList_store_cb rfl 30 (.tmp 4) (.tmp 38) rfl (w.heap.size + 1 + 1) [.slice none 0 0, .int .i64 0] rfl rfl 30 [.slice none 0 0, .int .i64 0] 2 (R6.out.alloc _) sizeS rfl rfl (one_s _ _ _ _) ?_; intro wz hcz hgz hzz))
    all_goals
      refine bodyPost_ret (res_cell Try.results39 rfl rfl hcz Try.underlying30 sizeS rfl) rfl ⟨?_, below_grown (B6.out.alloc B6.out.size _) hgz (by rw [asz]; omega) (by omega)⟩
      rw [HRX.out]
      exact res_zero _ _ _
  | true =>
    cases o2 with
    | false =>
      have HRX := Lib.hid (HE.out.trans (if_neg (by simp)))
      clear HE
      have S0 := Lib.hid (((CB.new w 30 [.slice A n c, .int .i64 x]).alloc (.cells #[.int .i64 kd, .int .i64 id, .int .i64 wi, .string nm, .string ot, .int .i64 ty, .int .i64 pa, .string sep] 24)).alloc (.cells #[.slice none 0 0, .int .i64 0] 30))
      have C0 := Lib.hid ((CB.new1 w (.cells #[.slice A n c, .int .i64 x] 30) 24 [.int .i64 kd, .int .i64 id, .int .i64 wi, .string nm, .string ot, .int .i64 ty, .int .i64 pa, .string sep]).alloc (.cells #[.slice none 0 0, .int .i64 0] 30))
      have R0 := Lib.hid (CB.new2 w (.cells #[.slice A n c, .int .i64 x] 30) (.cells #[.int .i64 kd, .int .i64 id, .int .i64 wi, .string nm, .string ot, .int .i64 ty, .int .i64 pa, .string sep] 24) 30 [.slice none 0 0, .int .i64 0])
      have B0 := Lib.hid (al3 w (.cells #[.slice A n c, .int .i64 x] 30) (.cells #[.int .i64 kd, .int .i64 id, .int .i64 wi, .string nm, .string ot, .int .i64 ty, .int .i64 pa, .string sep] 24) (.cells #[.slice none 0 0, .int .i64 0] 30))
      have zR0 := R0.out.lt
      have tokV : Hid True := Lib.hid trivial
      go_enter Try.func39, Try.ntmps39
      go_wp2_with (first | (have tokW := tokV; go_at_call 20; refine (RField_any A n c x l id _ HN.out (HS.out.up B0.out) hl2).mono ?_; rintro e w5 ⟨rfl, hb5⟩; rw [HF.out, HO1.out]; have S5 := Lib.hid (S0.out.up hb5); have C5 := Lib.hid (C0.out.up hb5); have R5 := Lib.hid (R0.out.up hb5); have B5 := Lib.hid (below_step B0.out B0.out.size hb5); have s50 := S5.out.cell 0 rfl; have s51 := S5.out.cell 1 rfl; have c50 := C5.out.cell 0 rfl; have c51 := C5.out.cell 1 rfl; have c52 := C5.out.cell 2 rfl; have c53 := C5.out.cell 3 rfl; have c54 := C5.out.cell 4 rfl; have c55 := C5.out.cell 5 rfl; have c56 := C5.out.cell 6 rfl; have c57 := C5.out.cell 7 rfl; have zS5 := S5.out.lt; have zC5 := C5.out.lt; have zR5 := R5.out.lt; clear hb5 tokV tokW) | (go_at_call 20; refine (RField_any A n c x l wi _ HN.out (HS.out.up (B5.out.alloc B5.out.size _)) hl2).mono ?_; rintro e w6 ⟨rfl, hb6⟩; rw [HG.out, HO2.out]; have hb6' := (al1 w5 (.cells #[.int .i64 f.id, .string f.nm, .int .i64 f.ty, .int .i64 f.pa] 41)).trans (hb6.mono (al1 w5 (.cells #[.int .i64 f.id, .string f.nm, .int .i64 f.ty, .int .i64 f.pa] 41)).size); have F6 := Lib.hid ((CB.new w5 41 [.int .i64 f.id, .string f.nm, .int .i64 f.ty, .int .i64 f.pa]).up hb6); have S6 := Lib.hid (S5.out.up hb6'); have C6 := Lib.hid (C5.out.up hb6'); have R6 := Lib.hid (R5.out.up hb6'); have B6 := Lib.hid (below_step B5.out B5.out.size hb6'); have s60 := S6.out.cell 0 rfl; have s61 := S6.out.cell 1 rfl; have c60 := C6.out.cell 0 rfl; have c61 := C6.out.cell 1 rfl; have c62 := C6.out.cell 2 rfl; have c63 := C6.out.cell 3 rfl; have c64 := C6.out.cell 4 rfl; have c65 := C6.out.cell 5 rfl; have c66 := C6.out.cell 6 rfl; have c67 := C6.out.cell 7 rfl; have zS6 := S6.out.lt; have zC6 := C6.out.lt; have zR6 := R6.out.lt; have f60 := F6.out.cell 0 rfl; have f62 := F6.out.cell 2 rfl; have f63 := F6.out.cell 3 rfl; have zF6 := F6.out.lt; clear hb6 hb6') | ((with_reducible show wpList _ _ _ _ _ _); refine wpList_store_cb rfl 30 (.tmp 4) (.tmp 38) rfl (w.heap.size + 1 + 1) [.slice none 0 0, .int .i64 0] rfl rfl 30 [.slice none 0 0, .int .i64 0] 2 (R6.out.alloc _) sizeS rfl rfl (one_s _ _ _ _) ?_; intro wz hcz hgz hzz))
      all_goals
        refine bodyPost_ret (res_cell Try.results39 rfl rfl hcz Try.underlying30 sizeS rfl) rfl ⟨?_, below_grown (B6.out.alloc B6.out.size _) hgz (by rw [asz]; omega) (by omega)⟩
        rw [HRX.out]
        exact res_zero _ _ _
    | true =>
      by_cases hid : f.id = g.id
      · have eid : (f.id == g.id) = true := by simpa using hid
        have HRX := Lib.hid (HE.out.trans (if_neg (by simp [hid])))
        clear HE hid
        have S0 := Lib.hid (((CB.new w 30 [.slice A n c, .int .i64 x]).alloc (.cells #[.int .i64 kd, .int .i64 id, .int .i64 wi, .string nm, .string ot, .int .i64 ty, .int .i64 pa, .string sep] 24)).alloc (.cells #[.slice none 0 0, .int .i64 0] 30))
        have C0 := Lib.hid ((CB.new1 w (.cells #[.slice A n c, .int .i64 x] 30) 24 [.int .i64 kd, .int .i64 id, .int .i64 wi, .string nm, .string ot, .int .i64 ty, .int .i64 pa, .string sep]).alloc (.cells #[.slice none 0 0, .int .i64 0] 30))
        have R0 := Lib.hid (CB.new2 w (.cells #[.slice A n c, .int .i64 x] 30) (.cells #[.int .i64 kd, .int .i64 id, .int .i64 wi, .string nm, .string ot, .int .i64 ty, .int .i64 pa, .string sep] 24) 30 [.slice none 0 0, .int .i64 0])
        have B0 := Lib.hid (al3 w (.cells #[.slice A n c, .int .i64 x] 30) (.cells #[.int .i64 kd, .int .i64 id, .int .i64 wi, .string nm, .string ot, .int .i64 ty, .int .i64 pa, .string sep] 24) (.cells #[.slice none 0 0, .int .i64 0] 30))
        have zR0 := R0.out.lt
        have tokV : Hid True := Lib.hid trivial
        go_enter Try.func39, Try.ntmps39
        go_wp2_with (first | (have tokW := tokV; go_at_call 20; refine (RField_any A n c x l id _ HN.out (HS.out.up B0.out) hl2).mono ?_; rintro e w5 ⟨rfl, hb5⟩; rw [HF.out, HO1.out]; have S5 := Lib.hid (S0.out.up hb5); have C5 := Lib.hid (C0.out.up hb5); have R5 := Lib.hid (R0.out.up hb5); have B5 := Lib.hid (below_step B0.out B0.out.size hb5); have s50 := S5.out.cell 0 rfl; have s51 := S5.out.cell 1 rfl; have c50 := C5.out.cell 0 rfl; have c51 := C5.out.cell 1 rfl; have c52 := C5.out.cell 2 rfl; have c53 := C5.out.cell 3 rfl; have c54 := C5.out.cell 4 rfl; have c55 := C5.out.cell 5 rfl; have c56 := C5.out.cell 6 rfl; have c57 := C5.out.cell 7 rfl; have zS5 := S5.out.lt; have zC5 := C5.out.lt; have zR5 := R5.out.lt; clear hb5 tokV tokW) | (go_at_call 20; refine (RField_any A n c x l wi _ HN.out (HS.out.up (B5.out.alloc B5.out.size _)) hl2).mono ?_; rintro e w6 ⟨rfl, hb6⟩; rw [HG.out, HO2.out]; have hb6' := (al1 w5 (.cells #[.int .i64 f.id, .string f.nm, .int .i64 f.ty, .int .i64 f.pa] 41)).trans (hb6.mono (al1 w5 (.cells #[.int .i64 f.id, .string f.nm, .int .i64 f.ty, .int .i64 f.pa] 41)).size); have F6 := Lib.hid ((CB.new w5 41 [.int .i64 f.id, .string f.nm, .int .i64 f.ty, .int .i64 f.pa]).up hb6); have S6 := Lib.hid (S5.out.up hb6'); have C6 := Lib.hid (C5.out.up hb6'); have R6 := Lib.hid (R5.out.up hb6'); have B6 := Lib.hid (below_step B5.out B5.out.size hb6'); have s60 := S6.out.cell 0 rfl; have s61 := S6.out.cell 1 rfl; have c60 := C6.out.cell 0 rfl; have c61 := C6.out.cell 1 rfl; have c62 := C6.out.cell 2 rfl; have c63 := C6.out.cell 3 rfl; have c64 := C6.out.cell 4 rfl; have c65 := C6.out.cell 5 rfl; have c66 := C6.out.cell 6 rfl; have c67 := C6.out.cell 7 rfl; have zS6 := S6.out.lt; have zC6 := C6.out.lt; have zR6 := R6.out.lt; have f60 := F6.out.cell 0 rfl; have f62 := F6.out.cell 2 rfl; have f63 := F6.out.cell 3 rfl; have zF6 := F6.out.lt; clear hb6 hb6') | ((with_reducible show wpList _ _ _ _ _ _); refine wpList_store_cb rfl 30 (.tmp 4) (.tmp 38) rfl (w.heap.size + 1 + 1) [.slice none 0 0, .int .i64 0] rfl rfl 30 [.slice none 0 0, .int .i64 0] 2 (R6.out.alloc _) sizeS rfl rfl (one_s _ _ _ _) ?_; intro wz hcz hgz hzz))
        all_goals
          refine bodyPost_ret (res_cell Try.results39 rfl rfl hcz Try.underlying30 sizeS rfl) rfl ⟨?_, below_grown (B6.out.alloc B6.out.size _) hgz (by rw [asz]; omega) (by omega)⟩
          rw [HRX.out]
          exact res_zero _ _ _
      · have eid : (f.id == g.id) = false := by simpa using hid
        have HE1 := HE.out.trans (if_pos ⟨rfl, rfl, hid⟩)
        have HE := Lib.hid HE1
        clear HE1
        have HID := Lib.hid hid
        clear hid
        by_cases h1 : f.ty = 4
        · have e1 : (f.ty != 4) = false := by simpa using h1
          by_cases h2 : g.ty = 4
          · have e2 : (g.ty != 4) = false := by simpa using h2
            have HE1 := HE.out.trans (if_pos ⟨h1, h2⟩)
            have HE := Lib.hid HE1
            clear HE1 h1 h2
            by_cases h3 : f.pa = g.pa
            · have e3 : (f.pa != g.pa) = false := by simpa using h3
              have HE1 := HE.out.trans (if_pos h3)
              have HE := Lib.hid HE1
              clear HE1 h3
              cases bP with
              | false =>
                have HRX := Lib.hid (HE.out.trans (if_neg (by decide)))
                clear HE
                have S0 := Lib.hid (((CB.new w 30 [.slice A n c, .int .i64 x]).alloc (.cells #[.int .i64 kd, .int .i64 id, .int .i64 wi, .string nm, .string ot, .int .i64 ty, .int .i64 pa, .string sep] 24)).alloc (.cells #[.slice none 0 0, .int .i64 0] 30))
                have C0 := Lib.hid ((CB.new1 w (.cells #[.slice A n c, .int .i64 x] 30) 24 [.int .i64 kd, .int .i64 id, .int .i64 wi, .string nm, .string ot, .int .i64 ty, .int .i64 pa, .string sep]).alloc (.cells #[.slice none 0 0, .int .i64 0] 30))
                have R0 := Lib.hid (CB.new2 w (.cells #[.slice A n c, .int .i64 x] 30) (.cells #[.int .i64 kd, .int .i64 id, .int .i64 wi, .string nm, .string ot, .int .i64 ty, .int .i64 pa, .string sep] 24) 30 [.slice none 0 0, .int .i64 0])
                have B0 := Lib.hid (al3 w (.cells #[.slice A n c, .int .i64 x] 30) (.cells #[.int .i64 kd, .int .i64 id, .int .i64 wi, .string nm, .string ot, .int .i64 ty, .int .i64 pa, .string sep] 24) (.cells #[.slice none 0 0, .int .i64 0] 30))
                have zR0 := R0.out.lt
                have tokV : Hid True := Lib.hid trivial
                go_enter Try.func39, Try.ntmps39
                go_wp2_with (first | (have tokW := tokV; go_at_call 20; refine (RField_any A n c x l id _ HN.out (HS.out.up B0.out) hl2).mono ?_; rintro e w5 ⟨rfl, hb5⟩; rw [HF.out, HO1.out]; have S5 := Lib.hid (S0.out.up hb5); have C5 := Lib.hid (C0.out.up hb5); have R5 := Lib.hid (R0.out.up hb5); have B5 := Lib.hid (below_step B0.out B0.out.size hb5); have s50 := S5.out.cell 0 rfl; have s51 := S5.out.cell 1 rfl; have c50 := C5.out.cell 0 rfl; have c51 := C5.out.cell 1 rfl; have c52 := C5.out.cell 2 rfl; have c53 := C5.out.cell 3 rfl; have c54 := C5.out.cell 4 rfl; have c55 := C5.out.cell 5 rfl; have c56 := C5.out.cell 6 rfl; have c57 := C5.out.cell 7 rfl; have zS5 := S5.out.lt; have zC5 := C5.out.lt; have zR5 := R5.out.lt; clear hb5 tokV tokW) | (go_at_call 20; refine (RField_any A n c x l wi _ HN.out (HS.out.up (B5.out.alloc B5.out.size _)) hl2).mono ?_; rintro e w6 ⟨rfl, hb6⟩; rw [HG.out, HO2.out]; have hb6' := (al1 w5 (.cells #[.int .i64 f.id, .string f.nm, .int .i64 f.ty, .int .i64 f.pa] 41)).trans (hb6.mono (al1 w5 (.cells #[.int .i64 f.id, .string f.nm, .int .i64 f.ty, .int .i64 f.pa] 41)).size); have F6 := Lib.hid ((CB.new w5 41 [.int .i64 f.id, .string f.nm, .int .i64 f.ty, .int .i64 f.pa]).up hb6); have S6 := Lib.hid (S5.out.up hb6'); have C6 := Lib.hid (C5.out.up hb6'); have R6 := Lib.hid (R5.out.up hb6'); have B6 := Lib.hid (below_step B5.out B5.out.size hb6'); have s60 := S6.out.cell 0 rfl; have s61 := S6.out.cell 1 rfl; have c60 := C6.out.cell 0 rfl; have c61 := C6.out.cell 1 rfl; have c62 := C6.out.cell 2 rfl; have c63 := C6.out.cell 3 rfl; have c64 := C6.out.cell 4 rfl; have c65 := C6.out.cell 5 rfl; have c66 := C6.out.cell 6 rfl; have c67 := C6.out.cell 7 rfl; have zS6 := S6.out.lt; have zC6 := C6.out.lt; have zR6 := R6.out.lt; have f60 := F6.out.cell 0 rfl; have f62 := F6.out.cell 2 rfl; have f63 := F6.out.cell 3 rfl; have zF6 := F6.out.lt; clear hb6 hb6') | (go_at_call 42; refine (RSep_any _ _ _ HP.out hsep).mono ?_; rintro e w' ⟨rfl, rfl⟩) | ((with_reducible show wpList _ _ _ _ _ _); refine wpList_store_cb rfl 30 (.tmp 4) (.tmp 58) rfl (w.heap.size + 1 + 1) [.slice none 0 0, .int .i64 0] rfl rfl 30 [.slice none 0 0, .int .i64 0] 2 (R6.out.alloc _) sizeS rfl rfl (one_s _ _ _ _) ?_; intro wz hcz hgz hzz))
                all_goals
                  refine bodyPost_ret (res_cell Try.results39 rfl rfl hcz Try.underlying30 sizeS rfl) rfl ⟨?_, below_grown (B6.out.alloc B6.out.size _) hgz (by rw [asz]; omega) (by omega)⟩
                  rw [HRX.out]
                  exact res_zero _ _ _
              | true =>
                have HE1 := HE.out.trans (if_pos rfl)
                have HE := Lib.hid HE1
                clear HE1
                cases bT with
                | true =>
                  have HRX := Lib.hid (HE.out.trans (if_pos rfl))
                  clear HE
                  have S0 := Lib.hid (((CB.new w 30 [.slice A n c, .int .i64 x]).alloc (.cells #[.int .i64 kd, .int .i64 id, .int .i64 wi, .string nm, .string ot, .int .i64 ty, .int .i64 pa, .string sep] 24)).alloc (.cells #[.slice none 0 0, .int .i64 0] 30))
                  have C0 := Lib.hid ((CB.new1 w (.cells #[.slice A n c, .int .i64 x] 30) 24 [.int .i64 kd, .int .i64 id, .int .i64 wi, .string nm, .string ot, .int .i64 ty, .int .i64 pa, .string sep]).alloc (.cells #[.slice none 0 0, .int .i64 0] 30))
                  have R0 := Lib.hid (CB.new2 w (.cells #[.slice A n c, .int .i64 x] 30) (.cells #[.int .i64 kd, .int .i64 id, .int .i64 wi, .string nm, .string ot, .int .i64 ty, .int .i64 pa, .string sep] 24) 30 [.slice none 0 0, .int .i64 0])
                  have B0 := Lib.hid (al3 w (.cells #[.slice A n c, .int .i64 x] 30) (.cells #[.int .i64 kd, .int .i64 id, .int .i64 wi, .string nm, .string ot, .int .i64 ty, .int .i64 pa, .string sep] 24) (.cells #[.slice none 0 0, .int .i64 0] 30))
                  have zR0 := R0.out.lt
                  have tokV : Hid True := Lib.hid trivial
                  go_enter Try.func39, Try.ntmps39
                  go_wp2_with (first | (have tokW := tokV; go_at_call 20; refine (RField_any A n c x l id _ HN.out (HS.out.up B0.out) hl2).mono ?_; rintro e w5 ⟨rfl, hb5⟩; rw [HF.out, HO1.out]; have S5 := Lib.hid (S0.out.up hb5); have C5 := Lib.hid (C0.out.up hb5); have R5 := Lib.hid (R0.out.up hb5); have B5 := Lib.hid (below_step B0.out B0.out.size hb5); have s50 := S5.out.cell 0 rfl; have s51 := S5.out.cell 1 rfl; have c50 := C5.out.cell 0 rfl; have c51 := C5.out.cell 1 rfl; have c52 := C5.out.cell 2 rfl; have c53 := C5.out.cell 3 rfl; have c54 := C5.out.cell 4 rfl; have c55 := C5.out.cell 5 rfl; have c56 := C5.out.cell 6 rfl; have c57 := C5.out.cell 7 rfl; have zS5 := S5.out.lt; have zC5 := C5.out.lt; have zR5 := R5.out.lt; clear hb5 tokV tokW) | (go_at_call 20; refine (RField_any A n c x l wi _ HN.out (HS.out.up (B5.out.alloc B5.out.size _)) hl2).mono ?_; rintro e w6 ⟨rfl, hb6⟩; rw [HG.out, HO2.out]; have hb6' := (al1 w5 (.cells #[.int .i64 f.id, .string f.nm, .int .i64 f.ty, .int .i64 f.pa] 41)).trans (hb6.mono (al1 w5 (.cells #[.int .i64 f.id, .string f.nm, .int .i64 f.ty, .int .i64 f.pa] 41)).size); have F6 := Lib.hid ((CB.new w5 41 [.int .i64 f.id, .string f.nm, .int .i64 f.ty, .int .i64 f.pa]).up hb6); have S6 := Lib.hid (S5.out.up hb6'); have C6 := Lib.hid (C5.out.up hb6'); have R6 := Lib.hid (R5.out.up hb6'); have B6 := Lib.hid (below_step B5.out B5.out.size hb6'); have s60 := S6.out.cell 0 rfl; have s61 := S6.out.cell 1 rfl; have c60 := C6.out.cell 0 rfl; have c61 := C6.out.cell 1 rfl; have c62 := C6.out.cell 2 rfl; have c63 := C6.out.cell 3 rfl; have c64 := C6.out.cell 4 rfl; have c65 := C6.out.cell 5 rfl; have c66 := C6.out.cell 6 rfl; have c67 := C6.out.cell 7 rfl; have zS6 := S6.out.lt; have zC6 := C6.out.lt; have zR6 := R6.out.lt; have f60 := F6.out.cell 0 rfl; have f62 := F6.out.cell 2 rfl; have f63 := F6.out.cell 3 rfl; have zF6 := F6.out.lt; clear hb6 hb6') | (go_at_call 42; refine (RSep_any _ _ _ HP.out hsep).mono ?_; rintro e w' ⟨rfl, rfl⟩) | (go_at_call 62; refine (Rtaken_any A n c x l ⟨0, nm, 4, f.pa⟩ f.id g.id _ HN.out (HS.out.up ((B6.out.alloc B6.out.size (.cells #[.int .i64 g.id, .string g.nm, .int .i64 g.ty, .int .i64 g.pa] 41)).alloc (B6.out.alloc B6.out.size (.cells #[.int .i64 g.id, .string g.nm, .int .i64 g.ty, .int .i64 g.pa] 41)).size (.cells #[.int .i64 0, .string nm, .int .i64 4, .int .i64 f.pa] 41))) hl2 hnm).mono ?_; rintro e w8 ⟨rfl, hb8⟩; rw [HT.out]; have hb8' := (al2 w6 (.cells #[.int .i64 g.id, .string g.nm, .int .i64 g.ty, .int .i64 g.pa] 41) (.cells #[.int .i64 0, .string nm, .int .i64 4, .int .i64 f.pa] 41)).trans (hb8.mono (al2 w6 (.cells #[.int .i64 g.id, .string g.nm, .int .i64 g.ty, .int .i64 g.pa] 41) (.cells #[.int .i64 0, .string nm, .int .i64 4, .int .i64 f.pa] 41)).size); have F8 := Lib.hid (F6.out.up hb8'); have G8 := Lib.hid (((CB.new w6 41 [.int .i64 g.id, .string g.nm, .int .i64 g.ty, .int .i64 g.pa]).alloc (.cells #[.int .i64 0, .string nm, .int .i64 4, .int .i64 f.pa] 41)).up hb8); have H8 := Lib.hid ((CB.new1 w6 (.cells #[.int .i64 g.id, .string g.nm, .int .i64 g.ty, .int .i64 g.pa] 41) 41 [.int .i64 0, .string nm, .int .i64 4, .int .i64 f.pa]).up hb8); have S8 := Lib.hid (S6.out.up hb8'); have C8 := Lib.hid (C6.out.up hb8'); have R8 := Lib.hid (R6.out.up hb8'); have B8 := Lib.hid (below_step B6.out B6.out.size hb8'); have s80 := S8.out.cell 0 rfl; have s81 := S8.out.cell 1 rfl; have zS8 := S8.out.lt; have zC8 := C8.out.lt; have zR8 := R8.out.lt; have zF8 := F8.out.lt; have zG8 := G8.out.lt; have zH8 := H8.out.lt; clear hb8 hb8') | ((with_reducible show wpList _ _ _ _ _ _); refine wpList_store_cb rfl 30 (.tmp 4) (.tmp 72) rfl (w.heap.size + 1 + 1) [.slice none 0 0, .int .i64 0] rfl rfl 30 [.slice none 0 0, .int .i64 0] 2 R8.out sizeS rfl rfl (one_s _ _ _ _) ?_; intro wz hcz hgz hzz))
                  all_goals
                    refine bodyPost_ret (res_cell Try.results39 rfl rfl hcz Try.underlying30 sizeS rfl) rfl ⟨?_, below_grown B8.out hgz (by omega) (by omega)⟩
                    rw [HRX.out]
                    exact res_zero _ _ _
                | false =>
                  have HE1 := HE.out.trans (if_neg (by decide))
                  have HE := Lib.hid HE1
                  clear HE1
                  by_cases hm : x < 1073741824
                  · have jm : ¬ (1073741824 : Int) ≤ x := by omega
                    have HRX := Lib.hid (HE.out.trans (if_pos hm))
                    clear HE
                    have S0 := Lib.hid (((CB.new w 30 [.slice A n c, .int .i64 x]).alloc (.cells #[.int .i64 kd, .int .i64 id, .int .i64 wi, .string nm, .string ot, .int .i64 ty, .int .i64 pa, .string sep] 24)).alloc (.cells #[.slice none 0 0, .int .i64 0] 30))
                    have C0 := Lib.hid ((CB.new1 w (.cells #[.slice A n c, .int .i64 x] 30) 24 [.int .i64 kd, .int .i64 id, .int .i64 wi, .string nm, .string ot, .int .i64 ty, .int .i64 pa, .string sep]).alloc (.cells #[.slice none 0 0, .int .i64 0] 30))
                    have R0 := Lib.hid (CB.new2 w (.cells #[.slice A n c, .int .i64 x] 30) (.cells #[.int .i64 kd, .int .i64 id, .int .i64 wi, .string nm, .string ot, .int .i64 ty, .int .i64 pa, .string sep] 24) 30 [.slice none 0 0, .int .i64 0])
                    have B0 := Lib.hid (al3 w (.cells #[.slice A n c, .int .i64 x] 30) (.cells #[.int .i64 kd, .int .i64 id, .int .i64 wi, .string nm, .string ot, .int .i64 ty, .int .i64 pa, .string sep] 24) (.cells #[.slice none 0 0, .int .i64 0] 30))
                    have zR0 := R0.out.lt
                    have tokV : Hid True := Lib.hid trivial
                    go_enter Try.func39, Try.ntmps39
                    go_wp2_with (first | (have tokW := tokV; go_at_call 20; refine (RField_any A n c x l id _ HN.out (HS.out.up B0.out) hl2).mono ?_; rintro e w5 ⟨rfl, hb5⟩; rw [HF.out, HO1.out]; have S5 := Lib.hid (S0.out.up hb5); have C5 := Lib.hid (C0.out.up hb5); have R5 := Lib.hid (R0.out.up hb5); have B5 := Lib.hid (below_step B0.out B0.out.size hb5); have s50 := S5.out.cell 0 rfl; have s51 := S5.out.cell 1 rfl; have c50 := C5.out.cell 0 rfl; have c51 := C5.out.cell 1 rfl; have c52 := C5.out.cell 2 rfl; have c53 := C5.out.cell 3 rfl; have c54 := C5.out.cell 4 rfl; have c55 := C5.out.cell 5 rfl; have c56 := C5.out.cell 6 rfl; have c57 := C5.out.cell 7 rfl; have zS5 := S5.out.lt; have zC5 := C5.out.lt; have zR5 := R5.out.lt; clear hb5 tokV tokW) | (go_at_call 20; refine (RField_any A n c x l wi _ HN.out (HS.out.up (B5.out.alloc B5.out.size _)) hl2).mono ?_; rintro e w6 ⟨rfl, hb6⟩; rw [HG.out, HO2.out]; have hb6' := (al1 w5 (.cells #[.int .i64 f.id, .string f.nm, .int .i64 f.ty, .int .i64 f.pa] 41)).trans (hb6.mono (al1 w5 (.cells #[.int .i64 f.id, .string f.nm, .int .i64 f.ty, .int .i64 f.pa] 41)).size); have F6 := Lib.hid ((CB.new w5 41 [.int .i64 f.id, .string f.nm, .int .i64 f.ty, .int .i64 f.pa]).up hb6); have S6 := Lib.hid (S5.out.up hb6'); have C6 := Lib.hid (C5.out.up hb6'); have R6 := Lib.hid (R5.out.up hb6'); have B6 := Lib.hid (below_step B5.out B5.out.size hb6'); have s60 := S6.out.cell 0 rfl; have s61 := S6.out.cell 1 rfl; have c60 := C6.out.cell 0 rfl; have c61 := C6.out.cell 1 rfl; have c62 := C6.out.cell 2 rfl; have c63 := C6.out.cell 3 rfl; have c64 := C6.out.cell 4 rfl; have c65 := C6.out.cell 5 rfl; have c66 := C6.out.cell 6 rfl; have c67 := C6.out.cell 7 rfl; have zS6 := S6.out.lt; have zC6 := C6.out.lt; have zR6 := R6.out.lt; have f60 := F6.out.cell 0 rfl; have f62 := F6.out.cell 2 rfl; have f63 := F6.out.cell 3 rfl; have zF6 := F6.out.lt; clear hb6 hb6') | (go_at_call 42; refine (RSep_any _ _ _ HP.out hsep).mono ?_; rintro e w' ⟨rfl, rfl⟩) | (go_at_call 62; refine (Rtaken_any A n c x l ⟨0, nm, 4, f.pa⟩ f.id g.id _ HN.out (HS.out.up ((B6.out.alloc B6.out.size (.cells #[.int .i64 g.id, .string g.nm, .int .i64 g.ty, .int .i64 g.pa] 41)).alloc (B6.out.alloc B6.out.size (.cells #[.int .i64 g.id, .string g.nm, .int .i64 g.ty, .int .i64 g.pa] 41)).size (.cells #[.int .i64 0, .string nm, .int .i64 4, .int .i64 f.pa] 41))) hl2 hnm).mono ?_; rintro e w8 ⟨rfl, hb8⟩; rw [HT.out]; have hb8' := (al2 w6 (.cells #[.int .i64 g.id, .string g.nm, .int .i64 g.ty, .int .i64 g.pa] 41) (.cells #[.int .i64 0, .string nm, .int .i64 4, .int .i64 f.pa] 41)).trans (hb8.mono (al2 w6 (.cells #[.int .i64 g.id, .string g.nm, .int .i64 g.ty, .int .i64 g.pa] 41) (.cells #[.int .i64 0, .string nm, .int .i64 4, .int .i64 f.pa] 41)).size); have F8 := Lib.hid (F6.out.up hb8'); have G8 := Lib.hid (((CB.new w6 41 [.int .i64 g.id, .string g.nm, .int .i64 g.ty, .int .i64 g.pa]).alloc (.cells #[.int .i64 0, .string nm, .int .i64 4, .int .i64 f.pa] 41)).up hb8); have H8 := Lib.hid ((CB.new1 w6 (.cells #[.int .i64 g.id, .string g.nm, .int .i64 g.ty, .int .i64 g.pa] 41) 41 [.int .i64 0, .string nm, .int .i64 4, .int .i64 f.pa]).up hb8); have S8 := Lib.hid (S6.out.up hb8'); have C8 := Lib.hid (C6.out.up hb8'); have R8 := Lib.hid (R6.out.up hb8'); have B8 := Lib.hid (below_step B6.out B6.out.size hb8'); have s80 := S8.out.cell 0 rfl; have s81 := S8.out.cell 1 rfl; have zS8 := S8.out.lt; have zC8 := C8.out.lt; have zR8 := R8.out.lt; have zF8 := F8.out.lt; have zG8 := G8.out.lt; have zH8 := H8.out.lt; clear hb8 hb8'))
                    have HSS : Hid (∀ W, Below w8.heap.size w8 W → W.cell? ⟨w.heap.size, 0, none⟩ = some (.slice A n c) ∧ W.cell? ⟨w.heap.size, 1, none⟩ = some (.int .i64 x) ∧ W.cell? ⟨w5.heap.size, 0, none⟩ = some (.int .i64 f.id) ∧ W.cell? ⟨w6.heap.size, 0, none⟩ = some (.int .i64 g.id) ∧ W.cell? ⟨w6.heap.size + 1, 0, none⟩ = some (.int .i64 0) ∧ W.cell? ⟨w6.heap.size + 1, 1, none⟩ = some (.string nm) ∧ W.cell? ⟨w6.heap.size + 1, 2, none⟩ = some (.int .i64 4) ∧ W.cell? ⟨w6.heap.size + 1, 3, none⟩ = some (.int .i64 f.pa)) := by
                      intro W hW
                      exact ⟨(S8.out.up hW).cell 0 rfl, (S8.out.up hW).cell 1 rfl, (F8.out.up hW).cell 0 rfl, (G8.out.up hW).cell 0 rfl, (H8.out.up hW).cell 0 rfl, (H8.out.up hW).cell 1 rfl, (H8.out.up hW).cell 2 rfl, (H8.out.up hW).cell 3 rfl⟩
                    have HRES : Hid (∀ W, Below w8.heap.size w8 W → W.cell? ⟨w.heap.size + 1 + 1, 0, none⟩ = some (.slice none 0 0) ∧ W.cell? ⟨w.heap.size + 1 + 1, 1, none⟩ = some (.int .i64 0) ∧ W.frozen? ⟨w.heap.size + 1 + 1, 0, none⟩ = false ∧ W.frozen? ⟨w.heap.size + 1 + 1, 1, none⟩ = false) := by
                      intro W hW
                      exact ⟨(R8.out.up hW).cell 0 rfl, (R8.out.up hW).cell 1 rfl, (R8.out.up hW).frozen 0, (R8.out.up hW).frozen 1⟩
                    have HLEN : (dropF2 l f.id g.id).length ≤ 100000 := by have := dr2_len l f.id g.id; rw [← HN.out] at this; omega
                    obtain ⟨x0, x1, x2, x3, x4, x5, x6, x7⟩ := HSS.out w8 (Below.refl _ _)
                    have n5 : ¬ w5.heap.size = w.heap.size + 1 + 1 := by omega
                    have n6 : ¬ w6.heap.size = w.heap.size + 1 + 1 := by omega
                    have n7 : ¬ w6.heap.size + 1 = w.heap.size + 1 + 1 := by omega
                    go_region_held_law (fun w' => w'.cell? ⟨w.heap.size, 0, none⟩ = some (.slice A n c) ∧ w'.cell? ⟨w.heap.size, 1, none⟩ = some (.int .i64 x) ∧ w'.cell? ⟨w5.heap.size, 0, none⟩ = some (.int .i64 f.id) ∧ w'.cell? ⟨w6.heap.size, 0, none⟩ = some (.int .i64 g.id) ∧ w'.cell? ⟨w6.heap.size + 1, 0, none⟩ = some (.int .i64 0) ∧ w'.cell? ⟨w6.heap.size + 1, 1, none⟩ = some (.string nm) ∧ w'.cell? ⟨w6.heap.size + 1, 2, none⟩ = some (.int .i64 4) ∧ w'.cell? ⟨w6.heap.size + 1, 3, none⟩ = some (.int .i64 f.pa))
                      (first | exact HSS.out _ (by first | exact hw9 | exact hw10 | exact hw9.drew | exact hw10.drew | exact bd _) | (refine ⟨?_, ?_, ?_, ?_, ?_, ?_, ?_, ?_⟩ <;> simp [go_sem, z0, z1, z2, z3, z4, z5, z6, z7]) | go_keep)
                      (first | (go_at_call 64; refine (Rwithout_any A n c x l f.id g.id _ HN.out (HS.out.up (B8.out.trans ((show Below w8.heap.size w8 _ by first | exact bd _ | exact Below.refl _ _).mono B8.out.size))) hl3).mono ?_; rintro e w9 ⟨⟨A9, c9, rfl, ho9⟩, hb9⟩; have hw9 : Below w8.heap.size w8 w9 := (by first | exact hb9 | exact (bd _).trans (hb9.mono (bd _).size)); have O9 := Lib.hid (ho9.low (b := w.heap.size) (by first | exact B8.out.size | exact Nat.le_trans B8.out.size (bd _).size)); have HB9 := Lib.hid hb9; clear ho9 hb9) | (go_at_call 63; refine (Rplus_any A9 (dropF2 l f.id g.id).length c9 x (dropF2 l f.id g.id) 0 nm 4 f.pa _ rfl ((show Fds w9 w9.heap.size A9 (dropF2 l f.id g.id) from O9.out.row.2.2.2).up (by first | exact Below.refl _ _ | exact bd _)) HLEN hx0 hx2).mono ?_; rintro e w10 ⟨⟨A10, c10, rfl, ho10⟩, hb10⟩; have hw10 : Below w8.heap.size w8 w10 := hw9.trans ((show Below w9.heap.size w9 w10 by first | exact hb10 | exact (bd _).trans (hb10.mono (bd _).size)).mono hw9.size); have O10 := Lib.hid (ho10.low (b := w.heap.size) (by first | exact Nat.le_trans B8.out.size hw9.size | exact Nat.le_trans B8.out.size (Nat.le_trans hw9.size (bd _).size))); obtain ⟨y0, y1, y2, y3⟩ := HRES.out _ hw10; obtain ⟨z0, z1, z2, z3, z4, z5, z6, z7⟩ := HSS.out _ hw10; clear ho10 hb10))
                    all_goals
                      go_wp2
                      have hq : CB ((w10.setCell ⟨w.heap.size + 1 + 1, 0, none⟩ (.slice A10 ((dropF2 l f.id g.id).length + 1) c10)).setCell ⟨w.heap.size + 1 + 1, 1, none⟩ (.int .i64 (x + 1))) (w.heap.size + 1 + 1) 30 [.slice A10 ((dropF2 l f.id g.id).length + 1) c10, .int .i64 (x + 1)] := ((R8.out.up hw10).set_ 0 _).set_ 1 _
                      have hne := O10.out.ne (R8.out.up hw10) (by decide)
                      refine bodyPost_ret (res_cell Try.results39 rfl rfl hq Try.underlying30 sizeS rfl) rfl ⟨?_, ((B8.out.trans (hw10.mono B8.out.size)).setCell (p := ⟨w.heap.size + 1 + 1, 0, none⟩) (by show w.heap.size ≤ w.heap.size + 1 + 1; omega) _).setCell (p := ⟨w.heap.size + 1 + 1, 1, none⟩) (by show w.heap.size ≤ w.heap.size + 1 + 1; omega) _⟩
                      rw [HRX.out]
                      exact ⟨A10, _, c10, rfl, by simp [withS], (O10.out.set_ 0 _ hne).set_ 1 _ hne⟩
                  · have jm : (1073741824 : Int) ≤ x := by omega
                    have HRX := Lib.hid (HE.out.trans (if_neg hm))
                    clear HE
                    have S0 := Lib.hid (((CB.new w 30 [.slice A n c, .int .i64 x]).alloc (.cells #[.int .i64 kd, .int .i64 id, .int .i64 wi, .string nm, .string ot, .int .i64 ty, .int .i64 pa, .string sep] 24)).alloc (.cells #[.slice none 0 0, .int .i64 0] 30))
                    have C0 := Lib.hid ((CB.new1 w (.cells #[.slice A n c, .int .i64 x] 30) 24 [.int .i64 kd, .int .i64 id, .int .i64 wi, .string nm, .string ot, .int .i64 ty, .int .i64 pa, .string sep]).alloc (.cells #[.slice none 0 0, .int .i64 0] 30))
                    have R0 := Lib.hid (CB.new2 w (.cells #[.slice A n c, .int .i64 x] 30) (.cells #[.int .i64 kd, .int .i64 id, .int .i64 wi, .string nm, .string ot, .int .i64 ty, .int .i64 pa, .string sep] 24) 30 [.slice none 0 0, .int .i64 0])
                    have B0 := Lib.hid (al3 w (.cells #[.slice A n c, .int .i64 x] 30) (.cells #[.int .i64 kd, .int .i64 id, .int .i64 wi, .string nm, .string ot, .int .i64 ty, .int .i64 pa, .string sep] 24) (.cells #[.slice none 0 0, .int .i64 0] 30))
                    have zR0 := R0.out.lt
                    have tokV : Hid True := Lib.hid trivial
                    go_enter Try.func39, Try.ntmps39
                    go_wp2_with (first | (have tokW := tokV; go_at_call 20; refine (RField_any A n c x l id _ HN.out (HS.out.up B0.out) hl2).mono ?_; rintro e w5 ⟨rfl, hb5⟩; rw [HF.out, HO1.out]; have S5 := Lib.hid (S0.out.up hb5); have C5 := Lib.hid (C0.out.up hb5); have R5 := Lib.hid (R0.out.up hb5); have B5 := Lib.hid (below_step B0.out B0.out.size hb5); have s50 := S5.out.cell 0 rfl; have s51 := S5.out.cell 1 rfl; have c50 := C5.out.cell 0 rfl; have c51 := C5.out.cell 1 rfl; have c52 := C5.out.cell 2 rfl; have c53 := C5.out.cell 3 rfl; have c54 := C5.out.cell 4 rfl; have c55 := C5.out.cell 5 rfl; have c56 := C5.out.cell 6 rfl; have c57 := C5.out.cell 7 rfl; have zS5 := S5.out.lt; have zC5 := C5.out.lt; have zR5 := R5.out.lt; clear hb5 tokV tokW) | (go_at_call 20; refine (RField_any A n c x l wi _ HN.out (HS.out.up (B5.out.alloc B5.out.size _)) hl2).mono ?_; rintro e w6 ⟨rfl, hb6⟩; rw [HG.out, HO2.out]; have hb6' := (al1 w5 (.cells #[.int .i64 f.id, .string f.nm, .int .i64 f.ty, .int .i64 f.pa] 41)).trans (hb6.mono (al1 w5 (.cells #[.int .i64 f.id, .string f.nm, .int .i64 f.ty, .int .i64 f.pa] 41)).size); have F6 := Lib.hid ((CB.new w5 41 [.int .i64 f.id, .string f.nm, .int .i64 f.ty, .int .i64 f.pa]).up hb6); have S6 := Lib.hid (S5.out.up hb6'); have C6 := Lib.hid (C5.out.up hb6'); have R6 := Lib.hid (R5.out.up hb6'); have B6 := Lib.hid (below_step B5.out B5.out.size hb6'); have s60 := S6.out.cell 0 rfl; have s61 := S6.out.cell 1 rfl; have c60 := C6.out.cell 0 rfl; have c61 := C6.out.cell 1 rfl; have c62 := C6.out.cell 2 rfl; have c63 := C6.out.cell 3 rfl; have c64 := C6.out.cell 4 rfl; have c65 := C6.out.cell 5 rfl; have c66 := C6.out.cell 6 rfl; have c67 := C6.out.cell 7 rfl; have zS6 := S6.out.lt; have zC6 := C6.out.lt; have zR6 := R6.out.lt; have f60 := F6.out.cell 0 rfl; have f62 := F6.out.cell 2 rfl; have f63 := F6.out.cell 3 rfl; have zF6 := F6.out.lt; clear hb6 hb6') | (go_at_call 42; refine (RSep_any _ _ _ HP.out hsep).mono ?_; rintro e w' ⟨rfl, rfl⟩) | (go_at_call 62; refine (Rtaken_any A n c x l ⟨0, nm, 4, f.pa⟩ f.id g.id _ HN.out (HS.out.up ((B6.out.alloc B6.out.size (.cells #[.int .i64 g.id, .string g.nm, .int .i64 g.ty, .int .i64 g.pa] 41)).alloc (B6.out.alloc B6.out.size (.cells #[.int .i64 g.id, .string g.nm, .int .i64 g.ty, .int .i64 g.pa] 41)).size (.cells #[.int .i64 0, .string nm, .int .i64 4, .int .i64 f.pa] 41))) hl2 hnm).mono ?_; rintro e w8 ⟨rfl, hb8⟩; rw [HT.out]; have hb8' := (al2 w6 (.cells #[.int .i64 g.id, .string g.nm, .int .i64 g.ty, .int .i64 g.pa] 41) (.cells #[.int .i64 0, .string nm, .int .i64 4, .int .i64 f.pa] 41)).trans (hb8.mono (al2 w6 (.cells #[.int .i64 g.id, .string g.nm, .int .i64 g.ty, .int .i64 g.pa] 41) (.cells #[.int .i64 0, .string nm, .int .i64 4, .int .i64 f.pa] 41)).size); have F8 := Lib.hid (F6.out.up hb8'); have G8 := Lib.hid (((CB.new w6 41 [.int .i64 g.id, .string g.nm, .int .i64 g.ty, .int .i64 g.pa]).alloc (.cells #[.int .i64 0, .string nm, .int .i64 4, .int .i64 f.pa] 41)).up hb8); have H8 := Lib.hid ((CB.new1 w6 (.cells #[.int .i64 g.id, .string g.nm, .int .i64 g.ty, .int .i64 g.pa] 41) 41 [.int .i64 0, .string nm, .int .i64 4, .int .i64 f.pa]).up hb8); have S8 := Lib.hid (S6.out.up hb8'); have C8 := Lib.hid (C6.out.up hb8'); have R8 := Lib.hid (R6.out.up hb8'); have B8 := Lib.hid (below_step B6.out B6.out.size hb8'); have s80 := S8.out.cell 0 rfl; have s81 := S8.out.cell 1 rfl; have zS8 := S8.out.lt; have zC8 := C8.out.lt; have zR8 := R8.out.lt; have zF8 := F8.out.lt; have zG8 := G8.out.lt; have zH8 := H8.out.lt; clear hb8 hb8') | ((with_reducible show wpList _ _ _ _ _ _); refine wpList_store_cb rfl 30 (.tmp 4) (.tmp 76) rfl (w.heap.size + 1 + 1) [.slice none 0 0, .int .i64 0] rfl rfl 30 [.slice none 0 0, .int .i64 0] 2 R8.out sizeS rfl rfl (one_s _ _ _ _) ?_; intro wz hcz hgz hzz))
                    all_goals
                      refine bodyPost_ret (res_cell Try.results39 rfl rfl hcz Try.underlying30 sizeS rfl) rfl ⟨?_, below_grown B8.out hgz (by omega) (by omega)⟩
                      rw [HRX.out]
                      exact res_zero _ _ _
            · have e3 : (f.pa != g.pa) = true := by simpa using h3
              have HRX := Lib.hid (HE.out.trans (if_neg h3))
              clear HE h3
              have S0 := Lib.hid (((CB.new w 30 [.slice A n c, .int .i64 x]).alloc (.cells #[.int .i64 kd, .int .i64 id, .int .i64 wi, .string nm, .string ot, .int .i64 ty, .int .i64 pa, .string sep] 24)).alloc (.cells #[.slice none 0 0, .int .i64 0] 30))
              have C0 := Lib.hid ((CB.new1 w (.cells #[.slice A n c, .int .i64 x] 30) 24 [.int .i64 kd, .int .i64 id, .int .i64 wi, .string nm, .string ot, .int .i64 ty, .int .i64 pa, .string sep]).alloc (.cells #[.slice none 0 0, .int .i64 0] 30))
              have R0 := Lib.hid (CB.new2 w (.cells #[.slice A n c, .int .i64 x] 30) (.cells #[.int .i64 kd, .int .i64 id, .int .i64 wi, .string nm, .string ot, .int .i64 ty, .int .i64 pa, .string sep] 24) 30 [.slice none 0 0, .int .i64 0])
              have B0 := Lib.hid (al3 w (.cells #[.slice A n c, .int .i64 x] 30) (.cells #[.int .i64 kd, .int .i64 id, .int .i64 wi, .string nm, .string ot, .int .i64 ty, .int .i64 pa, .string sep] 24) (.cells #[.slice none 0 0, .int .i64 0] 30))
              have zR0 := R0.out.lt
              have tokV : Hid True := Lib.hid trivial
              go_enter Try.func39, Try.ntmps39
              go_wp2_with (first | (have tokW := tokV; go_at_call 20; refine (RField_any A n c x l id _ HN.out (HS.out.up B0.out) hl2).mono ?_; rintro e w5 ⟨rfl, hb5⟩; rw [HF.out, HO1.out]; have S5 := Lib.hid (S0.out.up hb5); have C5 := Lib.hid (C0.out.up hb5); have R5 := Lib.hid (R0.out.up hb5); have B5 := Lib.hid (below_step B0.out B0.out.size hb5); have s50 := S5.out.cell 0 rfl; have s51 := S5.out.cell 1 rfl; have c50 := C5.out.cell 0 rfl; have c51 := C5.out.cell 1 rfl; have c52 := C5.out.cell 2 rfl; have c53 := C5.out.cell 3 rfl; have c54 := C5.out.cell 4 rfl; have c55 := C5.out.cell 5 rfl; have c56 := C5.out.cell 6 rfl; have c57 := C5.out.cell 7 rfl; have zS5 := S5.out.lt; have zC5 := C5.out.lt; have zR5 := R5.out.lt; clear hb5 tokV tokW) | (go_at_call 20; refine (RField_any A n c x l wi _ HN.out (HS.out.up (B5.out.alloc B5.out.size _)) hl2).mono ?_; rintro e w6 ⟨rfl, hb6⟩; rw [HG.out, HO2.out]; have hb6' := (al1 w5 (.cells #[.int .i64 f.id, .string f.nm, .int .i64 f.ty, .int .i64 f.pa] 41)).trans (hb6.mono (al1 w5 (.cells #[.int .i64 f.id, .string f.nm, .int .i64 f.ty, .int .i64 f.pa] 41)).size); have F6 := Lib.hid ((CB.new w5 41 [.int .i64 f.id, .string f.nm, .int .i64 f.ty, .int .i64 f.pa]).up hb6); have S6 := Lib.hid (S5.out.up hb6'); have C6 := Lib.hid (C5.out.up hb6'); have R6 := Lib.hid (R5.out.up hb6'); have B6 := Lib.hid (below_step B5.out B5.out.size hb6'); have s60 := S6.out.cell 0 rfl; have s61 := S6.out.cell 1 rfl; have c60 := C6.out.cell 0 rfl; have c61 := C6.out.cell 1 rfl; have c62 := C6.out.cell 2 rfl; have c63 := C6.out.cell 3 rfl; have c64 := C6.out.cell 4 rfl; have c65 := C6.out.cell 5 rfl; have c66 := C6.out.cell 6 rfl; have c67 := C6.out.cell 7 rfl; have zS6 := S6.out.lt; have zC6 := C6.out.lt; have zR6 := R6.out.lt; have f60 := F6.out.cell 0 rfl; have f62 := F6.out.cell 2 rfl; have f63 := F6.out.cell 3 rfl; have zF6 := F6.out.lt; clear hb6 hb6') | ((with_reducible show wpList _ _ _ _ _ _); refine wpList_store_cb rfl 30 (.tmp 4) (.tmp 53) rfl (w.heap.size + 1 + 1) [.slice none 0 0, .int .i64 0] rfl rfl 30 [.slice none 0 0, .int .i64 0] 2 (R6.out.alloc _) sizeS rfl rfl (one_s _ _ _ _) ?_; intro wz hcz hgz hzz))
              all_goals
                refine bodyPost_ret (res_cell Try.results39 rfl rfl hcz Try.underlying30 sizeS rfl) rfl ⟨?_, below_grown (B6.out.alloc B6.out.size _) hgz (by rw [asz]; omega) (by omega)⟩
                rw [HRX.out]
                exact res_zero _ _ _
          · have e2 : (g.ty != 4) = true := by simpa using h2
            have HRX := Lib.hid (HE.out.trans (if_neg (fun h => h2 h.2)))
            clear HE h2 h1
            have S0 := Lib.hid (((CB.new w 30 [.slice A n c, .int .i64 x]).alloc (.cells #[.int .i64 kd, .int .i64 id, .int .i64 wi, .string nm, .string ot, .int .i64 ty, .int .i64 pa, .string sep] 24)).alloc (.cells #[.slice none 0 0, .int .i64 0] 30))
            have C0 := Lib.hid ((CB.new1 w (.cells #[.slice A n c, .int .i64 x] 30) 24 [.int .i64 kd, .int .i64 id, .int .i64 wi, .string nm, .string ot, .int .i64 ty, .int .i64 pa, .string sep]).alloc (.cells #[.slice none 0 0, .int .i64 0] 30))
            have R0 := Lib.hid (CB.new2 w (.cells #[.slice A n c, .int .i64 x] 30) (.cells #[.int .i64 kd, .int .i64 id, .int .i64 wi, .string nm, .string ot, .int .i64 ty, .int .i64 pa, .string sep] 24) 30 [.slice none 0 0, .int .i64 0])
            have B0 := Lib.hid (al3 w (.cells #[.slice A n c, .int .i64 x] 30) (.cells #[.int .i64 kd, .int .i64 id, .int .i64 wi, .string nm, .string ot, .int .i64 ty, .int .i64 pa, .string sep] 24) (.cells #[.slice none 0 0, .int .i64 0] 30))
            have zR0 := R0.out.lt
            have tokV : Hid True := Lib.hid trivial
            go_enter Try.func39, Try.ntmps39
            go_wp2_with (first | (have tokW := tokV; go_at_call 20; refine (RField_any A n c x l id _ HN.out (HS.out.up B0.out) hl2).mono ?_; rintro e w5 ⟨rfl, hb5⟩; rw [HF.out, HO1.out]; have S5 := Lib.hid (S0.out.up hb5); have C5 := Lib.hid (C0.out.up hb5); have R5 := Lib.hid (R0.out.up hb5); have B5 := Lib.hid (below_step B0.out B0.out.size hb5); have s50 := S5.out.cell 0 rfl; have s51 := S5.out.cell 1 rfl; have c50 := C5.out.cell 0 rfl; have c51 := C5.out.cell 1 rfl; have c52 := C5.out.cell 2 rfl; have c53 := C5.out.cell 3 rfl; have c54 := C5.out.cell 4 rfl; have c55 := C5.out.cell 5 rfl; have c56 := C5.out.cell 6 rfl; have c57 := C5.out.cell 7 rfl; have zS5 := S5.out.lt; have zC5 := C5.out.lt; have zR5 := R5.out.lt; clear hb5 tokV tokW) | (go_at_call 20; refine (RField_any A n c x l wi _ HN.out (HS.out.up (B5.out.alloc B5.out.size _)) hl2).mono ?_; rintro e w6 ⟨rfl, hb6⟩; rw [HG.out, HO2.out]; have hb6' := (al1 w5 (.cells #[.int .i64 f.id, .string f.nm, .int .i64 f.ty, .int .i64 f.pa] 41)).trans (hb6.mono (al1 w5 (.cells #[.int .i64 f.id, .string f.nm, .int .i64 f.ty, .int .i64 f.pa] 41)).size); have F6 := Lib.hid ((CB.new w5 41 [.int .i64 f.id, .string f.nm, .int .i64 f.ty, .int .i64 f.pa]).up hb6); have S6 := Lib.hid (S5.out.up hb6'); have C6 := Lib.hid (C5.out.up hb6'); have R6 := Lib.hid (R5.out.up hb6'); have B6 := Lib.hid (below_step B5.out B5.out.size hb6'); have s60 := S6.out.cell 0 rfl; have s61 := S6.out.cell 1 rfl; have c60 := C6.out.cell 0 rfl; have c61 := C6.out.cell 1 rfl; have c62 := C6.out.cell 2 rfl; have c63 := C6.out.cell 3 rfl; have c64 := C6.out.cell 4 rfl; have c65 := C6.out.cell 5 rfl; have c66 := C6.out.cell 6 rfl; have c67 := C6.out.cell 7 rfl; have zS6 := S6.out.lt; have zC6 := C6.out.lt; have zR6 := R6.out.lt; have f60 := F6.out.cell 0 rfl; have f62 := F6.out.cell 2 rfl; have f63 := F6.out.cell 3 rfl; have zF6 := F6.out.lt; clear hb6 hb6') | ((with_reducible show wpList _ _ _ _ _ _); refine wpList_store_cb rfl 30 (.tmp 4) (.tmp 47) rfl (w.heap.size + 1 + 1) [.slice none 0 0, .int .i64 0] rfl rfl 30 [.slice none 0 0, .int .i64 0] 2 (R6.out.alloc _) sizeS rfl rfl (one_s _ _ _ _) ?_; intro wz hcz hgz hzz))
            all_goals
              refine bodyPost_ret (res_cell Try.results39 rfl rfl hcz Try.underlying30 sizeS rfl) rfl ⟨?_, below_grown (B6.out.alloc B6.out.size _) hgz (by rw [asz]; omega) (by omega)⟩
              rw [HRX.out]
              exact res_zero _ _ _
        · have e1 : (f.ty != 4) = true := by simpa using h1
          have HRX := Lib.hid (HE.out.trans (if_neg (fun h => h1 h.1)))
          clear HE h1
          have S0 := Lib.hid (((CB.new w 30 [.slice A n c, .int .i64 x]).alloc (.cells #[.int .i64 kd, .int .i64 id, .int .i64 wi, .string nm, .string ot, .int .i64 ty, .int .i64 pa, .string sep] 24)).alloc (.cells #[.slice none 0 0, .int .i64 0] 30))
          have C0 := Lib.hid ((CB.new1 w (.cells #[.slice A n c, .int .i64 x] 30) 24 [.int .i64 kd, .int .i64 id, .int .i64 wi, .string nm, .string ot, .int .i64 ty, .int .i64 pa, .string sep]).alloc (.cells #[.slice none 0 0, .int .i64 0] 30))
          have R0 := Lib.hid (CB.new2 w (.cells #[.slice A n c, .int .i64 x] 30) (.cells #[.int .i64 kd, .int .i64 id, .int .i64 wi, .string nm, .string ot, .int .i64 ty, .int .i64 pa, .string sep] 24) 30 [.slice none 0 0, .int .i64 0])
          have B0 := Lib.hid (al3 w (.cells #[.slice A n c, .int .i64 x] 30) (.cells #[.int .i64 kd, .int .i64 id, .int .i64 wi, .string nm, .string ot, .int .i64 ty, .int .i64 pa, .string sep] 24) (.cells #[.slice none 0 0, .int .i64 0] 30))
          have zR0 := R0.out.lt
          have tokV : Hid True := Lib.hid trivial
          go_enter Try.func39, Try.ntmps39
          go_wp2_with (first | (have tokW := tokV; go_at_call 20; refine (RField_any A n c x l id _ HN.out (HS.out.up B0.out) hl2).mono ?_; rintro e w5 ⟨rfl, hb5⟩; rw [HF.out, HO1.out]; have S5 := Lib.hid (S0.out.up hb5); have C5 := Lib.hid (C0.out.up hb5); have R5 := Lib.hid (R0.out.up hb5); have B5 := Lib.hid (below_step B0.out B0.out.size hb5); have s50 := S5.out.cell 0 rfl; have s51 := S5.out.cell 1 rfl; have c50 := C5.out.cell 0 rfl; have c51 := C5.out.cell 1 rfl; have c52 := C5.out.cell 2 rfl; have c53 := C5.out.cell 3 rfl; have c54 := C5.out.cell 4 rfl; have c55 := C5.out.cell 5 rfl; have c56 := C5.out.cell 6 rfl; have c57 := C5.out.cell 7 rfl; have zS5 := S5.out.lt; have zC5 := C5.out.lt; have zR5 := R5.out.lt; clear hb5 tokV tokW) | (go_at_call 20; refine (RField_any A n c x l wi _ HN.out (HS.out.up (B5.out.alloc B5.out.size _)) hl2).mono ?_; rintro e w6 ⟨rfl, hb6⟩; rw [HG.out, HO2.out]; have hb6' := (al1 w5 (.cells #[.int .i64 f.id, .string f.nm, .int .i64 f.ty, .int .i64 f.pa] 41)).trans (hb6.mono (al1 w5 (.cells #[.int .i64 f.id, .string f.nm, .int .i64 f.ty, .int .i64 f.pa] 41)).size); have F6 := Lib.hid ((CB.new w5 41 [.int .i64 f.id, .string f.nm, .int .i64 f.ty, .int .i64 f.pa]).up hb6); have S6 := Lib.hid (S5.out.up hb6'); have C6 := Lib.hid (C5.out.up hb6'); have R6 := Lib.hid (R5.out.up hb6'); have B6 := Lib.hid (below_step B5.out B5.out.size hb6'); have s60 := S6.out.cell 0 rfl; have s61 := S6.out.cell 1 rfl; have c60 := C6.out.cell 0 rfl; have c61 := C6.out.cell 1 rfl; have c62 := C6.out.cell 2 rfl; have c63 := C6.out.cell 3 rfl; have c64 := C6.out.cell 4 rfl; have c65 := C6.out.cell 5 rfl; have c66 := C6.out.cell 6 rfl; have c67 := C6.out.cell 7 rfl; have zS6 := S6.out.lt; have zC6 := C6.out.lt; have zR6 := R6.out.lt; have f60 := F6.out.cell 0 rfl; have f62 := F6.out.cell 2 rfl; have f63 := F6.out.cell 3 rfl; have zF6 := F6.out.lt; clear hb6 hb6') | ((with_reducible show wpList _ _ _ _ _ _); refine wpList_store_cb rfl 30 (.tmp 4) (.tmp 47) rfl (w.heap.size + 1 + 1) [.slice none 0 0, .int .i64 0] rfl rfl 30 [.slice none 0 0, .int .i64 0] 2 (R6.out.alloc _) sizeS rfl rfl (one_s _ _ _ _) ?_; intro wz hcz hgz hzz))
          all_goals
            refine bodyPost_ret (res_cell Try.results39 rfl rfl hcz Try.underlying30 sizeS rfl) rfl ⟨?_, below_grown (B6.out.alloc B6.out.size _) hgz (by rw [asz]; omega) (by omega)⟩
            rw [HRX.out]
            exact res_zero _ _ _

end Go.Proofs.Ytpgbpfdedpppeaa
