/-
  The reference's add, by a contract.
-/
import Derived.Test.YtpgbpfdedpppeaaRPls
import Derived.Test.YtpgbpfdedpppeaaKindP
namespace Go.Proofs.Ytpgbpfdedpppeaa
open Go.RowKit

def addR (s : Sc) (c : Ch) : Sc × Int :=
  if typB c.ty = true then (if grpB s.fs c.pa = true ∧ depL s.fs c.pa < 8 then (if takB s.fs ⟨0, c.nm, c.ty, c.pa⟩ 0 0 = true then (Sc.zero, 60) else if s.fs.length < 64 ∧ s.next < 1073741824 then (withS s c.nm c.ty c.pa, 0) else (Sc.zero, 2)) else (Sc.zero, 63)) else (Sc.zero, 7)

set_option maxHeartbeats 4000000 in
set_option maxRecDepth 20000 in
theorem Radd_any (A : Option Addr) (n c : Nat) (x : Int) (l : List Fd) (kd id wi : Int) (nm ot : ByteArray) (ty pa : Int) (sep : ByteArray) (w : World) (hn : n = l.length) (hs : Fds w w.heap.size A l) (hl0 : n ≤ 1000) (hx0 : 0 ≤ x) (hx1 : x ≤ 2305843009213693952) (hnm : nm.size ≤ 9223372036854775807) (_hot : ot.size ≤ 9223372036854775807) (_hsep : sep.size ≤ 9223372036854775807) :
    Calls Try.prog 36 #[.agg #[.slice A n c, .int .i64 x], .agg #[.int .i64 kd, .int .i64 id, .int .i64 wi, .string nm, .string ot, .int .i64 ty, .int .i64 pa, .string sep]] w fun e w' => ResS w w' (addR ⟨l, x⟩ ⟨kd, id, wi, nm, ot, ty, pa, sep⟩) e ∧ Below w.heap.size w w' := by
  have HN := Lib.hid hn
  have HS := Lib.hid hs
  clear hn hs
  have hl : n ≤ 100000 := by omega
  have hl2 : n ≤ 9223372036854775807 := by omega
  have hl3 : n ≤ 1000000 := by omega
  have hx2 : x ≤ 4611686018427387904 := by omega
  obtain ⟨bG, hG⟩ : ∃ b, grpB l pa = b := ⟨_, rfl⟩
  obtain ⟨d, hD⟩ : ∃ d, depL l pa = d := ⟨_, rfl⟩
  obtain ⟨bT, hT⟩ : ∃ b, takB l ⟨0, nm, ty, pa⟩ 0 0 = b := ⟨_, rfl⟩
  have HE : Hid (addR ⟨l, x⟩ ⟨kd, id, wi, nm, ot, ty, pa, sep⟩ = if typB ty = true then (if bG = true ∧ d < 8 then (if bT = true then (Sc.zero, 60) else if n < 64 ∧ x < 1073741824 then (withS ⟨l, x⟩ nm ty pa, 0) else (Sc.zero, 2)) else (Sc.zero, 63)) else (Sc.zero, 7)) := by
    show _ = _
    unfold addR
    simp only [hG, hD, hT, ← HN.out]
  have HG := Lib.hid hG
  have HD := Lib.hid hD
  have HT := Lib.hid hT
  clear hG hD hT
  by_cases h1 : ty < 1
  · have h1' : typB ty = false := by unfold typB; simp; omega
    have HR := HE.out
    rw [if_neg (by rw [h1']; decide)] at HR; clear h1'
    have HRX := Lib.hid HR
    clear HR HE
    have S0 := Lib.hid (((CB.new w 30 [.slice A n c, .int .i64 x]).alloc (.cells #[.int .i64 kd, .int .i64 id, .int .i64 wi, .string nm, .string ot, .int .i64 ty, .int .i64 pa, .string sep] 24)).alloc (.cells #[.slice none 0 0, .int .i64 0] 30))
    have C0 := Lib.hid ((CB.new1 w (.cells #[.slice A n c, .int .i64 x] 30) 24 [.int .i64 kd, .int .i64 id, .int .i64 wi, .string nm, .string ot, .int .i64 ty, .int .i64 pa, .string sep]).alloc (.cells #[.slice none 0 0, .int .i64 0] 30))
    have R0 := Lib.hid (CB.new2 w (.cells #[.slice A n c, .int .i64 x] 30) (.cells #[.int .i64 kd, .int .i64 id, .int .i64 wi, .string nm, .string ot, .int .i64 ty, .int .i64 pa, .string sep] 24) 30 [.slice none 0 0, .int .i64 0])
    have B0 := Lib.hid (al3 w (.cells #[.slice A n c, .int .i64 x] 30) (.cells #[.int .i64 kd, .int .i64 id, .int .i64 wi, .string nm, .string ot, .int .i64 ty, .int .i64 pa, .string sep] 24) (.cells #[.slice none 0 0, .int .i64 0] 30))
    have zR0 := R0.out.lt
    go_enter Try.func36, Try.ntmps36
    go_wp2_with (first | ((with_reducible show wpList _ _ _ _ _ _); refine wpList_store_cb rfl 30 (.tmp 4) (.tmp 15) rfl (w.heap.size + 1 + 1) [.slice none 0 0, .int .i64 0] rfl rfl 30 [.slice none 0 0, .int .i64 0] 2 (R0.out) sizeS rfl rfl (one_s _ _ _ _) ?_; intro wz hcz hgz hzz))
    all_goals
      refine bodyPost_ret (res_cell Try.results36 rfl rfl hcz Try.underlying30 sizeS rfl) rfl ⟨?_, below_grown B0.out hgz (by omega) (by omega)⟩
      rw [HRX.out]
      exact res_zero _ _ _
  · by_cases h6 : 6 < ty
    · have h1' : typB ty = false := by unfold typB; simp; omega
      have HR := HE.out
      rw [if_neg (by rw [h1']; decide)] at HR; clear h1'
      have HRX := Lib.hid HR
      clear HR HE
      have S0 := Lib.hid (((CB.new w 30 [.slice A n c, .int .i64 x]).alloc (.cells #[.int .i64 kd, .int .i64 id, .int .i64 wi, .string nm, .string ot, .int .i64 ty, .int .i64 pa, .string sep] 24)).alloc (.cells #[.slice none 0 0, .int .i64 0] 30))
      have C0 := Lib.hid ((CB.new1 w (.cells #[.slice A n c, .int .i64 x] 30) 24 [.int .i64 kd, .int .i64 id, .int .i64 wi, .string nm, .string ot, .int .i64 ty, .int .i64 pa, .string sep]).alloc (.cells #[.slice none 0 0, .int .i64 0] 30))
      have R0 := Lib.hid (CB.new2 w (.cells #[.slice A n c, .int .i64 x] 30) (.cells #[.int .i64 kd, .int .i64 id, .int .i64 wi, .string nm, .string ot, .int .i64 ty, .int .i64 pa, .string sep] 24) 30 [.slice none 0 0, .int .i64 0])
      have B0 := Lib.hid (al3 w (.cells #[.slice A n c, .int .i64 x] 30) (.cells #[.int .i64 kd, .int .i64 id, .int .i64 wi, .string nm, .string ot, .int .i64 ty, .int .i64 pa, .string sep] 24) (.cells #[.slice none 0 0, .int .i64 0] 30))
      have zR0 := R0.out.lt
      go_enter Try.func36, Try.ntmps36
      go_wp2_with (first | ((with_reducible show wpList _ _ _ _ _ _); refine wpList_store_cb rfl 30 (.tmp 4) (.tmp 15) rfl (w.heap.size + 1 + 1) [.slice none 0 0, .int .i64 0] rfl rfl 30 [.slice none 0 0, .int .i64 0] 2 (R0.out) sizeS rfl rfl (one_s _ _ _ _) ?_; intro wz hcz hgz hzz))
      all_goals
        refine bodyPost_ret (res_cell Try.results36 rfl rfl hcz Try.underlying30 sizeS rfl) rfl ⟨?_, below_grown B0.out hgz (by omega) (by omega)⟩
        rw [HRX.out]
        exact res_zero _ _ _
    · have h1' : typB ty = true := by unfold typB; simp; omega
      have HE1 := HE.out
      rw [if_pos h1'] at HE1
      clear HE h1'
      have HE := Lib.hid HE1
      clear HE1
      cases bG with
      | false =>
        have HR := HE.out
        rw [if_neg (by simp)] at HR
        have HRX := Lib.hid HR
        clear HR HE
        have S0 := Lib.hid (((CB.new w 30 [.slice A n c, .int .i64 x]).alloc (.cells #[.int .i64 kd, .int .i64 id, .int .i64 wi, .string nm, .string ot, .int .i64 ty, .int .i64 pa, .string sep] 24)).alloc (.cells #[.slice none 0 0, .int .i64 0] 30))
        have C0 := Lib.hid ((CB.new1 w (.cells #[.slice A n c, .int .i64 x] 30) 24 [.int .i64 kd, .int .i64 id, .int .i64 wi, .string nm, .string ot, .int .i64 ty, .int .i64 pa, .string sep]).alloc (.cells #[.slice none 0 0, .int .i64 0] 30))
        have R0 := Lib.hid (CB.new2 w (.cells #[.slice A n c, .int .i64 x] 30) (.cells #[.int .i64 kd, .int .i64 id, .int .i64 wi, .string nm, .string ot, .int .i64 ty, .int .i64 pa, .string sep] 24) 30 [.slice none 0 0, .int .i64 0])
        have B0 := Lib.hid (al3 w (.cells #[.slice A n c, .int .i64 x] 30) (.cells #[.int .i64 kd, .int .i64 id, .int .i64 wi, .string nm, .string ot, .int .i64 ty, .int .i64 pa, .string sep] 24) (.cells #[.slice none 0 0, .int .i64 0] 30))
        have zR0 := R0.out.lt
        go_enter Try.func36, Try.ntmps36
        go_wp2_with (first | (go_at_call 43; refine (Rgroup_any A n c x l pa _ HN.out (HS.out.up B0.out) hl2).mono ?_; rintro e w5 ⟨rfl, hb5⟩; rw [HG.out]; have S5 := Lib.hid (S0.out.up hb5); have C5 := Lib.hid (C0.out.up hb5); have R5 := Lib.hid (R0.out.up hb5); have B5 := Lib.hid (below_step B0.out B0.out.size hb5); have s50 := S5.out.cell 0 rfl; have s51 := S5.out.cell 1 rfl; have c50 := C5.out.cell 0 rfl; have c51 := C5.out.cell 1 rfl; have c52 := C5.out.cell 2 rfl; have c53 := C5.out.cell 3 rfl; have c54 := C5.out.cell 4 rfl; have c55 := C5.out.cell 5 rfl; have c56 := C5.out.cell 6 rfl; have c57 := C5.out.cell 7 rfl; have zS5 := S5.out.lt; have zC5 := C5.out.lt; have zR5 := R5.out.lt; clear hb5) | ((with_reducible show wpList _ _ _ _ _ _); refine wpList_store_cb rfl 30 (.tmp 4) (.tmp 28) rfl (w.heap.size + 1 + 1) [.slice none 0 0, .int .i64 0] rfl rfl 30 [.slice none 0 0, .int .i64 0] 2 (R5.out) sizeS rfl rfl (one_s _ _ _ _) ?_; intro wz hcz hgz hzz))
        all_goals
          refine bodyPost_ret (res_cell Try.results36 rfl rfl hcz Try.underlying30 sizeS rfl) rfl ⟨?_, below_grown B5.out hgz (by omega) (by omega)⟩
          rw [HRX.out]
          exact res_zero _ _ _
      | true =>
        by_cases h8 : 8 ≤ d
        · have hd8 : ¬ d < 8 := by omega
          have HR := HE.out
          rw [if_neg (by simp; omega)] at HR
          have HRX := Lib.hid HR
          clear HR HE
          have S0 := Lib.hid (((CB.new w 30 [.slice A n c, .int .i64 x]).alloc (.cells #[.int .i64 kd, .int .i64 id, .int .i64 wi, .string nm, .string ot, .int .i64 ty, .int .i64 pa, .string sep] 24)).alloc (.cells #[.slice none 0 0, .int .i64 0] 30))
          have C0 := Lib.hid ((CB.new1 w (.cells #[.slice A n c, .int .i64 x] 30) 24 [.int .i64 kd, .int .i64 id, .int .i64 wi, .string nm, .string ot, .int .i64 ty, .int .i64 pa, .string sep]).alloc (.cells #[.slice none 0 0, .int .i64 0] 30))
          have R0 := Lib.hid (CB.new2 w (.cells #[.slice A n c, .int .i64 x] 30) (.cells #[.int .i64 kd, .int .i64 id, .int .i64 wi, .string nm, .string ot, .int .i64 ty, .int .i64 pa, .string sep] 24) 30 [.slice none 0 0, .int .i64 0])
          have B0 := Lib.hid (al3 w (.cells #[.slice A n c, .int .i64 x] 30) (.cells #[.int .i64 kd, .int .i64 id, .int .i64 wi, .string nm, .string ot, .int .i64 ty, .int .i64 pa, .string sep] 24) (.cells #[.slice none 0 0, .int .i64 0] 30))
          have zR0 := R0.out.lt
          go_enter Try.func36, Try.ntmps36
          go_wp2_with (first | (go_at_call 43; refine (Rgroup_any A n c x l pa _ HN.out (HS.out.up B0.out) hl2).mono ?_; rintro e w5 ⟨rfl, hb5⟩; rw [HG.out]; have S5 := Lib.hid (S0.out.up hb5); have C5 := Lib.hid (C0.out.up hb5); have R5 := Lib.hid (R0.out.up hb5); have B5 := Lib.hid (below_step B0.out B0.out.size hb5); have s50 := S5.out.cell 0 rfl; have s51 := S5.out.cell 1 rfl; have c50 := C5.out.cell 0 rfl; have c51 := C5.out.cell 1 rfl; have c52 := C5.out.cell 2 rfl; have c53 := C5.out.cell 3 rfl; have c54 := C5.out.cell 4 rfl; have c55 := C5.out.cell 5 rfl; have c56 := C5.out.cell 6 rfl; have c57 := C5.out.cell 7 rfl; have zS5 := S5.out.lt; have zC5 := C5.out.lt; have zR5 := R5.out.lt; clear hb5) | (go_at_call 48; refine (Rdepth_any A n c x l pa _ HN.out (HS.out.up B5.out) hl2).mono ?_; rintro e w6 ⟨rfl, hb6⟩; rw [HD.out]; have S6 := Lib.hid (S5.out.up hb6); have C6 := Lib.hid (C5.out.up hb6); have R6 := Lib.hid (R5.out.up hb6); have B6 := Lib.hid (below_step B5.out B5.out.size hb6); have s60 := S6.out.cell 0 rfl; have s61 := S6.out.cell 1 rfl; have c60 := C6.out.cell 0 rfl; have c61 := C6.out.cell 1 rfl; have c62 := C6.out.cell 2 rfl; have c63 := C6.out.cell 3 rfl; have c64 := C6.out.cell 4 rfl; have c65 := C6.out.cell 5 rfl; have c66 := C6.out.cell 6 rfl; have c67 := C6.out.cell 7 rfl; have zS6 := S6.out.lt; have zC6 := C6.out.lt; have zR6 := R6.out.lt; clear hb6) | ((with_reducible show wpList _ _ _ _ _ _); refine wpList_store_cb rfl 30 (.tmp 4) (.tmp 28) rfl (w.heap.size + 1 + 1) [.slice none 0 0, .int .i64 0] rfl rfl 30 [.slice none 0 0, .int .i64 0] 2 (R6.out) sizeS rfl rfl (one_s _ _ _ _) ?_; intro wz hcz hgz hzz))
          all_goals
            refine bodyPost_ret (res_cell Try.results36 rfl rfl hcz Try.underlying30 sizeS rfl) rfl ⟨?_, below_grown B6.out hgz (by omega) (by omega)⟩
            rw [HRX.out]
            exact res_zero _ _ _
        · have hd8 : d < 8 := by omega
          cases bT with
          | true =>
            have HR := HE.out
            rw [if_pos ⟨rfl, hd8⟩, if_pos rfl] at HR
            have HRX := Lib.hid HR
            clear HR HE
            have S0 := Lib.hid (((CB.new w 30 [.slice A n c, .int .i64 x]).alloc (.cells #[.int .i64 kd, .int .i64 id, .int .i64 wi, .string nm, .string ot, .int .i64 ty, .int .i64 pa, .string sep] 24)).alloc (.cells #[.slice none 0 0, .int .i64 0] 30))
            have C0 := Lib.hid ((CB.new1 w (.cells #[.slice A n c, .int .i64 x] 30) 24 [.int .i64 kd, .int .i64 id, .int .i64 wi, .string nm, .string ot, .int .i64 ty, .int .i64 pa, .string sep]).alloc (.cells #[.slice none 0 0, .int .i64 0] 30))
            have R0 := Lib.hid (CB.new2 w (.cells #[.slice A n c, .int .i64 x] 30) (.cells #[.int .i64 kd, .int .i64 id, .int .i64 wi, .string nm, .string ot, .int .i64 ty, .int .i64 pa, .string sep] 24) 30 [.slice none 0 0, .int .i64 0])
            have B0 := Lib.hid (al3 w (.cells #[.slice A n c, .int .i64 x] 30) (.cells #[.int .i64 kd, .int .i64 id, .int .i64 wi, .string nm, .string ot, .int .i64 ty, .int .i64 pa, .string sep] 24) (.cells #[.slice none 0 0, .int .i64 0] 30))
            have zR0 := R0.out.lt
            go_enter Try.func36, Try.ntmps36
            go_wp2_with (first | (go_at_call 43; refine (Rgroup_any A n c x l pa _ HN.out (HS.out.up B0.out) hl2).mono ?_; rintro e w5 ⟨rfl, hb5⟩; rw [HG.out]; have S5 := Lib.hid (S0.out.up hb5); have C5 := Lib.hid (C0.out.up hb5); have R5 := Lib.hid (R0.out.up hb5); have B5 := Lib.hid (below_step B0.out B0.out.size hb5); have s50 := S5.out.cell 0 rfl; have s51 := S5.out.cell 1 rfl; have c50 := C5.out.cell 0 rfl; have c51 := C5.out.cell 1 rfl; have c52 := C5.out.cell 2 rfl; have c53 := C5.out.cell 3 rfl; have c54 := C5.out.cell 4 rfl; have c55 := C5.out.cell 5 rfl; have c56 := C5.out.cell 6 rfl; have c57 := C5.out.cell 7 rfl; have zS5 := S5.out.lt; have zC5 := C5.out.lt; have zR5 := R5.out.lt; clear hb5) | (go_at_call 48; refine (Rdepth_any A n c x l pa _ HN.out (HS.out.up B5.out) hl2).mono ?_; rintro e w6 ⟨rfl, hb6⟩; rw [HD.out]; have S6 := Lib.hid (S5.out.up hb6); have C6 := Lib.hid (C5.out.up hb6); have R6 := Lib.hid (R5.out.up hb6); have B6 := Lib.hid (below_step B5.out B5.out.size hb6); have s60 := S6.out.cell 0 rfl; have s61 := S6.out.cell 1 rfl; have c60 := C6.out.cell 0 rfl; have c61 := C6.out.cell 1 rfl; have c62 := C6.out.cell 2 rfl; have c63 := C6.out.cell 3 rfl; have c64 := C6.out.cell 4 rfl; have c65 := C6.out.cell 5 rfl; have c66 := C6.out.cell 6 rfl; have c67 := C6.out.cell 7 rfl; have zS6 := S6.out.lt; have zC6 := C6.out.lt; have zR6 := R6.out.lt; clear hb6) | (go_at_call 62; refine (Rtaken_any A n c x l ⟨0, nm, ty, pa⟩ 0 0 _ HN.out (HS.out.up (B6.out.alloc B6.out.size _)) hl2 hnm).mono ?_; rintro e w8 ⟨rfl, hb8⟩; rw [HT.out]; have hb8' := (al1 w6 (.cells #[.int .i64 0, .string nm, .int .i64 ty, .int .i64 pa] 41)).trans (hb8.mono (al1 w6 (.cells #[.int .i64 0, .string nm, .int .i64 ty, .int .i64 pa] 41)).size); have F8 := Lib.hid ((CB.new w6 41 [.int .i64 0, .string nm, .int .i64 ty, .int .i64 pa]).up hb8); have S8 := Lib.hid (S6.out.up hb8'); have C8 := Lib.hid (C6.out.up hb8'); have R8 := Lib.hid (R6.out.up hb8'); have B8 := Lib.hid (below_step B6.out B6.out.size hb8'); have s80 := S8.out.cell 0 rfl; have s81 := S8.out.cell 1 rfl; have c80 := C8.out.cell 0 rfl; have c81 := C8.out.cell 1 rfl; have c82 := C8.out.cell 2 rfl; have c83 := C8.out.cell 3 rfl; have c84 := C8.out.cell 4 rfl; have c85 := C8.out.cell 5 rfl; have c86 := C8.out.cell 6 rfl; have c87 := C8.out.cell 7 rfl; have zS8 := S8.out.lt; have zC8 := C8.out.lt; have zR8 := R8.out.lt; have f80 := F8.out.cell 0 rfl; have f81 := F8.out.cell 1 rfl; have f82 := F8.out.cell 2 rfl; have f83 := F8.out.cell 3 rfl; have zF8 := F8.out.lt; clear hb8 hb8') | ((with_reducible show wpList _ _ _ _ _ _); refine wpList_store_cb rfl 30 (.tmp 4) (.tmp 40) rfl (w.heap.size + 1 + 1) [.slice none 0 0, .int .i64 0] rfl rfl 30 [.slice none 0 0, .int .i64 0] 2 (R8.out) sizeS rfl rfl (one_s _ _ _ _) ?_; intro wz hcz hgz hzz))
            all_goals
              refine bodyPost_ret (res_cell Try.results36 rfl rfl hcz Try.underlying30 sizeS rfl) rfl ⟨?_, below_grown B8.out hgz (by omega) (by omega)⟩
              rw [HRX.out]
              exact res_zero _ _ _
          | false =>
            by_cases h64 : n < 64
            · have j64 : ¬ (64 : Int) ≤ (n : Int) := by omega
              by_cases hm : x < 1073741824
              · have jm : ¬ (1073741824 : Int) ≤ x := by omega
                have HR := HE.out
                rw [if_pos ⟨rfl, hd8⟩, if_neg (by decide), if_pos ⟨h64, hm⟩] at HR
                have HRX := Lib.hid HR
                clear HR HE
                have S0 := Lib.hid (((CB.new w 30 [.slice A n c, .int .i64 x]).alloc (.cells #[.int .i64 kd, .int .i64 id, .int .i64 wi, .string nm, .string ot, .int .i64 ty, .int .i64 pa, .string sep] 24)).alloc (.cells #[.slice none 0 0, .int .i64 0] 30))
                have C0 := Lib.hid ((CB.new1 w (.cells #[.slice A n c, .int .i64 x] 30) 24 [.int .i64 kd, .int .i64 id, .int .i64 wi, .string nm, .string ot, .int .i64 ty, .int .i64 pa, .string sep]).alloc (.cells #[.slice none 0 0, .int .i64 0] 30))
                have R0 := Lib.hid (CB.new2 w (.cells #[.slice A n c, .int .i64 x] 30) (.cells #[.int .i64 kd, .int .i64 id, .int .i64 wi, .string nm, .string ot, .int .i64 ty, .int .i64 pa, .string sep] 24) 30 [.slice none 0 0, .int .i64 0])
                have B0 := Lib.hid (al3 w (.cells #[.slice A n c, .int .i64 x] 30) (.cells #[.int .i64 kd, .int .i64 id, .int .i64 wi, .string nm, .string ot, .int .i64 ty, .int .i64 pa, .string sep] 24) (.cells #[.slice none 0 0, .int .i64 0] 30))
                have zR0 := R0.out.lt
                go_enter Try.func36, Try.ntmps36
                go_wp2_with (first | (go_at_call 43; refine (Rgroup_any A n c x l pa _ HN.out (HS.out.up B0.out) hl2).mono ?_; rintro e w5 ⟨rfl, hb5⟩; rw [HG.out]; have S5 := Lib.hid (S0.out.up hb5); have C5 := Lib.hid (C0.out.up hb5); have R5 := Lib.hid (R0.out.up hb5); have B5 := Lib.hid (below_step B0.out B0.out.size hb5); have s50 := S5.out.cell 0 rfl; have s51 := S5.out.cell 1 rfl; have c50 := C5.out.cell 0 rfl; have c51 := C5.out.cell 1 rfl; have c52 := C5.out.cell 2 rfl; have c53 := C5.out.cell 3 rfl; have c54 := C5.out.cell 4 rfl; have c55 := C5.out.cell 5 rfl; have c56 := C5.out.cell 6 rfl; have c57 := C5.out.cell 7 rfl; have zS5 := S5.out.lt; have zC5 := C5.out.lt; have zR5 := R5.out.lt; clear hb5) | (go_at_call 48; refine (Rdepth_any A n c x l pa _ HN.out (HS.out.up B5.out) hl2).mono ?_; rintro e w6 ⟨rfl, hb6⟩; rw [HD.out]; have S6 := Lib.hid (S5.out.up hb6); have C6 := Lib.hid (C5.out.up hb6); have R6 := Lib.hid (R5.out.up hb6); have B6 := Lib.hid (below_step B5.out B5.out.size hb6); have s60 := S6.out.cell 0 rfl; have s61 := S6.out.cell 1 rfl; have c60 := C6.out.cell 0 rfl; have c61 := C6.out.cell 1 rfl; have c62 := C6.out.cell 2 rfl; have c63 := C6.out.cell 3 rfl; have c64 := C6.out.cell 4 rfl; have c65 := C6.out.cell 5 rfl; have c66 := C6.out.cell 6 rfl; have c67 := C6.out.cell 7 rfl; have zS6 := S6.out.lt; have zC6 := C6.out.lt; have zR6 := R6.out.lt; clear hb6) | (go_at_call 62; refine (Rtaken_any A n c x l ⟨0, nm, ty, pa⟩ 0 0 _ HN.out (HS.out.up (B6.out.alloc B6.out.size _)) hl2 hnm).mono ?_; rintro e w8 ⟨rfl, hb8⟩; rw [HT.out]; have hb8' := (al1 w6 (.cells #[.int .i64 0, .string nm, .int .i64 ty, .int .i64 pa] 41)).trans (hb8.mono (al1 w6 (.cells #[.int .i64 0, .string nm, .int .i64 ty, .int .i64 pa] 41)).size); have F8 := Lib.hid ((CB.new w6 41 [.int .i64 0, .string nm, .int .i64 ty, .int .i64 pa]).up hb8); have S8 := Lib.hid (S6.out.up hb8'); have C8 := Lib.hid (C6.out.up hb8'); have R8 := Lib.hid (R6.out.up hb8'); have B8 := Lib.hid (below_step B6.out B6.out.size hb8'); have s80 := S8.out.cell 0 rfl; have s81 := S8.out.cell 1 rfl; have c80 := C8.out.cell 0 rfl; have c81 := C8.out.cell 1 rfl; have c82 := C8.out.cell 2 rfl; have c83 := C8.out.cell 3 rfl; have c84 := C8.out.cell 4 rfl; have c85 := C8.out.cell 5 rfl; have c86 := C8.out.cell 6 rfl; have c87 := C8.out.cell 7 rfl; have zS8 := S8.out.lt; have zC8 := C8.out.lt; have zR8 := R8.out.lt; have f80 := F8.out.cell 0 rfl; have f81 := F8.out.cell 1 rfl; have f82 := F8.out.cell 2 rfl; have f83 := F8.out.cell 3 rfl; have zF8 := F8.out.lt; clear hb8 hb8') | (go_at_call 63; refine (Rplus_any A n c x l 0 nm ty pa _ HN.out (HS.out.up B8.out) hl hx0 hx2).mono ?_; rintro e w9 ⟨⟨A9, c9, rfl, ho9⟩, hb9⟩; have S9 := Lib.hid (S8.out.up hb9); have C9 := Lib.hid (C8.out.up hb9); have R9 := Lib.hid (R8.out.up hb9); have B9 := Lib.hid (below_step B8.out B8.out.size hb9); have s90 := S9.out.cell 0 rfl; have s91 := S9.out.cell 1 rfl; have zS9 := S9.out.lt; have zC9 := C9.out.lt; have zR9 := R9.out.lt; have O9 := Lib.hid ho9; clear hb9 ho9) | ((with_reducible show wpList _ _ _ _ _ _); refine wpList_store_cb rfl 30 (.tmp 4) (.tmp 53) rfl (w.heap.size + 1 + 1) [.slice A9 (n + 1) c9, .int .i64 (x + 1)] rfl rfl 30 [.slice none 0 0, .int .i64 0] 2 (R9.out) sizeS rfl rfl (one_s _ _ _ _) ?_; intro wz hcz hgz hzz))
                all_goals
                  refine bodyPost_ret (res_cell Try.results36 rfl rfl hcz Try.underlying30 sizeS rfl) rfl ⟨?_, below_grown B9.out hgz (by omega) (by omega)⟩
                  rw [HRX.out]
                  exact ⟨A9, n + 1, c9, rfl, by rw [HN.out]; simp [withS], ((O9.out.low B8.out.size).kept hgz (.inr (Own.ne (O9.out.low B8.out.size) R9.out (by decide)).symm))⟩
              · have jm : (1073741824 : Int) ≤ x := by omega
                have HR := HE.out
                rw [if_pos ⟨rfl, hd8⟩, if_neg (by decide), if_neg (fun h => hm h.2)] at HR
                have HRX := Lib.hid HR
                clear HR HE
                have S0 := Lib.hid (((CB.new w 30 [.slice A n c, .int .i64 x]).alloc (.cells #[.int .i64 kd, .int .i64 id, .int .i64 wi, .string nm, .string ot, .int .i64 ty, .int .i64 pa, .string sep] 24)).alloc (.cells #[.slice none 0 0, .int .i64 0] 30))
                have C0 := Lib.hid ((CB.new1 w (.cells #[.slice A n c, .int .i64 x] 30) 24 [.int .i64 kd, .int .i64 id, .int .i64 wi, .string nm, .string ot, .int .i64 ty, .int .i64 pa, .string sep]).alloc (.cells #[.slice none 0 0, .int .i64 0] 30))
                have R0 := Lib.hid (CB.new2 w (.cells #[.slice A n c, .int .i64 x] 30) (.cells #[.int .i64 kd, .int .i64 id, .int .i64 wi, .string nm, .string ot, .int .i64 ty, .int .i64 pa, .string sep] 24) 30 [.slice none 0 0, .int .i64 0])
                have B0 := Lib.hid (al3 w (.cells #[.slice A n c, .int .i64 x] 30) (.cells #[.int .i64 kd, .int .i64 id, .int .i64 wi, .string nm, .string ot, .int .i64 ty, .int .i64 pa, .string sep] 24) (.cells #[.slice none 0 0, .int .i64 0] 30))
                have zR0 := R0.out.lt
                go_enter Try.func36, Try.ntmps36
                go_wp2_with (first | (go_at_call 43; refine (Rgroup_any A n c x l pa _ HN.out (HS.out.up B0.out) hl2).mono ?_; rintro e w5 ⟨rfl, hb5⟩; rw [HG.out]; have S5 := Lib.hid (S0.out.up hb5); have C5 := Lib.hid (C0.out.up hb5); have R5 := Lib.hid (R0.out.up hb5); have B5 := Lib.hid (below_step B0.out B0.out.size hb5); have s50 := S5.out.cell 0 rfl; have s51 := S5.out.cell 1 rfl; have c50 := C5.out.cell 0 rfl; have c51 := C5.out.cell 1 rfl; have c52 := C5.out.cell 2 rfl; have c53 := C5.out.cell 3 rfl; have c54 := C5.out.cell 4 rfl; have c55 := C5.out.cell 5 rfl; have c56 := C5.out.cell 6 rfl; have c57 := C5.out.cell 7 rfl; have zS5 := S5.out.lt; have zC5 := C5.out.lt; have zR5 := R5.out.lt; clear hb5) | (go_at_call 48; refine (Rdepth_any A n c x l pa _ HN.out (HS.out.up B5.out) hl2).mono ?_; rintro e w6 ⟨rfl, hb6⟩; rw [HD.out]; have S6 := Lib.hid (S5.out.up hb6); have C6 := Lib.hid (C5.out.up hb6); have R6 := Lib.hid (R5.out.up hb6); have B6 := Lib.hid (below_step B5.out B5.out.size hb6); have s60 := S6.out.cell 0 rfl; have s61 := S6.out.cell 1 rfl; have c60 := C6.out.cell 0 rfl; have c61 := C6.out.cell 1 rfl; have c62 := C6.out.cell 2 rfl; have c63 := C6.out.cell 3 rfl; have c64 := C6.out.cell 4 rfl; have c65 := C6.out.cell 5 rfl; have c66 := C6.out.cell 6 rfl; have c67 := C6.out.cell 7 rfl; have zS6 := S6.out.lt; have zC6 := C6.out.lt; have zR6 := R6.out.lt; clear hb6) | (go_at_call 62; refine (Rtaken_any A n c x l ⟨0, nm, ty, pa⟩ 0 0 _ HN.out (HS.out.up (B6.out.alloc B6.out.size _)) hl2 hnm).mono ?_; rintro e w8 ⟨rfl, hb8⟩; rw [HT.out]; have hb8' := (al1 w6 (.cells #[.int .i64 0, .string nm, .int .i64 ty, .int .i64 pa] 41)).trans (hb8.mono (al1 w6 (.cells #[.int .i64 0, .string nm, .int .i64 ty, .int .i64 pa] 41)).size); have F8 := Lib.hid ((CB.new w6 41 [.int .i64 0, .string nm, .int .i64 ty, .int .i64 pa]).up hb8); have S8 := Lib.hid (S6.out.up hb8'); have C8 := Lib.hid (C6.out.up hb8'); have R8 := Lib.hid (R6.out.up hb8'); have B8 := Lib.hid (below_step B6.out B6.out.size hb8'); have s80 := S8.out.cell 0 rfl; have s81 := S8.out.cell 1 rfl; have c80 := C8.out.cell 0 rfl; have c81 := C8.out.cell 1 rfl; have c82 := C8.out.cell 2 rfl; have c83 := C8.out.cell 3 rfl; have c84 := C8.out.cell 4 rfl; have c85 := C8.out.cell 5 rfl; have c86 := C8.out.cell 6 rfl; have c87 := C8.out.cell 7 rfl; have zS8 := S8.out.lt; have zC8 := C8.out.lt; have zR8 := R8.out.lt; have f80 := F8.out.cell 0 rfl; have f81 := F8.out.cell 1 rfl; have f82 := F8.out.cell 2 rfl; have f83 := F8.out.cell 3 rfl; have zF8 := F8.out.lt; clear hb8 hb8') | ((with_reducible show wpList _ _ _ _ _ _); refine wpList_store_cb rfl 30 (.tmp 4) (.tmp 50) rfl (w.heap.size + 1 + 1) [.slice none 0 0, .int .i64 0] rfl rfl 30 [.slice none 0 0, .int .i64 0] 2 (R8.out) sizeS rfl rfl (one_s _ _ _ _) ?_; intro wz hcz hgz hzz))
                all_goals
                  refine bodyPost_ret (res_cell Try.results36 rfl rfl hcz Try.underlying30 sizeS rfl) rfl ⟨?_, below_grown B8.out hgz (by omega) (by omega)⟩
                  rw [HRX.out]
                  exact res_zero _ _ _
            · have j64 : (64 : Int) ≤ (n : Int) := by omega
              have HR := HE.out
              rw [if_pos ⟨rfl, hd8⟩, if_neg (by decide), if_neg (fun h => h64 h.1)] at HR
              have HRX := Lib.hid HR
              clear HR HE
              have S0 := Lib.hid (((CB.new w 30 [.slice A n c, .int .i64 x]).alloc (.cells #[.int .i64 kd, .int .i64 id, .int .i64 wi, .string nm, .string ot, .int .i64 ty, .int .i64 pa, .string sep] 24)).alloc (.cells #[.slice none 0 0, .int .i64 0] 30))
              have C0 := Lib.hid ((CB.new1 w (.cells #[.slice A n c, .int .i64 x] 30) 24 [.int .i64 kd, .int .i64 id, .int .i64 wi, .string nm, .string ot, .int .i64 ty, .int .i64 pa, .string sep]).alloc (.cells #[.slice none 0 0, .int .i64 0] 30))
              have R0 := Lib.hid (CB.new2 w (.cells #[.slice A n c, .int .i64 x] 30) (.cells #[.int .i64 kd, .int .i64 id, .int .i64 wi, .string nm, .string ot, .int .i64 ty, .int .i64 pa, .string sep] 24) 30 [.slice none 0 0, .int .i64 0])
              have B0 := Lib.hid (al3 w (.cells #[.slice A n c, .int .i64 x] 30) (.cells #[.int .i64 kd, .int .i64 id, .int .i64 wi, .string nm, .string ot, .int .i64 ty, .int .i64 pa, .string sep] 24) (.cells #[.slice none 0 0, .int .i64 0] 30))
              have zR0 := R0.out.lt
              go_enter Try.func36, Try.ntmps36
              go_wp2_with (first | (go_at_call 43; refine (Rgroup_any A n c x l pa _ HN.out (HS.out.up B0.out) hl2).mono ?_; rintro e w5 ⟨rfl, hb5⟩; rw [HG.out]; have S5 := Lib.hid (S0.out.up hb5); have C5 := Lib.hid (C0.out.up hb5); have R5 := Lib.hid (R0.out.up hb5); have B5 := Lib.hid (below_step B0.out B0.out.size hb5); have s50 := S5.out.cell 0 rfl; have s51 := S5.out.cell 1 rfl; have c50 := C5.out.cell 0 rfl; have c51 := C5.out.cell 1 rfl; have c52 := C5.out.cell 2 rfl; have c53 := C5.out.cell 3 rfl; have c54 := C5.out.cell 4 rfl; have c55 := C5.out.cell 5 rfl; have c56 := C5.out.cell 6 rfl; have c57 := C5.out.cell 7 rfl; have zS5 := S5.out.lt; have zC5 := C5.out.lt; have zR5 := R5.out.lt; clear hb5) | (go_at_call 48; refine (Rdepth_any A n c x l pa _ HN.out (HS.out.up B5.out) hl2).mono ?_; rintro e w6 ⟨rfl, hb6⟩; rw [HD.out]; have S6 := Lib.hid (S5.out.up hb6); have C6 := Lib.hid (C5.out.up hb6); have R6 := Lib.hid (R5.out.up hb6); have B6 := Lib.hid (below_step B5.out B5.out.size hb6); have s60 := S6.out.cell 0 rfl; have s61 := S6.out.cell 1 rfl; have c60 := C6.out.cell 0 rfl; have c61 := C6.out.cell 1 rfl; have c62 := C6.out.cell 2 rfl; have c63 := C6.out.cell 3 rfl; have c64 := C6.out.cell 4 rfl; have c65 := C6.out.cell 5 rfl; have c66 := C6.out.cell 6 rfl; have c67 := C6.out.cell 7 rfl; have zS6 := S6.out.lt; have zC6 := C6.out.lt; have zR6 := R6.out.lt; clear hb6) | (go_at_call 62; refine (Rtaken_any A n c x l ⟨0, nm, ty, pa⟩ 0 0 _ HN.out (HS.out.up (B6.out.alloc B6.out.size _)) hl2 hnm).mono ?_; rintro e w8 ⟨rfl, hb8⟩; rw [HT.out]; have hb8' := (al1 w6 (.cells #[.int .i64 0, .string nm, .int .i64 ty, .int .i64 pa] 41)).trans (hb8.mono (al1 w6 (.cells #[.int .i64 0, .string nm, .int .i64 ty, .int .i64 pa] 41)).size); have F8 := Lib.hid ((CB.new w6 41 [.int .i64 0, .string nm, .int .i64 ty, .int .i64 pa]).up hb8); have S8 := Lib.hid (S6.out.up hb8'); have C8 := Lib.hid (C6.out.up hb8'); have R8 := Lib.hid (R6.out.up hb8'); have B8 := Lib.hid (below_step B6.out B6.out.size hb8'); have s80 := S8.out.cell 0 rfl; have s81 := S8.out.cell 1 rfl; have c80 := C8.out.cell 0 rfl; have c81 := C8.out.cell 1 rfl; have c82 := C8.out.cell 2 rfl; have c83 := C8.out.cell 3 rfl; have c84 := C8.out.cell 4 rfl; have c85 := C8.out.cell 5 rfl; have c86 := C8.out.cell 6 rfl; have c87 := C8.out.cell 7 rfl; have zS8 := S8.out.lt; have zC8 := C8.out.lt; have zR8 := R8.out.lt; have f80 := F8.out.cell 0 rfl; have f81 := F8.out.cell 1 rfl; have f82 := F8.out.cell 2 rfl; have f83 := F8.out.cell 3 rfl; have zF8 := F8.out.lt; clear hb8 hb8') | ((with_reducible show wpList _ _ _ _ _ _); refine wpList_store_cb rfl 30 (.tmp 4) (.tmp 50) rfl (w.heap.size + 1 + 1) [.slice none 0 0, .int .i64 0] rfl rfl 30 [.slice none 0 0, .int .i64 0] 2 (R8.out) sizeS rfl rfl (one_s _ _ _ _) ?_; intro wz hcz hgz hzz))
              all_goals
                refine bodyPost_ret (res_cell Try.results36 rfl rfl hcz Try.underlying30 sizeS rfl) rfl ⟨?_, below_grown B8.out hgz (by omega) (by omega)⟩
                rw [HRX.out]
                exact res_zero _ _ _
end Go.Proofs.Ytpgbpfdedpppeaa
