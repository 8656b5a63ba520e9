/-
  The program's Apply, by a contract.
-/
import Derived.Test.YtpgbpfdedpppeaaAppS
import Derived.Test.YtpgbpfdedpppeaaKinP
import Derived.Test.YtpgbpfdedpppeaaChkP
namespace Go.Proofs.Ytpgbpfdedpppeaa
open Go.RowKit

theorem one_c (a b c : Int) (s t : ByteArray) (d e : Int) (u : ByteArray) : ∀ z ∈ [Value.int .i64 a, .int .i64 b, .int .i64 c, .string s, .string t, .int .i64 d, .int .i64 e, .string u], z.oneCell' = true := by
  intro z hz
  simp only [List.mem_cons, List.not_mem_nil, or_false] at hz
  rcases hz with rfl | rfl | rfl | rfl | rfl | rfl | rfl | rfl <;> rfl
theorem last_ne {r : Sc × Int} {er : Int} (h : r.2 = er) (h0 : ¬ er = 0) : lastE r = (Sc.zero, er) := by
  unfold lastE
  rw [if_neg (by rw [h]; exact h0), h]
theorem last_pl {r : Sc × Int} (h : r.2 = 0) (hp : plcsB r.1.fs = false) : lastE r = (Sc.zero, 63) := by
  unfold lastE
  rw [if_pos h, hp]
  rfl
theorem last_nm {r : Sc × Int} (h : r.2 = 0) (hp : plcsB r.1.fs = true) (hn : namGo [] r.1.fs = false) : lastE r = (Sc.zero, 60) := by
  unfold lastE
  rw [if_pos h, hp, hn]
  rfl
theorem last_li {r : Sc × Int} (h : r.2 = 0) (hp : plcsB r.1.fs = true) (hn : namGo [] r.1.fs = true) (hl : ¬ (r.1.fs.length ≤ 64 ∧ r.1.next ≤ 1073741824)) : lastE r = (Sc.zero, 2) := by
  unfold lastE
  rw [if_pos h, hp, hn, if_pos rfl, if_pos rfl, if_neg hl]
theorem last_ok {r : Sc × Int} (h : r.2 = 0) (hp : plcsB r.1.fs = true) (hn : namGo [] r.1.fs = true) (hl : r.1.fs.length ≤ 64 ∧ r.1.next ≤ 1073741824) : lastE r = (r.1, 0) := by
  unfold lastE
  rw [if_pos h, hp, hn, if_pos rfl, if_pos rfl, if_pos hl]

set_option maxHeartbeats 2000000 in
set_option maxRecDepth 20000 in
theorem Apply_none (A : Option Addr) (n c : Nat) (x : Int) (l : List Fd) (kd : Int) (id wi : Int) (nm ot : ByteArray) (ty pa : Int) (sep : ByteArray) (w : World) (hn : n = l.length) (hs : Fds w w.heap.size A l) (_hl0 : n ≤ 1000) (_hx0 : 0 ≤ x) (_hx1 : x ≤ 2305843009213693952) (_hsep : sep.size ≤ 9223372036854775807) (hnl : AllN (fun s => s.size ≤ 9223372036854775807) l) (_hnm : nm.size ≤ 9223372036854775807) (_hot : ot.size ≤ 9223372036854775807) (hwf : (Lit.int .i64 kd).wf = true) (hk : ¬ (1 ≤ kd ∧ kd ≤ 7)) :
    Calls Try.prog 14 #[.agg #[.slice A n c, .int .i64 x], .agg #[.int .i64 kd, .int .i64 id, .int .i64 wi, .string nm, .string ot, .int .i64 ty, .int .i64 pa, .string sep]] w fun e w' => ResS w w' (Sc.zero, 1) e ∧ Below w.heap.size w w' := by
  have hkd : decide (1 ≤ kd ∧ kd ≤ 7) = false := decide_eq_false hk
  have HK := Lib.hid hk
  clear hk
  have HN := Lib.hid hn
  have HS := Lib.hid hs
  have HNL := Lib.hid hnl
  clear hn hs hnl
  have hq1 := ((CB.new w 30 [.slice A n c, .int .i64 x]).alloc (.cells #[.int .i64 kd, .int .i64 id, .int .i64 wi, .string nm, .string ot, .int .i64 ty, .int .i64 pa, .string sep] 24)).alloc (.cells #[.slice none 0 0, .int .i64 0] 30)
  have hq2 := (CB.new1 w (.cells #[.slice A n c, .int .i64 x] 30) 24 [.int .i64 kd, .int .i64 id, .int .i64 wi, .string nm, .string ot, .int .i64 ty, .int .i64 pa, .string sep]).alloc (.cells #[.slice none 0 0, .int .i64 0] 30)
  have hq3 := CB.new2 w (.cells #[.slice A n c, .int .i64 x] 30) (.cells #[.int .i64 kd, .int .i64 id, .int .i64 wi, .string nm, .string ot, .int .i64 ty, .int .i64 pa, .string sep] 24) 30 [.slice none 0 0, .int .i64 0]
  have hqb := al3 w (.cells #[.slice A n c, .int .i64 x] 30) (.cells #[.int .i64 kd, .int .i64 id, .int .i64 wi, .string nm, .string ot, .int .i64 ty, .int .i64 pa, .string sep] 24) (.cells #[.slice none 0 0, .int .i64 0] 30)
  go_enter Try.func14, Try.ntmps14
  go_wp2
  generalize (((w.alloc (.cells #[.slice A n c, .int .i64 x] 30)).alloc (.cells #[.int .i64 kd, .int .i64 id, .int .i64 wi, .string nm, .string ot, .int .i64 ty, .int .i64 pa, .string sep] 24)).alloc (.cells #[.slice none 0 0, .int .i64 0] 30)) = W0 at *
  have Q1 := Lib.hid hq1
  have Q2 := Lib.hid hq2
  have Q3 := Lib.hid hq3
  have QB := Lib.hid hqb
  have k0 := hq2.cell 0 rfl
  clear hq1 hq2 hq3 hqb
  go_region_held_law (fun w' => w'.cell? ⟨w.heap.size + 1, 0, none⟩ = some (.int .i64 kd))
    (first | exact (Q2.out.up hw7).cell 0 rfl | exact Q2.out.dr.cell 0 rfl | exact (Q2.out.up hw7).dr.cell 0 rfl | go_keep)
    (first | (go_at_call 32; refine (kinds_any _).mono ?_; rintro e w7 ⟨rfl, hm7, hb7⟩; have hw7 : Below W0.heap.size W0 w7 := (by first | exact hb7 | exact (bd _).trans (hb7.mono (bd _).size)); have hlook := kinds_look (show KM w7 W0.heap.size 7 kinD from hm7) kd (by exact hwf); rw [hkd] at hlook; clear hm7 hb7))
  go_wp2_with ((with_reducible show wpList _ _ _ _ _ _); refine wpList_store_cb rfl 30 (.tmp 4) (.tmp 19) rfl (w.heap.size + 1 + 1) [.slice none 0 0, .int .i64 0] rfl rfl 30 [.slice none 0 0, .int .i64 0] 2 (Q3.out.up hw7) sizeS rfl rfl (one_s _ _ _ _) ?_; intro w9 hc9 hg9 hz9)
  refine bodyPost_ret (res_cell Try.results14 rfl rfl hc9 Try.underlying30 sizeS rfl) rfl ⟨?_, below_grown (QB.out.trans (hw7.mono QB.out.size)) hg9 (Nat.le_trans QB.out.size hw7.size) (by omega)⟩
  exact res_zero _ _ _

set_option maxHeartbeats 4000000 in
set_option maxRecDepth 20000 in
theorem Apply_add (A : Option Addr) (n c : Nat) (x : Int) (l : List Fd)  (id wi : Int) (nm ot : ByteArray) (ty pa : Int) (sep : ByteArray) (w : World) (hn : n = l.length) (hs : Fds w w.heap.size A l) (hl0 : n ≤ 1000) (hx0 : 0 ≤ x) (hx1 : x ≤ 2305843009213693952) (hsep : sep.size ≤ 9223372036854775807) (hnl : AllN (fun s => s.size ≤ 9223372036854775807) l) (hnm : nm.size ≤ 9223372036854775807) (hot : ot.size ≤ 9223372036854775807) :
    Calls Try.prog 14 #[.agg #[.slice A n c, .int .i64 x], .agg #[.int .i64 1, .int .i64 id, .int .i64 wi, .string nm, .string ot, .int .i64 ty, .int .i64 pa, .string sep]] w fun e w' => ResS w w' (lastE (addE ⟨l, x⟩ ⟨1, id, wi, nm, ot, ty, pa, sep⟩)) e ∧ Below w.heap.size w w' := by
  have HN := Lib.hid hn
  have HS := Lib.hid hs
  have HNL := Lib.hid hnl
  clear hn hs hnl
  have hq1 := ((CB.new w 30 [.slice A n c, .int .i64 x]).alloc (.cells #[.int .i64 1, .int .i64 id, .int .i64 wi, .string nm, .string ot, .int .i64 ty, .int .i64 pa, .string sep] 24)).alloc (.cells #[.slice none 0 0, .int .i64 0] 30)
  have hq2 := (CB.new1 w (.cells #[.slice A n c, .int .i64 x] 30) 24 [.int .i64 1, .int .i64 id, .int .i64 wi, .string nm, .string ot, .int .i64 ty, .int .i64 pa, .string sep]).alloc (.cells #[.slice none 0 0, .int .i64 0] 30)
  have hq3 := CB.new2 w (.cells #[.slice A n c, .int .i64 x] 30) (.cells #[.int .i64 1, .int .i64 id, .int .i64 wi, .string nm, .string ot, .int .i64 ty, .int .i64 pa, .string sep] 24) 30 [.slice none 0 0, .int .i64 0]
  have hqb := al3 w (.cells #[.slice A n c, .int .i64 x] 30) (.cells #[.int .i64 1, .int .i64 id, .int .i64 wi, .string nm, .string ot, .int .i64 ty, .int .i64 pa, .string sep] 24) (.cells #[.slice none 0 0, .int .i64 0] 30)
  go_enter Try.func14, Try.ntmps14
  go_wp2
  generalize (((w.alloc (.cells #[.slice A n c, .int .i64 x] 30)).alloc (.cells #[.int .i64 1, .int .i64 id, .int .i64 wi, .string nm, .string ot, .int .i64 ty, .int .i64 pa, .string sep] 24)).alloc (.cells #[.slice none 0 0, .int .i64 0] 30)) = W0 at *
  have Q1 := Lib.hid hq1
  have Q2 := Lib.hid hq2
  have Q3 := Lib.hid hq3
  have QB := Lib.hid hqb
  have k0 := hq2.cell 0 rfl
  clear hq1 hq2 hq3 hqb
  go_region_held_law (fun w' => w'.cell? ⟨w.heap.size + 1, 0, none⟩ = some (.int .i64 1))
    (first | exact (Q2.out.up hw7).cell 0 rfl | exact Q2.out.dr.cell 0 rfl | exact (Q2.out.up hw7).dr.cell 0 rfl | go_keep)
    (first | (go_at_call 32; refine (kinds_any _).mono ?_; rintro e w7 ⟨rfl, hm7, hb7⟩; have hw7 : Below W0.heap.size W0 w7 := (by first | exact hb7 | exact (bd _).trans (hb7.mono (bd _).size)); have hlook := kinds_look (show KM w7 W0.heap.size 7 kinD from hm7) 1 (by decide); rw [show kindV 1 = .func (.func 54) #[] #[] from rfl, show decide ((1 : Int) ≤ 1 ∧ (1 : Int) ≤ 7) = true from rfl] at hlook; clear hm7 hb7))
  have he := (add_any A n c x l 1 id wi nm ot ty pa sep w7 HN.out (HS.out.up (QB.out.trans (hw7.mono QB.out.size))) hl0 hx0 hx1 hsep)
  have han : (AllN (fun s => s.size ≤ 9223372036854775807) (addE ⟨l, x⟩ ⟨1, id, wi, nm, ot, ty, pa, sep⟩).1.fs) := alln_edit (s := ⟨l, x⟩) (c := ⟨1, id, wi, nm, ot, ty, pa, sep⟩) HNL.out hnm hot
  obtain ⟨⟨⟨fs, nx⟩, er⟩, hr⟩ : ∃ r, addE ⟨l, x⟩ ⟨1, id, wi, nm, ot, ty, pa, sep⟩ = r := ⟨_, rfl⟩
  rw [hr] at he han
  have HE := Lib.hid he
  have HAN := Lib.hid han
  have HRQ := Lib.hid hr
  clear he han hr
  have HQ1 := Lib.hid (Q1.out.up hw7)
  have HQ2 := Lib.hid (Q2.out.up hw7)
  have HQ3 := Lib.hid (Q3.out.up hw7)
  have HQB := Lib.hid (QB.out.trans (hw7.mono QB.out.size))
  have s0 := HQ1.out.cell 0 rfl
  have s1 := HQ1.out.cell 1 rfl
  have t0 := HQ2.out.cell 0 rfl
  have t1 := HQ2.out.cell 1 rfl
  have t2 := HQ2.out.cell 2 rfl
  have t3 := HQ2.out.cell 3 rfl
  have t4 := HQ2.out.cell 4 rfl
  have t5 := HQ2.out.cell 5 rfl
  have t6 := HQ2.out.cell 6 rfl
  have t7 := HQ2.out.cell 7 rfl
  clear hw7 k0 hlook Q1 Q2 Q3 QB
  by_cases h0 : er = 0
  · subst h0
    cases hp : plcsB fs with
    | false =>
      have HP := Lib.hid hp
      clear hp
      go_wp2_with (first | (go_at_call 54; refine HE.out.mono ?_; rintro e w6 ⟨⟨A6, m6, c6, rfl, hm6, ho6⟩, hb6⟩; dsimp only at hm6 ho6; have HO6 := Lib.hid ho6; have HM6 := Lib.hid hm6; have HB6 := Lib.hid (below_step HQB.out HQB.out.size hb6); have HR6 := Lib.hid (HQ3.out.up hb6); have hz6 : w.heap.size + 1 + 1 < w6.heap.size := HR6.out.lt; clear ho6 hm6 hb6 HE) | (go_at_call 33; refine (placed_any A6 m6 c6 fs _ HM6.out ((show Fds w6 w6.heap.size A6 fs from HO6.out.row.2.2.2).up (al1 _ _)) (Nat.le_trans HO6.out.row.2.1 HO6.out.row.2.2.1 |> fun h => by rw [HM6.out]; simpa using h)).mono ?_; rintro e w8 ⟨rfl, hb8⟩; rw [HP.out]; have HB8 := Lib.hid (below_step (HB6.out.alloc (by omega) _) (by rw [asz]; omega) hb8); have HR8 := Lib.hid ((HR6.out.alloc _).up hb8); have HC8 := Lib.hid ((CB.new w6 30 [.slice A6 m6 c6, .int .i64 nx]).up hb8); have c8_0 := HC8.out.cell 0 rfl; have c8_1 := HC8.out.cell 1 rfl; have hz8 : w.heap.size + 1 + 1 < w8.heap.size := HR8.out.lt; have HW8 := Lib.hid hb8; have HY8 := Lib.hid ((al1 w6 _).trans (hb8.mono (al1 w6 _).size)); clear hb8) | ((with_reducible show wpList _ _ _ _ _ _); refine wpList_store_cb rfl 30 (.tmp 4) (.tmp 38) rfl (w.heap.size + 1 + 1) [.slice none 0 0, .int .i64 0] rfl rfl 30 [.slice none 0 0, .int .i64 0] 2 HR8.out sizeS rfl rfl (one_s _ _ _ _) ?_; intro w9 hc9 hg9 hz9))
      refine bodyPost_ret (res_cell Try.results14 rfl rfl hc9 Try.underlying30 sizeS rfl) rfl ⟨?_, below_grown HB8.out hg9 (by omega) (by omega)⟩
      rw [HRQ.out, last_pl rfl HP.out]
      exact res_zero _ _ _
    | true =>
      have HP := Lib.hid hp
      clear hp
      cases hnb : namGo [] fs with
      | false =>
        have HNB := Lib.hid hnb
        clear hnb
        go_wp2_with (first | (go_at_call 54; refine HE.out.mono ?_; rintro e w6 ⟨⟨A6, m6, c6, rfl, hm6, ho6⟩, hb6⟩; dsimp only at hm6 ho6; have HO6 := Lib.hid ho6; have HM6 := Lib.hid hm6; have HB6 := Lib.hid (below_step HQB.out HQB.out.size hb6); have HR6 := Lib.hid (HQ3.out.up hb6); have hz6 : w.heap.size + 1 + 1 < w6.heap.size := HR6.out.lt; clear ho6 hm6 hb6 HE) | (go_at_call 33; refine (placed_any A6 m6 c6 fs _ HM6.out ((show Fds w6 w6.heap.size A6 fs from HO6.out.row.2.2.2).up (al1 _ _)) (Nat.le_trans HO6.out.row.2.1 HO6.out.row.2.2.1 |> fun h => by rw [HM6.out]; simpa using h)).mono ?_; rintro e w8 ⟨rfl, hb8⟩; rw [HP.out]; have HB8 := Lib.hid (below_step (HB6.out.alloc (by omega) _) (by rw [asz]; omega) hb8); have HR8 := Lib.hid ((HR6.out.alloc _).up hb8); have HC8 := Lib.hid ((CB.new w6 30 [.slice A6 m6 c6, .int .i64 nx]).up hb8); have c8_0 := HC8.out.cell 0 rfl; have c8_1 := HC8.out.cell 1 rfl; have hz8 : w.heap.size + 1 + 1 < w8.heap.size := HR8.out.lt; have HW8 := Lib.hid hb8; have HY8 := Lib.hid ((al1 w6 _).trans (hb8.mono (al1 w6 _).size)); clear hb8) | (go_at_call 34; refine (named_any A6 m6 c6 fs _ HM6.out (by rw [HM6.out]; simpa using HO6.out.row.2.1) (((show Fds w6 w6.heap.size A6 fs from HO6.out.row.2.2.2).up (al1 _ _)).up HW8.out) HO6.out.row.2.2.1 (fun f hf => HAN.out f hf)).mono ?_; rintro e w10 ⟨rfl, hb10⟩; rw [HNB.out]; have HB10 := Lib.hid (below_step HB8.out HB8.out.size hb10); have HR10 := Lib.hid (HR8.out.up hb10); have HC10 := Lib.hid (HC8.out.up hb10); have c10_0 := HC10.out.cell 0 rfl; have c10_1 := HC10.out.cell 1 rfl; have hz10 : w.heap.size + 1 + 1 < w10.heap.size := HR10.out.lt; have HY10 := Lib.hid (below_step HY8.out HY8.out.size hb10); clear hb10) | ((with_reducible show wpList _ _ _ _ _ _); refine wpList_store_cb rfl 30 (.tmp 4) (.tmp 44) rfl (w.heap.size + 1 + 1) [.slice none 0 0, .int .i64 0] rfl rfl 30 [.slice none 0 0, .int .i64 0] 2 HR10.out sizeS rfl rfl (one_s _ _ _ _) ?_; intro w9 hc9 hg9 hz9))
        refine bodyPost_ret (res_cell Try.results14 rfl rfl hc9 Try.underlying30 sizeS rfl) rfl ⟨?_, below_grown HB10.out hg9 (by omega) (by omega)⟩
        rw [HRQ.out, last_nm rfl HP.out HNB.out]
        exact res_zero _ _ _
      | true =>
        have HNB := Lib.hid hnb
        clear hnb
        by_cases hli : fs.length ≤ 64 ∧ nx ≤ 1073741824
        · have HLI := Lib.hid hli
          clear hli
          have HL : ∀ m6 : Nat, Hid (m6 = fs.length) → Hid (decide (m6 ≤ 64 ∧ nx ≤ 1073741824) = true) := fun m6 h => by show _ = _; rw [h.out]; exact decide_eq_true HLI.out
          go_wp2_with (first | (go_at_call 54; refine HE.out.mono ?_; rintro e w6 ⟨⟨A6, m6, c6, rfl, hm6, ho6⟩, hb6⟩; dsimp only at hm6 ho6; have HO6 := Lib.hid ho6; have HM6 := Lib.hid hm6; have HB6 := Lib.hid (below_step HQB.out HQB.out.size hb6); have HR6 := Lib.hid (HQ3.out.up hb6); have hz6 : w.heap.size + 1 + 1 < w6.heap.size := HR6.out.lt; clear ho6 hm6 hb6 HE) | (go_at_call 33; refine (placed_any A6 m6 c6 fs _ HM6.out ((show Fds w6 w6.heap.size A6 fs from HO6.out.row.2.2.2).up (al1 _ _)) (Nat.le_trans HO6.out.row.2.1 HO6.out.row.2.2.1 |> fun h => by rw [HM6.out]; simpa using h)).mono ?_; rintro e w8 ⟨rfl, hb8⟩; rw [HP.out]; have HB8 := Lib.hid (below_step (HB6.out.alloc (by omega) _) (by rw [asz]; omega) hb8); have HR8 := Lib.hid ((HR6.out.alloc _).up hb8); have HC8 := Lib.hid ((CB.new w6 30 [.slice A6 m6 c6, .int .i64 nx]).up hb8); have c8_0 := HC8.out.cell 0 rfl; have c8_1 := HC8.out.cell 1 rfl; have hz8 : w.heap.size + 1 + 1 < w8.heap.size := HR8.out.lt; have HW8 := Lib.hid hb8; have HY8 := Lib.hid ((al1 w6 _).trans (hb8.mono (al1 w6 _).size)); clear hb8) | (go_at_call 34; refine (named_any A6 m6 c6 fs _ HM6.out (by rw [HM6.out]; simpa using HO6.out.row.2.1) (((show Fds w6 w6.heap.size A6 fs from HO6.out.row.2.2.2).up (al1 _ _)).up HW8.out) HO6.out.row.2.2.1 (fun f hf => HAN.out f hf)).mono ?_; rintro e w10 ⟨rfl, hb10⟩; rw [HNB.out]; have HB10 := Lib.hid (below_step HB8.out HB8.out.size hb10); have HR10 := Lib.hid (HR8.out.up hb10); have HC10 := Lib.hid (HC8.out.up hb10); have c10_0 := HC10.out.cell 0 rfl; have c10_1 := HC10.out.cell 1 rfl; have hz10 : w.heap.size + 1 + 1 < w10.heap.size := HR10.out.lt; have HY10 := Lib.hid (below_step HY8.out HY8.out.size hb10); clear hb10) | (go_at_call 35; refine (limited_any A6 m6 c6 nx true _ (HL m6 HM6).out (Nat.le_trans HO6.out.row.2.1 HO6.out.row.2.2.1 |> fun h => by rw [HM6.out]; simpa using h)).mono ?_; rintro e w11 ⟨rfl, hb11⟩; have HB11 := Lib.hid (below_step HB10.out HB10.out.size hb11); have HR11 := Lib.hid (HR10.out.up hb11); have HC11 := Lib.hid (HC10.out.up hb11); have c11_0 := HC11.out.cell 0 rfl; have c11_1 := HC11.out.cell 1 rfl; have hz11 : w.heap.size + 1 + 1 < w11.heap.size := HR11.out.lt; have HW6 := Lib.hid (below_step HY10.out HY10.out.size hb11); clear hb11) | ((with_reducible show wpList _ _ _ _ _ _); refine wpList_store_cb rfl 30 (.tmp 4) (.tmp 50) rfl (w.heap.size + 1 + 1) [.slice A6 m6 c6, .int .i64 nx] rfl rfl 30 [.slice none 0 0, .int .i64 0] 2 HR11.out sizeS rfl rfl (one_s _ _ _ _) ?_; intro w9 hc9 hg9 hz9))
          refine bodyPost_ret (res_cell Try.results14 rfl rfl hc9 Try.underlying30 sizeS rfl) rfl ⟨?_, below_grown HB11.out hg9 (by omega) (by omega)⟩
          rw [HRQ.out, last_ok rfl HP.out HNB.out HLI.out]
          exact ⟨A6, m6, c6, rfl, HM6.out, ((HO6.out.low HQB.out.size).up HW6.out).kept hg9 (.inr (Own.ne ((HO6.out.low HQB.out.size).up HW6.out) HR11.out (by decide)).symm)⟩
        · have HLI := Lib.hid hli
          clear hli
          have HL : ∀ m6 : Nat, Hid (m6 = fs.length) → Hid (decide (m6 ≤ 64 ∧ nx ≤ 1073741824) = false) := fun m6 h => by show _ = _; rw [h.out]; exact decide_eq_false HLI.out
          go_wp2_with (first | (go_at_call 54; refine HE.out.mono ?_; rintro e w6 ⟨⟨A6, m6, c6, rfl, hm6, ho6⟩, hb6⟩; dsimp only at hm6 ho6; have HO6 := Lib.hid ho6; have HM6 := Lib.hid hm6; have HB6 := Lib.hid (below_step HQB.out HQB.out.size hb6); have HR6 := Lib.hid (HQ3.out.up hb6); have hz6 : w.heap.size + 1 + 1 < w6.heap.size := HR6.out.lt; clear ho6 hm6 hb6 HE) | (go_at_call 33; refine (placed_any A6 m6 c6 fs _ HM6.out ((show Fds w6 w6.heap.size A6 fs from HO6.out.row.2.2.2).up (al1 _ _)) (Nat.le_trans HO6.out.row.2.1 HO6.out.row.2.2.1 |> fun h => by rw [HM6.out]; simpa using h)).mono ?_; rintro e w8 ⟨rfl, hb8⟩; rw [HP.out]; have HB8 := Lib.hid (below_step (HB6.out.alloc (by omega) _) (by rw [asz]; omega) hb8); have HR8 := Lib.hid ((HR6.out.alloc _).up hb8); have HC8 := Lib.hid ((CB.new w6 30 [.slice A6 m6 c6, .int .i64 nx]).up hb8); have c8_0 := HC8.out.cell 0 rfl; have c8_1 := HC8.out.cell 1 rfl; have hz8 : w.heap.size + 1 + 1 < w8.heap.size := HR8.out.lt; have HW8 := Lib.hid hb8; have HY8 := Lib.hid ((al1 w6 _).trans (hb8.mono (al1 w6 _).size)); clear hb8) | (go_at_call 34; refine (named_any A6 m6 c6 fs _ HM6.out (by rw [HM6.out]; simpa using HO6.out.row.2.1) (((show Fds w6 w6.heap.size A6 fs from HO6.out.row.2.2.2).up (al1 _ _)).up HW8.out) HO6.out.row.2.2.1 (fun f hf => HAN.out f hf)).mono ?_; rintro e w10 ⟨rfl, hb10⟩; rw [HNB.out]; have HB10 := Lib.hid (below_step HB8.out HB8.out.size hb10); have HR10 := Lib.hid (HR8.out.up hb10); have HC10 := Lib.hid (HC8.out.up hb10); have c10_0 := HC10.out.cell 0 rfl; have c10_1 := HC10.out.cell 1 rfl; have hz10 : w.heap.size + 1 + 1 < w10.heap.size := HR10.out.lt; have HY10 := Lib.hid (below_step HY8.out HY8.out.size hb10); clear hb10) | (go_at_call 35; refine (limited_any A6 m6 c6 nx false _ (HL m6 HM6).out (Nat.le_trans HO6.out.row.2.1 HO6.out.row.2.2.1 |> fun h => by rw [HM6.out]; simpa using h)).mono ?_; rintro e w11 ⟨rfl, hb11⟩; have HB11 := Lib.hid (below_step HB10.out HB10.out.size hb11); have HR11 := Lib.hid (HR10.out.up hb11); have HC11 := Lib.hid (HC10.out.up hb11); have c11_0 := HC11.out.cell 0 rfl; have c11_1 := HC11.out.cell 1 rfl; have hz11 : w.heap.size + 1 + 1 < w11.heap.size := HR11.out.lt; have HW6 := Lib.hid (below_step HY10.out HY10.out.size hb11); clear hb11) | ((with_reducible show wpList _ _ _ _ _ _); refine wpList_store_cb rfl 30 (.tmp 4) (.tmp 49) rfl (w.heap.size + 1 + 1) [.slice none 0 0, .int .i64 0] rfl rfl 30 [.slice none 0 0, .int .i64 0] 2 HR11.out sizeS rfl rfl (one_s _ _ _ _) ?_; intro w9 hc9 hg9 hz9))
          refine bodyPost_ret (res_cell Try.results14 rfl rfl hc9 Try.underlying30 sizeS rfl) rfl ⟨?_, below_grown HB11.out hg9 (by omega) (by omega)⟩
          rw [HRQ.out, last_li rfl HP.out HNB.out HLI.out]
          exact res_zero _ _ _
  · have e1 : (er != 0) = true := by simpa using h0
    have H0 := Lib.hid h0
    clear h0
    go_wp2_with (first | (go_at_call 54; refine HE.out.mono ?_; rintro e w6 ⟨⟨A6, m6, c6, rfl, hm6, ho6⟩, hb6⟩; dsimp only at hm6 ho6; have HO6 := Lib.hid ho6; have HM6 := Lib.hid hm6; have HB6 := Lib.hid (below_step HQB.out HQB.out.size hb6); have HR6 := Lib.hid (HQ3.out.up hb6); have hz6 : w.heap.size + 1 + 1 < w6.heap.size := HR6.out.lt; clear ho6 hm6 hb6 HE) | ((with_reducible show wpList _ _ _ _ _ _); refine wpList_store_cb rfl 30 (.tmp 4) (.tmp 31) rfl (w.heap.size + 1 + 1) [.slice none 0 0, .int .i64 0] rfl rfl 30 [.slice none 0 0, .int .i64 0] 2 (HR6.out.alloc _) sizeS rfl rfl (one_s _ _ _ _) ?_; intro w9 hc9 hg9 hz9))
    refine bodyPost_ret (res_cell Try.results14 rfl rfl hc9 Try.underlying30 sizeS rfl) rfl ⟨?_, below_grown (HB6.out.alloc (by omega) _) hg9 (by rw [asz]; omega) (by omega)⟩
    rw [HRQ.out, last_ne rfl H0.out]
    exact res_zero _ _ _

set_option maxHeartbeats 4000000 in
set_option maxRecDepth 20000 in
theorem Apply_drop (A : Option Addr) (n c : Nat) (x : Int) (l : List Fd)  (id wi : Int) (nm ot : ByteArray) (ty pa : Int) (sep : ByteArray) (w : World) (hn : n = l.length) (hs : Fds w w.heap.size A l) (hl0 : n ≤ 1000) (hx0 : 0 ≤ x) (hx1 : x ≤ 2305843009213693952) (hsep : sep.size ≤ 9223372036854775807) (hnl : AllN (fun s => s.size ≤ 9223372036854775807) l) (hnm : nm.size ≤ 9223372036854775807) (hot : ot.size ≤ 9223372036854775807) :
    Calls Try.prog 14 #[.agg #[.slice A n c, .int .i64 x], .agg #[.int .i64 2, .int .i64 id, .int .i64 wi, .string nm, .string ot, .int .i64 ty, .int .i64 pa, .string sep]] w fun e w' => ResS w w' (lastE (dropE ⟨l, x⟩ ⟨2, id, wi, nm, ot, ty, pa, sep⟩)) e ∧ Below w.heap.size w w' := by
  have HN := Lib.hid hn
  have HS := Lib.hid hs
  have HNL := Lib.hid hnl
  clear hn hs hnl
  have hq1 := ((CB.new w 30 [.slice A n c, .int .i64 x]).alloc (.cells #[.int .i64 2, .int .i64 id, .int .i64 wi, .string nm, .string ot, .int .i64 ty, .int .i64 pa, .string sep] 24)).alloc (.cells #[.slice none 0 0, .int .i64 0] 30)
  have hq2 := (CB.new1 w (.cells #[.slice A n c, .int .i64 x] 30) 24 [.int .i64 2, .int .i64 id, .int .i64 wi, .string nm, .string ot, .int .i64 ty, .int .i64 pa, .string sep]).alloc (.cells #[.slice none 0 0, .int .i64 0] 30)
  have hq3 := CB.new2 w (.cells #[.slice A n c, .int .i64 x] 30) (.cells #[.int .i64 2, .int .i64 id, .int .i64 wi, .string nm, .string ot, .int .i64 ty, .int .i64 pa, .string sep] 24) 30 [.slice none 0 0, .int .i64 0]
  have hqb := al3 w (.cells #[.slice A n c, .int .i64 x] 30) (.cells #[.int .i64 2, .int .i64 id, .int .i64 wi, .string nm, .string ot, .int .i64 ty, .int .i64 pa, .string sep] 24) (.cells #[.slice none 0 0, .int .i64 0] 30)
  go_enter Try.func14, Try.ntmps14
  go_wp2
  generalize (((w.alloc (.cells #[.slice A n c, .int .i64 x] 30)).alloc (.cells #[.int .i64 2, .int .i64 id, .int .i64 wi, .string nm, .string ot, .int .i64 ty, .int .i64 pa, .string sep] 24)).alloc (.cells #[.slice none 0 0, .int .i64 0] 30)) = W0 at *
  have Q1 := Lib.hid hq1
  have Q2 := Lib.hid hq2
  have Q3 := Lib.hid hq3
  have QB := Lib.hid hqb
  have k0 := hq2.cell 0 rfl
  clear hq1 hq2 hq3 hqb
  go_region_held_law (fun w' => w'.cell? ⟨w.heap.size + 1, 0, none⟩ = some (.int .i64 2))
    (first | exact (Q2.out.up hw7).cell 0 rfl | exact Q2.out.dr.cell 0 rfl | exact (Q2.out.up hw7).dr.cell 0 rfl | go_keep)
    (first | (go_at_call 32; refine (kinds_any _).mono ?_; rintro e w7 ⟨rfl, hm7, hb7⟩; have hw7 : Below W0.heap.size W0 w7 := (by first | exact hb7 | exact (bd _).trans (hb7.mono (bd _).size)); have hlook := kinds_look (show KM w7 W0.heap.size 7 kinD from hm7) 2 (by decide); rw [show kindV 2 = .func (.func 55) #[] #[] from rfl, show decide ((1 : Int) ≤ 2 ∧ (2 : Int) ≤ 7) = true from rfl] at hlook; clear hm7 hb7))
  have he := (drop_any A n c x l 2 id wi nm ot ty pa sep w7 HN.out (HS.out.up (QB.out.trans (hw7.mono QB.out.size))) hl0 hx0 hx1 hsep)
  have han : (AllN (fun s => s.size ≤ 9223372036854775807) (dropE ⟨l, x⟩ ⟨2, id, wi, nm, ot, ty, pa, sep⟩).1.fs) := alln_edit (s := ⟨l, x⟩) (c := ⟨2, id, wi, nm, ot, ty, pa, sep⟩) HNL.out hnm hot
  obtain ⟨⟨⟨fs, nx⟩, er⟩, hr⟩ : ∃ r, dropE ⟨l, x⟩ ⟨2, id, wi, nm, ot, ty, pa, sep⟩ = r := ⟨_, rfl⟩
  rw [hr] at he han
  have HE := Lib.hid he
  have HAN := Lib.hid han
  have HRQ := Lib.hid hr
  clear he han hr
  have HQ1 := Lib.hid (Q1.out.up hw7)
  have HQ2 := Lib.hid (Q2.out.up hw7)
  have HQ3 := Lib.hid (Q3.out.up hw7)
  have HQB := Lib.hid (QB.out.trans (hw7.mono QB.out.size))
  have s0 := HQ1.out.cell 0 rfl
  have s1 := HQ1.out.cell 1 rfl
  have t0 := HQ2.out.cell 0 rfl
  have t1 := HQ2.out.cell 1 rfl
  have t2 := HQ2.out.cell 2 rfl
  have t3 := HQ2.out.cell 3 rfl
  have t4 := HQ2.out.cell 4 rfl
  have t5 := HQ2.out.cell 5 rfl
  have t6 := HQ2.out.cell 6 rfl
  have t7 := HQ2.out.cell 7 rfl
  clear hw7 k0 hlook Q1 Q2 Q3 QB
  by_cases h0 : er = 0
  · subst h0
    cases hp : plcsB fs with
    | false =>
      have HP := Lib.hid hp
      clear hp
      go_wp2_with (first | (go_at_call 55; refine HE.out.mono ?_; rintro e w6 ⟨⟨A6, m6, c6, rfl, hm6, ho6⟩, hb6⟩; dsimp only at hm6 ho6; have HO6 := Lib.hid ho6; have HM6 := Lib.hid hm6; have HB6 := Lib.hid (below_step HQB.out HQB.out.size hb6); have HR6 := Lib.hid (HQ3.out.up hb6); have hz6 : w.heap.size + 1 + 1 < w6.heap.size := HR6.out.lt; clear ho6 hm6 hb6 HE) | (go_at_call 33; refine (placed_any A6 m6 c6 fs _ HM6.out ((show Fds w6 w6.heap.size A6 fs from HO6.out.row.2.2.2).up (al1 _ _)) (Nat.le_trans HO6.out.row.2.1 HO6.out.row.2.2.1 |> fun h => by rw [HM6.out]; simpa using h)).mono ?_; rintro e w8 ⟨rfl, hb8⟩; rw [HP.out]; have HB8 := Lib.hid (below_step (HB6.out.alloc (by omega) _) (by rw [asz]; omega) hb8); have HR8 := Lib.hid ((HR6.out.alloc _).up hb8); have HC8 := Lib.hid ((CB.new w6 30 [.slice A6 m6 c6, .int .i64 nx]).up hb8); have c8_0 := HC8.out.cell 0 rfl; have c8_1 := HC8.out.cell 1 rfl; have hz8 : w.heap.size + 1 + 1 < w8.heap.size := HR8.out.lt; have HW8 := Lib.hid hb8; have HY8 := Lib.hid ((al1 w6 _).trans (hb8.mono (al1 w6 _).size)); clear hb8) | ((with_reducible show wpList _ _ _ _ _ _); refine wpList_store_cb rfl 30 (.tmp 4) (.tmp 38) rfl (w.heap.size + 1 + 1) [.slice none 0 0, .int .i64 0] rfl rfl 30 [.slice none 0 0, .int .i64 0] 2 HR8.out sizeS rfl rfl (one_s _ _ _ _) ?_; intro w9 hc9 hg9 hz9))
      refine bodyPost_ret (res_cell Try.results14 rfl rfl hc9 Try.underlying30 sizeS rfl) rfl ⟨?_, below_grown HB8.out hg9 (by omega) (by omega)⟩
      rw [HRQ.out, last_pl rfl HP.out]
      exact res_zero _ _ _
    | true =>
      have HP := Lib.hid hp
      clear hp
      cases hnb : namGo [] fs with
      | false =>
        have HNB := Lib.hid hnb
        clear hnb
        go_wp2_with (first | (go_at_call 55; refine HE.out.mono ?_; rintro e w6 ⟨⟨A6, m6, c6, rfl, hm6, ho6⟩, hb6⟩; dsimp only at hm6 ho6; have HO6 := Lib.hid ho6; have HM6 := Lib.hid hm6; have HB6 := Lib.hid (below_step HQB.out HQB.out.size hb6); have HR6 := Lib.hid (HQ3.out.up hb6); have hz6 : w.heap.size + 1 + 1 < w6.heap.size := HR6.out.lt; clear ho6 hm6 hb6 HE) | (go_at_call 33; refine (placed_any A6 m6 c6 fs _ HM6.out ((show Fds w6 w6.heap.size A6 fs from HO6.out.row.2.2.2).up (al1 _ _)) (Nat.le_trans HO6.out.row.2.1 HO6.out.row.2.2.1 |> fun h => by rw [HM6.out]; simpa using h)).mono ?_; rintro e w8 ⟨rfl, hb8⟩; rw [HP.out]; have HB8 := Lib.hid (below_step (HB6.out.alloc (by omega) _) (by rw [asz]; omega) hb8); have HR8 := Lib.hid ((HR6.out.alloc _).up hb8); have HC8 := Lib.hid ((CB.new w6 30 [.slice A6 m6 c6, .int .i64 nx]).up hb8); have c8_0 := HC8.out.cell 0 rfl; have c8_1 := HC8.out.cell 1 rfl; have hz8 : w.heap.size + 1 + 1 < w8.heap.size := HR8.out.lt; have HW8 := Lib.hid hb8; have HY8 := Lib.hid ((al1 w6 _).trans (hb8.mono (al1 w6 _).size)); clear hb8) | (go_at_call 34; refine (named_any A6 m6 c6 fs _ HM6.out (by rw [HM6.out]; simpa using HO6.out.row.2.1) (((show Fds w6 w6.heap.size A6 fs from HO6.out.row.2.2.2).up (al1 _ _)).up HW8.out) HO6.out.row.2.2.1 (fun f hf => HAN.out f hf)).mono ?_; rintro e w10 ⟨rfl, hb10⟩; rw [HNB.out]; have HB10 := Lib.hid (below_step HB8.out HB8.out.size hb10); have HR10 := Lib.hid (HR8.out.up hb10); have HC10 := Lib.hid (HC8.out.up hb10); have c10_0 := HC10.out.cell 0 rfl; have c10_1 := HC10.out.cell 1 rfl; have hz10 : w.heap.size + 1 + 1 < w10.heap.size := HR10.out.lt; have HY10 := Lib.hid (below_step HY8.out HY8.out.size hb10); clear hb10) | ((with_reducible show wpList _ _ _ _ _ _); refine wpList_store_cb rfl 30 (.tmp 4) (.tmp 44) rfl (w.heap.size + 1 + 1) [.slice none 0 0, .int .i64 0] rfl rfl 30 [.slice none 0 0, .int .i64 0] 2 HR10.out sizeS rfl rfl (one_s _ _ _ _) ?_; intro w9 hc9 hg9 hz9))
        refine bodyPost_ret (res_cell Try.results14 rfl rfl hc9 Try.underlying30 sizeS rfl) rfl ⟨?_, below_grown HB10.out hg9 (by omega) (by omega)⟩
        rw [HRQ.out, last_nm rfl HP.out HNB.out]
        exact res_zero _ _ _
      | true =>
        have HNB := Lib.hid hnb
        clear hnb
        by_cases hli : fs.length ≤ 64 ∧ nx ≤ 1073741824
        · have HLI := Lib.hid hli
          clear hli
          have HL : ∀ m6 : Nat, Hid (m6 = fs.length) → Hid (decide (m6 ≤ 64 ∧ nx ≤ 1073741824) = true) := fun m6 h => by show _ = _; rw [h.out]; exact decide_eq_true HLI.out
          go_wp2_with (first | (go_at_call 55; refine HE.out.mono ?_; rintro e w6 ⟨⟨A6, m6, c6, rfl, hm6, ho6⟩, hb6⟩; dsimp only at hm6 ho6; have HO6 := Lib.hid ho6; have HM6 := Lib.hid hm6; have HB6 := Lib.hid (below_step HQB.out HQB.out.size hb6); have HR6 := Lib.hid (HQ3.out.up hb6); have hz6 : w.heap.size + 1 + 1 < w6.heap.size := HR6.out.lt; clear ho6 hm6 hb6 HE) | (go_at_call 33; refine (placed_any A6 m6 c6 fs _ HM6.out ((show Fds w6 w6.heap.size A6 fs from HO6.out.row.2.2.2).up (al1 _ _)) (Nat.le_trans HO6.out.row.2.1 HO6.out.row.2.2.1 |> fun h => by rw [HM6.out]; simpa using h)).mono ?_; rintro e w8 ⟨rfl, hb8⟩; rw [HP.out]; have HB8 := Lib.hid (below_step (HB6.out.alloc (by omega) _) (by rw [asz]; omega) hb8); have HR8 := Lib.hid ((HR6.out.alloc _).up hb8); have HC8 := Lib.hid ((CB.new w6 30 [.slice A6 m6 c6, .int .i64 nx]).up hb8); have c8_0 := HC8.out.cell 0 rfl; have c8_1 := HC8.out.cell 1 rfl; have hz8 : w.heap.size + 1 + 1 < w8.heap.size := HR8.out.lt; have HW8 := Lib.hid hb8; have HY8 := Lib.hid ((al1 w6 _).trans (hb8.mono (al1 w6 _).size)); clear hb8) | (go_at_call 34; refine (named_any A6 m6 c6 fs _ HM6.out (by rw [HM6.out]; simpa using HO6.out.row.2.1) (((show Fds w6 w6.heap.size A6 fs from HO6.out.row.2.2.2).up (al1 _ _)).up HW8.out) HO6.out.row.2.2.1 (fun f hf => HAN.out f hf)).mono ?_; rintro e w10 ⟨rfl, hb10⟩; rw [HNB.out]; have HB10 := Lib.hid (below_step HB8.out HB8.out.size hb10); have HR10 := Lib.hid (HR8.out.up hb10); have HC10 := Lib.hid (HC8.out.up hb10); have c10_0 := HC10.out.cell 0 rfl; have c10_1 := HC10.out.cell 1 rfl; have hz10 : w.heap.size + 1 + 1 < w10.heap.size := HR10.out.lt; have HY10 := Lib.hid (below_step HY8.out HY8.out.size hb10); clear hb10) | (go_at_call 35; refine (limited_any A6 m6 c6 nx true _ (HL m6 HM6).out (Nat.le_trans HO6.out.row.2.1 HO6.out.row.2.2.1 |> fun h => by rw [HM6.out]; simpa using h)).mono ?_; rintro e w11 ⟨rfl, hb11⟩; have HB11 := Lib.hid (below_step HB10.out HB10.out.size hb11); have HR11 := Lib.hid (HR10.out.up hb11); have HC11 := Lib.hid (HC10.out.up hb11); have c11_0 := HC11.out.cell 0 rfl; have c11_1 := HC11.out.cell 1 rfl; have hz11 : w.heap.size + 1 + 1 < w11.heap.size := HR11.out.lt; have HW6 := Lib.hid (below_step HY10.out HY10.out.size hb11); clear hb11) | ((with_reducible show wpList _ _ _ _ _ _); refine wpList_store_cb rfl 30 (.tmp 4) (.tmp 50) rfl (w.heap.size + 1 + 1) [.slice A6 m6 c6, .int .i64 nx] rfl rfl 30 [.slice none 0 0, .int .i64 0] 2 HR11.out sizeS rfl rfl (one_s _ _ _ _) ?_; intro w9 hc9 hg9 hz9))
          refine bodyPost_ret (res_cell Try.results14 rfl rfl hc9 Try.underlying30 sizeS rfl) rfl ⟨?_, below_grown HB11.out hg9 (by omega) (by omega)⟩
          rw [HRQ.out, last_ok rfl HP.out HNB.out HLI.out]
          exact ⟨A6, m6, c6, rfl, HM6.out, ((HO6.out.low HQB.out.size).up HW6.out).kept hg9 (.inr (Own.ne ((HO6.out.low HQB.out.size).up HW6.out) HR11.out (by decide)).symm)⟩
        · have HLI := Lib.hid hli
          clear hli
          have HL : ∀ m6 : Nat, Hid (m6 = fs.length) → Hid (decide (m6 ≤ 64 ∧ nx ≤ 1073741824) = false) := fun m6 h => by show _ = _; rw [h.out]; exact decide_eq_false HLI.out
          go_wp2_with (first | (go_at_call 55; refine HE.out.mono ?_; rintro e w6 ⟨⟨A6, m6, c6, rfl, hm6, ho6⟩, hb6⟩; dsimp only at hm6 ho6; have HO6 := Lib.hid ho6; have HM6 := Lib.hid hm6; have HB6 := Lib.hid (below_step HQB.out HQB.out.size hb6); have HR6 := Lib.hid (HQ3.out.up hb6); have hz6 : w.heap.size + 1 + 1 < w6.heap.size := HR6.out.lt; clear ho6 hm6 hb6 HE) | (go_at_call 33; refine (placed_any A6 m6 c6 fs _ HM6.out ((show Fds w6 w6.heap.size A6 fs from HO6.out.row.2.2.2).up (al1 _ _)) (Nat.le_trans HO6.out.row.2.1 HO6.out.row.2.2.1 |> fun h => by rw [HM6.out]; simpa using h)).mono ?_; rintro e w8 ⟨rfl, hb8⟩; rw [HP.out]; have HB8 := Lib.hid (below_step (HB6.out.alloc (by omega) _) (by rw [asz]; omega) hb8); have HR8 := Lib.hid ((HR6.out.alloc _).up hb8); have HC8 := Lib.hid ((CB.new w6 30 [.slice A6 m6 c6, .int .i64 nx]).up hb8); have c8_0 := HC8.out.cell 0 rfl; have c8_1 := HC8.out.cell 1 rfl; have hz8 : w.heap.size + 1 + 1 < w8.heap.size := HR8.out.lt; have HW8 := Lib.hid hb8; have HY8 := Lib.hid ((al1 w6 _).trans (hb8.mono (al1 w6 _).size)); clear hb8) | (go_at_call 34; refine (named_any A6 m6 c6 fs _ HM6.out (by rw [HM6.out]; simpa using HO6.out.row.2.1) (((show Fds w6 w6.heap.size A6 fs from HO6.out.row.2.2.2).up (al1 _ _)).up HW8.out) HO6.out.row.2.2.1 (fun f hf => HAN.out f hf)).mono ?_; rintro e w10 ⟨rfl, hb10⟩; rw [HNB.out]; have HB10 := Lib.hid (below_step HB8.out HB8.out.size hb10); have HR10 := Lib.hid (HR8.out.up hb10); have HC10 := Lib.hid (HC8.out.up hb10); have c10_0 := HC10.out.cell 0 rfl; have c10_1 := HC10.out.cell 1 rfl; have hz10 : w.heap.size + 1 + 1 < w10.heap.size := HR10.out.lt; have HY10 := Lib.hid (below_step HY8.out HY8.out.size hb10); clear hb10) | (go_at_call 35; refine (limited_any A6 m6 c6 nx false _ (HL m6 HM6).out (Nat.le_trans HO6.out.row.2.1 HO6.out.row.2.2.1 |> fun h => by rw [HM6.out]; simpa using h)).mono ?_; rintro e w11 ⟨rfl, hb11⟩; have HB11 := Lib.hid (below_step HB10.out HB10.out.size hb11); have HR11 := Lib.hid (HR10.out.up hb11); have HC11 := Lib.hid (HC10.out.up hb11); have c11_0 := HC11.out.cell 0 rfl; have c11_1 := HC11.out.cell 1 rfl; have hz11 : w.heap.size + 1 + 1 < w11.heap.size := HR11.out.lt; have HW6 := Lib.hid (below_step HY10.out HY10.out.size hb11); clear hb11) | ((with_reducible show wpList _ _ _ _ _ _); refine wpList_store_cb rfl 30 (.tmp 4) (.tmp 49) rfl (w.heap.size + 1 + 1) [.slice none 0 0, .int .i64 0] rfl rfl 30 [.slice none 0 0, .int .i64 0] 2 HR11.out sizeS rfl rfl (one_s _ _ _ _) ?_; intro w9 hc9 hg9 hz9))
          refine bodyPost_ret (res_cell Try.results14 rfl rfl hc9 Try.underlying30 sizeS rfl) rfl ⟨?_, below_grown HB11.out hg9 (by omega) (by omega)⟩
          rw [HRQ.out, last_li rfl HP.out HNB.out HLI.out]
          exact res_zero _ _ _
  · have e1 : (er != 0) = true := by simpa using h0
    have H0 := Lib.hid h0
    clear h0
    go_wp2_with (first | (go_at_call 55; refine HE.out.mono ?_; rintro e w6 ⟨⟨A6, m6, c6, rfl, hm6, ho6⟩, hb6⟩; dsimp only at hm6 ho6; have HO6 := Lib.hid ho6; have HM6 := Lib.hid hm6; have HB6 := Lib.hid (below_step HQB.out HQB.out.size hb6); have HR6 := Lib.hid (HQ3.out.up hb6); have hz6 : w.heap.size + 1 + 1 < w6.heap.size := HR6.out.lt; clear ho6 hm6 hb6 HE) | ((with_reducible show wpList _ _ _ _ _ _); refine wpList_store_cb rfl 30 (.tmp 4) (.tmp 31) rfl (w.heap.size + 1 + 1) [.slice none 0 0, .int .i64 0] rfl rfl 30 [.slice none 0 0, .int .i64 0] 2 (HR6.out.alloc _) sizeS rfl rfl (one_s _ _ _ _) ?_; intro w9 hc9 hg9 hz9))
    refine bodyPost_ret (res_cell Try.results14 rfl rfl hc9 Try.underlying30 sizeS rfl) rfl ⟨?_, below_grown (HB6.out.alloc (by omega) _) hg9 (by rw [asz]; omega) (by omega)⟩
    rw [HRQ.out, last_ne rfl H0.out]
    exact res_zero _ _ _

set_option maxHeartbeats 4000000 in
set_option maxRecDepth 20000 in
theorem Apply_ren (A : Option Addr) (n c : Nat) (x : Int) (l : List Fd)  (id wi : Int) (nm ot : ByteArray) (ty pa : Int) (sep : ByteArray) (w : World) (hn : n = l.length) (hs : Fds w w.heap.size A l) (hl0 : n ≤ 1000) (hx0 : 0 ≤ x) (hx1 : x ≤ 2305843009213693952) (hsep : sep.size ≤ 9223372036854775807) (hnl : AllN (fun s => s.size ≤ 9223372036854775807) l) (hnm : nm.size ≤ 9223372036854775807) (hot : ot.size ≤ 9223372036854775807) :
    Calls Try.prog 14 #[.agg #[.slice A n c, .int .i64 x], .agg #[.int .i64 3, .int .i64 id, .int .i64 wi, .string nm, .string ot, .int .i64 ty, .int .i64 pa, .string sep]] w fun e w' => ResS w w' (lastE (renE ⟨l, x⟩ ⟨3, id, wi, nm, ot, ty, pa, sep⟩)) e ∧ Below w.heap.size w w' := by
  have HN := Lib.hid hn
  have HS := Lib.hid hs
  have HNL := Lib.hid hnl
  clear hn hs hnl
  have hq1 := ((CB.new w 30 [.slice A n c, .int .i64 x]).alloc (.cells #[.int .i64 3, .int .i64 id, .int .i64 wi, .string nm, .string ot, .int .i64 ty, .int .i64 pa, .string sep] 24)).alloc (.cells #[.slice none 0 0, .int .i64 0] 30)
  have hq2 := (CB.new1 w (.cells #[.slice A n c, .int .i64 x] 30) 24 [.int .i64 3, .int .i64 id, .int .i64 wi, .string nm, .string ot, .int .i64 ty, .int .i64 pa, .string sep]).alloc (.cells #[.slice none 0 0, .int .i64 0] 30)
  have hq3 := CB.new2 w (.cells #[.slice A n c, .int .i64 x] 30) (.cells #[.int .i64 3, .int .i64 id, .int .i64 wi, .string nm, .string ot, .int .i64 ty, .int .i64 pa, .string sep] 24) 30 [.slice none 0 0, .int .i64 0]
  have hqb := al3 w (.cells #[.slice A n c, .int .i64 x] 30) (.cells #[.int .i64 3, .int .i64 id, .int .i64 wi, .string nm, .string ot, .int .i64 ty, .int .i64 pa, .string sep] 24) (.cells #[.slice none 0 0, .int .i64 0] 30)
  go_enter Try.func14, Try.ntmps14
  go_wp2
  generalize (((w.alloc (.cells #[.slice A n c, .int .i64 x] 30)).alloc (.cells #[.int .i64 3, .int .i64 id, .int .i64 wi, .string nm, .string ot, .int .i64 ty, .int .i64 pa, .string sep] 24)).alloc (.cells #[.slice none 0 0, .int .i64 0] 30)) = W0 at *
  have Q1 := Lib.hid hq1
  have Q2 := Lib.hid hq2
  have Q3 := Lib.hid hq3
  have QB := Lib.hid hqb
  have k0 := hq2.cell 0 rfl
  clear hq1 hq2 hq3 hqb
  go_region_held_law (fun w' => w'.cell? ⟨w.heap.size + 1, 0, none⟩ = some (.int .i64 3))
    (first | exact (Q2.out.up hw7).cell 0 rfl | exact Q2.out.dr.cell 0 rfl | exact (Q2.out.up hw7).dr.cell 0 rfl | go_keep)
    (first | (go_at_call 32; refine (kinds_any _).mono ?_; rintro e w7 ⟨rfl, hm7, hb7⟩; have hw7 : Below W0.heap.size W0 w7 := (by first | exact hb7 | exact (bd _).trans (hb7.mono (bd _).size)); have hlook := kinds_look (show KM w7 W0.heap.size 7 kinD from hm7) 3 (by decide); rw [show kindV 3 = .func (.func 56) #[] #[] from rfl, show decide ((1 : Int) ≤ 3 ∧ (3 : Int) ≤ 7) = true from rfl] at hlook; clear hm7 hb7))
  have he := (ren_any A n c x l 3 id wi nm ot ty pa sep w7 HN.out (HS.out.up (QB.out.trans (hw7.mono QB.out.size))) hl0 hx0 hx1 hsep)
  have han : (AllN (fun s => s.size ≤ 9223372036854775807) (renE ⟨l, x⟩ ⟨3, id, wi, nm, ot, ty, pa, sep⟩).1.fs) := alln_edit (s := ⟨l, x⟩) (c := ⟨3, id, wi, nm, ot, ty, pa, sep⟩) HNL.out hnm hot
  obtain ⟨⟨⟨fs, nx⟩, er⟩, hr⟩ : ∃ r, renE ⟨l, x⟩ ⟨3, id, wi, nm, ot, ty, pa, sep⟩ = r := ⟨_, rfl⟩
  rw [hr] at he han
  have HE := Lib.hid he
  have HAN := Lib.hid han
  have HRQ := Lib.hid hr
  clear he han hr
  have HQ1 := Lib.hid (Q1.out.up hw7)
  have HQ2 := Lib.hid (Q2.out.up hw7)
  have HQ3 := Lib.hid (Q3.out.up hw7)
  have HQB := Lib.hid (QB.out.trans (hw7.mono QB.out.size))
  have s0 := HQ1.out.cell 0 rfl
  have s1 := HQ1.out.cell 1 rfl
  have t0 := HQ2.out.cell 0 rfl
  have t1 := HQ2.out.cell 1 rfl
  have t2 := HQ2.out.cell 2 rfl
  have t3 := HQ2.out.cell 3 rfl
  have t4 := HQ2.out.cell 4 rfl
  have t5 := HQ2.out.cell 5 rfl
  have t6 := HQ2.out.cell 6 rfl
  have t7 := HQ2.out.cell 7 rfl
  clear hw7 k0 hlook Q1 Q2 Q3 QB
  by_cases h0 : er = 0
  · subst h0
    cases hp : plcsB fs with
    | false =>
      have HP := Lib.hid hp
      clear hp
      go_wp2_with (first | (go_at_call 56; refine HE.out.mono ?_; rintro e w6 ⟨⟨A6, m6, c6, rfl, hm6, ho6⟩, hb6⟩; dsimp only at hm6 ho6; have HO6 := Lib.hid ho6; have HM6 := Lib.hid hm6; have HB6 := Lib.hid (below_step HQB.out HQB.out.size hb6); have HR6 := Lib.hid (HQ3.out.up hb6); have hz6 : w.heap.size + 1 + 1 < w6.heap.size := HR6.out.lt; clear ho6 hm6 hb6 HE) | (go_at_call 33; refine (placed_any A6 m6 c6 fs _ HM6.out ((show Fds w6 w6.heap.size A6 fs from HO6.out.row.2.2.2).up (al1 _ _)) (Nat.le_trans HO6.out.row.2.1 HO6.out.row.2.2.1 |> fun h => by rw [HM6.out]; simpa using h)).mono ?_; rintro e w8 ⟨rfl, hb8⟩; rw [HP.out]; have HB8 := Lib.hid (below_step (HB6.out.alloc (by omega) _) (by rw [asz]; omega) hb8); have HR8 := Lib.hid ((HR6.out.alloc _).up hb8); have HC8 := Lib.hid ((CB.new w6 30 [.slice A6 m6 c6, .int .i64 nx]).up hb8); have c8_0 := HC8.out.cell 0 rfl; have c8_1 := HC8.out.cell 1 rfl; have hz8 : w.heap.size + 1 + 1 < w8.heap.size := HR8.out.lt; have HW8 := Lib.hid hb8; have HY8 := Lib.hid ((al1 w6 _).trans (hb8.mono (al1 w6 _).size)); clear hb8) | ((with_reducible show wpList _ _ _ _ _ _); refine wpList_store_cb rfl 30 (.tmp 4) (.tmp 38) rfl (w.heap.size + 1 + 1) [.slice none 0 0, .int .i64 0] rfl rfl 30 [.slice none 0 0, .int .i64 0] 2 HR8.out sizeS rfl rfl (one_s _ _ _ _) ?_; intro w9 hc9 hg9 hz9))
      refine bodyPost_ret (res_cell Try.results14 rfl rfl hc9 Try.underlying30 sizeS rfl) rfl ⟨?_, below_grown HB8.out hg9 (by omega) (by omega)⟩
      rw [HRQ.out, last_pl rfl HP.out]
      exact res_zero _ _ _
    | true =>
      have HP := Lib.hid hp
      clear hp
      cases hnb : namGo [] fs with
      | false =>
        have HNB := Lib.hid hnb
        clear hnb
        go_wp2_with (first | (go_at_call 56; refine HE.out.mono ?_; rintro e w6 ⟨⟨A6, m6, c6, rfl, hm6, ho6⟩, hb6⟩; dsimp only at hm6 ho6; have HO6 := Lib.hid ho6; have HM6 := Lib.hid hm6; have HB6 := Lib.hid (below_step HQB.out HQB.out.size hb6); have HR6 := Lib.hid (HQ3.out.up hb6); have hz6 : w.heap.size + 1 + 1 < w6.heap.size := HR6.out.lt; clear ho6 hm6 hb6 HE) | (go_at_call 33; refine (placed_any A6 m6 c6 fs _ HM6.out ((show Fds w6 w6.heap.size A6 fs from HO6.out.row.2.2.2).up (al1 _ _)) (Nat.le_trans HO6.out.row.2.1 HO6.out.row.2.2.1 |> fun h => by rw [HM6.out]; simpa using h)).mono ?_; rintro e w8 ⟨rfl, hb8⟩; rw [HP.out]; have HB8 := Lib.hid (below_step (HB6.out.alloc (by omega) _) (by rw [asz]; omega) hb8); have HR8 := Lib.hid ((HR6.out.alloc _).up hb8); have HC8 := Lib.hid ((CB.new w6 30 [.slice A6 m6 c6, .int .i64 nx]).up hb8); have c8_0 := HC8.out.cell 0 rfl; have c8_1 := HC8.out.cell 1 rfl; have hz8 : w.heap.size + 1 + 1 < w8.heap.size := HR8.out.lt; have HW8 := Lib.hid hb8; have HY8 := Lib.hid ((al1 w6 _).trans (hb8.mono (al1 w6 _).size)); clear hb8) | (go_at_call 34; refine (named_any A6 m6 c6 fs _ HM6.out (by rw [HM6.out]; simpa using HO6.out.row.2.1) (((show Fds w6 w6.heap.size A6 fs from HO6.out.row.2.2.2).up (al1 _ _)).up HW8.out) HO6.out.row.2.2.1 (fun f hf => HAN.out f hf)).mono ?_; rintro e w10 ⟨rfl, hb10⟩; rw [HNB.out]; have HB10 := Lib.hid (below_step HB8.out HB8.out.size hb10); have HR10 := Lib.hid (HR8.out.up hb10); have HC10 := Lib.hid (HC8.out.up hb10); have c10_0 := HC10.out.cell 0 rfl; have c10_1 := HC10.out.cell 1 rfl; have hz10 : w.heap.size + 1 + 1 < w10.heap.size := HR10.out.lt; have HY10 := Lib.hid (below_step HY8.out HY8.out.size hb10); clear hb10) | ((with_reducible show wpList _ _ _ _ _ _); refine wpList_store_cb rfl 30 (.tmp 4) (.tmp 44) rfl (w.heap.size + 1 + 1) [.slice none 0 0, .int .i64 0] rfl rfl 30 [.slice none 0 0, .int .i64 0] 2 HR10.out sizeS rfl rfl (one_s _ _ _ _) ?_; intro w9 hc9 hg9 hz9))
        refine bodyPost_ret (res_cell Try.results14 rfl rfl hc9 Try.underlying30 sizeS rfl) rfl ⟨?_, below_grown HB10.out hg9 (by omega) (by omega)⟩
        rw [HRQ.out, last_nm rfl HP.out HNB.out]
        exact res_zero _ _ _
      | true =>
        have HNB := Lib.hid hnb
        clear hnb
        by_cases hli : fs.length ≤ 64 ∧ nx ≤ 1073741824
        · have HLI := Lib.hid hli
          clear hli
          have HL : ∀ m6 : Nat, Hid (m6 = fs.length) → Hid (decide (m6 ≤ 64 ∧ nx ≤ 1073741824) = true) := fun m6 h => by show _ = _; rw [h.out]; exact decide_eq_true HLI.out
          go_wp2_with (first | (go_at_call 56; refine HE.out.mono ?_; rintro e w6 ⟨⟨A6, m6, c6, rfl, hm6, ho6⟩, hb6⟩; dsimp only at hm6 ho6; have HO6 := Lib.hid ho6; have HM6 := Lib.hid hm6; have HB6 := Lib.hid (below_step HQB.out HQB.out.size hb6); have HR6 := Lib.hid (HQ3.out.up hb6); have hz6 : w.heap.size + 1 + 1 < w6.heap.size := HR6.out.lt; clear ho6 hm6 hb6 HE) | (go_at_call 33; refine (placed_any A6 m6 c6 fs _ HM6.out ((show Fds w6 w6.heap.size A6 fs from HO6.out.row.2.2.2).up (al1 _ _)) (Nat.le_trans HO6.out.row.2.1 HO6.out.row.2.2.1 |> fun h => by rw [HM6.out]; simpa using h)).mono ?_; rintro e w8 ⟨rfl, hb8⟩; rw [HP.out]; have HB8 := Lib.hid (below_step (HB6.out.alloc (by omega) _) (by rw [asz]; omega) hb8); have HR8 := Lib.hid ((HR6.out.alloc _).up hb8); have HC8 := Lib.hid ((CB.new w6 30 [.slice A6 m6 c6, .int .i64 nx]).up hb8); have c8_0 := HC8.out.cell 0 rfl; have c8_1 := HC8.out.cell 1 rfl; have hz8 : w.heap.size + 1 + 1 < w8.heap.size := HR8.out.lt; have HW8 := Lib.hid hb8; have HY8 := Lib.hid ((al1 w6 _).trans (hb8.mono (al1 w6 _).size)); clear hb8) | (go_at_call 34; refine (named_any A6 m6 c6 fs _ HM6.out (by rw [HM6.out]; simpa using HO6.out.row.2.1) (((show Fds w6 w6.heap.size A6 fs from HO6.out.row.2.2.2).up (al1 _ _)).up HW8.out) HO6.out.row.2.2.1 (fun f hf => HAN.out f hf)).mono ?_; rintro e w10 ⟨rfl, hb10⟩; rw [HNB.out]; have HB10 := Lib.hid (below_step HB8.out HB8.out.size hb10); have HR10 := Lib.hid (HR8.out.up hb10); have HC10 := Lib.hid (HC8.out.up hb10); have c10_0 := HC10.out.cell 0 rfl; have c10_1 := HC10.out.cell 1 rfl; have hz10 : w.heap.size + 1 + 1 < w10.heap.size := HR10.out.lt; have HY10 := Lib.hid (below_step HY8.out HY8.out.size hb10); clear hb10) | (go_at_call 35; refine (limited_any A6 m6 c6 nx true _ (HL m6 HM6).out (Nat.le_trans HO6.out.row.2.1 HO6.out.row.2.2.1 |> fun h => by rw [HM6.out]; simpa using h)).mono ?_; rintro e w11 ⟨rfl, hb11⟩; have HB11 := Lib.hid (below_step HB10.out HB10.out.size hb11); have HR11 := Lib.hid (HR10.out.up hb11); have HC11 := Lib.hid (HC10.out.up hb11); have c11_0 := HC11.out.cell 0 rfl; have c11_1 := HC11.out.cell 1 rfl; have hz11 : w.heap.size + 1 + 1 < w11.heap.size := HR11.out.lt; have HW6 := Lib.hid (below_step HY10.out HY10.out.size hb11); clear hb11) | ((with_reducible show wpList _ _ _ _ _ _); refine wpList_store_cb rfl 30 (.tmp 4) (.tmp 50) rfl (w.heap.size + 1 + 1) [.slice A6 m6 c6, .int .i64 nx] rfl rfl 30 [.slice none 0 0, .int .i64 0] 2 HR11.out sizeS rfl rfl (one_s _ _ _ _) ?_; intro w9 hc9 hg9 hz9))
          refine bodyPost_ret (res_cell Try.results14 rfl rfl hc9 Try.underlying30 sizeS rfl) rfl ⟨?_, below_grown HB11.out hg9 (by omega) (by omega)⟩
          rw [HRQ.out, last_ok rfl HP.out HNB.out HLI.out]
          exact ⟨A6, m6, c6, rfl, HM6.out, ((HO6.out.low HQB.out.size).up HW6.out).kept hg9 (.inr (Own.ne ((HO6.out.low HQB.out.size).up HW6.out) HR11.out (by decide)).symm)⟩
        · have HLI := Lib.hid hli
          clear hli
          have HL : ∀ m6 : Nat, Hid (m6 = fs.length) → Hid (decide (m6 ≤ 64 ∧ nx ≤ 1073741824) = false) := fun m6 h => by show _ = _; rw [h.out]; exact decide_eq_false HLI.out
          go_wp2_with (first | (go_at_call 56; refine HE.out.mono ?_; rintro e w6 ⟨⟨A6, m6, c6, rfl, hm6, ho6⟩, hb6⟩; dsimp only at hm6 ho6; have HO6 := Lib.hid ho6; have HM6 := Lib.hid hm6; have HB6 := Lib.hid (below_step HQB.out HQB.out.size hb6); have HR6 := Lib.hid (HQ3.out.up hb6); have hz6 : w.heap.size + 1 + 1 < w6.heap.size := HR6.out.lt; clear ho6 hm6 hb6 HE) | (go_at_call 33; refine (placed_any A6 m6 c6 fs _ HM6.out ((show Fds w6 w6.heap.size A6 fs from HO6.out.row.2.2.2).up (al1 _ _)) (Nat.le_trans HO6.out.row.2.1 HO6.out.row.2.2.1 |> fun h => by rw [HM6.out]; simpa using h)).mono ?_; rintro e w8 ⟨rfl, hb8⟩; rw [HP.out]; have HB8 := Lib.hid (below_step (HB6.out.alloc (by omega) _) (by rw [asz]; omega) hb8); have HR8 := Lib.hid ((HR6.out.alloc _).up hb8); have HC8 := Lib.hid ((CB.new w6 30 [.slice A6 m6 c6, .int .i64 nx]).up hb8); have c8_0 := HC8.out.cell 0 rfl; have c8_1 := HC8.out.cell 1 rfl; have hz8 : w.heap.size + 1 + 1 < w8.heap.size := HR8.out.lt; have HW8 := Lib.hid hb8; have HY8 := Lib.hid ((al1 w6 _).trans (hb8.mono (al1 w6 _).size)); clear hb8) | (go_at_call 34; refine (named_any A6 m6 c6 fs _ HM6.out (by rw [HM6.out]; simpa using HO6.out.row.2.1) (((show Fds w6 w6.heap.size A6 fs from HO6.out.row.2.2.2).up (al1 _ _)).up HW8.out) HO6.out.row.2.2.1 (fun f hf => HAN.out f hf)).mono ?_; rintro e w10 ⟨rfl, hb10⟩; rw [HNB.out]; have HB10 := Lib.hid (below_step HB8.out HB8.out.size hb10); have HR10 := Lib.hid (HR8.out.up hb10); have HC10 := Lib.hid (HC8.out.up hb10); have c10_0 := HC10.out.cell 0 rfl; have c10_1 := HC10.out.cell 1 rfl; have hz10 : w.heap.size + 1 + 1 < w10.heap.size := HR10.out.lt; have HY10 := Lib.hid (below_step HY8.out HY8.out.size hb10); clear hb10) | (go_at_call 35; refine (limited_any A6 m6 c6 nx false _ (HL m6 HM6).out (Nat.le_trans HO6.out.row.2.1 HO6.out.row.2.2.1 |> fun h => by rw [HM6.out]; simpa using h)).mono ?_; rintro e w11 ⟨rfl, hb11⟩; have HB11 := Lib.hid (below_step HB10.out HB10.out.size hb11); have HR11 := Lib.hid (HR10.out.up hb11); have HC11 := Lib.hid (HC10.out.up hb11); have c11_0 := HC11.out.cell 0 rfl; have c11_1 := HC11.out.cell 1 rfl; have hz11 : w.heap.size + 1 + 1 < w11.heap.size := HR11.out.lt; have HW6 := Lib.hid (below_step HY10.out HY10.out.size hb11); clear hb11) | ((with_reducible show wpList _ _ _ _ _ _); refine wpList_store_cb rfl 30 (.tmp 4) (.tmp 49) rfl (w.heap.size + 1 + 1) [.slice none 0 0, .int .i64 0] rfl rfl 30 [.slice none 0 0, .int .i64 0] 2 HR11.out sizeS rfl rfl (one_s _ _ _ _) ?_; intro w9 hc9 hg9 hz9))
          refine bodyPost_ret (res_cell Try.results14 rfl rfl hc9 Try.underlying30 sizeS rfl) rfl ⟨?_, below_grown HB11.out hg9 (by omega) (by omega)⟩
          rw [HRQ.out, last_li rfl HP.out HNB.out HLI.out]
          exact res_zero _ _ _
  · have e1 : (er != 0) = true := by simpa using h0
    have H0 := Lib.hid h0
    clear h0
    go_wp2_with (first | (go_at_call 56; refine HE.out.mono ?_; rintro e w6 ⟨⟨A6, m6, c6, rfl, hm6, ho6⟩, hb6⟩; dsimp only at hm6 ho6; have HO6 := Lib.hid ho6; have HM6 := Lib.hid hm6; have HB6 := Lib.hid (below_step HQB.out HQB.out.size hb6); have HR6 := Lib.hid (HQ3.out.up hb6); have hz6 : w.heap.size + 1 + 1 < w6.heap.size := HR6.out.lt; clear ho6 hm6 hb6 HE) | ((with_reducible show wpList _ _ _ _ _ _); refine wpList_store_cb rfl 30 (.tmp 4) (.tmp 31) rfl (w.heap.size + 1 + 1) [.slice none 0 0, .int .i64 0] rfl rfl 30 [.slice none 0 0, .int .i64 0] 2 (HR6.out.alloc _) sizeS rfl rfl (one_s _ _ _ _) ?_; intro w9 hc9 hg9 hz9))
    refine bodyPost_ret (res_cell Try.results14 rfl rfl hc9 Try.underlying30 sizeS rfl) rfl ⟨?_, below_grown (HB6.out.alloc (by omega) _) hg9 (by rw [asz]; omega) (by omega)⟩
    rw [HRQ.out, last_ne rfl H0.out]
    exact res_zero _ _ _

set_option maxHeartbeats 4000000 in
set_option maxRecDepth 20000 in
theorem Apply_wid (A : Option Addr) (n c : Nat) (x : Int) (l : List Fd)  (id wi : Int) (nm ot : ByteArray) (ty pa : Int) (sep : ByteArray) (w : World) (hn : n = l.length) (hs : Fds w w.heap.size A l) (hl0 : n ≤ 1000) (hx0 : 0 ≤ x) (hx1 : x ≤ 2305843009213693952) (hsep : sep.size ≤ 9223372036854775807) (hnl : AllN (fun s => s.size ≤ 9223372036854775807) l) (hnm : nm.size ≤ 9223372036854775807) (hot : ot.size ≤ 9223372036854775807) :
    Calls Try.prog 14 #[.agg #[.slice A n c, .int .i64 x], .agg #[.int .i64 4, .int .i64 id, .int .i64 wi, .string nm, .string ot, .int .i64 ty, .int .i64 pa, .string sep]] w fun e w' => ResS w w' (lastE (widE ⟨l, x⟩ ⟨4, id, wi, nm, ot, ty, pa, sep⟩)) e ∧ Below w.heap.size w w' := by
  have HN := Lib.hid hn
  have HS := Lib.hid hs
  have HNL := Lib.hid hnl
  clear hn hs hnl
  have hq1 := ((CB.new w 30 [.slice A n c, .int .i64 x]).alloc (.cells #[.int .i64 4, .int .i64 id, .int .i64 wi, .string nm, .string ot, .int .i64 ty, .int .i64 pa, .string sep] 24)).alloc (.cells #[.slice none 0 0, .int .i64 0] 30)
  have hq2 := (CB.new1 w (.cells #[.slice A n c, .int .i64 x] 30) 24 [.int .i64 4, .int .i64 id, .int .i64 wi, .string nm, .string ot, .int .i64 ty, .int .i64 pa, .string sep]).alloc (.cells #[.slice none 0 0, .int .i64 0] 30)
  have hq3 := CB.new2 w (.cells #[.slice A n c, .int .i64 x] 30) (.cells #[.int .i64 4, .int .i64 id, .int .i64 wi, .string nm, .string ot, .int .i64 ty, .int .i64 pa, .string sep] 24) 30 [.slice none 0 0, .int .i64 0]
  have hqb := al3 w (.cells #[.slice A n c, .int .i64 x] 30) (.cells #[.int .i64 4, .int .i64 id, .int .i64 wi, .string nm, .string ot, .int .i64 ty, .int .i64 pa, .string sep] 24) (.cells #[.slice none 0 0, .int .i64 0] 30)
  go_enter Try.func14, Try.ntmps14
  go_wp2
  generalize (((w.alloc (.cells #[.slice A n c, .int .i64 x] 30)).alloc (.cells #[.int .i64 4, .int .i64 id, .int .i64 wi, .string nm, .string ot, .int .i64 ty, .int .i64 pa, .string sep] 24)).alloc (.cells #[.slice none 0 0, .int .i64 0] 30)) = W0 at *
  have Q1 := Lib.hid hq1
  have Q2 := Lib.hid hq2
  have Q3 := Lib.hid hq3
  have QB := Lib.hid hqb
  have k0 := hq2.cell 0 rfl
  clear hq1 hq2 hq3 hqb
  go_region_held_law (fun w' => w'.cell? ⟨w.heap.size + 1, 0, none⟩ = some (.int .i64 4))
    (first | exact (Q2.out.up hw7).cell 0 rfl | exact Q2.out.dr.cell 0 rfl | exact (Q2.out.up hw7).dr.cell 0 rfl | go_keep)
    (first | (go_at_call 32; refine (kinds_any _).mono ?_; rintro e w7 ⟨rfl, hm7, hb7⟩; have hw7 : Below W0.heap.size W0 w7 := (by first | exact hb7 | exact (bd _).trans (hb7.mono (bd _).size)); have hlook := kinds_look (show KM w7 W0.heap.size 7 kinD from hm7) 4 (by decide); rw [show kindV 4 = .func (.func 57) #[] #[] from rfl, show decide ((1 : Int) ≤ 4 ∧ (4 : Int) ≤ 7) = true from rfl] at hlook; clear hm7 hb7))
  have he := (wid_any A n c x l 4 id wi nm ot ty pa sep w7 HN.out (HS.out.up (QB.out.trans (hw7.mono QB.out.size))) hl0 hx0 hx1 hsep)
  have han : (AllN (fun s => s.size ≤ 9223372036854775807) (widE ⟨l, x⟩ ⟨4, id, wi, nm, ot, ty, pa, sep⟩).1.fs) := alln_edit (s := ⟨l, x⟩) (c := ⟨4, id, wi, nm, ot, ty, pa, sep⟩) HNL.out hnm hot
  obtain ⟨⟨⟨fs, nx⟩, er⟩, hr⟩ : ∃ r, widE ⟨l, x⟩ ⟨4, id, wi, nm, ot, ty, pa, sep⟩ = r := ⟨_, rfl⟩
  rw [hr] at he han
  have HE := Lib.hid he
  have HAN := Lib.hid han
  have HRQ := Lib.hid hr
  clear he han hr
  have HQ1 := Lib.hid (Q1.out.up hw7)
  have HQ2 := Lib.hid (Q2.out.up hw7)
  have HQ3 := Lib.hid (Q3.out.up hw7)
  have HQB := Lib.hid (QB.out.trans (hw7.mono QB.out.size))
  have s0 := HQ1.out.cell 0 rfl
  have s1 := HQ1.out.cell 1 rfl
  have t0 := HQ2.out.cell 0 rfl
  have t1 := HQ2.out.cell 1 rfl
  have t2 := HQ2.out.cell 2 rfl
  have t3 := HQ2.out.cell 3 rfl
  have t4 := HQ2.out.cell 4 rfl
  have t5 := HQ2.out.cell 5 rfl
  have t6 := HQ2.out.cell 6 rfl
  have t7 := HQ2.out.cell 7 rfl
  clear hw7 k0 hlook Q1 Q2 Q3 QB
  by_cases h0 : er = 0
  · subst h0
    cases hp : plcsB fs with
    | false =>
      have HP := Lib.hid hp
      clear hp
      go_wp2_with (first | (go_at_call 57; refine HE.out.mono ?_; rintro e w6 ⟨⟨A6, m6, c6, rfl, hm6, ho6⟩, hb6⟩; dsimp only at hm6 ho6; have HO6 := Lib.hid ho6; have HM6 := Lib.hid hm6; have HB6 := Lib.hid (below_step HQB.out HQB.out.size hb6); have HR6 := Lib.hid (HQ3.out.up hb6); have hz6 : w.heap.size + 1 + 1 < w6.heap.size := HR6.out.lt; clear ho6 hm6 hb6 HE) | (go_at_call 33; refine (placed_any A6 m6 c6 fs _ HM6.out ((show Fds w6 w6.heap.size A6 fs from HO6.out.row.2.2.2).up (al1 _ _)) (Nat.le_trans HO6.out.row.2.1 HO6.out.row.2.2.1 |> fun h => by rw [HM6.out]; simpa using h)).mono ?_; rintro e w8 ⟨rfl, hb8⟩; rw [HP.out]; have HB8 := Lib.hid (below_step (HB6.out.alloc (by omega) _) (by rw [asz]; omega) hb8); have HR8 := Lib.hid ((HR6.out.alloc _).up hb8); have HC8 := Lib.hid ((CB.new w6 30 [.slice A6 m6 c6, .int .i64 nx]).up hb8); have c8_0 := HC8.out.cell 0 rfl; have c8_1 := HC8.out.cell 1 rfl; have hz8 : w.heap.size + 1 + 1 < w8.heap.size := HR8.out.lt; have HW8 := Lib.hid hb8; have HY8 := Lib.hid ((al1 w6 _).trans (hb8.mono (al1 w6 _).size)); clear hb8) | ((with_reducible show wpList _ _ _ _ _ _); refine wpList_store_cb rfl 30 (.tmp 4) (.tmp 38) rfl (w.heap.size + 1 + 1) [.slice none 0 0, .int .i64 0] rfl rfl 30 [.slice none 0 0, .int .i64 0] 2 HR8.out sizeS rfl rfl (one_s _ _ _ _) ?_; intro w9 hc9 hg9 hz9))
      refine bodyPost_ret (res_cell Try.results14 rfl rfl hc9 Try.underlying30 sizeS rfl) rfl ⟨?_, below_grown HB8.out hg9 (by omega) (by omega)⟩
      rw [HRQ.out, last_pl rfl HP.out]
      exact res_zero _ _ _
    | true =>
      have HP := Lib.hid hp
      clear hp
      cases hnb : namGo [] fs with
      | false =>
        have HNB := Lib.hid hnb
        clear hnb
        go_wp2_with (first | (go_at_call 57; refine HE.out.mono ?_; rintro e w6 ⟨⟨A6, m6, c6, rfl, hm6, ho6⟩, hb6⟩; dsimp only at hm6 ho6; have HO6 := Lib.hid ho6; have HM6 := Lib.hid hm6; have HB6 := Lib.hid (below_step HQB.out HQB.out.size hb6); have HR6 := Lib.hid (HQ3.out.up hb6); have hz6 : w.heap.size + 1 + 1 < w6.heap.size := HR6.out.lt; clear ho6 hm6 hb6 HE) | (go_at_call 33; refine (placed_any A6 m6 c6 fs _ HM6.out ((show Fds w6 w6.heap.size A6 fs from HO6.out.row.2.2.2).up (al1 _ _)) (Nat.le_trans HO6.out.row.2.1 HO6.out.row.2.2.1 |> fun h => by rw [HM6.out]; simpa using h)).mono ?_; rintro e w8 ⟨rfl, hb8⟩; rw [HP.out]; have HB8 := Lib.hid (below_step (HB6.out.alloc (by omega) _) (by rw [asz]; omega) hb8); have HR8 := Lib.hid ((HR6.out.alloc _).up hb8); have HC8 := Lib.hid ((CB.new w6 30 [.slice A6 m6 c6, .int .i64 nx]).up hb8); have c8_0 := HC8.out.cell 0 rfl; have c8_1 := HC8.out.cell 1 rfl; have hz8 : w.heap.size + 1 + 1 < w8.heap.size := HR8.out.lt; have HW8 := Lib.hid hb8; have HY8 := Lib.hid ((al1 w6 _).trans (hb8.mono (al1 w6 _).size)); clear hb8) | (go_at_call 34; refine (named_any A6 m6 c6 fs _ HM6.out (by rw [HM6.out]; simpa using HO6.out.row.2.1) (((show Fds w6 w6.heap.size A6 fs from HO6.out.row.2.2.2).up (al1 _ _)).up HW8.out) HO6.out.row.2.2.1 (fun f hf => HAN.out f hf)).mono ?_; rintro e w10 ⟨rfl, hb10⟩; rw [HNB.out]; have HB10 := Lib.hid (below_step HB8.out HB8.out.size hb10); have HR10 := Lib.hid (HR8.out.up hb10); have HC10 := Lib.hid (HC8.out.up hb10); have c10_0 := HC10.out.cell 0 rfl; have c10_1 := HC10.out.cell 1 rfl; have hz10 : w.heap.size + 1 + 1 < w10.heap.size := HR10.out.lt; have HY10 := Lib.hid (below_step HY8.out HY8.out.size hb10); clear hb10) | ((with_reducible show wpList _ _ _ _ _ _); refine wpList_store_cb rfl 30 (.tmp 4) (.tmp 44) rfl (w.heap.size + 1 + 1) [.slice none 0 0, .int .i64 0] rfl rfl 30 [.slice none 0 0, .int .i64 0] 2 HR10.out sizeS rfl rfl (one_s _ _ _ _) ?_; intro w9 hc9 hg9 hz9))
        refine bodyPost_ret (res_cell Try.results14 rfl rfl hc9 Try.underlying30 sizeS rfl) rfl ⟨?_, below_grown HB10.out hg9 (by omega) (by omega)⟩
        rw [HRQ.out, last_nm rfl HP.out HNB.out]
        exact res_zero _ _ _
      | true =>
        have HNB := Lib.hid hnb
        clear hnb
        by_cases hli : fs.length ≤ 64 ∧ nx ≤ 1073741824
        · have HLI := Lib.hid hli
          clear hli
          have HL : ∀ m6 : Nat, Hid (m6 = fs.length) → Hid (decide (m6 ≤ 64 ∧ nx ≤ 1073741824) = true) := fun m6 h => by show _ = _; rw [h.out]; exact decide_eq_true HLI.out
          go_wp2_with (first | (go_at_call 57; refine HE.out.mono ?_; rintro e w6 ⟨⟨A6, m6, c6, rfl, hm6, ho6⟩, hb6⟩; dsimp only at hm6 ho6; have HO6 := Lib.hid ho6; have HM6 := Lib.hid hm6; have HB6 := Lib.hid (below_step HQB.out HQB.out.size hb6); have HR6 := Lib.hid (HQ3.out.up hb6); have hz6 : w.heap.size + 1 + 1 < w6.heap.size := HR6.out.lt; clear ho6 hm6 hb6 HE) | (go_at_call 33; refine (placed_any A6 m6 c6 fs _ HM6.out ((show Fds w6 w6.heap.size A6 fs from HO6.out.row.2.2.2).up (al1 _ _)) (Nat.le_trans HO6.out.row.2.1 HO6.out.row.2.2.1 |> fun h => by rw [HM6.out]; simpa using h)).mono ?_; rintro e w8 ⟨rfl, hb8⟩; rw [HP.out]; have HB8 := Lib.hid (below_step (HB6.out.alloc (by omega) _) (by rw [asz]; omega) hb8); have HR8 := Lib.hid ((HR6.out.alloc _).up hb8); have HC8 := Lib.hid ((CB.new w6 30 [.slice A6 m6 c6, .int .i64 nx]).up hb8); have c8_0 := HC8.out.cell 0 rfl; have c8_1 := HC8.out.cell 1 rfl; have hz8 : w.heap.size + 1 + 1 < w8.heap.size := HR8.out.lt; have HW8 := Lib.hid hb8; have HY8 := Lib.hid ((al1 w6 _).trans (hb8.mono (al1 w6 _).size)); clear hb8) | (go_at_call 34; refine (named_any A6 m6 c6 fs _ HM6.out (by rw [HM6.out]; simpa using HO6.out.row.2.1) (((show Fds w6 w6.heap.size A6 fs from HO6.out.row.2.2.2).up (al1 _ _)).up HW8.out) HO6.out.row.2.2.1 (fun f hf => HAN.out f hf)).mono ?_; rintro e w10 ⟨rfl, hb10⟩; rw [HNB.out]; have HB10 := Lib.hid (below_step HB8.out HB8.out.size hb10); have HR10 := Lib.hid (HR8.out.up hb10); have HC10 := Lib.hid (HC8.out.up hb10); have c10_0 := HC10.out.cell 0 rfl; have c10_1 := HC10.out.cell 1 rfl; have hz10 : w.heap.size + 1 + 1 < w10.heap.size := HR10.out.lt; have HY10 := Lib.hid (below_step HY8.out HY8.out.size hb10); clear hb10) | (go_at_call 35; refine (limited_any A6 m6 c6 nx true _ (HL m6 HM6).out (Nat.le_trans HO6.out.row.2.1 HO6.out.row.2.2.1 |> fun h => by rw [HM6.out]; simpa using h)).mono ?_; rintro e w11 ⟨rfl, hb11⟩; have HB11 := Lib.hid (below_step HB10.out HB10.out.size hb11); have HR11 := Lib.hid (HR10.out.up hb11); have HC11 := Lib.hid (HC10.out.up hb11); have c11_0 := HC11.out.cell 0 rfl; have c11_1 := HC11.out.cell 1 rfl; have hz11 : w.heap.size + 1 + 1 < w11.heap.size := HR11.out.lt; have HW6 := Lib.hid (below_step HY10.out HY10.out.size hb11); clear hb11) | ((with_reducible show wpList _ _ _ _ _ _); refine wpList_store_cb rfl 30 (.tmp 4) (.tmp 50) rfl (w.heap.size + 1 + 1) [.slice A6 m6 c6, .int .i64 nx] rfl rfl 30 [.slice none 0 0, .int .i64 0] 2 HR11.out sizeS rfl rfl (one_s _ _ _ _) ?_; intro w9 hc9 hg9 hz9))
          refine bodyPost_ret (res_cell Try.results14 rfl rfl hc9 Try.underlying30 sizeS rfl) rfl ⟨?_, below_grown HB11.out hg9 (by omega) (by omega)⟩
          rw [HRQ.out, last_ok rfl HP.out HNB.out HLI.out]
          exact ⟨A6, m6, c6, rfl, HM6.out, ((HO6.out.low HQB.out.size).up HW6.out).kept hg9 (.inr (Own.ne ((HO6.out.low HQB.out.size).up HW6.out) HR11.out (by decide)).symm)⟩
        · have HLI := Lib.hid hli
          clear hli
          have HL : ∀ m6 : Nat, Hid (m6 = fs.length) → Hid (decide (m6 ≤ 64 ∧ nx ≤ 1073741824) = false) := fun m6 h => by show _ = _; rw [h.out]; exact decide_eq_false HLI.out
          go_wp2_with (first | (go_at_call 57; refine HE.out.mono ?_; rintro e w6 ⟨⟨A6, m6, c6, rfl, hm6, ho6⟩, hb6⟩; dsimp only at hm6 ho6; have HO6 := Lib.hid ho6; have HM6 := Lib.hid hm6; have HB6 := Lib.hid (below_step HQB.out HQB.out.size hb6); have HR6 := Lib.hid (HQ3.out.up hb6); have hz6 : w.heap.size + 1 + 1 < w6.heap.size := HR6.out.lt; clear ho6 hm6 hb6 HE) | (go_at_call 33; refine (placed_any A6 m6 c6 fs _ HM6.out ((show Fds w6 w6.heap.size A6 fs from HO6.out.row.2.2.2).up (al1 _ _)) (Nat.le_trans HO6.out.row.2.1 HO6.out.row.2.2.1 |> fun h => by rw [HM6.out]; simpa using h)).mono ?_; rintro e w8 ⟨rfl, hb8⟩; rw [HP.out]; have HB8 := Lib.hid (below_step (HB6.out.alloc (by omega) _) (by rw [asz]; omega) hb8); have HR8 := Lib.hid ((HR6.out.alloc _).up hb8); have HC8 := Lib.hid ((CB.new w6 30 [.slice A6 m6 c6, .int .i64 nx]).up hb8); have c8_0 := HC8.out.cell 0 rfl; have c8_1 := HC8.out.cell 1 rfl; have hz8 : w.heap.size + 1 + 1 < w8.heap.size := HR8.out.lt; have HW8 := Lib.hid hb8; have HY8 := Lib.hid ((al1 w6 _).trans (hb8.mono (al1 w6 _).size)); clear hb8) | (go_at_call 34; refine (named_any A6 m6 c6 fs _ HM6.out (by rw [HM6.out]; simpa using HO6.out.row.2.1) (((show Fds w6 w6.heap.size A6 fs from HO6.out.row.2.2.2).up (al1 _ _)).up HW8.out) HO6.out.row.2.2.1 (fun f hf => HAN.out f hf)).mono ?_; rintro e w10 ⟨rfl, hb10⟩; rw [HNB.out]; have HB10 := Lib.hid (below_step HB8.out HB8.out.size hb10); have HR10 := Lib.hid (HR8.out.up hb10); have HC10 := Lib.hid (HC8.out.up hb10); have c10_0 := HC10.out.cell 0 rfl; have c10_1 := HC10.out.cell 1 rfl; have hz10 : w.heap.size + 1 + 1 < w10.heap.size := HR10.out.lt; have HY10 := Lib.hid (below_step HY8.out HY8.out.size hb10); clear hb10) | (go_at_call 35; refine (limited_any A6 m6 c6 nx false _ (HL m6 HM6).out (Nat.le_trans HO6.out.row.2.1 HO6.out.row.2.2.1 |> fun h => by rw [HM6.out]; simpa using h)).mono ?_; rintro e w11 ⟨rfl, hb11⟩; have HB11 := Lib.hid (below_step HB10.out HB10.out.size hb11); have HR11 := Lib.hid (HR10.out.up hb11); have HC11 := Lib.hid (HC10.out.up hb11); have c11_0 := HC11.out.cell 0 rfl; have c11_1 := HC11.out.cell 1 rfl; have hz11 : w.heap.size + 1 + 1 < w11.heap.size := HR11.out.lt; have HW6 := Lib.hid (below_step HY10.out HY10.out.size hb11); clear hb11) | ((with_reducible show wpList _ _ _ _ _ _); refine wpList_store_cb rfl 30 (.tmp 4) (.tmp 49) rfl (w.heap.size + 1 + 1) [.slice none 0 0, .int .i64 0] rfl rfl 30 [.slice none 0 0, .int .i64 0] 2 HR11.out sizeS rfl rfl (one_s _ _ _ _) ?_; intro w9 hc9 hg9 hz9))
          refine bodyPost_ret (res_cell Try.results14 rfl rfl hc9 Try.underlying30 sizeS rfl) rfl ⟨?_, below_grown HB11.out hg9 (by omega) (by omega)⟩
          rw [HRQ.out, last_li rfl HP.out HNB.out HLI.out]
          exact res_zero _ _ _
  · have e1 : (er != 0) = true := by simpa using h0
    have H0 := Lib.hid h0
    clear h0
    go_wp2_with (first | (go_at_call 57; refine HE.out.mono ?_; rintro e w6 ⟨⟨A6, m6, c6, rfl, hm6, ho6⟩, hb6⟩; dsimp only at hm6 ho6; have HO6 := Lib.hid ho6; have HM6 := Lib.hid hm6; have HB6 := Lib.hid (below_step HQB.out HQB.out.size hb6); have HR6 := Lib.hid (HQ3.out.up hb6); have hz6 : w.heap.size + 1 + 1 < w6.heap.size := HR6.out.lt; clear ho6 hm6 hb6 HE) | ((with_reducible show wpList _ _ _ _ _ _); refine wpList_store_cb rfl 30 (.tmp 4) (.tmp 31) rfl (w.heap.size + 1 + 1) [.slice none 0 0, .int .i64 0] rfl rfl 30 [.slice none 0 0, .int .i64 0] 2 (HR6.out.alloc _) sizeS rfl rfl (one_s _ _ _ _) ?_; intro w9 hc9 hg9 hz9))
    refine bodyPost_ret (res_cell Try.results14 rfl rfl hc9 Try.underlying30 sizeS rfl) rfl ⟨?_, below_grown (HB6.out.alloc (by omega) _) hg9 (by rw [asz]; omega) (by omega)⟩
    rw [HRQ.out, last_ne rfl H0.out]
    exact res_zero _ _ _

set_option maxHeartbeats 4000000 in
set_option maxRecDepth 20000 in
theorem Apply_mov (A : Option Addr) (n c : Nat) (x : Int) (l : List Fd)  (id wi : Int) (nm ot : ByteArray) (ty pa : Int) (sep : ByteArray) (w : World) (hn : n = l.length) (hs : Fds w w.heap.size A l) (hl0 : n ≤ 1000) (hx0 : 0 ≤ x) (hx1 : x ≤ 2305843009213693952) (hsep : sep.size ≤ 9223372036854775807) (hnl : AllN (fun s => s.size ≤ 9223372036854775807) l) (hnm : nm.size ≤ 9223372036854775807) (hot : ot.size ≤ 9223372036854775807) :
    Calls Try.prog 14 #[.agg #[.slice A n c, .int .i64 x], .agg #[.int .i64 5, .int .i64 id, .int .i64 wi, .string nm, .string ot, .int .i64 ty, .int .i64 pa, .string sep]] w fun e w' => ResS w w' (lastE (movE ⟨l, x⟩ ⟨5, id, wi, nm, ot, ty, pa, sep⟩)) e ∧ Below w.heap.size w w' := by
  have HN := Lib.hid hn
  have HS := Lib.hid hs
  have HNL := Lib.hid hnl
  clear hn hs hnl
  have hq1 := ((CB.new w 30 [.slice A n c, .int .i64 x]).alloc (.cells #[.int .i64 5, .int .i64 id, .int .i64 wi, .string nm, .string ot, .int .i64 ty, .int .i64 pa, .string sep] 24)).alloc (.cells #[.slice none 0 0, .int .i64 0] 30)
  have hq2 := (CB.new1 w (.cells #[.slice A n c, .int .i64 x] 30) 24 [.int .i64 5, .int .i64 id, .int .i64 wi, .string nm, .string ot, .int .i64 ty, .int .i64 pa, .string sep]).alloc (.cells #[.slice none 0 0, .int .i64 0] 30)
  have hq3 := CB.new2 w (.cells #[.slice A n c, .int .i64 x] 30) (.cells #[.int .i64 5, .int .i64 id, .int .i64 wi, .string nm, .string ot, .int .i64 ty, .int .i64 pa, .string sep] 24) 30 [.slice none 0 0, .int .i64 0]
  have hqb := al3 w (.cells #[.slice A n c, .int .i64 x] 30) (.cells #[.int .i64 5, .int .i64 id, .int .i64 wi, .string nm, .string ot, .int .i64 ty, .int .i64 pa, .string sep] 24) (.cells #[.slice none 0 0, .int .i64 0] 30)
  go_enter Try.func14, Try.ntmps14
  go_wp2
  generalize (((w.alloc (.cells #[.slice A n c, .int .i64 x] 30)).alloc (.cells #[.int .i64 5, .int .i64 id, .int .i64 wi, .string nm, .string ot, .int .i64 ty, .int .i64 pa, .string sep] 24)).alloc (.cells #[.slice none 0 0, .int .i64 0] 30)) = W0 at *
  have Q1 := Lib.hid hq1
  have Q2 := Lib.hid hq2
  have Q3 := Lib.hid hq3
  have QB := Lib.hid hqb
  have k0 := hq2.cell 0 rfl
  clear hq1 hq2 hq3 hqb
  go_region_held_law (fun w' => w'.cell? ⟨w.heap.size + 1, 0, none⟩ = some (.int .i64 5))
    (first | exact (Q2.out.up hw7).cell 0 rfl | exact Q2.out.dr.cell 0 rfl | exact (Q2.out.up hw7).dr.cell 0 rfl | go_keep)
    (first | (go_at_call 32; refine (kinds_any _).mono ?_; rintro e w7 ⟨rfl, hm7, hb7⟩; have hw7 : Below W0.heap.size W0 w7 := (by first | exact hb7 | exact (bd _).trans (hb7.mono (bd _).size)); have hlook := kinds_look (show KM w7 W0.heap.size 7 kinD from hm7) 5 (by decide); rw [show kindV 5 = .func (.func 58) #[] #[] from rfl, show decide ((1 : Int) ≤ 5 ∧ (5 : Int) ≤ 7) = true from rfl] at hlook; clear hm7 hb7))
  have he := (mov_any A n c x l 5 id wi nm ot ty pa sep w7 HN.out (HS.out.up (QB.out.trans (hw7.mono QB.out.size))) hl0 hx0 hx1 hsep)
  have han : (AllN (fun s => s.size ≤ 9223372036854775807) (movE ⟨l, x⟩ ⟨5, id, wi, nm, ot, ty, pa, sep⟩).1.fs) := alln_edit (s := ⟨l, x⟩) (c := ⟨5, id, wi, nm, ot, ty, pa, sep⟩) HNL.out hnm hot
  obtain ⟨⟨⟨fs, nx⟩, er⟩, hr⟩ : ∃ r, movE ⟨l, x⟩ ⟨5, id, wi, nm, ot, ty, pa, sep⟩ = r := ⟨_, rfl⟩
  rw [hr] at he han
  have HE := Lib.hid he
  have HAN := Lib.hid han
  have HRQ := Lib.hid hr
  clear he han hr
  have HQ1 := Lib.hid (Q1.out.up hw7)
  have HQ2 := Lib.hid (Q2.out.up hw7)
  have HQ3 := Lib.hid (Q3.out.up hw7)
  have HQB := Lib.hid (QB.out.trans (hw7.mono QB.out.size))
  have s0 := HQ1.out.cell 0 rfl
  have s1 := HQ1.out.cell 1 rfl
  have t0 := HQ2.out.cell 0 rfl
  have t1 := HQ2.out.cell 1 rfl
  have t2 := HQ2.out.cell 2 rfl
  have t3 := HQ2.out.cell 3 rfl
  have t4 := HQ2.out.cell 4 rfl
  have t5 := HQ2.out.cell 5 rfl
  have t6 := HQ2.out.cell 6 rfl
  have t7 := HQ2.out.cell 7 rfl
  clear hw7 k0 hlook Q1 Q2 Q3 QB
  by_cases h0 : er = 0
  · subst h0
    cases hp : plcsB fs with
    | false =>
      have HP := Lib.hid hp
      clear hp
      go_wp2_with (first | (go_at_call 58; refine HE.out.mono ?_; rintro e w6 ⟨⟨A6, m6, c6, rfl, hm6, ho6⟩, hb6⟩; dsimp only at hm6 ho6; have HO6 := Lib.hid ho6; have HM6 := Lib.hid hm6; have HB6 := Lib.hid (below_step HQB.out HQB.out.size hb6); have HR6 := Lib.hid (HQ3.out.up hb6); have hz6 : w.heap.size + 1 + 1 < w6.heap.size := HR6.out.lt; clear ho6 hm6 hb6 HE) | (go_at_call 33; refine (placed_any A6 m6 c6 fs _ HM6.out ((show Fds w6 w6.heap.size A6 fs from HO6.out.row.2.2.2).up (al1 _ _)) (Nat.le_trans HO6.out.row.2.1 HO6.out.row.2.2.1 |> fun h => by rw [HM6.out]; simpa using h)).mono ?_; rintro e w8 ⟨rfl, hb8⟩; rw [HP.out]; have HB8 := Lib.hid (below_step (HB6.out.alloc (by omega) _) (by rw [asz]; omega) hb8); have HR8 := Lib.hid ((HR6.out.alloc _).up hb8); have HC8 := Lib.hid ((CB.new w6 30 [.slice A6 m6 c6, .int .i64 nx]).up hb8); have c8_0 := HC8.out.cell 0 rfl; have c8_1 := HC8.out.cell 1 rfl; have hz8 : w.heap.size + 1 + 1 < w8.heap.size := HR8.out.lt; have HW8 := Lib.hid hb8; have HY8 := Lib.hid ((al1 w6 _).trans (hb8.mono (al1 w6 _).size)); clear hb8) | ((with_reducible show wpList _ _ _ _ _ _); refine wpList_store_cb rfl 30 (.tmp 4) (.tmp 38) rfl (w.heap.size + 1 + 1) [.slice none 0 0, .int .i64 0] rfl rfl 30 [.slice none 0 0, .int .i64 0] 2 HR8.out sizeS rfl rfl (one_s _ _ _ _) ?_; intro w9 hc9 hg9 hz9))
      refine bodyPost_ret (res_cell Try.results14 rfl rfl hc9 Try.underlying30 sizeS rfl) rfl ⟨?_, below_grown HB8.out hg9 (by omega) (by omega)⟩
      rw [HRQ.out, last_pl rfl HP.out]
      exact res_zero _ _ _
    | true =>
      have HP := Lib.hid hp
      clear hp
      cases hnb : namGo [] fs with
      | false =>
        have HNB := Lib.hid hnb
        clear hnb
        go_wp2_with (first | (go_at_call 58; refine HE.out.mono ?_; rintro e w6 ⟨⟨A6, m6, c6, rfl, hm6, ho6⟩, hb6⟩; dsimp only at hm6 ho6; have HO6 := Lib.hid ho6; have HM6 := Lib.hid hm6; have HB6 := Lib.hid (below_step HQB.out HQB.out.size hb6); have HR6 := Lib.hid (HQ3.out.up hb6); have hz6 : w.heap.size + 1 + 1 < w6.heap.size := HR6.out.lt; clear ho6 hm6 hb6 HE) | (go_at_call 33; refine (placed_any A6 m6 c6 fs _ HM6.out ((show Fds w6 w6.heap.size A6 fs from HO6.out.row.2.2.2).up (al1 _ _)) (Nat.le_trans HO6.out.row.2.1 HO6.out.row.2.2.1 |> fun h => by rw [HM6.out]; simpa using h)).mono ?_; rintro e w8 ⟨rfl, hb8⟩; rw [HP.out]; have HB8 := Lib.hid (below_step (HB6.out.alloc (by omega) _) (by rw [asz]; omega) hb8); have HR8 := Lib.hid ((HR6.out.alloc _).up hb8); have HC8 := Lib.hid ((CB.new w6 30 [.slice A6 m6 c6, .int .i64 nx]).up hb8); have c8_0 := HC8.out.cell 0 rfl; have c8_1 := HC8.out.cell 1 rfl; have hz8 : w.heap.size + 1 + 1 < w8.heap.size := HR8.out.lt; have HW8 := Lib.hid hb8; have HY8 := Lib.hid ((al1 w6 _).trans (hb8.mono (al1 w6 _).size)); clear hb8) | (go_at_call 34; refine (named_any A6 m6 c6 fs _ HM6.out (by rw [HM6.out]; simpa using HO6.out.row.2.1) (((show Fds w6 w6.heap.size A6 fs from HO6.out.row.2.2.2).up (al1 _ _)).up HW8.out) HO6.out.row.2.2.1 (fun f hf => HAN.out f hf)).mono ?_; rintro e w10 ⟨rfl, hb10⟩; rw [HNB.out]; have HB10 := Lib.hid (below_step HB8.out HB8.out.size hb10); have HR10 := Lib.hid (HR8.out.up hb10); have HC10 := Lib.hid (HC8.out.up hb10); have c10_0 := HC10.out.cell 0 rfl; have c10_1 := HC10.out.cell 1 rfl; have hz10 : w.heap.size + 1 + 1 < w10.heap.size := HR10.out.lt; have HY10 := Lib.hid (below_step HY8.out HY8.out.size hb10); clear hb10) | ((with_reducible show wpList _ _ _ _ _ _); refine wpList_store_cb rfl 30 (.tmp 4) (.tmp 44) rfl (w.heap.size + 1 + 1) [.slice none 0 0, .int .i64 0] rfl rfl 30 [.slice none 0 0, .int .i64 0] 2 HR10.out sizeS rfl rfl (one_s _ _ _ _) ?_; intro w9 hc9 hg9 hz9))
        refine bodyPost_ret (res_cell Try.results14 rfl rfl hc9 Try.underlying30 sizeS rfl) rfl ⟨?_, below_grown HB10.out hg9 (by omega) (by omega)⟩
        rw [HRQ.out, last_nm rfl HP.out HNB.out]
        exact res_zero _ _ _
      | true =>
        have HNB := Lib.hid hnb
        clear hnb
        by_cases hli : fs.length ≤ 64 ∧ nx ≤ 1073741824
        · have HLI := Lib.hid hli
          clear hli
          have HL : ∀ m6 : Nat, Hid (m6 = fs.length) → Hid (decide (m6 ≤ 64 ∧ nx ≤ 1073741824) = true) := fun m6 h => by show _ = _; rw [h.out]; exact decide_eq_true HLI.out
          go_wp2_with (first | (go_at_call 58; refine HE.out.mono ?_; rintro e w6 ⟨⟨A6, m6, c6, rfl, hm6, ho6⟩, hb6⟩; dsimp only at hm6 ho6; have HO6 := Lib.hid ho6; have HM6 := Lib.hid hm6; have HB6 := Lib.hid (below_step HQB.out HQB.out.size hb6); have HR6 := Lib.hid (HQ3.out.up hb6); have hz6 : w.heap.size + 1 + 1 < w6.heap.size := HR6.out.lt; clear ho6 hm6 hb6 HE) | (go_at_call 33; refine (placed_any A6 m6 c6 fs _ HM6.out ((show Fds w6 w6.heap.size A6 fs from HO6.out.row.2.2.2).up (al1 _ _)) (Nat.le_trans HO6.out.row.2.1 HO6.out.row.2.2.1 |> fun h => by rw [HM6.out]; simpa using h)).mono ?_; rintro e w8 ⟨rfl, hb8⟩; rw [HP.out]; have HB8 := Lib.hid (below_step (HB6.out.alloc (by omega) _) (by rw [asz]; omega) hb8); have HR8 := Lib.hid ((HR6.out.alloc _).up hb8); have HC8 := Lib.hid ((CB.new w6 30 [.slice A6 m6 c6, .int .i64 nx]).up hb8); have c8_0 := HC8.out.cell 0 rfl; have c8_1 := HC8.out.cell 1 rfl; have hz8 : w.heap.size + 1 + 1 < w8.heap.size := HR8.out.lt; have HW8 := Lib.hid hb8; have HY8 := Lib.hid ((al1 w6 _).trans (hb8.mono (al1 w6 _).size)); clear hb8) | (go_at_call 34; refine (named_any A6 m6 c6 fs _ HM6.out (by rw [HM6.out]; simpa using HO6.out.row.2.1) (((show Fds w6 w6.heap.size A6 fs from HO6.out.row.2.2.2).up (al1 _ _)).up HW8.out) HO6.out.row.2.2.1 (fun f hf => HAN.out f hf)).mono ?_; rintro e w10 ⟨rfl, hb10⟩; rw [HNB.out]; have HB10 := Lib.hid (below_step HB8.out HB8.out.size hb10); have HR10 := Lib.hid (HR8.out.up hb10); have HC10 := Lib.hid (HC8.out.up hb10); have c10_0 := HC10.out.cell 0 rfl; have c10_1 := HC10.out.cell 1 rfl; have hz10 : w.heap.size + 1 + 1 < w10.heap.size := HR10.out.lt; have HY10 := Lib.hid (below_step HY8.out HY8.out.size hb10); clear hb10) | (go_at_call 35; refine (limited_any A6 m6 c6 nx true _ (HL m6 HM6).out (Nat.le_trans HO6.out.row.2.1 HO6.out.row.2.2.1 |> fun h => by rw [HM6.out]; simpa using h)).mono ?_; rintro e w11 ⟨rfl, hb11⟩; have HB11 := Lib.hid (below_step HB10.out HB10.out.size hb11); have HR11 := Lib.hid (HR10.out.up hb11); have HC11 := Lib.hid (HC10.out.up hb11); have c11_0 := HC11.out.cell 0 rfl; have c11_1 := HC11.out.cell 1 rfl; have hz11 : w.heap.size + 1 + 1 < w11.heap.size := HR11.out.lt; have HW6 := Lib.hid (below_step HY10.out HY10.out.size hb11); clear hb11) | ((with_reducible show wpList _ _ _ _ _ _); refine wpList_store_cb rfl 30 (.tmp 4) (.tmp 50) rfl (w.heap.size + 1 + 1) [.slice A6 m6 c6, .int .i64 nx] rfl rfl 30 [.slice none 0 0, .int .i64 0] 2 HR11.out sizeS rfl rfl (one_s _ _ _ _) ?_; intro w9 hc9 hg9 hz9))
          refine bodyPost_ret (res_cell Try.results14 rfl rfl hc9 Try.underlying30 sizeS rfl) rfl ⟨?_, below_grown HB11.out hg9 (by omega) (by omega)⟩
          rw [HRQ.out, last_ok rfl HP.out HNB.out HLI.out]
          exact ⟨A6, m6, c6, rfl, HM6.out, ((HO6.out.low HQB.out.size).up HW6.out).kept hg9 (.inr (Own.ne ((HO6.out.low HQB.out.size).up HW6.out) HR11.out (by decide)).symm)⟩
        · have HLI := Lib.hid hli
          clear hli
          have HL : ∀ m6 : Nat, Hid (m6 = fs.length) → Hid (decide (m6 ≤ 64 ∧ nx ≤ 1073741824) = false) := fun m6 h => by show _ = _; rw [h.out]; exact decide_eq_false HLI.out
          go_wp2_with (first | (go_at_call 58; refine HE.out.mono ?_; rintro e w6 ⟨⟨A6, m6, c6, rfl, hm6, ho6⟩, hb6⟩; dsimp only at hm6 ho6; have HO6 := Lib.hid ho6; have HM6 := Lib.hid hm6; have HB6 := Lib.hid (below_step HQB.out HQB.out.size hb6); have HR6 := Lib.hid (HQ3.out.up hb6); have hz6 : w.heap.size + 1 + 1 < w6.heap.size := HR6.out.lt; clear ho6 hm6 hb6 HE) | (go_at_call 33; refine (placed_any A6 m6 c6 fs _ HM6.out ((show Fds w6 w6.heap.size A6 fs from HO6.out.row.2.2.2).up (al1 _ _)) (Nat.le_trans HO6.out.row.2.1 HO6.out.row.2.2.1 |> fun h => by rw [HM6.out]; simpa using h)).mono ?_; rintro e w8 ⟨rfl, hb8⟩; rw [HP.out]; have HB8 := Lib.hid (below_step (HB6.out.alloc (by omega) _) (by rw [asz]; omega) hb8); have HR8 := Lib.hid ((HR6.out.alloc _).up hb8); have HC8 := Lib.hid ((CB.new w6 30 [.slice A6 m6 c6, .int .i64 nx]).up hb8); have c8_0 := HC8.out.cell 0 rfl; have c8_1 := HC8.out.cell 1 rfl; have hz8 : w.heap.size + 1 + 1 < w8.heap.size := HR8.out.lt; have HW8 := Lib.hid hb8; have HY8 := Lib.hid ((al1 w6 _).trans (hb8.mono (al1 w6 _).size)); clear hb8) | (go_at_call 34; refine (named_any A6 m6 c6 fs _ HM6.out (by rw [HM6.out]; simpa using HO6.out.row.2.1) (((show Fds w6 w6.heap.size A6 fs from HO6.out.row.2.2.2).up (al1 _ _)).up HW8.out) HO6.out.row.2.2.1 (fun f hf => HAN.out f hf)).mono ?_; rintro e w10 ⟨rfl, hb10⟩; rw [HNB.out]; have HB10 := Lib.hid (below_step HB8.out HB8.out.size hb10); have HR10 := Lib.hid (HR8.out.up hb10); have HC10 := Lib.hid (HC8.out.up hb10); have c10_0 := HC10.out.cell 0 rfl; have c10_1 := HC10.out.cell 1 rfl; have hz10 : w.heap.size + 1 + 1 < w10.heap.size := HR10.out.lt; have HY10 := Lib.hid (below_step HY8.out HY8.out.size hb10); clear hb10) | (go_at_call 35; refine (limited_any A6 m6 c6 nx false _ (HL m6 HM6).out (Nat.le_trans HO6.out.row.2.1 HO6.out.row.2.2.1 |> fun h => by rw [HM6.out]; simpa using h)).mono ?_; rintro e w11 ⟨rfl, hb11⟩; have HB11 := Lib.hid (below_step HB10.out HB10.out.size hb11); have HR11 := Lib.hid (HR10.out.up hb11); have HC11 := Lib.hid (HC10.out.up hb11); have c11_0 := HC11.out.cell 0 rfl; have c11_1 := HC11.out.cell 1 rfl; have hz11 : w.heap.size + 1 + 1 < w11.heap.size := HR11.out.lt; have HW6 := Lib.hid (below_step HY10.out HY10.out.size hb11); clear hb11) | ((with_reducible show wpList _ _ _ _ _ _); refine wpList_store_cb rfl 30 (.tmp 4) (.tmp 49) rfl (w.heap.size + 1 + 1) [.slice none 0 0, .int .i64 0] rfl rfl 30 [.slice none 0 0, .int .i64 0] 2 HR11.out sizeS rfl rfl (one_s _ _ _ _) ?_; intro w9 hc9 hg9 hz9))
          refine bodyPost_ret (res_cell Try.results14 rfl rfl hc9 Try.underlying30 sizeS rfl) rfl ⟨?_, below_grown HB11.out hg9 (by omega) (by omega)⟩
          rw [HRQ.out, last_li rfl HP.out HNB.out HLI.out]
          exact res_zero _ _ _
  · have e1 : (er != 0) = true := by simpa using h0
    have H0 := Lib.hid h0
    clear h0
    go_wp2_with (first | (go_at_call 58; refine HE.out.mono ?_; rintro e w6 ⟨⟨A6, m6, c6, rfl, hm6, ho6⟩, hb6⟩; dsimp only at hm6 ho6; have HO6 := Lib.hid ho6; have HM6 := Lib.hid hm6; have HB6 := Lib.hid (below_step HQB.out HQB.out.size hb6); have HR6 := Lib.hid (HQ3.out.up hb6); have hz6 : w.heap.size + 1 + 1 < w6.heap.size := HR6.out.lt; clear ho6 hm6 hb6 HE) | ((with_reducible show wpList _ _ _ _ _ _); refine wpList_store_cb rfl 30 (.tmp 4) (.tmp 31) rfl (w.heap.size + 1 + 1) [.slice none 0 0, .int .i64 0] rfl rfl 30 [.slice none 0 0, .int .i64 0] 2 (HR6.out.alloc _) sizeS rfl rfl (one_s _ _ _ _) ?_; intro w9 hc9 hg9 hz9))
    refine bodyPost_ret (res_cell Try.results14 rfl rfl hc9 Try.underlying30 sizeS rfl) rfl ⟨?_, below_grown (HB6.out.alloc (by omega) _) hg9 (by rw [asz]; omega) (by omega)⟩
    rw [HRQ.out, last_ne rfl H0.out]
    exact res_zero _ _ _

set_option maxHeartbeats 4000000 in
set_option maxRecDepth 20000 in
theorem Apply_spl (A : Option Addr) (n c : Nat) (x : Int) (l : List Fd)  (id wi : Int) (nm ot : ByteArray) (ty pa : Int) (sep : ByteArray) (w : World) (hn : n = l.length) (hs : Fds w w.heap.size A l) (hl0 : n ≤ 1000) (hx0 : 0 ≤ x) (hx1 : x ≤ 2305843009213693952) (hsep : sep.size ≤ 9223372036854775807) (hnl : AllN (fun s => s.size ≤ 9223372036854775807) l) (hnm : nm.size ≤ 9223372036854775807) (hot : ot.size ≤ 9223372036854775807) :
    Calls Try.prog 14 #[.agg #[.slice A n c, .int .i64 x], .agg #[.int .i64 6, .int .i64 id, .int .i64 wi, .string nm, .string ot, .int .i64 ty, .int .i64 pa, .string sep]] w fun e w' => ResS w w' (lastE (splE ⟨l, x⟩ ⟨6, id, wi, nm, ot, ty, pa, sep⟩)) e ∧ Below w.heap.size w w' := by
  have HN := Lib.hid hn
  have HS := Lib.hid hs
  have HNL := Lib.hid hnl
  clear hn hs hnl
  have hq1 := ((CB.new w 30 [.slice A n c, .int .i64 x]).alloc (.cells #[.int .i64 6, .int .i64 id, .int .i64 wi, .string nm, .string ot, .int .i64 ty, .int .i64 pa, .string sep] 24)).alloc (.cells #[.slice none 0 0, .int .i64 0] 30)
  have hq2 := (CB.new1 w (.cells #[.slice A n c, .int .i64 x] 30) 24 [.int .i64 6, .int .i64 id, .int .i64 wi, .string nm, .string ot, .int .i64 ty, .int .i64 pa, .string sep]).alloc (.cells #[.slice none 0 0, .int .i64 0] 30)
  have hq3 := CB.new2 w (.cells #[.slice A n c, .int .i64 x] 30) (.cells #[.int .i64 6, .int .i64 id, .int .i64 wi, .string nm, .string ot, .int .i64 ty, .int .i64 pa, .string sep] 24) 30 [.slice none 0 0, .int .i64 0]
  have hqb := al3 w (.cells #[.slice A n c, .int .i64 x] 30) (.cells #[.int .i64 6, .int .i64 id, .int .i64 wi, .string nm, .string ot, .int .i64 ty, .int .i64 pa, .string sep] 24) (.cells #[.slice none 0 0, .int .i64 0] 30)
  go_enter Try.func14, Try.ntmps14
  go_wp2
  generalize (((w.alloc (.cells #[.slice A n c, .int .i64 x] 30)).alloc (.cells #[.int .i64 6, .int .i64 id, .int .i64 wi, .string nm, .string ot, .int .i64 ty, .int .i64 pa, .string sep] 24)).alloc (.cells #[.slice none 0 0, .int .i64 0] 30)) = W0 at *
  have Q1 := Lib.hid hq1
  have Q2 := Lib.hid hq2
  have Q3 := Lib.hid hq3
  have QB := Lib.hid hqb
  have k0 := hq2.cell 0 rfl
  clear hq1 hq2 hq3 hqb
  go_region_held_law (fun w' => w'.cell? ⟨w.heap.size + 1, 0, none⟩ = some (.int .i64 6))
    (first | exact (Q2.out.up hw7).cell 0 rfl | exact Q2.out.dr.cell 0 rfl | exact (Q2.out.up hw7).dr.cell 0 rfl | go_keep)
    (first | (go_at_call 32; refine (kinds_any _).mono ?_; rintro e w7 ⟨rfl, hm7, hb7⟩; have hw7 : Below W0.heap.size W0 w7 := (by first | exact hb7 | exact (bd _).trans (hb7.mono (bd _).size)); have hlook := kinds_look (show KM w7 W0.heap.size 7 kinD from hm7) 6 (by decide); rw [show kindV 6 = .func (.func 59) #[] #[] from rfl, show decide ((1 : Int) ≤ 6 ∧ (6 : Int) ≤ 7) = true from rfl] at hlook; clear hm7 hb7))
  have he := (spl_any A n c x l 6 id wi nm ot ty pa sep w7 HN.out (HS.out.up (QB.out.trans (hw7.mono QB.out.size))) hl0 hx0 hx1 hsep)
  have han : (AllN (fun s => s.size ≤ 9223372036854775807) (splE ⟨l, x⟩ ⟨6, id, wi, nm, ot, ty, pa, sep⟩).1.fs) := alln_edit (s := ⟨l, x⟩) (c := ⟨6, id, wi, nm, ot, ty, pa, sep⟩) HNL.out hnm hot
  obtain ⟨⟨⟨fs, nx⟩, er⟩, hr⟩ : ∃ r, splE ⟨l, x⟩ ⟨6, id, wi, nm, ot, ty, pa, sep⟩ = r := ⟨_, rfl⟩
  rw [hr] at he han
  have HE := Lib.hid he
  have HAN := Lib.hid han
  have HRQ := Lib.hid hr
  clear he han hr
  have HQ1 := Lib.hid (Q1.out.up hw7)
  have HQ2 := Lib.hid (Q2.out.up hw7)
  have HQ3 := Lib.hid (Q3.out.up hw7)
  have HQB := Lib.hid (QB.out.trans (hw7.mono QB.out.size))
  have s0 := HQ1.out.cell 0 rfl
  have s1 := HQ1.out.cell 1 rfl
  have t0 := HQ2.out.cell 0 rfl
  have t1 := HQ2.out.cell 1 rfl
  have t2 := HQ2.out.cell 2 rfl
  have t3 := HQ2.out.cell 3 rfl
  have t4 := HQ2.out.cell 4 rfl
  have t5 := HQ2.out.cell 5 rfl
  have t6 := HQ2.out.cell 6 rfl
  have t7 := HQ2.out.cell 7 rfl
  clear hw7 k0 hlook Q1 Q2 Q3 QB
  by_cases h0 : er = 0
  · subst h0
    cases hp : plcsB fs with
    | false =>
      have HP := Lib.hid hp
      clear hp
      go_wp2_with (first | (go_at_call 59; refine HE.out.mono ?_; rintro e w6 ⟨⟨A6, m6, c6, rfl, hm6, ho6⟩, hb6⟩; dsimp only at hm6 ho6; have HO6 := Lib.hid ho6; have HM6 := Lib.hid hm6; have HB6 := Lib.hid (below_step HQB.out HQB.out.size hb6); have HR6 := Lib.hid (HQ3.out.up hb6); have hz6 : w.heap.size + 1 + 1 < w6.heap.size := HR6.out.lt; clear ho6 hm6 hb6 HE) | (go_at_call 33; refine (placed_any A6 m6 c6 fs _ HM6.out ((show Fds w6 w6.heap.size A6 fs from HO6.out.row.2.2.2).up (al1 _ _)) (Nat.le_trans HO6.out.row.2.1 HO6.out.row.2.2.1 |> fun h => by rw [HM6.out]; simpa using h)).mono ?_; rintro e w8 ⟨rfl, hb8⟩; rw [HP.out]; have HB8 := Lib.hid (below_step (HB6.out.alloc (by omega) _) (by rw [asz]; omega) hb8); have HR8 := Lib.hid ((HR6.out.alloc _).up hb8); have HC8 := Lib.hid ((CB.new w6 30 [.slice A6 m6 c6, .int .i64 nx]).up hb8); have c8_0 := HC8.out.cell 0 rfl; have c8_1 := HC8.out.cell 1 rfl; have hz8 : w.heap.size + 1 + 1 < w8.heap.size := HR8.out.lt; have HW8 := Lib.hid hb8; have HY8 := Lib.hid ((al1 w6 _).trans (hb8.mono (al1 w6 _).size)); clear hb8) | ((with_reducible show wpList _ _ _ _ _ _); refine wpList_store_cb rfl 30 (.tmp 4) (.tmp 38) rfl (w.heap.size + 1 + 1) [.slice none 0 0, .int .i64 0] rfl rfl 30 [.slice none 0 0, .int .i64 0] 2 HR8.out sizeS rfl rfl (one_s _ _ _ _) ?_; intro w9 hc9 hg9 hz9))
      refine bodyPost_ret (res_cell Try.results14 rfl rfl hc9 Try.underlying30 sizeS rfl) rfl ⟨?_, below_grown HB8.out hg9 (by omega) (by omega)⟩
      rw [HRQ.out, last_pl rfl HP.out]
      exact res_zero _ _ _
    | true =>
      have HP := Lib.hid hp
      clear hp
      cases hnb : namGo [] fs with
      | false =>
        have HNB := Lib.hid hnb
        clear hnb
        go_wp2_with (first | (go_at_call 59; refine HE.out.mono ?_; rintro e w6 ⟨⟨A6, m6, c6, rfl, hm6, ho6⟩, hb6⟩; dsimp only at hm6 ho6; have HO6 := Lib.hid ho6; have HM6 := Lib.hid hm6; have HB6 := Lib.hid (below_step HQB.out HQB.out.size hb6); have HR6 := Lib.hid (HQ3.out.up hb6); have hz6 : w.heap.size + 1 + 1 < w6.heap.size := HR6.out.lt; clear ho6 hm6 hb6 HE) | (go_at_call 33; refine (placed_any A6 m6 c6 fs _ HM6.out ((show Fds w6 w6.heap.size A6 fs from HO6.out.row.2.2.2).up (al1 _ _)) (Nat.le_trans HO6.out.row.2.1 HO6.out.row.2.2.1 |> fun h => by rw [HM6.out]; simpa using h)).mono ?_; rintro e w8 ⟨rfl, hb8⟩; rw [HP.out]; have HB8 := Lib.hid (below_step (HB6.out.alloc (by omega) _) (by rw [asz]; omega) hb8); have HR8 := Lib.hid ((HR6.out.alloc _).up hb8); have HC8 := Lib.hid ((CB.new w6 30 [.slice A6 m6 c6, .int .i64 nx]).up hb8); have c8_0 := HC8.out.cell 0 rfl; have c8_1 := HC8.out.cell 1 rfl; have hz8 : w.heap.size + 1 + 1 < w8.heap.size := HR8.out.lt; have HW8 := Lib.hid hb8; have HY8 := Lib.hid ((al1 w6 _).trans (hb8.mono (al1 w6 _).size)); clear hb8) | (go_at_call 34; refine (named_any A6 m6 c6 fs _ HM6.out (by rw [HM6.out]; simpa using HO6.out.row.2.1) (((show Fds w6 w6.heap.size A6 fs from HO6.out.row.2.2.2).up (al1 _ _)).up HW8.out) HO6.out.row.2.2.1 (fun f hf => HAN.out f hf)).mono ?_; rintro e w10 ⟨rfl, hb10⟩; rw [HNB.out]; have HB10 := Lib.hid (below_step HB8.out HB8.out.size hb10); have HR10 := Lib.hid (HR8.out.up hb10); have HC10 := Lib.hid (HC8.out.up hb10); have c10_0 := HC10.out.cell 0 rfl; have c10_1 := HC10.out.cell 1 rfl; have hz10 : w.heap.size + 1 + 1 < w10.heap.size := HR10.out.lt; have HY10 := Lib.hid (below_step HY8.out HY8.out.size hb10); clear hb10) | ((with_reducible show wpList _ _ _ _ _ _); refine wpList_store_cb rfl 30 (.tmp 4) (.tmp 44) rfl (w.heap.size + 1 + 1) [.slice none 0 0, .int .i64 0] rfl rfl 30 [.slice none 0 0, .int .i64 0] 2 HR10.out sizeS rfl rfl (one_s _ _ _ _) ?_; intro w9 hc9 hg9 hz9))
        refine bodyPost_ret (res_cell Try.results14 rfl rfl hc9 Try.underlying30 sizeS rfl) rfl ⟨?_, below_grown HB10.out hg9 (by omega) (by omega)⟩
        rw [HRQ.out, last_nm rfl HP.out HNB.out]
        exact res_zero _ _ _
      | true =>
        have HNB := Lib.hid hnb
        clear hnb
        by_cases hli : fs.length ≤ 64 ∧ nx ≤ 1073741824
        · have HLI := Lib.hid hli
          clear hli
          have HL : ∀ m6 : Nat, Hid (m6 = fs.length) → Hid (decide (m6 ≤ 64 ∧ nx ≤ 1073741824) = true) := fun m6 h => by show _ = _; rw [h.out]; exact decide_eq_true HLI.out
          go_wp2_with (first | (go_at_call 59; refine HE.out.mono ?_; rintro e w6 ⟨⟨A6, m6, c6, rfl, hm6, ho6⟩, hb6⟩; dsimp only at hm6 ho6; have HO6 := Lib.hid ho6; have HM6 := Lib.hid hm6; have HB6 := Lib.hid (below_step HQB.out HQB.out.size hb6); have HR6 := Lib.hid (HQ3.out.up hb6); have hz6 : w.heap.size + 1 + 1 < w6.heap.size := HR6.out.lt; clear ho6 hm6 hb6 HE) | (go_at_call 33; refine (placed_any A6 m6 c6 fs _ HM6.out ((show Fds w6 w6.heap.size A6 fs from HO6.out.row.2.2.2).up (al1 _ _)) (Nat.le_trans HO6.out.row.2.1 HO6.out.row.2.2.1 |> fun h => by rw [HM6.out]; simpa using h)).mono ?_; rintro e w8 ⟨rfl, hb8⟩; rw [HP.out]; have HB8 := Lib.hid (below_step (HB6.out.alloc (by omega) _) (by rw [asz]; omega) hb8); have HR8 := Lib.hid ((HR6.out.alloc _).up hb8); have HC8 := Lib.hid ((CB.new w6 30 [.slice A6 m6 c6, .int .i64 nx]).up hb8); have c8_0 := HC8.out.cell 0 rfl; have c8_1 := HC8.out.cell 1 rfl; have hz8 : w.heap.size + 1 + 1 < w8.heap.size := HR8.out.lt; have HW8 := Lib.hid hb8; have HY8 := Lib.hid ((al1 w6 _).trans (hb8.mono (al1 w6 _).size)); clear hb8) | (go_at_call 34; refine (named_any A6 m6 c6 fs _ HM6.out (by rw [HM6.out]; simpa using HO6.out.row.2.1) (((show Fds w6 w6.heap.size A6 fs from HO6.out.row.2.2.2).up (al1 _ _)).up HW8.out) HO6.out.row.2.2.1 (fun f hf => HAN.out f hf)).mono ?_; rintro e w10 ⟨rfl, hb10⟩; rw [HNB.out]; have HB10 := Lib.hid (below_step HB8.out HB8.out.size hb10); have HR10 := Lib.hid (HR8.out.up hb10); have HC10 := Lib.hid (HC8.out.up hb10); have c10_0 := HC10.out.cell 0 rfl; have c10_1 := HC10.out.cell 1 rfl; have hz10 : w.heap.size + 1 + 1 < w10.heap.size := HR10.out.lt; have HY10 := Lib.hid (below_step HY8.out HY8.out.size hb10); clear hb10) | (go_at_call 35; refine (limited_any A6 m6 c6 nx true _ (HL m6 HM6).out (Nat.le_trans HO6.out.row.2.1 HO6.out.row.2.2.1 |> fun h => by rw [HM6.out]; simpa using h)).mono ?_; rintro e w11 ⟨rfl, hb11⟩; have HB11 := Lib.hid (below_step HB10.out HB10.out.size hb11); have HR11 := Lib.hid (HR10.out.up hb11); have HC11 := Lib.hid (HC10.out.up hb11); have c11_0 := HC11.out.cell 0 rfl; have c11_1 := HC11.out.cell 1 rfl; have hz11 : w.heap.size + 1 + 1 < w11.heap.size := HR11.out.lt; have HW6 := Lib.hid (below_step HY10.out HY10.out.size hb11); clear hb11) | ((with_reducible show wpList _ _ _ _ _ _); refine wpList_store_cb rfl 30 (.tmp 4) (.tmp 50) rfl (w.heap.size + 1 + 1) [.slice A6 m6 c6, .int .i64 nx] rfl rfl 30 [.slice none 0 0, .int .i64 0] 2 HR11.out sizeS rfl rfl (one_s _ _ _ _) ?_; intro w9 hc9 hg9 hz9))
          refine bodyPost_ret (res_cell Try.results14 rfl rfl hc9 Try.underlying30 sizeS rfl) rfl ⟨?_, below_grown HB11.out hg9 (by omega) (by omega)⟩
          rw [HRQ.out, last_ok rfl HP.out HNB.out HLI.out]
          exact ⟨A6, m6, c6, rfl, HM6.out, ((HO6.out.low HQB.out.size).up HW6.out).kept hg9 (.inr (Own.ne ((HO6.out.low HQB.out.size).up HW6.out) HR11.out (by decide)).symm)⟩
        · have HLI := Lib.hid hli
          clear hli
          have HL : ∀ m6 : Nat, Hid (m6 = fs.length) → Hid (decide (m6 ≤ 64 ∧ nx ≤ 1073741824) = false) := fun m6 h => by show _ = _; rw [h.out]; exact decide_eq_false HLI.out
          go_wp2_with (first | (go_at_call 59; refine HE.out.mono ?_; rintro e w6 ⟨⟨A6, m6, c6, rfl, hm6, ho6⟩, hb6⟩; dsimp only at hm6 ho6; have HO6 := Lib.hid ho6; have HM6 := Lib.hid hm6; have HB6 := Lib.hid (below_step HQB.out HQB.out.size hb6); have HR6 := Lib.hid (HQ3.out.up hb6); have hz6 : w.heap.size + 1 + 1 < w6.heap.size := HR6.out.lt; clear ho6 hm6 hb6 HE) | (go_at_call 33; refine (placed_any A6 m6 c6 fs _ HM6.out ((show Fds w6 w6.heap.size A6 fs from HO6.out.row.2.2.2).up (al1 _ _)) (Nat.le_trans HO6.out.row.2.1 HO6.out.row.2.2.1 |> fun h => by rw [HM6.out]; simpa using h)).mono ?_; rintro e w8 ⟨rfl, hb8⟩; rw [HP.out]; have HB8 := Lib.hid (below_step (HB6.out.alloc (by omega) _) (by rw [asz]; omega) hb8); have HR8 := Lib.hid ((HR6.out.alloc _).up hb8); have HC8 := Lib.hid ((CB.new w6 30 [.slice A6 m6 c6, .int .i64 nx]).up hb8); have c8_0 := HC8.out.cell 0 rfl; have c8_1 := HC8.out.cell 1 rfl; have hz8 : w.heap.size + 1 + 1 < w8.heap.size := HR8.out.lt; have HW8 := Lib.hid hb8; have HY8 := Lib.hid ((al1 w6 _).trans (hb8.mono (al1 w6 _).size)); clear hb8) | (go_at_call 34; refine (named_any A6 m6 c6 fs _ HM6.out (by rw [HM6.out]; simpa using HO6.out.row.2.1) (((show Fds w6 w6.heap.size A6 fs from HO6.out.row.2.2.2).up (al1 _ _)).up HW8.out) HO6.out.row.2.2.1 (fun f hf => HAN.out f hf)).mono ?_; rintro e w10 ⟨rfl, hb10⟩; rw [HNB.out]; have HB10 := Lib.hid (below_step HB8.out HB8.out.size hb10); have HR10 := Lib.hid (HR8.out.up hb10); have HC10 := Lib.hid (HC8.out.up hb10); have c10_0 := HC10.out.cell 0 rfl; have c10_1 := HC10.out.cell 1 rfl; have hz10 : w.heap.size + 1 + 1 < w10.heap.size := HR10.out.lt; have HY10 := Lib.hid (below_step HY8.out HY8.out.size hb10); clear hb10) | (go_at_call 35; refine (limited_any A6 m6 c6 nx false _ (HL m6 HM6).out (Nat.le_trans HO6.out.row.2.1 HO6.out.row.2.2.1 |> fun h => by rw [HM6.out]; simpa using h)).mono ?_; rintro e w11 ⟨rfl, hb11⟩; have HB11 := Lib.hid (below_step HB10.out HB10.out.size hb11); have HR11 := Lib.hid (HR10.out.up hb11); have HC11 := Lib.hid (HC10.out.up hb11); have c11_0 := HC11.out.cell 0 rfl; have c11_1 := HC11.out.cell 1 rfl; have hz11 : w.heap.size + 1 + 1 < w11.heap.size := HR11.out.lt; have HW6 := Lib.hid (below_step HY10.out HY10.out.size hb11); clear hb11) | ((with_reducible show wpList _ _ _ _ _ _); refine wpList_store_cb rfl 30 (.tmp 4) (.tmp 49) rfl (w.heap.size + 1 + 1) [.slice none 0 0, .int .i64 0] rfl rfl 30 [.slice none 0 0, .int .i64 0] 2 HR11.out sizeS rfl rfl (one_s _ _ _ _) ?_; intro w9 hc9 hg9 hz9))
          refine bodyPost_ret (res_cell Try.results14 rfl rfl hc9 Try.underlying30 sizeS rfl) rfl ⟨?_, below_grown HB11.out hg9 (by omega) (by omega)⟩
          rw [HRQ.out, last_li rfl HP.out HNB.out HLI.out]
          exact res_zero _ _ _
  · have e1 : (er != 0) = true := by simpa using h0
    have H0 := Lib.hid h0
    clear h0
    go_wp2_with (first | (go_at_call 59; refine HE.out.mono ?_; rintro e w6 ⟨⟨A6, m6, c6, rfl, hm6, ho6⟩, hb6⟩; dsimp only at hm6 ho6; have HO6 := Lib.hid ho6; have HM6 := Lib.hid hm6; have HB6 := Lib.hid (below_step HQB.out HQB.out.size hb6); have HR6 := Lib.hid (HQ3.out.up hb6); have hz6 : w.heap.size + 1 + 1 < w6.heap.size := HR6.out.lt; clear ho6 hm6 hb6 HE) | ((with_reducible show wpList _ _ _ _ _ _); refine wpList_store_cb rfl 30 (.tmp 4) (.tmp 31) rfl (w.heap.size + 1 + 1) [.slice none 0 0, .int .i64 0] rfl rfl 30 [.slice none 0 0, .int .i64 0] 2 (HR6.out.alloc _) sizeS rfl rfl (one_s _ _ _ _) ?_; intro w9 hc9 hg9 hz9))
    refine bodyPost_ret (res_cell Try.results14 rfl rfl hc9 Try.underlying30 sizeS rfl) rfl ⟨?_, below_grown (HB6.out.alloc (by omega) _) hg9 (by rw [asz]; omega) (by omega)⟩
    rw [HRQ.out, last_ne rfl H0.out]
    exact res_zero _ _ _

set_option maxHeartbeats 4000000 in
set_option maxRecDepth 20000 in
theorem Apply_joi (A : Option Addr) (n c : Nat) (x : Int) (l : List Fd)  (id wi : Int) (nm ot : ByteArray) (ty pa : Int) (sep : ByteArray) (w : World) (hn : n = l.length) (hs : Fds w w.heap.size A l) (hl0 : n ≤ 1000) (hx0 : 0 ≤ x) (hx1 : x ≤ 2305843009213693952) (hsep : sep.size ≤ 9223372036854775807) (hnl : AllN (fun s => s.size ≤ 9223372036854775807) l) (hnm : nm.size ≤ 9223372036854775807) (hot : ot.size ≤ 9223372036854775807) :
    Calls Try.prog 14 #[.agg #[.slice A n c, .int .i64 x], .agg #[.int .i64 7, .int .i64 id, .int .i64 wi, .string nm, .string ot, .int .i64 ty, .int .i64 pa, .string sep]] w fun e w' => ResS w w' (lastE (joiE ⟨l, x⟩ ⟨7, id, wi, nm, ot, ty, pa, sep⟩)) e ∧ Below w.heap.size w w' := by
  have HN := Lib.hid hn
  have HS := Lib.hid hs
  have HNL := Lib.hid hnl
  clear hn hs hnl
  have hq1 := ((CB.new w 30 [.slice A n c, .int .i64 x]).alloc (.cells #[.int .i64 7, .int .i64 id, .int .i64 wi, .string nm, .string ot, .int .i64 ty, .int .i64 pa, .string sep] 24)).alloc (.cells #[.slice none 0 0, .int .i64 0] 30)
  have hq2 := (CB.new1 w (.cells #[.slice A n c, .int .i64 x] 30) 24 [.int .i64 7, .int .i64 id, .int .i64 wi, .string nm, .string ot, .int .i64 ty, .int .i64 pa, .string sep]).alloc (.cells #[.slice none 0 0, .int .i64 0] 30)
  have hq3 := CB.new2 w (.cells #[.slice A n c, .int .i64 x] 30) (.cells #[.int .i64 7, .int .i64 id, .int .i64 wi, .string nm, .string ot, .int .i64 ty, .int .i64 pa, .string sep] 24) 30 [.slice none 0 0, .int .i64 0]
  have hqb := al3 w (.cells #[.slice A n c, .int .i64 x] 30) (.cells #[.int .i64 7, .int .i64 id, .int .i64 wi, .string nm, .string ot, .int .i64 ty, .int .i64 pa, .string sep] 24) (.cells #[.slice none 0 0, .int .i64 0] 30)
  go_enter Try.func14, Try.ntmps14
  go_wp2
  generalize (((w.alloc (.cells #[.slice A n c, .int .i64 x] 30)).alloc (.cells #[.int .i64 7, .int .i64 id, .int .i64 wi, .string nm, .string ot, .int .i64 ty, .int .i64 pa, .string sep] 24)).alloc (.cells #[.slice none 0 0, .int .i64 0] 30)) = W0 at *
  have Q1 := Lib.hid hq1
  have Q2 := Lib.hid hq2
  have Q3 := Lib.hid hq3
  have QB := Lib.hid hqb
  have k0 := hq2.cell 0 rfl
  clear hq1 hq2 hq3 hqb
  go_region_held_law (fun w' => w'.cell? ⟨w.heap.size + 1, 0, none⟩ = some (.int .i64 7))
    (first | exact (Q2.out.up hw7).cell 0 rfl | exact Q2.out.dr.cell 0 rfl | exact (Q2.out.up hw7).dr.cell 0 rfl | go_keep)
    (first | (go_at_call 32; refine (kinds_any _).mono ?_; rintro e w7 ⟨rfl, hm7, hb7⟩; have hw7 : Below W0.heap.size W0 w7 := (by first | exact hb7 | exact (bd _).trans (hb7.mono (bd _).size)); have hlook := kinds_look (show KM w7 W0.heap.size 7 kinD from hm7) 7 (by decide); rw [show kindV 7 = .func (.func 60) #[] #[] from rfl, show decide ((1 : Int) ≤ 7 ∧ (7 : Int) ≤ 7) = true from rfl] at hlook; clear hm7 hb7))
  have he := (joi_any A n c x l 7 id wi nm ot ty pa sep w7 HN.out (HS.out.up (QB.out.trans (hw7.mono QB.out.size))) hl0 hx0 hx1 hsep)
  have han : (AllN (fun s => s.size ≤ 9223372036854775807) (joiE ⟨l, x⟩ ⟨7, id, wi, nm, ot, ty, pa, sep⟩).1.fs) := alln_edit (s := ⟨l, x⟩) (c := ⟨7, id, wi, nm, ot, ty, pa, sep⟩) HNL.out hnm hot
  obtain ⟨⟨⟨fs, nx⟩, er⟩, hr⟩ : ∃ r, joiE ⟨l, x⟩ ⟨7, id, wi, nm, ot, ty, pa, sep⟩ = r := ⟨_, rfl⟩
  rw [hr] at he han
  have HE := Lib.hid he
  have HAN := Lib.hid han
  have HRQ := Lib.hid hr
  clear he han hr
  have HQ1 := Lib.hid (Q1.out.up hw7)
  have HQ2 := Lib.hid (Q2.out.up hw7)
  have HQ3 := Lib.hid (Q3.out.up hw7)
  have HQB := Lib.hid (QB.out.trans (hw7.mono QB.out.size))
  have s0 := HQ1.out.cell 0 rfl
  have s1 := HQ1.out.cell 1 rfl
  have t0 := HQ2.out.cell 0 rfl
  have t1 := HQ2.out.cell 1 rfl
  have t2 := HQ2.out.cell 2 rfl
  have t3 := HQ2.out.cell 3 rfl
  have t4 := HQ2.out.cell 4 rfl
  have t5 := HQ2.out.cell 5 rfl
  have t6 := HQ2.out.cell 6 rfl
  have t7 := HQ2.out.cell 7 rfl
  clear hw7 k0 hlook Q1 Q2 Q3 QB
  by_cases h0 : er = 0
  · subst h0
    cases hp : plcsB fs with
    | false =>
      have HP := Lib.hid hp
      clear hp
      go_wp2_with (first | (go_at_call 60; refine HE.out.mono ?_; rintro e w6 ⟨⟨A6, m6, c6, rfl, hm6, ho6⟩, hb6⟩; dsimp only at hm6 ho6; have HO6 := Lib.hid ho6; have HM6 := Lib.hid hm6; have HB6 := Lib.hid (below_step HQB.out HQB.out.size hb6); have HR6 := Lib.hid (HQ3.out.up hb6); have hz6 : w.heap.size + 1 + 1 < w6.heap.size := HR6.out.lt; clear ho6 hm6 hb6 HE) | (go_at_call 33; refine (placed_any A6 m6 c6 fs _ HM6.out ((show Fds w6 w6.heap.size A6 fs from HO6.out.row.2.2.2).up (al1 _ _)) (Nat.le_trans HO6.out.row.2.1 HO6.out.row.2.2.1 |> fun h => by rw [HM6.out]; simpa using h)).mono ?_; rintro e w8 ⟨rfl, hb8⟩; rw [HP.out]; have HB8 := Lib.hid (below_step (HB6.out.alloc (by omega) _) (by rw [asz]; omega) hb8); have HR8 := Lib.hid ((HR6.out.alloc _).up hb8); have HC8 := Lib.hid ((CB.new w6 30 [.slice A6 m6 c6, .int .i64 nx]).up hb8); have c8_0 := HC8.out.cell 0 rfl; have c8_1 := HC8.out.cell 1 rfl; have hz8 : w.heap.size + 1 + 1 < w8.heap.size := HR8.out.lt; have HW8 := Lib.hid hb8; have HY8 := Lib.hid ((al1 w6 _).trans (hb8.mono (al1 w6 _).size)); clear hb8) | ((with_reducible show wpList _ _ _ _ _ _); refine wpList_store_cb rfl 30 (.tmp 4) (.tmp 38) rfl (w.heap.size + 1 + 1) [.slice none 0 0, .int .i64 0] rfl rfl 30 [.slice none 0 0, .int .i64 0] 2 HR8.out sizeS rfl rfl (one_s _ _ _ _) ?_; intro w9 hc9 hg9 hz9))
      refine bodyPost_ret (res_cell Try.results14 rfl rfl hc9 Try.underlying30 sizeS rfl) rfl ⟨?_, below_grown HB8.out hg9 (by omega) (by omega)⟩
      rw [HRQ.out, last_pl rfl HP.out]
      exact res_zero _ _ _
    | true =>
      have HP := Lib.hid hp
      clear hp
      cases hnb : namGo [] fs with
      | false =>
        have HNB := Lib.hid hnb
        clear hnb
        go_wp2_with (first | (go_at_call 60; refine HE.out.mono ?_; rintro e w6 ⟨⟨A6, m6, c6, rfl, hm6, ho6⟩, hb6⟩; dsimp only at hm6 ho6; have HO6 := Lib.hid ho6; have HM6 := Lib.hid hm6; have HB6 := Lib.hid (below_step HQB.out HQB.out.size hb6); have HR6 := Lib.hid (HQ3.out.up hb6); have hz6 : w.heap.size + 1 + 1 < w6.heap.size := HR6.out.lt; clear ho6 hm6 hb6 HE) | (go_at_call 33; refine (placed_any A6 m6 c6 fs _ HM6.out ((show Fds w6 w6.heap.size A6 fs from HO6.out.row.2.2.2).up (al1 _ _)) (Nat.le_trans HO6.out.row.2.1 HO6.out.row.2.2.1 |> fun h => by rw [HM6.out]; simpa using h)).mono ?_; rintro e w8 ⟨rfl, hb8⟩; rw [HP.out]; have HB8 := Lib.hid (below_step (HB6.out.alloc (by omega) _) (by rw [asz]; omega) hb8); have HR8 := Lib.hid ((HR6.out.alloc _).up hb8); have HC8 := Lib.hid ((CB.new w6 30 [.slice A6 m6 c6, .int .i64 nx]).up hb8); have c8_0 := HC8.out.cell 0 rfl; have c8_1 := HC8.out.cell 1 rfl; have hz8 : w.heap.size + 1 + 1 < w8.heap.size := HR8.out.lt; have HW8 := Lib.hid hb8; have HY8 := Lib.hid ((al1 w6 _).trans (hb8.mono (al1 w6 _).size)); clear hb8) | (go_at_call 34; refine (named_any A6 m6 c6 fs _ HM6.out (by rw [HM6.out]; simpa using HO6.out.row.2.1) (((show Fds w6 w6.heap.size A6 fs from HO6.out.row.2.2.2).up (al1 _ _)).up HW8.out) HO6.out.row.2.2.1 (fun f hf => HAN.out f hf)).mono ?_; rintro e w10 ⟨rfl, hb10⟩; rw [HNB.out]; have HB10 := Lib.hid (below_step HB8.out HB8.out.size hb10); have HR10 := Lib.hid (HR8.out.up hb10); have HC10 := Lib.hid (HC8.out.up hb10); have c10_0 := HC10.out.cell 0 rfl; have c10_1 := HC10.out.cell 1 rfl; have hz10 : w.heap.size + 1 + 1 < w10.heap.size := HR10.out.lt; have HY10 := Lib.hid (below_step HY8.out HY8.out.size hb10); clear hb10) | ((with_reducible show wpList _ _ _ _ _ _); refine wpList_store_cb rfl 30 (.tmp 4) (.tmp 44) rfl (w.heap.size + 1 + 1) [.slice none 0 0, .int .i64 0] rfl rfl 30 [.slice none 0 0, .int .i64 0] 2 HR10.out sizeS rfl rfl (one_s _ _ _ _) ?_; intro w9 hc9 hg9 hz9))
        refine bodyPost_ret (res_cell Try.results14 rfl rfl hc9 Try.underlying30 sizeS rfl) rfl ⟨?_, below_grown HB10.out hg9 (by omega) (by omega)⟩
        rw [HRQ.out, last_nm rfl HP.out HNB.out]
        exact res_zero _ _ _
      | true =>
        have HNB := Lib.hid hnb
        clear hnb
        by_cases hli : fs.length ≤ 64 ∧ nx ≤ 1073741824
        · have HLI := Lib.hid hli
          clear hli
          have HL : ∀ m6 : Nat, Hid (m6 = fs.length) → Hid (decide (m6 ≤ 64 ∧ nx ≤ 1073741824) = true) := fun m6 h => by show _ = _; rw [h.out]; exact decide_eq_true HLI.out
          go_wp2_with (first | (go_at_call 60; refine HE.out.mono ?_; rintro e w6 ⟨⟨A6, m6, c6, rfl, hm6, ho6⟩, hb6⟩; dsimp only at hm6 ho6; have HO6 := Lib.hid ho6; have HM6 := Lib.hid hm6; have HB6 := Lib.hid (below_step HQB.out HQB.out.size hb6); have HR6 := Lib.hid (HQ3.out.up hb6); have hz6 : w.heap.size + 1 + 1 < w6.heap.size := HR6.out.lt; clear ho6 hm6 hb6 HE) | (go_at_call 33; refine (placed_any A6 m6 c6 fs _ HM6.out ((show Fds w6 w6.heap.size A6 fs from HO6.out.row.2.2.2).up (al1 _ _)) (Nat.le_trans HO6.out.row.2.1 HO6.out.row.2.2.1 |> fun h => by rw [HM6.out]; simpa using h)).mono ?_; rintro e w8 ⟨rfl, hb8⟩; rw [HP.out]; have HB8 := Lib.hid (below_step (HB6.out.alloc (by omega) _) (by rw [asz]; omega) hb8); have HR8 := Lib.hid ((HR6.out.alloc _).up hb8); have HC8 := Lib.hid ((CB.new w6 30 [.slice A6 m6 c6, .int .i64 nx]).up hb8); have c8_0 := HC8.out.cell 0 rfl; have c8_1 := HC8.out.cell 1 rfl; have hz8 : w.heap.size + 1 + 1 < w8.heap.size := HR8.out.lt; have HW8 := Lib.hid hb8; have HY8 := Lib.hid ((al1 w6 _).trans (hb8.mono (al1 w6 _).size)); clear hb8) | (go_at_call 34; refine (named_any A6 m6 c6 fs _ HM6.out (by rw [HM6.out]; simpa using HO6.out.row.2.1) (((show Fds w6 w6.heap.size A6 fs from HO6.out.row.2.2.2).up (al1 _ _)).up HW8.out) HO6.out.row.2.2.1 (fun f hf => HAN.out f hf)).mono ?_; rintro e w10 ⟨rfl, hb10⟩; rw [HNB.out]; have HB10 := Lib.hid (below_step HB8.out HB8.out.size hb10); have HR10 := Lib.hid (HR8.out.up hb10); have HC10 := Lib.hid (HC8.out.up hb10); have c10_0 := HC10.out.cell 0 rfl; have c10_1 := HC10.out.cell 1 rfl; have hz10 : w.heap.size + 1 + 1 < w10.heap.size := HR10.out.lt; have HY10 := Lib.hid (below_step HY8.out HY8.out.size hb10); clear hb10) | (go_at_call 35; refine (limited_any A6 m6 c6 nx true _ (HL m6 HM6).out (Nat.le_trans HO6.out.row.2.1 HO6.out.row.2.2.1 |> fun h => by rw [HM6.out]; simpa using h)).mono ?_; rintro e w11 ⟨rfl, hb11⟩; have HB11 := Lib.hid (below_step HB10.out HB10.out.size hb11); have HR11 := Lib.hid (HR10.out.up hb11); have HC11 := Lib.hid (HC10.out.up hb11); have c11_0 := HC11.out.cell 0 rfl; have c11_1 := HC11.out.cell 1 rfl; have hz11 : w.heap.size + 1 + 1 < w11.heap.size := HR11.out.lt; have HW6 := Lib.hid (below_step HY10.out HY10.out.size hb11); clear hb11) | ((with_reducible show wpList _ _ _ _ _ _); refine wpList_store_cb rfl 30 (.tmp 4) (.tmp 50) rfl (w.heap.size + 1 + 1) [.slice A6 m6 c6, .int .i64 nx] rfl rfl 30 [.slice none 0 0, .int .i64 0] 2 HR11.out sizeS rfl rfl (one_s _ _ _ _) ?_; intro w9 hc9 hg9 hz9))
          refine bodyPost_ret (res_cell Try.results14 rfl rfl hc9 Try.underlying30 sizeS rfl) rfl ⟨?_, below_grown HB11.out hg9 (by omega) (by omega)⟩
          rw [HRQ.out, last_ok rfl HP.out HNB.out HLI.out]
          exact ⟨A6, m6, c6, rfl, HM6.out, ((HO6.out.low HQB.out.size).up HW6.out).kept hg9 (.inr (Own.ne ((HO6.out.low HQB.out.size).up HW6.out) HR11.out (by decide)).symm)⟩
        · have HLI := Lib.hid hli
          clear hli
          have HL : ∀ m6 : Nat, Hid (m6 = fs.length) → Hid (decide (m6 ≤ 64 ∧ nx ≤ 1073741824) = false) := fun m6 h => by show _ = _; rw [h.out]; exact decide_eq_false HLI.out
          go_wp2_with (first | (go_at_call 60; refine HE.out.mono ?_; rintro e w6 ⟨⟨A6, m6, c6, rfl, hm6, ho6⟩, hb6⟩; dsimp only at hm6 ho6; have HO6 := Lib.hid ho6; have HM6 := Lib.hid hm6; have HB6 := Lib.hid (below_step HQB.out HQB.out.size hb6); have HR6 := Lib.hid (HQ3.out.up hb6); have hz6 : w.heap.size + 1 + 1 < w6.heap.size := HR6.out.lt; clear ho6 hm6 hb6 HE) | (go_at_call 33; refine (placed_any A6 m6 c6 fs _ HM6.out ((show Fds w6 w6.heap.size A6 fs from HO6.out.row.2.2.2).up (al1 _ _)) (Nat.le_trans HO6.out.row.2.1 HO6.out.row.2.2.1 |> fun h => by rw [HM6.out]; simpa using h)).mono ?_; rintro e w8 ⟨rfl, hb8⟩; rw [HP.out]; have HB8 := Lib.hid (below_step (HB6.out.alloc (by omega) _) (by rw [asz]; omega) hb8); have HR8 := Lib.hid ((HR6.out.alloc _).up hb8); have HC8 := Lib.hid ((CB.new w6 30 [.slice A6 m6 c6, .int .i64 nx]).up hb8); have c8_0 := HC8.out.cell 0 rfl; have c8_1 := HC8.out.cell 1 rfl; have hz8 : w.heap.size + 1 + 1 < w8.heap.size := HR8.out.lt; have HW8 := Lib.hid hb8; have HY8 := Lib.hid ((al1 w6 _).trans (hb8.mono (al1 w6 _).size)); clear hb8) | (go_at_call 34; refine (named_any A6 m6 c6 fs _ HM6.out (by rw [HM6.out]; simpa using HO6.out.row.2.1) (((show Fds w6 w6.heap.size A6 fs from HO6.out.row.2.2.2).up (al1 _ _)).up HW8.out) HO6.out.row.2.2.1 (fun f hf => HAN.out f hf)).mono ?_; rintro e w10 ⟨rfl, hb10⟩; rw [HNB.out]; have HB10 := Lib.hid (below_step HB8.out HB8.out.size hb10); have HR10 := Lib.hid (HR8.out.up hb10); have HC10 := Lib.hid (HC8.out.up hb10); have c10_0 := HC10.out.cell 0 rfl; have c10_1 := HC10.out.cell 1 rfl; have hz10 : w.heap.size + 1 + 1 < w10.heap.size := HR10.out.lt; have HY10 := Lib.hid (below_step HY8.out HY8.out.size hb10); clear hb10) | (go_at_call 35; refine (limited_any A6 m6 c6 nx false _ (HL m6 HM6).out (Nat.le_trans HO6.out.row.2.1 HO6.out.row.2.2.1 |> fun h => by rw [HM6.out]; simpa using h)).mono ?_; rintro e w11 ⟨rfl, hb11⟩; have HB11 := Lib.hid (below_step HB10.out HB10.out.size hb11); have HR11 := Lib.hid (HR10.out.up hb11); have HC11 := Lib.hid (HC10.out.up hb11); have c11_0 := HC11.out.cell 0 rfl; have c11_1 := HC11.out.cell 1 rfl; have hz11 : w.heap.size + 1 + 1 < w11.heap.size := HR11.out.lt; have HW6 := Lib.hid (below_step HY10.out HY10.out.size hb11); clear hb11) | ((with_reducible show wpList _ _ _ _ _ _); refine wpList_store_cb rfl 30 (.tmp 4) (.tmp 49) rfl (w.heap.size + 1 + 1) [.slice none 0 0, .int .i64 0] rfl rfl 30 [.slice none 0 0, .int .i64 0] 2 HR11.out sizeS rfl rfl (one_s _ _ _ _) ?_; intro w9 hc9 hg9 hz9))
          refine bodyPost_ret (res_cell Try.results14 rfl rfl hc9 Try.underlying30 sizeS rfl) rfl ⟨?_, below_grown HB11.out hg9 (by omega) (by omega)⟩
          rw [HRQ.out, last_li rfl HP.out HNB.out HLI.out]
          exact res_zero _ _ _
  · have e1 : (er != 0) = true := by simpa using h0
    have H0 := Lib.hid h0
    clear h0
    go_wp2_with (first | (go_at_call 60; refine HE.out.mono ?_; rintro e w6 ⟨⟨A6, m6, c6, rfl, hm6, ho6⟩, hb6⟩; dsimp only at hm6 ho6; have HO6 := Lib.hid ho6; have HM6 := Lib.hid hm6; have HB6 := Lib.hid (below_step HQB.out HQB.out.size hb6); have HR6 := Lib.hid (HQ3.out.up hb6); have hz6 : w.heap.size + 1 + 1 < w6.heap.size := HR6.out.lt; clear ho6 hm6 hb6 HE) | ((with_reducible show wpList _ _ _ _ _ _); refine wpList_store_cb rfl 30 (.tmp 4) (.tmp 31) rfl (w.heap.size + 1 + 1) [.slice none 0 0, .int .i64 0] rfl rfl 30 [.slice none 0 0, .int .i64 0] 2 (HR6.out.alloc _) sizeS rfl rfl (one_s _ _ _ _) ?_; intro w9 hc9 hg9 hz9))
    refine bodyPost_ret (res_cell Try.results14 rfl rfl hc9 Try.underlying30 sizeS rfl) rfl ⟨?_, below_grown (HB6.out.alloc (by omega) _) hg9 (by rw [asz]; omega) (by omega)⟩
    rw [HRQ.out, last_ne rfl H0.out]
    exact res_zero _ _ _
end Go.Proofs.Ytpgbpfdedpppeaa
