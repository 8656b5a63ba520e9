/-
  The reference's one, by a contract for each kind.
-/
import Derived.Test.YtpgbpfdedpppeaaRMov
import Derived.Test.YtpgbpfdedpppeaaRPls
namespace Go.Proofs.Ytpgbpfdedpppeaa
open Go.RowKit

def subH (i : Int) (f : Fd) : Bool := (f.pa == i)
def dropR' (l : List Fd) (x : Int) (g : Fd) (_ : ByteArray) (_ : Int) : Sc × Int := if l.any (subH g.id) = true then (Sc.zero, 63) else (⟨dropF2 l g.id g.id, x⟩, 0)
def renR' (l : List Fd) (x : Int) (g : Fd) (nm : ByteArray) (_ : Int) : Sc × Int := if takB l { g with nm := nm } g.id g.id = true then (Sc.zero, 60) else (⟨putF l { g with nm := nm }, x⟩, 0)
def widR' (l : List Fd) (x : Int) (g : Fd) (_ : ByteArray) (_ : Int) : Sc × Int := if g.ty = 2 then (⟨putF l { g with ty := 3 }, x⟩, 0) else (Sc.zero, 62)
def moveR' (l : List Fd) (x : Int) (g : Fd) (_ : ByteArray) (p : Int) : Sc × Int := movR l x g p
def dropR (s : Sc) (c : Ch) : Sc × Int := if hasF s.fs c.id = true then dropR' s.fs s.next (fieldD s.fs c.id) c.nm c.pa else (Sc.zero, 61)
def renR (s : Sc) (c : Ch) : Sc × Int := if hasF s.fs c.id = true then renR' s.fs s.next (fieldD s.fs c.id) c.nm c.pa else (Sc.zero, 61)
def widR (s : Sc) (c : Ch) : Sc × Int := if hasF s.fs c.id = true then widR' s.fs s.next (fieldD s.fs c.id) c.nm c.pa else (Sc.zero, 61)
def moveR (s : Sc) (c : Ch) : Sc × Int := if hasF s.fs c.id = true then moveR' s.fs s.next (fieldD s.fs c.id) c.nm c.pa else (Sc.zero, 61)

set_option maxHeartbeats 4000000 in
set_option maxRecDepth 20000 in
theorem Rone_widen (A : Option Addr) (n c : Nat) (x : Int) (l : List Fd) (id wi : Int) (nm ot : ByteArray) (ty pa : Int) (sep : ByteArray) (w : World) (hn : n = l.length) (hs : Fds w w.heap.size A l) (hl0 : n ≤ 1000) (hx0 : 0 ≤ x) (hx1 : x ≤ 2305843009213693952) (_hnm : nm.size ≤ 9223372036854775807) (_hot : ot.size ≤ 9223372036854775807) (_hsep : sep.size ≤ 9223372036854775807) :
    Calls Try.prog 37 #[.agg #[.slice A n c, .int .i64 x], .agg #[.int .i64 4, .int .i64 id, .int .i64 wi, .string nm, .string ot, .int .i64 ty, .int .i64 pa, .string sep]] w fun e w' => ResS w w' (widR ⟨l, x⟩ ⟨4, id, wi, nm, ot, ty, pa, sep⟩) e ∧ Below w.heap.size w w' := by
  have HN := Lib.hid hn
  have HS := Lib.hid hs
  clear hn hs
  have hl : n ≤ 100000 := by omega
  have hl2 : n ≤ 9223372036854775807 := by omega
  have hl3 : n ≤ 1000000 := by omega
  have hx2 : x ≤ 4611686018427387904 := by omega
  obtain ⟨g, hg⟩ : ∃ g, fieldD l id = g := ⟨_, rfl⟩
  obtain ⟨ok, hok⟩ : ∃ ok, hasF l id = ok := ⟨_, rfl⟩
  have HE : Hid (widR ⟨l, x⟩ ⟨4, id, wi, nm, ot, ty, pa, sep⟩ = if ok = true then widR' l x g nm pa else (Sc.zero, 61)) := by
    show _ = _
    unfold widR
    simp only [hg, hok]
  have HG := Lib.hid hg
  have HO := Lib.hid hok
  clear hg hok
  have S0 := Lib.hid (((CB.new w 30 [.slice A n c, .int .i64 x]).alloc (.cells #[.int .i64 4, .int .i64 id, .int .i64 wi, .string nm, .string ot, .int .i64 ty, .int .i64 pa, .string sep] 24)).alloc (.cells #[.slice none 0 0, .int .i64 0] 30))
  have C0 := Lib.hid ((CB.new1 w (.cells #[.slice A n c, .int .i64 x] 30) 24 [.int .i64 4, .int .i64 id, .int .i64 wi, .string nm, .string ot, .int .i64 ty, .int .i64 pa, .string sep]).alloc (.cells #[.slice none 0 0, .int .i64 0] 30))
  have R0 := Lib.hid (CB.new2 w (.cells #[.slice A n c, .int .i64 x] 30) (.cells #[.int .i64 4, .int .i64 id, .int .i64 wi, .string nm, .string ot, .int .i64 ty, .int .i64 pa, .string sep] 24) 30 [.slice none 0 0, .int .i64 0])
  have B0 := Lib.hid (al3 w (.cells #[.slice A n c, .int .i64 x] 30) (.cells #[.int .i64 4, .int .i64 id, .int .i64 wi, .string nm, .string ot, .int .i64 ty, .int .i64 pa, .string sep] 24) (.cells #[.slice none 0 0, .int .i64 0] 30))
  have zR0 := R0.out.lt
  go_enter Try.func37, Try.ntmps37
  cases ok with
  | false =>
    have HRX := Lib.hid (HE.out.trans (if_neg (by decide)))
    clear HE
    go_wp2_with (first | (go_at_call 20; refine (RField_any A n c x l id _ HN.out (HS.out.up B0.out) hl2).mono ?_; rintro e w5 ⟨rfl, hb5⟩; rw [HG.out, HO.out]; have S5 := Lib.hid (S0.out.up hb5); have C5 := Lib.hid (C0.out.up hb5); have R5 := Lib.hid (R0.out.up hb5); have B5 := Lib.hid (below_step B0.out B0.out.size hb5); have s50 := S5.out.cell 0 rfl; have s51 := S5.out.cell 1 rfl; have c50 := C5.out.cell 0 rfl; have c51 := C5.out.cell 1 rfl; have c52 := C5.out.cell 2 rfl; have c53 := C5.out.cell 3 rfl; have c54 := C5.out.cell 4 rfl; have c55 := C5.out.cell 5 rfl; have c56 := C5.out.cell 6 rfl; have c57 := C5.out.cell 7 rfl; have zS5 := S5.out.lt; have zC5 := C5.out.lt; have zR5 := R5.out.lt; clear hb5) | ((with_reducible show wpList _ _ _ _ _ _); refine wpList_store_cb rfl 30 (.tmp 4) (.tmp 18) rfl (w.heap.size + 1 + 1) [.slice none 0 0, .int .i64 0] rfl rfl 30 [.slice none 0 0, .int .i64 0] 2 (R5.out.alloc _) sizeS rfl rfl (one_s _ _ _ _) ?_; intro wz hcz hgz hzz))
    refine bodyPost_ret (res_cell Try.results37 rfl rfl hcz Try.underlying30 sizeS rfl) rfl ⟨?_, below_grown (B5.out.alloc B5.out.size _) hgz (by rw [asz]; omega) (by omega)⟩
    rw [HRX.out]
    exact res_zero _ _ _
  | true =>
    have HE1 := Lib.hid (HE.out.trans (if_pos rfl))
    clear HE
    by_cases h2 : g.ty = 2
    · have e2 : (g.ty != 2) = false := by simpa using h2
      have HRX := Lib.hid (HE1.out.trans (if_pos h2))
      clear HE1 h2
      go_wp2_with (first | (go_at_call 20; refine (RField_any A n c x l id _ HN.out (HS.out.up B0.out) hl2).mono ?_; rintro e w5 ⟨rfl, hb5⟩; rw [HG.out, HO.out]; have S5 := Lib.hid (S0.out.up hb5); have C5 := Lib.hid (C0.out.up hb5); have R5 := Lib.hid (R0.out.up hb5); have B5 := Lib.hid (below_step B0.out B0.out.size hb5); have s50 := S5.out.cell 0 rfl; have s51 := S5.out.cell 1 rfl; have c50 := C5.out.cell 0 rfl; have c51 := C5.out.cell 1 rfl; have c52 := C5.out.cell 2 rfl; have c53 := C5.out.cell 3 rfl; have c54 := C5.out.cell 4 rfl; have c55 := C5.out.cell 5 rfl; have c56 := C5.out.cell 6 rfl; have c57 := C5.out.cell 7 rfl; have zS5 := S5.out.lt; have zC5 := C5.out.lt; have zR5 := R5.out.lt; clear hb5) | (go_at_call 65; refine (Rwith_any A n c x l ⟨g.id, g.nm, 3, g.pa⟩ _ HN.out (HS.out.up (B5.out.alloc B5.out.size _)) hl3).mono ?_; rw [put_len', ← HN.out]; rintro e w9 ⟨⟨A9, c9, rfl, ho9⟩, hb9⟩; have hb9' := (al1 w5 (.cells #[.int .i64 g.id, .string g.nm, .int .i64 3, .int .i64 g.pa] 41)).trans (hb9.mono (al1 w5 (.cells #[.int .i64 g.id, .string g.nm, .int .i64 3, .int .i64 g.pa] 41)).size); have R9 := Lib.hid (R5.out.up hb9'); have B9 := Lib.hid (below_step B5.out B5.out.size hb9'); have zR9 := R9.out.lt; have O9 := Lib.hid (ho9.low (b := w.heap.size) (by rw [asz]; omega)); clear ho9 hb9 hb9') | ((with_reducible show wpList _ _ _ _ _ _); refine wpList_store_cb rfl 30 (.tmp 4) (.tmp 73) rfl (w.heap.size + 1 + 1) [.slice A9 n c9, .int .i64 x] rfl rfl 30 [.slice none 0 0, .int .i64 0] 2 (R9.out) sizeS rfl rfl (one_s _ _ _ _) ?_; intro wz hcz hgz hzz))
      refine bodyPost_ret (res_cell Try.results37 rfl rfl hcz Try.underlying30 sizeS rfl) rfl ⟨?_, below_grown B9.out hgz (by omega) (by omega)⟩
      rw [HRX.out]
      exact ⟨A9, n, c9, rfl, by rw [HN.out]; exact (put_len' _ _).symm, O9.out.kept hgz (.inr (Own.ne O9.out R9.out (by decide)).symm)⟩
    · have e2 : (g.ty != 2) = true := by simpa using h2
      have HRX := Lib.hid (HE1.out.trans (if_neg h2))
      clear HE1 h2
      go_wp2_with (first | (go_at_call 20; refine (RField_any A n c x l id _ HN.out (HS.out.up B0.out) hl2).mono ?_; rintro e w5 ⟨rfl, hb5⟩; rw [HG.out, HO.out]; have S5 := Lib.hid (S0.out.up hb5); have C5 := Lib.hid (C0.out.up hb5); have R5 := Lib.hid (R0.out.up hb5); have B5 := Lib.hid (below_step B0.out B0.out.size hb5); have s50 := S5.out.cell 0 rfl; have s51 := S5.out.cell 1 rfl; have c50 := C5.out.cell 0 rfl; have c51 := C5.out.cell 1 rfl; have c52 := C5.out.cell 2 rfl; have c53 := C5.out.cell 3 rfl; have c54 := C5.out.cell 4 rfl; have c55 := C5.out.cell 5 rfl; have c56 := C5.out.cell 6 rfl; have c57 := C5.out.cell 7 rfl; have zS5 := S5.out.lt; have zC5 := C5.out.lt; have zR5 := R5.out.lt; clear hb5) | ((with_reducible show wpList _ _ _ _ _ _); refine wpList_store_cb rfl 30 (.tmp 4) (.tmp 69) rfl (w.heap.size + 1 + 1) [.slice none 0 0, .int .i64 0] rfl rfl 30 [.slice none 0 0, .int .i64 0] 2 (R5.out.alloc _) sizeS rfl rfl (one_s _ _ _ _) ?_; intro wz hcz hgz hzz))
      refine bodyPost_ret (res_cell Try.results37 rfl rfl hcz Try.underlying30 sizeS rfl) rfl ⟨?_, below_grown (B5.out.alloc B5.out.size _) hgz (by rw [asz]; omega) (by omega)⟩
      rw [HRX.out]
      exact res_zero _ _ _

set_option maxHeartbeats 4000000 in
set_option maxRecDepth 20000 in
theorem Rone_rename (A : Option Addr) (n c : Nat) (x : Int) (l : List Fd) (id wi : Int) (nm ot : ByteArray) (ty pa : Int) (sep : ByteArray) (w : World) (hn : n = l.length) (hs : Fds w w.heap.size A l) (hl0 : n ≤ 1000) (hx0 : 0 ≤ x) (hx1 : x ≤ 2305843009213693952) (hnm : nm.size ≤ 9223372036854775807) (_hot : ot.size ≤ 9223372036854775807) (_hsep : sep.size ≤ 9223372036854775807) :
    Calls Try.prog 37 #[.agg #[.slice A n c, .int .i64 x], .agg #[.int .i64 3, .int .i64 id, .int .i64 wi, .string nm, .string ot, .int .i64 ty, .int .i64 pa, .string sep]] w fun e w' => ResS w w' (renR ⟨l, x⟩ ⟨3, id, wi, nm, ot, ty, pa, sep⟩) e ∧ Below w.heap.size w w' := by
  have HN := Lib.hid hn
  have HS := Lib.hid hs
  clear hn hs
  have hl : n ≤ 100000 := by omega
  have hl2 : n ≤ 9223372036854775807 := by omega
  have hl3 : n ≤ 1000000 := by omega
  have hx2 : x ≤ 4611686018427387904 := by omega
  obtain ⟨g, hg⟩ : ∃ g, fieldD l id = g := ⟨_, rfl⟩
  obtain ⟨ok, hok⟩ : ∃ ok, hasF l id = ok := ⟨_, rfl⟩
  have HE : Hid (renR ⟨l, x⟩ ⟨3, id, wi, nm, ot, ty, pa, sep⟩ = if ok = true then renR' l x g nm pa else (Sc.zero, 61)) := by
    show _ = _
    unfold renR
    simp only [hg, hok]
  have HG := Lib.hid hg
  have HO := Lib.hid hok
  clear hg hok
  have S0 := Lib.hid (((CB.new w 30 [.slice A n c, .int .i64 x]).alloc (.cells #[.int .i64 3, .int .i64 id, .int .i64 wi, .string nm, .string ot, .int .i64 ty, .int .i64 pa, .string sep] 24)).alloc (.cells #[.slice none 0 0, .int .i64 0] 30))
  have C0 := Lib.hid ((CB.new1 w (.cells #[.slice A n c, .int .i64 x] 30) 24 [.int .i64 3, .int .i64 id, .int .i64 wi, .string nm, .string ot, .int .i64 ty, .int .i64 pa, .string sep]).alloc (.cells #[.slice none 0 0, .int .i64 0] 30))
  have R0 := Lib.hid (CB.new2 w (.cells #[.slice A n c, .int .i64 x] 30) (.cells #[.int .i64 3, .int .i64 id, .int .i64 wi, .string nm, .string ot, .int .i64 ty, .int .i64 pa, .string sep] 24) 30 [.slice none 0 0, .int .i64 0])
  have B0 := Lib.hid (al3 w (.cells #[.slice A n c, .int .i64 x] 30) (.cells #[.int .i64 3, .int .i64 id, .int .i64 wi, .string nm, .string ot, .int .i64 ty, .int .i64 pa, .string sep] 24) (.cells #[.slice none 0 0, .int .i64 0] 30))
  have zR0 := R0.out.lt
  go_enter Try.func37, Try.ntmps37
  cases ok with
  | false =>
    have HRX := Lib.hid (HE.out.trans (if_neg (by decide)))
    clear HE
    go_wp2_with (first | (go_at_call 20; refine (RField_any A n c x l id _ HN.out (HS.out.up B0.out) hl2).mono ?_; rintro e w5 ⟨rfl, hb5⟩; rw [HG.out, HO.out]; have S5 := Lib.hid (S0.out.up hb5); have C5 := Lib.hid (C0.out.up hb5); have R5 := Lib.hid (R0.out.up hb5); have B5 := Lib.hid (below_step B0.out B0.out.size hb5); have s50 := S5.out.cell 0 rfl; have s51 := S5.out.cell 1 rfl; have c50 := C5.out.cell 0 rfl; have c51 := C5.out.cell 1 rfl; have c52 := C5.out.cell 2 rfl; have c53 := C5.out.cell 3 rfl; have c54 := C5.out.cell 4 rfl; have c55 := C5.out.cell 5 rfl; have c56 := C5.out.cell 6 rfl; have c57 := C5.out.cell 7 rfl; have zS5 := S5.out.lt; have zC5 := C5.out.lt; have zR5 := R5.out.lt; clear hb5) | ((with_reducible show wpList _ _ _ _ _ _); refine wpList_store_cb rfl 30 (.tmp 4) (.tmp 18) rfl (w.heap.size + 1 + 1) [.slice none 0 0, .int .i64 0] rfl rfl 30 [.slice none 0 0, .int .i64 0] 2 (R5.out.alloc _) sizeS rfl rfl (one_s _ _ _ _) ?_; intro wz hcz hgz hzz))
    refine bodyPost_ret (res_cell Try.results37 rfl rfl hcz Try.underlying30 sizeS rfl) rfl ⟨?_, below_grown (B5.out.alloc B5.out.size _) hgz (by rw [asz]; omega) (by omega)⟩
    rw [HRX.out]
    exact res_zero _ _ _
  | true =>
    have HE1 := Lib.hid (HE.out.trans (if_pos rfl))
    clear HE
    obtain ⟨bT, hT⟩ : ∃ b, takB l ⟨g.id, nm, g.ty, g.pa⟩ g.id g.id = b := ⟨_, rfl⟩
    have HT := Lib.hid hT
    have HE2 := HE1.out
    unfold renR' at HE2
    rw [hT] at HE2
    clear HE1 hT
    cases bT with
    | true =>
      have HRX := Lib.hid (HE2.trans (if_pos rfl))
      clear HE2
      go_wp2_with (first | (go_at_call 20; refine (RField_any A n c x l id _ HN.out (HS.out.up B0.out) hl2).mono ?_; rintro e w5 ⟨rfl, hb5⟩; rw [HG.out, HO.out]; have S5 := Lib.hid (S0.out.up hb5); have C5 := Lib.hid (C0.out.up hb5); have R5 := Lib.hid (R0.out.up hb5); have B5 := Lib.hid (below_step B0.out B0.out.size hb5); have s50 := S5.out.cell 0 rfl; have s51 := S5.out.cell 1 rfl; have c50 := C5.out.cell 0 rfl; have c51 := C5.out.cell 1 rfl; have c52 := C5.out.cell 2 rfl; have c53 := C5.out.cell 3 rfl; have c54 := C5.out.cell 4 rfl; have c55 := C5.out.cell 5 rfl; have c56 := C5.out.cell 6 rfl; have c57 := C5.out.cell 7 rfl; have zS5 := S5.out.lt; have zC5 := C5.out.lt; have zR5 := R5.out.lt; clear hb5) | (go_at_call 62; refine (Rtaken_any A n c x l ⟨g.id, nm, g.ty, g.pa⟩ g.id g.id _ HN.out (HS.out.up (B5.out.alloc B5.out.size _)) hl2 hnm).mono ?_; rintro e w8 ⟨rfl, hb8⟩; rw [HT.out]; have hb8' := (al1 w5 (.cells #[.int .i64 g.id, .string nm, .int .i64 g.ty, .int .i64 g.pa] 41)).trans (hb8.mono (al1 w5 (.cells #[.int .i64 g.id, .string nm, .int .i64 g.ty, .int .i64 g.pa] 41)).size); have F8 := Lib.hid ((CB.new w5 41 [.int .i64 g.id, .string nm, .int .i64 g.ty, .int .i64 g.pa]).up hb8); have S8 := Lib.hid (S5.out.up hb8'); have C8 := Lib.hid (C5.out.up hb8'); have R8 := Lib.hid (R5.out.up hb8'); have B8 := Lib.hid (below_step B5.out B5.out.size hb8'); have s80 := S8.out.cell 0 rfl; have s81 := S8.out.cell 1 rfl; have c80 := C8.out.cell 0 rfl; have c81 := C8.out.cell 1 rfl; have c82 := C8.out.cell 2 rfl; have c83 := C8.out.cell 3 rfl; have c84 := C8.out.cell 4 rfl; have c85 := C8.out.cell 5 rfl; have c86 := C8.out.cell 6 rfl; have c87 := C8.out.cell 7 rfl; have zS8 := S8.out.lt; have zC8 := C8.out.lt; have zR8 := R8.out.lt; have f80 := F8.out.cell 0 rfl; have f81 := F8.out.cell 1 rfl; have f82 := F8.out.cell 2 rfl; have f83 := F8.out.cell 3 rfl; have zF8 := F8.out.lt; clear hb8 hb8') | ((with_reducible show wpList _ _ _ _ _ _); refine wpList_store_cb rfl 30 (.tmp 4) (.tmp 60) rfl (w.heap.size + 1 + 1) [.slice none 0 0, .int .i64 0] rfl rfl 30 [.slice none 0 0, .int .i64 0] 2 (R8.out) sizeS rfl rfl (one_s _ _ _ _) ?_; intro wz hcz hgz hzz))
      refine bodyPost_ret (res_cell Try.results37 rfl rfl hcz Try.underlying30 sizeS rfl) rfl ⟨?_, below_grown B8.out hgz (by omega) (by omega)⟩
      rw [HRX.out]
      exact res_zero _ _ _
    | false =>
      have HRX := Lib.hid (HE2.trans (if_neg (by decide)))
      clear HE2
      go_wp2_with (first | (go_at_call 20; refine (RField_any A n c x l id _ HN.out (HS.out.up B0.out) hl2).mono ?_; rintro e w5 ⟨rfl, hb5⟩; rw [HG.out, HO.out]; have S5 := Lib.hid (S0.out.up hb5); have C5 := Lib.hid (C0.out.up hb5); have R5 := Lib.hid (R0.out.up hb5); have B5 := Lib.hid (below_step B0.out B0.out.size hb5); have s50 := S5.out.cell 0 rfl; have s51 := S5.out.cell 1 rfl; have c50 := C5.out.cell 0 rfl; have c51 := C5.out.cell 1 rfl; have c52 := C5.out.cell 2 rfl; have c53 := C5.out.cell 3 rfl; have c54 := C5.out.cell 4 rfl; have c55 := C5.out.cell 5 rfl; have c56 := C5.out.cell 6 rfl; have c57 := C5.out.cell 7 rfl; have zS5 := S5.out.lt; have zC5 := C5.out.lt; have zR5 := R5.out.lt; clear hb5) | (go_at_call 62; refine (Rtaken_any A n c x l ⟨g.id, nm, g.ty, g.pa⟩ g.id g.id _ HN.out (HS.out.up (B5.out.alloc B5.out.size _)) hl2 hnm).mono ?_; rintro e w8 ⟨rfl, hb8⟩; rw [HT.out]; have hb8' := (al1 w5 (.cells #[.int .i64 g.id, .string nm, .int .i64 g.ty, .int .i64 g.pa] 41)).trans (hb8.mono (al1 w5 (.cells #[.int .i64 g.id, .string nm, .int .i64 g.ty, .int .i64 g.pa] 41)).size); have F8 := Lib.hid ((CB.new w5 41 [.int .i64 g.id, .string nm, .int .i64 g.ty, .int .i64 g.pa]).up hb8); have S8 := Lib.hid (S5.out.up hb8'); have C8 := Lib.hid (C5.out.up hb8'); have R8 := Lib.hid (R5.out.up hb8'); have B8 := Lib.hid (below_step B5.out B5.out.size hb8'); have s80 := S8.out.cell 0 rfl; have s81 := S8.out.cell 1 rfl; have c80 := C8.out.cell 0 rfl; have c81 := C8.out.cell 1 rfl; have c82 := C8.out.cell 2 rfl; have c83 := C8.out.cell 3 rfl; have c84 := C8.out.cell 4 rfl; have c85 := C8.out.cell 5 rfl; have c86 := C8.out.cell 6 rfl; have c87 := C8.out.cell 7 rfl; have zS8 := S8.out.lt; have zC8 := C8.out.lt; have zR8 := R8.out.lt; have f80 := F8.out.cell 0 rfl; have f81 := F8.out.cell 1 rfl; have f82 := F8.out.cell 2 rfl; have f83 := F8.out.cell 3 rfl; have zF8 := F8.out.lt; clear hb8 hb8') | (go_at_call 65; refine (Rwith_any A n c x l ⟨g.id, nm, g.ty, g.pa⟩ _ HN.out (HS.out.up B8.out) hl3).mono ?_; rw [put_len', ← HN.out]; rintro e w9 ⟨⟨A9, c9, rfl, ho9⟩, hb9⟩; have R9 := Lib.hid (R8.out.up hb9); have B9 := Lib.hid (below_step B8.out B8.out.size hb9); have zR9 := R9.out.lt; have O9 := Lib.hid (ho9.low B8.out.size); clear ho9 hb9) | ((with_reducible show wpList _ _ _ _ _ _); refine wpList_store_cb rfl 30 (.tmp 4) (.tmp 63) rfl (w.heap.size + 1 + 1) [.slice A9 n c9, .int .i64 x] rfl rfl 30 [.slice none 0 0, .int .i64 0] 2 (R9.out) sizeS rfl rfl (one_s _ _ _ _) ?_; intro wz hcz hgz hzz))
      refine bodyPost_ret (res_cell Try.results37 rfl rfl hcz Try.underlying30 sizeS rfl) rfl ⟨?_, below_grown B9.out hgz (by omega) (by omega)⟩
      rw [HRX.out]
      exact ⟨A9, n, c9, rfl, by rw [HN.out]; exact (put_len' _ _).symm, O9.out.kept hgz (.inr (Own.ne O9.out R9.out (by decide)).symm)⟩

set_option maxHeartbeats 4000000 in
set_option maxRecDepth 20000 in
theorem Rone_move (A : Option Addr) (n c : Nat) (x : Int) (l : List Fd) (id wi : Int) (nm ot : ByteArray) (ty pa : Int) (sep : ByteArray) (w : World) (hn : n = l.length) (hs : Fds w w.heap.size A l) (hl0 : n ≤ 1000) (hx0 : 0 ≤ x) (hx1 : x ≤ 2305843009213693952) (_hnm : nm.size ≤ 9223372036854775807) (_hot : ot.size ≤ 9223372036854775807) (_hsep : sep.size ≤ 9223372036854775807) (hgm : (fieldD l id).nm.size ≤ 9223372036854775807) :
    Calls Try.prog 37 #[.agg #[.slice A n c, .int .i64 x], .agg #[.int .i64 5, .int .i64 id, .int .i64 wi, .string nm, .string ot, .int .i64 ty, .int .i64 pa, .string sep]] w fun e w' => ResS w w' (moveR ⟨l, x⟩ ⟨5, id, wi, nm, ot, ty, pa, sep⟩) e ∧ Below w.heap.size w w' := by
  have HN := Lib.hid hn
  have HS := Lib.hid hs
  clear hn hs
  have hl : n ≤ 100000 := by omega
  have hl2 : n ≤ 9223372036854775807 := by omega
  have hl3 : n ≤ 1000000 := by omega
  have hx2 : x ≤ 4611686018427387904 := by omega
  obtain ⟨g, hg⟩ : ∃ g, fieldD l id = g := ⟨_, rfl⟩
  obtain ⟨ok, hok⟩ : ∃ ok, hasF l id = ok := ⟨_, rfl⟩
  have HE : Hid (moveR ⟨l, x⟩ ⟨5, id, wi, nm, ot, ty, pa, sep⟩ = if ok = true then moveR' l x g nm pa else (Sc.zero, 61)) := by
    show _ = _
    unfold moveR
    simp only [hg, hok]
  have HG := Lib.hid hg
  have HO := Lib.hid hok
  clear hg hok
  have S0 := Lib.hid (((CB.new w 30 [.slice A n c, .int .i64 x]).alloc (.cells #[.int .i64 5, .int .i64 id, .int .i64 wi, .string nm, .string ot, .int .i64 ty, .int .i64 pa, .string sep] 24)).alloc (.cells #[.slice none 0 0, .int .i64 0] 30))
  have C0 := Lib.hid ((CB.new1 w (.cells #[.slice A n c, .int .i64 x] 30) 24 [.int .i64 5, .int .i64 id, .int .i64 wi, .string nm, .string ot, .int .i64 ty, .int .i64 pa, .string sep]).alloc (.cells #[.slice none 0 0, .int .i64 0] 30))
  have R0 := Lib.hid (CB.new2 w (.cells #[.slice A n c, .int .i64 x] 30) (.cells #[.int .i64 5, .int .i64 id, .int .i64 wi, .string nm, .string ot, .int .i64 ty, .int .i64 pa, .string sep] 24) 30 [.slice none 0 0, .int .i64 0])
  have B0 := Lib.hid (al3 w (.cells #[.slice A n c, .int .i64 x] 30) (.cells #[.int .i64 5, .int .i64 id, .int .i64 wi, .string nm, .string ot, .int .i64 ty, .int .i64 pa, .string sep] 24) (.cells #[.slice none 0 0, .int .i64 0] 30))
  have zR0 := R0.out.lt
  go_enter Try.func37, Try.ntmps37
  cases ok with
  | false =>
    have HRX := Lib.hid (HE.out.trans (if_neg (by decide)))
    clear HE
    go_wp2_with (first | (go_at_call 20; refine (RField_any A n c x l id _ HN.out (HS.out.up B0.out) hl2).mono ?_; rintro e w5 ⟨rfl, hb5⟩; rw [HG.out, HO.out]; have S5 := Lib.hid (S0.out.up hb5); have C5 := Lib.hid (C0.out.up hb5); have R5 := Lib.hid (R0.out.up hb5); have B5 := Lib.hid (below_step B0.out B0.out.size hb5); have s50 := S5.out.cell 0 rfl; have s51 := S5.out.cell 1 rfl; have c50 := C5.out.cell 0 rfl; have c51 := C5.out.cell 1 rfl; have c52 := C5.out.cell 2 rfl; have c53 := C5.out.cell 3 rfl; have c54 := C5.out.cell 4 rfl; have c55 := C5.out.cell 5 rfl; have c56 := C5.out.cell 6 rfl; have c57 := C5.out.cell 7 rfl; have zS5 := S5.out.lt; have zC5 := C5.out.lt; have zR5 := R5.out.lt; clear hb5) | ((with_reducible show wpList _ _ _ _ _ _); refine wpList_store_cb rfl 30 (.tmp 4) (.tmp 18) rfl (w.heap.size + 1 + 1) [.slice none 0 0, .int .i64 0] rfl rfl 30 [.slice none 0 0, .int .i64 0] 2 (R5.out.alloc _) sizeS rfl rfl (one_s _ _ _ _) ?_; intro wz hcz hgz hzz))
    refine bodyPost_ret (res_cell Try.results37 rfl rfl hcz Try.underlying30 sizeS rfl) rfl ⟨?_, below_grown (B5.out.alloc B5.out.size _) hgz (by rw [asz]; omega) (by omega)⟩
    rw [HRX.out]
    exact res_zero _ _ _
  | true =>
    have HE1 := Lib.hid (HE.out.trans (if_pos rfl))
    clear HE
    obtain ⟨⟨⟨fs, nx⟩, er⟩, hM⟩ : ∃ r, movR l x ⟨g.id, g.nm, g.ty, g.pa⟩ pa = r := ⟨_, rfl⟩
    have HM := Lib.hid hM
    have HRX := Lib.hid (HE1.out.trans (show moveR' l x g nm pa = (⟨fs, nx⟩, er) from hM))
    have hgn : g.nm.size ≤ 9223372036854775807 := by rw [← HG.out]; exact hgm
    clear HE1 hM
    go_wp2_with (first | (go_at_call 20; refine (RField_any A n c x l id _ HN.out (HS.out.up B0.out) hl2).mono ?_; rintro e w5 ⟨rfl, hb5⟩; rw [HG.out, HO.out]; have S5 := Lib.hid (S0.out.up hb5); have C5 := Lib.hid (C0.out.up hb5); have R5 := Lib.hid (R0.out.up hb5); have B5 := Lib.hid (below_step B0.out B0.out.size hb5); have s50 := S5.out.cell 0 rfl; have s51 := S5.out.cell 1 rfl; have c50 := C5.out.cell 0 rfl; have c51 := C5.out.cell 1 rfl; have c52 := C5.out.cell 2 rfl; have c53 := C5.out.cell 3 rfl; have c54 := C5.out.cell 4 rfl; have c55 := C5.out.cell 5 rfl; have c56 := C5.out.cell 6 rfl; have c57 := C5.out.cell 7 rfl; have zS5 := S5.out.lt; have zC5 := C5.out.lt; have zR5 := R5.out.lt; clear hb5) | (go_at_call 66; refine (Rmove_any A n c x l g.id g.nm g.ty g.pa pa _ HN.out (HS.out.up (B5.out.alloc B5.out.size _)) hl0 hgn).mono ?_; rintro e w9 ⟨⟨A9, m9, c9, rfl, hm9, ho9⟩, hb9⟩; rw [HM.out] at hm9 ho9; rw [HM.out]; have hb9' := (al1 w5 (.cells #[.int .i64 g.id, .string g.nm, .int .i64 g.ty, .int .i64 g.pa] 41)).trans (hb9.mono (al1 w5 (.cells #[.int .i64 g.id, .string g.nm, .int .i64 g.ty, .int .i64 g.pa] 41)).size); have R9 := Lib.hid (R5.out.up hb9'); have B9 := Lib.hid (below_step B5.out B5.out.size hb9'); have zR9 := R9.out.lt; have O9 := Lib.hid (ho9.low (b := w.heap.size) (by rw [asz]; omega)); have M9 := Lib.hid hm9; clear ho9 hb9 hb9' hm9) | ((with_reducible show wpList _ _ _ _ _ _); refine wpList_store_cb rfl 30 (.tmp 4) (.tmp 79) rfl (w.heap.size + 1 + 1) [.slice A9 m9 c9, .int .i64 nx] rfl rfl 30 [.slice none 0 0, .int .i64 0] 2 (R9.out) sizeS rfl rfl (one_s _ _ _ _) ?_; intro wz hcz hgz hzz))
    refine bodyPost_ret (res_cell Try.results37 rfl rfl hcz Try.underlying30 sizeS rfl) rfl ⟨?_, below_grown B9.out hgz (by omega) (by omega)⟩
    rw [HRX.out]
    exact ⟨A9, m9, c9, rfl, M9.out, O9.out.kept hgz (.inr (Own.ne O9.out R9.out (by decide)).symm)⟩

set_option maxHeartbeats 4000000 in
set_option maxRecDepth 20000 in
theorem Rone_drop (A : Option Addr) (n c : Nat) (x : Int) (l : List Fd) (id wi : Int) (nm ot : ByteArray) (ty pa : Int) (sep : ByteArray) (w : World) (hn : n = l.length) (hs : Fds w w.heap.size A l) (hl0 : n ≤ 1000) (hx0 : 0 ≤ x) (hx1 : x ≤ 2305843009213693952) (_hnm : nm.size ≤ 9223372036854775807) (_hot : ot.size ≤ 9223372036854775807) (_hsep : sep.size ≤ 9223372036854775807) :
    Calls Try.prog 37 #[.agg #[.slice A n c, .int .i64 x], .agg #[.int .i64 2, .int .i64 id, .int .i64 wi, .string nm, .string ot, .int .i64 ty, .int .i64 pa, .string sep]] w fun e w' => ResS w w' (dropR ⟨l, x⟩ ⟨2, id, wi, nm, ot, ty, pa, sep⟩) e ∧ Below w.heap.size w w' := by
  have HN := Lib.hid hn
  have HS := Lib.hid hs
  clear hn hs
  have hl : n ≤ 100000 := by omega
  have hl2 : n ≤ 9223372036854775807 := by omega
  have hl3 : n ≤ 1000000 := by omega
  have hx2 : x ≤ 4611686018427387904 := by omega
  obtain ⟨g, hg⟩ : ∃ g, fieldD l id = g := ⟨_, rfl⟩
  obtain ⟨ok, hok⟩ : ∃ ok, hasF l id = ok := ⟨_, rfl⟩
  have HE : Hid (dropR ⟨l, x⟩ ⟨2, id, wi, nm, ot, ty, pa, sep⟩ = if ok = true then dropR' l x g nm pa else (Sc.zero, 61)) := by
    show _ = _
    unfold dropR
    simp only [hg, hok]
  have HG := Lib.hid hg
  have HO := Lib.hid hok
  clear hg hok
  have S0 := Lib.hid (((CB.new w 30 [.slice A n c, .int .i64 x]).alloc (.cells #[.int .i64 2, .int .i64 id, .int .i64 wi, .string nm, .string ot, .int .i64 ty, .int .i64 pa, .string sep] 24)).alloc (.cells #[.slice none 0 0, .int .i64 0] 30))
  have C0 := Lib.hid ((CB.new1 w (.cells #[.slice A n c, .int .i64 x] 30) 24 [.int .i64 2, .int .i64 id, .int .i64 wi, .string nm, .string ot, .int .i64 ty, .int .i64 pa, .string sep]).alloc (.cells #[.slice none 0 0, .int .i64 0] 30))
  have R0 := Lib.hid (CB.new2 w (.cells #[.slice A n c, .int .i64 x] 30) (.cells #[.int .i64 2, .int .i64 id, .int .i64 wi, .string nm, .string ot, .int .i64 ty, .int .i64 pa, .string sep] 24) 30 [.slice none 0 0, .int .i64 0])
  have B0 := Lib.hid (al3 w (.cells #[.slice A n c, .int .i64 x] 30) (.cells #[.int .i64 2, .int .i64 id, .int .i64 wi, .string nm, .string ot, .int .i64 ty, .int .i64 pa, .string sep] 24) (.cells #[.slice none 0 0, .int .i64 0] 30))
  have zR0 := R0.out.lt
  go_enter Try.func37, Try.ntmps37
  cases ok with
  | false =>
    have HRX := Lib.hid (HE.out.trans (if_neg (by decide)))
    clear HE
    go_wp2_with (first | (go_at_call 20; refine (RField_any A n c x l id _ HN.out (HS.out.up B0.out) hl2).mono ?_; rintro e w5 ⟨rfl, hb5⟩; rw [HG.out, HO.out]; have S5 := Lib.hid (S0.out.up hb5); have C5 := Lib.hid (C0.out.up hb5); have R5 := Lib.hid (R0.out.up hb5); have B5 := Lib.hid (below_step B0.out B0.out.size hb5); have s50 := S5.out.cell 0 rfl; have s51 := S5.out.cell 1 rfl; have c50 := C5.out.cell 0 rfl; have c51 := C5.out.cell 1 rfl; have c52 := C5.out.cell 2 rfl; have c53 := C5.out.cell 3 rfl; have c54 := C5.out.cell 4 rfl; have c55 := C5.out.cell 5 rfl; have c56 := C5.out.cell 6 rfl; have c57 := C5.out.cell 7 rfl; have zS5 := S5.out.lt; have zC5 := C5.out.lt; have zR5 := R5.out.lt; clear hb5) | ((with_reducible show wpList _ _ _ _ _ _); refine wpList_store_cb rfl 30 (.tmp 4) (.tmp 18) rfl (w.heap.size + 1 + 1) [.slice none 0 0, .int .i64 0] rfl rfl 30 [.slice none 0 0, .int .i64 0] 2 (R5.out.alloc _) sizeS rfl rfl (one_s _ _ _ _) ?_; intro wz hcz hgz hzz))
    refine bodyPost_ret (res_cell Try.results37 rfl rfl hcz Try.underlying30 sizeS rfl) rfl ⟨?_, below_grown (B5.out.alloc B5.out.size _) hgz (by rw [asz]; omega) (by omega)⟩
    rw [HRX.out]
    exact res_zero _ _ _
  | true =>
    have HE1 := Lib.hid (HE.out.trans (if_pos rfl))
    clear HE
    go_wp2_with (first | (go_at_call 20; refine (RField_any A n c x l id _ HN.out (HS.out.up B0.out) hl2).mono ?_; rintro e w5 ⟨rfl, hb5⟩; rw [HG.out, HO.out]; have S5 := Lib.hid (S0.out.up hb5); have C5 := Lib.hid (C0.out.up hb5); have R5 := Lib.hid (R0.out.up hb5); have B5 := Lib.hid (below_step B0.out B0.out.size hb5); have s50 := S5.out.cell 0 rfl; have s51 := S5.out.cell 1 rfl; have c50 := C5.out.cell 0 rfl; have c51 := C5.out.cell 1 rfl; have c52 := C5.out.cell 2 rfl; have c53 := C5.out.cell 3 rfl; have c54 := C5.out.cell 4 rfl; have c55 := C5.out.cell 5 rfl; have c56 := C5.out.cell 6 rfl; have c57 := C5.out.cell 7 rfl; have zS5 := S5.out.lt; have zC5 := C5.out.lt; have zR5 := R5.out.lt; clear hb5))
    go_loopw [8] (fun j wr => ∃ k : Nat, k ≤ n ∧ j = .int .i64 k ∧ Hid (CB wr w.heap.size 30 [.slice A n c, .int .i64 x]) ∧ Hid (CB wr (w.heap.size + 1 + 1) 30 [.slice none 0 0, .int .i64 0]) ∧ Hid (CB wr w5.heap.size 41 [.int .i64 g.id, .string g.nm, .int .i64 g.ty, .int .i64 g.pa]) ∧ Hid (Below w.heap.size w wr) ∧ Hid ((l.drop k).any (subH g.id) = l.any (subH g.id))) (fun j _ => n - (intOf j).toNat)
    case atStart => exact ⟨0, by omega, rfl, S5.out.alloc _, R5.out.alloc _, CB.new _ _ _, B5.out.alloc B5.out.size _, rfl⟩
    case round =>
      obtain ⟨k, hk, rfl, hs, hr, hf, hbel, hgo⟩ := hrel
      have hzs := hs.out.lt
      have hzr := hr.out.lt
      have hzf := hf.out.lt
      have s0 := hs.out.cell 0 rfl
      have s1 := hs.out.cell 1 rfl
      have f0 := hf.out.cell 0 rfl
      by_cases hlt : k < n
      · have i1 : (k : Int) < (n : Int) := by omega
        have i0 : (0 : Int) ≤ (k : Int) := by omega
        obtain ⟨f, hff⟩ := getD_of (l := l) (k := k) (by rw [← HN.out]; exact hlt)
        obtain ⟨b, off, rfl, hb, c0, c1, c2, c3⟩ := (HS.out.below hbel.out).one hff
        have hd := Lib.hid (drop_cons hff)
        clear hff
        cases hp : (f.pa == g.id) with
        | true =>
          have HP := Lib.hid hp
          have HRX := Lib.hid (HE1.out.trans (if_pos (anyt_stop (p := subH g.id) hd.out hgo.out HP.out)))
          go_wp2
          go_quiet (fail)
          go_wp2_with (((with_reducible show wpList _ _ _ _ _ _); refine wpList_store_cb rfl 30 (.tmp 4) (.tmp 39) rfl (w.heap.size + 1 + 1) [.slice none 0 0, .int .i64 0] rfl rfl 30 [.slice none 0 0, .int .i64 0] 2 (hr.out.drewN _) sizeS rfl rfl (one_s _ _ _ _) ?_; intro wz hcz hgz hzz))
          refine bodyPost_ret (res_cell Try.results37 rfl rfl hcz Try.underlying30 sizeS rfl) rfl ⟨?_, below_grown (below_drewN hbel.out _) hgz (by show w.heap.size ≤ wr.heap.size; omega) (by omega)⟩
          rw [HRX.out]
          exact res_zero _ _ _
        | false =>
          have HP := Lib.hid hp
          go_wp2
          go_quiet (fail)
          go_wp2
          go_roundw
          case rel => exact ⟨k + 1, by omega, by go_num, hs.out.drewN _, hr.out.drewN _, hf.out.drewN _, below_drewN hbel.out _, anyt_step (p := subH g.id) hd.out hgo.out HP.out⟩
          case measure => simp [intOf]; omega
      · have i1 : ¬ (k : Int) < (n : Int) := by omega
        have HAF : l.any (subH g.id) = false := by rw [← hgo.out, List.drop_of_length_le (by rw [← HN.out]; omega)]; rfl
        have HRX := Lib.hid (HE1.out.trans (if_neg (by rw [HAF]; decide)))
        clear HAF
        go_wp2_with (first | (go_at_call 64; refine (Rwithout_any A n c x l g.id g.id _ HN.out (HS.out.up hbel.out) hl3).mono ?_; rintro e w9 ⟨⟨A9, c9, rfl, ho9⟩, hb9⟩; have R9 := Lib.hid (hr.out.up hb9); have B9 := Lib.hid (below_step hbel.out (by omega) hb9); have zR9 := R9.out.lt; have O9 := Lib.hid (ho9.low (b := w.heap.size) (by omega)); clear ho9 hb9) | ((with_reducible show wpList _ _ _ _ _ _); refine wpList_store_cb rfl 30 (.tmp 4) (.tmp 46) rfl (w.heap.size + 1 + 1) [.slice A9 (dropF2 l g.id g.id).length c9, .int .i64 x] rfl rfl 30 [.slice none 0 0, .int .i64 0] 2 (R9.out) sizeS rfl rfl (one_s _ _ _ _) ?_; intro wz hcz hgz hzz))
        refine bodyPost_ret (res_cell Try.results37 rfl rfl hcz Try.underlying30 sizeS rfl) rfl ⟨?_, below_grown B9.out hgz (by omega) (by omega)⟩
        rw [HRX.out]
        exact ⟨A9, _, c9, rfl, rfl, O9.out.kept hgz (.inr (Own.ne O9.out R9.out (by decide)).symm)⟩
end Go.Proofs.Ytpgbpfdedpppeaa
