/-
  The program's kinds of changes: add, drop, rename, widen, move, split, join, by contracts.
-/
import Derived.Test.YtpgbpfdedpppeaaRepP
import Derived.Test.YtpgbpfdedpppeaaNamP
namespace Go.Proofs.Ytpgbpfdedpppeaa
open Go.RowKit

def withS (s : Sc) (nm : ByteArray) (ty pa : Int) : Sc := ⟨s.fs ++ [⟨s.next, nm, ty, pa⟩], s.next + 1⟩
def dropS (s : Sc) (i : Int) : Sc := ⟨dropF s.fs i, s.next⟩
def putS (s : Sc) (g : Fd) : Sc := ⟨putF s.fs g, s.next⟩
/-- a schema and an error, the schema's fields in the call's own row -/
def ResS (w w' : World) (r : Sc × Int) (e : Ending) : Prop := ∃ A' m' c', e = .returned (.tuple #[.agg #[.slice A' m' c', .int .i64 r.1.next], .int .i64 r.2]) ∧ m' = r.1.fs.length ∧ Own 41 4 w' w.heap.size (.slice A' m' c') (r.1.fs.map Fd.cells)
theorem res_zero (w w' : World) (er : Int) : ResS w w' (Sc.zero, er) (.returned (.tuple #[.agg #[.slice none 0 0, .int .i64 0], .int .i64 er])) := ⟨none, 0, 0, rfl, rfl, Own.nil _ _ _ _⟩
def addE (s : Sc) (c : Ch) : Sc × Int := if typB c.ty then (withS s c.nm c.ty c.pa, 0) else (Sc.zero, 7)
def dropE (s : Sc) (c : Ch) : Sc × Int := if hasF s.fs c.id then (dropS s (fieldD s.fs c.id).id, 0) else (Sc.zero, 61)
def renE (s : Sc) (c : Ch) : Sc × Int := if hasF s.fs c.id then (putS s { fieldD s.fs c.id with nm := c.nm }, 0) else (Sc.zero, 61)
def widE (s : Sc) (c : Ch) : Sc × Int := if hasF s.fs c.id then (if (fieldD s.fs c.id).ty = 2 then (putS s { fieldD s.fs c.id with ty := 3 }, 0) else (Sc.zero, 62)) else (Sc.zero, 61)
def movE (s : Sc) (c : Ch) : Sc × Int := if hasF s.fs c.id then (putS s { fieldD s.fs c.id with pa := c.pa }, 0) else (Sc.zero, 61)
def splE (s : Sc) (c : Ch) : Sc × Int := if hasF s.fs c.id then (if (fieldD s.fs c.id).ty = 4 then (if sepB c.sep then (withS (withS (dropS s (fieldD s.fs c.id).id) c.nm 4 (fieldD s.fs c.id).pa) c.ot 4 (fieldD s.fs c.id).pa, 0) else (Sc.zero, 1)) else (Sc.zero, 7)) else (Sc.zero, 61)
def joiE (s : Sc) (c : Ch) : Sc × Int :=
  if hasF s.fs c.id = true ∧ hasF s.fs c.wi = true ∧ (fieldD s.fs c.id).id ≠ (fieldD s.fs c.wi).id then
    (if (fieldD s.fs c.id).ty = 4 ∧ (fieldD s.fs c.wi).ty = 4 then (if (fieldD s.fs c.id).pa = (fieldD s.fs c.wi).pa then (if sepB c.sep then (withS (dropS (dropS s (fieldD s.fs c.id).id) (fieldD s.fs c.wi).id) c.nm 4 (fieldD s.fs c.id).pa, 0) else (Sc.zero, 1)) else (Sc.zero, 63)) else (Sc.zero, 7))
  else (Sc.zero, 61)

set_option maxHeartbeats 2000000 in
set_option maxRecDepth 20000 in
theorem add_any (A : Option Addr) (n c : Nat) (x : Int) (l : List Fd) (kd id wi : Int) (nm ot : ByteArray) (ty pa : Int) (sep : ByteArray) (w : World) (hn : n = l.length) (hs : Fds w w.heap.size A l) (hl0 : n ≤ 1000) (hx0 : 0 ≤ x) (hx1 : x ≤ 2305843009213693952) (_hsep : sep.size ≤ 9223372036854775807) :
    Calls Try.prog 54 #[.agg #[.slice A n c, .int .i64 x, .int .i64 kd, .int .i64 id, .int .i64 wi, .string nm, .string ot, .int .i64 ty, .int .i64 pa, .string sep]] w fun e w' => ResS w w' (addE ⟨l, x⟩ ⟨kd, id, wi, nm, ot, ty, pa, sep⟩) e ∧ Below w.heap.size w w' := by
  have HN := Lib.hid hn
  have HS := Lib.hid hs
  clear hn hs
  have hl : n ≤ 1000000 := by omega
  have hl2 : n ≤ 9223372036854775807 := by omega
  have hwx : IntKind.i64.wrap (x + 1) = x + 1 := IntWalk.i64_in _ ⟨by omega, by omega⟩
  cases ht : typB ty with
  | false =>
    have HT := Lib.hid ht
    clear ht
    go_enter Try.func54, Try.ntmps54
    go_wp2_with (first | (go_at_call 74; refine (schType_any _ false _ HT.out).mono ?_; rintro e w' ⟨rfl, rfl⟩) | ((with_reducible show wpList _ _ _ _ _ _); refine wpList_store_cb rfl 30 (.tmp 2) (.tmp 9) rfl (w.heap.size + 1) [.slice none 0 0, .int .i64 0] rfl rfl 30 [.slice none 0 0, .int .i64 0] 2 (CB.new1 w _ _ _) sizeS rfl rfl (one_s _ _ _ _) ?_; intro w9 hc9 hg9 hz9))
    refine bodyPost_ret (res_cell Try.results54 rfl rfl hc9 Try.underlying30 sizeS rfl) rfl ⟨?_, below_grown (al2 w _ _) hg9 (by rw [asz, asz]; omega) (by omega)⟩
    unfold addE
    rw [if_neg (by simp only [HT.out]; decide)]
    exact res_zero _ _ _
  | true =>
    have HT := Lib.hid ht
    clear ht
    go_enter Try.func54, Try.ntmps54
    go_wp2_with (first | (go_at_call 74; refine (schType_any _ true _ HT.out).mono ?_; rintro e w' ⟨rfl, rfl⟩) | (go_at_call 75; refine (with_any _ n c x l nm ty pa _ HN.out (HS.out.up (al2 w _ _)) hl hx0 (by omega)).mono ?_; rintro e w6 ⟨⟨A6, c6, rfl, ho6⟩, hb6⟩; have HB6 := Lib.hid ((al2 w _ _).trans (hb6.mono (al2 w _ _).size)); have HR6 := Lib.hid ((CB.new1 w (.cells #[.slice A n c, .int .i64 x, .int .i64 kd, .int .i64 id, .int .i64 wi, .string nm, .string ot, .int .i64 ty, .int .i64 pa, .string sep] 70) 30 [.slice none 0 0, .int .i64 0]).up hb6); have HO6 := Lib.hid (ho6.low (al2 w _ _).size); have hz6 : w.heap.size + 1 < w6.heap.size := HR6.out.lt; clear ho6 hb6) | ((with_reducible show wpList _ _ _ _ _ _); refine wpList_store_cb rfl 30 (.tmp 2) (.tmp 21) rfl (w.heap.size + 1) [.slice A6 (n + 1) c6, .int .i64 (x + 1)] rfl rfl 30 [.slice none 0 0, .int .i64 0] 2 HR6.out sizeS rfl rfl (one_s _ _ _ _) ?_; intro w9 hc9 hg9 hz9))
    refine bodyPost_ret (res_cell Try.results54 rfl rfl hc9 Try.underlying30 sizeS rfl) rfl ⟨?_, below_grown HB6.out hg9 (by omega) (by omega)⟩
    unfold addE
    rw [if_pos (by exact HT.out)]
    exact ⟨A6, n + 1, c6, rfl, by rw [HN.out]; simp [withS], HO6.out.kept hg9 (.inr (HO6.out.ne HR6.out (by decide)).symm)⟩

set_option maxHeartbeats 2000000 in
set_option maxRecDepth 20000 in
theorem drop_any (A : Option Addr) (n c : Nat) (x : Int) (l : List Fd) (kd id wi : Int) (nm ot : ByteArray) (ty pa : Int) (sep : ByteArray) (w : World) (hn : n = l.length) (hs : Fds w w.heap.size A l) (hl0 : n ≤ 1000) (_hx0 : 0 ≤ x) (_hx1 : x ≤ 2305843009213693952) (_hsep : sep.size ≤ 9223372036854775807) :
    Calls Try.prog 55 #[.agg #[.slice A n c, .int .i64 x, .int .i64 kd, .int .i64 id, .int .i64 wi, .string nm, .string ot, .int .i64 ty, .int .i64 pa, .string sep]] w fun e w' => ResS w w' (dropE ⟨l, x⟩ ⟨kd, id, wi, nm, ot, ty, pa, sep⟩) e ∧ Below w.heap.size w w' := by
  have HN := Lib.hid hn
  have HS := Lib.hid hs
  clear hn hs
  have hl : n ≤ 1000000 := by omega
  have hl2 : n ≤ 9223372036854775807 := by omega
  obtain ⟨g, hg⟩ : ∃ g, fieldD l id = g := ⟨_, rfl⟩
  obtain ⟨ok, hok⟩ : ∃ ok, hasF l id = ok := ⟨_, rfl⟩
  have HG := Lib.hid hg
  have HO := Lib.hid hok
  clear hg hok
  cases ok with
  | false =>
    go_enter Try.func55, Try.ntmps55
    go_wp2_with (first | (go_at_call 19; refine (Field_any _ n c x l id _ HN.out (HS.out.up (al2 w _ _)) hl2).mono ?_; rintro e w5 ⟨rfl, hb5⟩; rw [HG.out, HO.out]; have HB5 := Lib.hid ((al2 w _ _).trans (hb5.mono (al2 w _ _).size)); have HR5 := Lib.hid ((CB.new1 w (.cells #[.slice A n c, .int .i64 x, .int .i64 kd, .int .i64 id, .int .i64 wi, .string nm, .string ot, .int .i64 ty, .int .i64 pa, .string sep] 70) 30 [.slice none 0 0, .int .i64 0]).up hb5); have HE5 := Lib.hid (((CB.new w 70 [.slice A n c, .int .i64 x, .int .i64 kd, .int .i64 id, .int .i64 wi, .string nm, .string ot, .int .i64 ty, .int .i64 pa, .string sep]).alloc (.cells #[.slice none 0 0, .int .i64 0] 30)).up hb5); have hz5 : w.heap.size + 1 < w5.heap.size := HR5.out.lt; have hy5 : w.heap.size < w5.heap.size := HE5.out.lt; have e5_0 := HE5.out.cell 0 rfl; have e5_1 := HE5.out.cell 1 rfl; have e5_2 := HE5.out.cell 2 rfl; have e5_3 := HE5.out.cell 3 rfl; have e5_4 := HE5.out.cell 4 rfl; have e5_5 := HE5.out.cell 5 rfl; have e5_6 := HE5.out.cell 6 rfl; have e5_7 := HE5.out.cell 7 rfl; have e5_8 := HE5.out.cell 8 rfl; have e5_9 := HE5.out.cell 9 rfl; clear hb5) | ((with_reducible show wpList _ _ _ _ _ _); refine wpList_store_cb rfl 30 (.tmp 2) (.tmp 17) rfl (w.heap.size + 1) [.slice none 0 0, .int .i64 0] rfl rfl 30 [.slice none 0 0, .int .i64 0] 2 (HR5.out.alloc _) sizeS rfl rfl (one_s _ _ _ _) ?_; intro w9 hc9 hg9 hz9))
    refine bodyPost_ret (res_cell Try.results55 rfl rfl hc9 Try.underlying30 sizeS rfl) rfl ⟨?_, below_grown (HB5.out.alloc (by omega) _) hg9 (by rw [asz]; omega) (by omega)⟩
    unfold dropE
    rw [if_neg (by simp only [HO.out]; decide)]
    exact res_zero _ _ _
  | true =>
    go_enter Try.func55, Try.ntmps55
    go_wp2_with (first | (go_at_call 19; refine (Field_any _ n c x l id _ HN.out (HS.out.up (al2 w _ _)) hl2).mono ?_; rintro e w5 ⟨rfl, hb5⟩; rw [HG.out, HO.out]; have HB5 := Lib.hid ((al2 w _ _).trans (hb5.mono (al2 w _ _).size)); have HR5 := Lib.hid ((CB.new1 w (.cells #[.slice A n c, .int .i64 x, .int .i64 kd, .int .i64 id, .int .i64 wi, .string nm, .string ot, .int .i64 ty, .int .i64 pa, .string sep] 70) 30 [.slice none 0 0, .int .i64 0]).up hb5); have HE5 := Lib.hid (((CB.new w 70 [.slice A n c, .int .i64 x, .int .i64 kd, .int .i64 id, .int .i64 wi, .string nm, .string ot, .int .i64 ty, .int .i64 pa, .string sep]).alloc (.cells #[.slice none 0 0, .int .i64 0] 30)).up hb5); have hz5 : w.heap.size + 1 < w5.heap.size := HR5.out.lt; have hy5 : w.heap.size < w5.heap.size := HE5.out.lt; have e5_0 := HE5.out.cell 0 rfl; have e5_1 := HE5.out.cell 1 rfl; have e5_2 := HE5.out.cell 2 rfl; have e5_3 := HE5.out.cell 3 rfl; have e5_4 := HE5.out.cell 4 rfl; have e5_5 := HE5.out.cell 5 rfl; have e5_6 := HE5.out.cell 6 rfl; have e5_7 := HE5.out.cell 7 rfl; have e5_8 := HE5.out.cell 8 rfl; have e5_9 := HE5.out.cell 9 rfl; clear hb5) | (go_at_call 76; refine (without_any _ n c x l g.id _ HN.out (HS.out.up (HB5.out.alloc (by omega) _)) hl).mono ?_; rintro e w6 ⟨⟨A6, c6, rfl, ho6⟩, hb6⟩; have HB6 := Lib.hid (below_step (HB5.out.alloc (by omega) _) (by rw [asz]; omega) hb6); have HR6 := Lib.hid ((HR5.out.alloc _).up hb6); have HO6 := Lib.hid (ho6.low (b := w.heap.size) (by rw [asz]; omega)); have hz6 : w.heap.size + 1 < w6.heap.size := HR6.out.lt; clear ho6 hb6) | ((with_reducible show wpList _ _ _ _ _ _); refine wpList_store_cb rfl 30 (.tmp 2) (.tmp 22) rfl (w.heap.size + 1) [.slice A6 (dropF l g.id).length c6, .int .i64 x] rfl rfl 30 [.slice none 0 0, .int .i64 0] 2 HR6.out sizeS rfl rfl (one_s _ _ _ _) ?_; intro w9 hc9 hg9 hz9))
    refine bodyPost_ret (res_cell Try.results55 rfl rfl hc9 Try.underlying30 sizeS rfl) rfl ⟨?_, below_grown HB6.out hg9 (by omega) (by omega)⟩
    unfold dropE
    rw [if_pos (by exact HO.out)]
    simp only [HG.out]
    exact ⟨A6, _, c6, rfl, rfl, HO6.out.kept hg9 (.inr (HO6.out.ne HR6.out (by decide)).symm)⟩

set_option maxHeartbeats 2000000 in
set_option maxRecDepth 20000 in
theorem ren_any (A : Option Addr) (n c : Nat) (x : Int) (l : List Fd) (kd id wi : Int) (nm ot : ByteArray) (ty pa : Int) (sep : ByteArray) (w : World) (hn : n = l.length) (hs : Fds w w.heap.size A l) (hl0 : n ≤ 1000) (_hx0 : 0 ≤ x) (_hx1 : x ≤ 2305843009213693952) (_hsep : sep.size ≤ 9223372036854775807) :
    Calls Try.prog 56 #[.agg #[.slice A n c, .int .i64 x, .int .i64 kd, .int .i64 id, .int .i64 wi, .string nm, .string ot, .int .i64 ty, .int .i64 pa, .string sep]] w fun e w' => ResS w w' (renE ⟨l, x⟩ ⟨kd, id, wi, nm, ot, ty, pa, sep⟩) e ∧ Below w.heap.size w w' := by
  have HN := Lib.hid hn
  have HS := Lib.hid hs
  clear hn hs
  have hl : n ≤ 1000000 := by omega
  have hl2 : n ≤ 9223372036854775807 := by omega
  obtain ⟨g, hg⟩ : ∃ g, fieldD l id = g := ⟨_, rfl⟩
  obtain ⟨ok, hok⟩ : ∃ ok, hasF l id = ok := ⟨_, rfl⟩
  have HG := Lib.hid hg
  have HO := Lib.hid hok
  clear hg hok
  cases ok with
  | false =>
    go_enter Try.func56, Try.ntmps56
    go_wp2_with (first | (go_at_call 19; refine (Field_any _ n c x l id _ HN.out (HS.out.up (al2 w _ _)) hl2).mono ?_; rintro e w5 ⟨rfl, hb5⟩; rw [HG.out, HO.out]; have HB5 := Lib.hid ((al2 w _ _).trans (hb5.mono (al2 w _ _).size)); have HR5 := Lib.hid ((CB.new1 w (.cells #[.slice A n c, .int .i64 x, .int .i64 kd, .int .i64 id, .int .i64 wi, .string nm, .string ot, .int .i64 ty, .int .i64 pa, .string sep] 70) 30 [.slice none 0 0, .int .i64 0]).up hb5); have HE5 := Lib.hid (((CB.new w 70 [.slice A n c, .int .i64 x, .int .i64 kd, .int .i64 id, .int .i64 wi, .string nm, .string ot, .int .i64 ty, .int .i64 pa, .string sep]).alloc (.cells #[.slice none 0 0, .int .i64 0] 30)).up hb5); have hz5 : w.heap.size + 1 < w5.heap.size := HR5.out.lt; have hy5 : w.heap.size < w5.heap.size := HE5.out.lt; have e5_0 := HE5.out.cell 0 rfl; have e5_1 := HE5.out.cell 1 rfl; have e5_2 := HE5.out.cell 2 rfl; have e5_3 := HE5.out.cell 3 rfl; have e5_4 := HE5.out.cell 4 rfl; have e5_5 := HE5.out.cell 5 rfl; have e5_6 := HE5.out.cell 6 rfl; have e5_7 := HE5.out.cell 7 rfl; have e5_8 := HE5.out.cell 8 rfl; have e5_9 := HE5.out.cell 9 rfl; clear hb5) | ((with_reducible show wpList _ _ _ _ _ _); refine wpList_store_cb rfl 30 (.tmp 2) (.tmp 17) rfl (w.heap.size + 1) [.slice none 0 0, .int .i64 0] rfl rfl 30 [.slice none 0 0, .int .i64 0] 2 (HR5.out.alloc _) sizeS rfl rfl (one_s _ _ _ _) ?_; intro w9 hc9 hg9 hz9))
    refine bodyPost_ret (res_cell Try.results56 rfl rfl hc9 Try.underlying30 sizeS rfl) rfl ⟨?_, below_grown (HB5.out.alloc (by omega) _) hg9 (by rw [asz]; omega) (by omega)⟩
    unfold renE
    rw [if_neg (by simp only [HO.out]; decide)]
    exact res_zero _ _ _
  | true =>
    go_enter Try.func56, Try.ntmps56
    go_wp2_with (first | (go_at_call 19; refine (Field_any _ n c x l id _ HN.out (HS.out.up (al2 w _ _)) hl2).mono ?_; rintro e w5 ⟨rfl, hb5⟩; rw [HG.out, HO.out]; have HB5 := Lib.hid ((al2 w _ _).trans (hb5.mono (al2 w _ _).size)); have HR5 := Lib.hid ((CB.new1 w (.cells #[.slice A n c, .int .i64 x, .int .i64 kd, .int .i64 id, .int .i64 wi, .string nm, .string ot, .int .i64 ty, .int .i64 pa, .string sep] 70) 30 [.slice none 0 0, .int .i64 0]).up hb5); have HE5 := Lib.hid (((CB.new w 70 [.slice A n c, .int .i64 x, .int .i64 kd, .int .i64 id, .int .i64 wi, .string nm, .string ot, .int .i64 ty, .int .i64 pa, .string sep]).alloc (.cells #[.slice none 0 0, .int .i64 0] 30)).up hb5); have hz5 : w.heap.size + 1 < w5.heap.size := HR5.out.lt; have hy5 : w.heap.size < w5.heap.size := HE5.out.lt; have e5_0 := HE5.out.cell 0 rfl; have e5_1 := HE5.out.cell 1 rfl; have e5_2 := HE5.out.cell 2 rfl; have e5_3 := HE5.out.cell 3 rfl; have e5_4 := HE5.out.cell 4 rfl; have e5_5 := HE5.out.cell 5 rfl; have e5_6 := HE5.out.cell 6 rfl; have e5_7 := HE5.out.cell 7 rfl; have e5_8 := HE5.out.cell 8 rfl; have e5_9 := HE5.out.cell 9 rfl; clear hb5) | (go_at_call 77; refine (replacing_any _ n c x l ⟨g.id, nm, g.ty, g.pa⟩ _ HN.out (HS.out.up (HB5.out.alloc (by omega) _)) hl).mono ?_; rintro e w6 ⟨⟨A6, c6, rfl, ho6⟩, hb6⟩; have HB6 := Lib.hid (below_step (HB5.out.alloc (by omega) _) (by rw [asz]; omega) hb6); have HR6 := Lib.hid ((HR5.out.alloc _).up hb6); have HO6 := Lib.hid (ho6.low (b := w.heap.size) (by rw [asz]; omega)); have hz6 : w.heap.size + 1 < w6.heap.size := HR6.out.lt; clear ho6 hb6) | ((with_reducible show wpList _ _ _ _ _ _); refine wpList_store_cb rfl 30 (.tmp 2) (.tmp 25) rfl (w.heap.size + 1) [.slice A6 n c6, .int .i64 x] rfl rfl 30 [.slice none 0 0, .int .i64 0] 2 HR6.out sizeS rfl rfl (one_s _ _ _ _) ?_; intro w9 hc9 hg9 hz9))
    refine bodyPost_ret (res_cell Try.results56 rfl rfl hc9 Try.underlying30 sizeS rfl) rfl ⟨?_, below_grown HB6.out hg9 (by omega) (by omega)⟩
    unfold renE
    rw [if_pos (by exact HO.out)]
    simp only [HG.out]
    exact ⟨A6, n, c6, rfl, by rw [HN.out]; simp [putS, putF], HO6.out.kept hg9 (.inr (HO6.out.ne HR6.out (by decide)).symm)⟩

set_option maxHeartbeats 2000000 in
set_option maxRecDepth 20000 in
theorem mov_any (A : Option Addr) (n c : Nat) (x : Int) (l : List Fd) (kd id wi : Int) (nm ot : ByteArray) (ty pa : Int) (sep : ByteArray) (w : World) (hn : n = l.length) (hs : Fds w w.heap.size A l) (hl0 : n ≤ 1000) (_hx0 : 0 ≤ x) (_hx1 : x ≤ 2305843009213693952) (_hsep : sep.size ≤ 9223372036854775807) :
    Calls Try.prog 58 #[.agg #[.slice A n c, .int .i64 x, .int .i64 kd, .int .i64 id, .int .i64 wi, .string nm, .string ot, .int .i64 ty, .int .i64 pa, .string sep]] w fun e w' => ResS w w' (movE ⟨l, x⟩ ⟨kd, id, wi, nm, ot, ty, pa, sep⟩) e ∧ Below w.heap.size w w' := by
  have HN := Lib.hid hn
  have HS := Lib.hid hs
  clear hn hs
  have hl : n ≤ 1000000 := by omega
  have hl2 : n ≤ 9223372036854775807 := by omega
  obtain ⟨g, hg⟩ : ∃ g, fieldD l id = g := ⟨_, rfl⟩
  obtain ⟨ok, hok⟩ : ∃ ok, hasF l id = ok := ⟨_, rfl⟩
  have HG := Lib.hid hg
  have HO := Lib.hid hok
  clear hg hok
  cases ok with
  | false =>
    go_enter Try.func58, Try.ntmps58
    go_wp2_with (first | (go_at_call 19; refine (Field_any _ n c x l id _ HN.out (HS.out.up (al2 w _ _)) hl2).mono ?_; rintro e w5 ⟨rfl, hb5⟩; rw [HG.out, HO.out]; have HB5 := Lib.hid ((al2 w _ _).trans (hb5.mono (al2 w _ _).size)); have HR5 := Lib.hid ((CB.new1 w (.cells #[.slice A n c, .int .i64 x, .int .i64 kd, .int .i64 id, .int .i64 wi, .string nm, .string ot, .int .i64 ty, .int .i64 pa, .string sep] 70) 30 [.slice none 0 0, .int .i64 0]).up hb5); have HE5 := Lib.hid (((CB.new w 70 [.slice A n c, .int .i64 x, .int .i64 kd, .int .i64 id, .int .i64 wi, .string nm, .string ot, .int .i64 ty, .int .i64 pa, .string sep]).alloc (.cells #[.slice none 0 0, .int .i64 0] 30)).up hb5); have hz5 : w.heap.size + 1 < w5.heap.size := HR5.out.lt; have hy5 : w.heap.size < w5.heap.size := HE5.out.lt; have e5_0 := HE5.out.cell 0 rfl; have e5_1 := HE5.out.cell 1 rfl; have e5_2 := HE5.out.cell 2 rfl; have e5_3 := HE5.out.cell 3 rfl; have e5_4 := HE5.out.cell 4 rfl; have e5_5 := HE5.out.cell 5 rfl; have e5_6 := HE5.out.cell 6 rfl; have e5_7 := HE5.out.cell 7 rfl; have e5_8 := HE5.out.cell 8 rfl; have e5_9 := HE5.out.cell 9 rfl; clear hb5) | ((with_reducible show wpList _ _ _ _ _ _); refine wpList_store_cb rfl 30 (.tmp 2) (.tmp 17) rfl (w.heap.size + 1) [.slice none 0 0, .int .i64 0] rfl rfl 30 [.slice none 0 0, .int .i64 0] 2 (HR5.out.alloc _) sizeS rfl rfl (one_s _ _ _ _) ?_; intro w9 hc9 hg9 hz9))
    refine bodyPost_ret (res_cell Try.results58 rfl rfl hc9 Try.underlying30 sizeS rfl) rfl ⟨?_, below_grown (HB5.out.alloc (by omega) _) hg9 (by rw [asz]; omega) (by omega)⟩
    unfold movE
    rw [if_neg (by simp only [HO.out]; decide)]
    exact res_zero _ _ _
  | true =>
    go_enter Try.func58, Try.ntmps58
    go_wp2_with (first | (go_at_call 19; refine (Field_any _ n c x l id _ HN.out (HS.out.up (al2 w _ _)) hl2).mono ?_; rintro e w5 ⟨rfl, hb5⟩; rw [HG.out, HO.out]; have HB5 := Lib.hid ((al2 w _ _).trans (hb5.mono (al2 w _ _).size)); have HR5 := Lib.hid ((CB.new1 w (.cells #[.slice A n c, .int .i64 x, .int .i64 kd, .int .i64 id, .int .i64 wi, .string nm, .string ot, .int .i64 ty, .int .i64 pa, .string sep] 70) 30 [.slice none 0 0, .int .i64 0]).up hb5); have HE5 := Lib.hid (((CB.new w 70 [.slice A n c, .int .i64 x, .int .i64 kd, .int .i64 id, .int .i64 wi, .string nm, .string ot, .int .i64 ty, .int .i64 pa, .string sep]).alloc (.cells #[.slice none 0 0, .int .i64 0] 30)).up hb5); have hz5 : w.heap.size + 1 < w5.heap.size := HR5.out.lt; have hy5 : w.heap.size < w5.heap.size := HE5.out.lt; have e5_0 := HE5.out.cell 0 rfl; have e5_1 := HE5.out.cell 1 rfl; have e5_2 := HE5.out.cell 2 rfl; have e5_3 := HE5.out.cell 3 rfl; have e5_4 := HE5.out.cell 4 rfl; have e5_5 := HE5.out.cell 5 rfl; have e5_6 := HE5.out.cell 6 rfl; have e5_7 := HE5.out.cell 7 rfl; have e5_8 := HE5.out.cell 8 rfl; have e5_9 := HE5.out.cell 9 rfl; clear hb5) | (go_at_call 77; refine (replacing_any _ n c x l ⟨g.id, g.nm, g.ty, pa⟩ _ HN.out (HS.out.up (HB5.out.alloc (by omega) _)) hl).mono ?_; rintro e w6 ⟨⟨A6, c6, rfl, ho6⟩, hb6⟩; have HB6 := Lib.hid (below_step (HB5.out.alloc (by omega) _) (by rw [asz]; omega) hb6); have HR6 := Lib.hid ((HR5.out.alloc _).up hb6); have HO6 := Lib.hid (ho6.low (b := w.heap.size) (by rw [asz]; omega)); have hz6 : w.heap.size + 1 < w6.heap.size := HR6.out.lt; clear ho6 hb6) | ((with_reducible show wpList _ _ _ _ _ _); refine wpList_store_cb rfl 30 (.tmp 2) (.tmp 25) rfl (w.heap.size + 1) [.slice A6 n c6, .int .i64 x] rfl rfl 30 [.slice none 0 0, .int .i64 0] 2 HR6.out sizeS rfl rfl (one_s _ _ _ _) ?_; intro w9 hc9 hg9 hz9))
    refine bodyPost_ret (res_cell Try.results58 rfl rfl hc9 Try.underlying30 sizeS rfl) rfl ⟨?_, below_grown HB6.out hg9 (by omega) (by omega)⟩
    unfold movE
    rw [if_pos (by exact HO.out)]
    simp only [HG.out]
    exact ⟨A6, n, c6, rfl, by rw [HN.out]; simp [putS, putF], HO6.out.kept hg9 (.inr (HO6.out.ne HR6.out (by decide)).symm)⟩

set_option maxHeartbeats 2000000 in
set_option maxRecDepth 20000 in
theorem wid_any (A : Option Addr) (n c : Nat) (x : Int) (l : List Fd) (kd id wi : Int) (nm ot : ByteArray) (ty pa : Int) (sep : ByteArray) (w : World) (hn : n = l.length) (hs : Fds w w.heap.size A l) (hl0 : n ≤ 1000) (_hx0 : 0 ≤ x) (_hx1 : x ≤ 2305843009213693952) (_hsep : sep.size ≤ 9223372036854775807) :
    Calls Try.prog 57 #[.agg #[.slice A n c, .int .i64 x, .int .i64 kd, .int .i64 id, .int .i64 wi, .string nm, .string ot, .int .i64 ty, .int .i64 pa, .string sep]] w fun e w' => ResS w w' (widE ⟨l, x⟩ ⟨kd, id, wi, nm, ot, ty, pa, sep⟩) e ∧ Below w.heap.size w w' := by
  have HN := Lib.hid hn
  have HS := Lib.hid hs
  clear hn hs
  have hl : n ≤ 1000000 := by omega
  have hl2 : n ≤ 9223372036854775807 := by omega
  obtain ⟨g, hg⟩ : ∃ g, fieldD l id = g := ⟨_, rfl⟩
  obtain ⟨ok, hok⟩ : ∃ ok, hasF l id = ok := ⟨_, rfl⟩
  have HG := Lib.hid hg
  have HO := Lib.hid hok
  clear hg hok
  cases ok with
  | false =>
    go_enter Try.func57, Try.ntmps57
    go_wp2_with (first | (go_at_call 19; refine (Field_any _ n c x l id _ HN.out (HS.out.up (al2 w _ _)) hl2).mono ?_; rintro e w5 ⟨rfl, hb5⟩; rw [HG.out, HO.out]; have HB5 := Lib.hid ((al2 w _ _).trans (hb5.mono (al2 w _ _).size)); have HR5 := Lib.hid ((CB.new1 w (.cells #[.slice A n c, .int .i64 x, .int .i64 kd, .int .i64 id, .int .i64 wi, .string nm, .string ot, .int .i64 ty, .int .i64 pa, .string sep] 70) 30 [.slice none 0 0, .int .i64 0]).up hb5); have HE5 := Lib.hid (((CB.new w 70 [.slice A n c, .int .i64 x, .int .i64 kd, .int .i64 id, .int .i64 wi, .string nm, .string ot, .int .i64 ty, .int .i64 pa, .string sep]).alloc (.cells #[.slice none 0 0, .int .i64 0] 30)).up hb5); have hz5 : w.heap.size + 1 < w5.heap.size := HR5.out.lt; have hy5 : w.heap.size < w5.heap.size := HE5.out.lt; have e5_0 := HE5.out.cell 0 rfl; have e5_1 := HE5.out.cell 1 rfl; have e5_2 := HE5.out.cell 2 rfl; have e5_3 := HE5.out.cell 3 rfl; have e5_4 := HE5.out.cell 4 rfl; have e5_5 := HE5.out.cell 5 rfl; have e5_6 := HE5.out.cell 6 rfl; have e5_7 := HE5.out.cell 7 rfl; have e5_8 := HE5.out.cell 8 rfl; have e5_9 := HE5.out.cell 9 rfl; clear hb5) | ((with_reducible show wpList _ _ _ _ _ _); refine wpList_store_cb rfl 30 (.tmp 2) (.tmp 18) rfl (w.heap.size + 1) [.slice none 0 0, .int .i64 0] rfl rfl 30 [.slice none 0 0, .int .i64 0] 2 (HR5.out.alloc _) sizeS rfl rfl (one_s _ _ _ _) ?_; intro w9 hc9 hg9 hz9))
    refine bodyPost_ret (res_cell Try.results57 rfl rfl hc9 Try.underlying30 sizeS rfl) rfl ⟨?_, below_grown (HB5.out.alloc (by omega) _) hg9 (by rw [asz]; omega) (by omega)⟩
    unfold widE
    rw [if_neg (by simp only [HO.out]; decide)]
    exact res_zero _ _ _
  | true =>
    by_cases hy : g.ty = 2
    · have y1 : (g.ty != 2) = false := by simpa using hy
      have HY := Lib.hid hy
      clear hy
      go_enter Try.func57, Try.ntmps57
      go_wp2_with (first | (go_at_call 19; refine (Field_any _ n c x l id _ HN.out (HS.out.up (al2 w _ _)) hl2).mono ?_; rintro e w5 ⟨rfl, hb5⟩; rw [HG.out, HO.out]; have HB5 := Lib.hid ((al2 w _ _).trans (hb5.mono (al2 w _ _).size)); have HR5 := Lib.hid ((CB.new1 w (.cells #[.slice A n c, .int .i64 x, .int .i64 kd, .int .i64 id, .int .i64 wi, .string nm, .string ot, .int .i64 ty, .int .i64 pa, .string sep] 70) 30 [.slice none 0 0, .int .i64 0]).up hb5); have HE5 := Lib.hid (((CB.new w 70 [.slice A n c, .int .i64 x, .int .i64 kd, .int .i64 id, .int .i64 wi, .string nm, .string ot, .int .i64 ty, .int .i64 pa, .string sep]).alloc (.cells #[.slice none 0 0, .int .i64 0] 30)).up hb5); have hz5 : w.heap.size + 1 < w5.heap.size := HR5.out.lt; have hy5 : w.heap.size < w5.heap.size := HE5.out.lt; have e5_0 := HE5.out.cell 0 rfl; have e5_1 := HE5.out.cell 1 rfl; have e5_2 := HE5.out.cell 2 rfl; have e5_3 := HE5.out.cell 3 rfl; have e5_4 := HE5.out.cell 4 rfl; have e5_5 := HE5.out.cell 5 rfl; have e5_6 := HE5.out.cell 6 rfl; have e5_7 := HE5.out.cell 7 rfl; have e5_8 := HE5.out.cell 8 rfl; have e5_9 := HE5.out.cell 9 rfl; clear hb5) | (go_at_call 77; refine (replacing_any _ n c x l ⟨g.id, g.nm, 3, g.pa⟩ _ HN.out (HS.out.up (HB5.out.alloc (by omega) _)) hl).mono ?_; rintro e w6 ⟨⟨A6, c6, rfl, ho6⟩, hb6⟩; have HB6 := Lib.hid (below_step (HB5.out.alloc (by omega) _) (by rw [asz]; omega) hb6); have HR6 := Lib.hid ((HR5.out.alloc _).up hb6); have HO6 := Lib.hid (ho6.low (b := w.heap.size) (by rw [asz]; omega)); have hz6 : w.heap.size + 1 < w6.heap.size := HR6.out.lt; clear ho6 hb6) | ((with_reducible show wpList _ _ _ _ _ _); refine wpList_store_cb rfl 30 (.tmp 2) (.tmp 28) rfl (w.heap.size + 1) [.slice A6 n c6, .int .i64 x] rfl rfl 30 [.slice none 0 0, .int .i64 0] 2 HR6.out sizeS rfl rfl (one_s _ _ _ _) ?_; intro w9 hc9 hg9 hz9))
      refine bodyPost_ret (res_cell Try.results57 rfl rfl hc9 Try.underlying30 sizeS rfl) rfl ⟨?_, below_grown HB6.out hg9 (by omega) (by omega)⟩
      unfold widE
      rw [if_pos (by exact HO.out)]
      rw [if_pos (by rw [HG.out]; exact HY.out)]
      simp only [HG.out]
      exact ⟨A6, n, c6, rfl, by rw [HN.out]; simp [putS, putF], HO6.out.kept hg9 (.inr (HO6.out.ne HR6.out (by decide)).symm)⟩
    · have y1 : (g.ty != 2) = true := by simpa using hy
      have HY := Lib.hid hy
      clear hy
      go_enter Try.func57, Try.ntmps57
      go_wp2_with (first | (go_at_call 19; refine (Field_any _ n c x l id _ HN.out (HS.out.up (al2 w _ _)) hl2).mono ?_; rintro e w5 ⟨rfl, hb5⟩; rw [HG.out, HO.out]; have HB5 := Lib.hid ((al2 w _ _).trans (hb5.mono (al2 w _ _).size)); have HR5 := Lib.hid ((CB.new1 w (.cells #[.slice A n c, .int .i64 x, .int .i64 kd, .int .i64 id, .int .i64 wi, .string nm, .string ot, .int .i64 ty, .int .i64 pa, .string sep] 70) 30 [.slice none 0 0, .int .i64 0]).up hb5); have HE5 := Lib.hid (((CB.new w 70 [.slice A n c, .int .i64 x, .int .i64 kd, .int .i64 id, .int .i64 wi, .string nm, .string ot, .int .i64 ty, .int .i64 pa, .string sep]).alloc (.cells #[.slice none 0 0, .int .i64 0] 30)).up hb5); have hz5 : w.heap.size + 1 < w5.heap.size := HR5.out.lt; have hy5 : w.heap.size < w5.heap.size := HE5.out.lt; have e5_0 := HE5.out.cell 0 rfl; have e5_1 := HE5.out.cell 1 rfl; have e5_2 := HE5.out.cell 2 rfl; have e5_3 := HE5.out.cell 3 rfl; have e5_4 := HE5.out.cell 4 rfl; have e5_5 := HE5.out.cell 5 rfl; have e5_6 := HE5.out.cell 6 rfl; have e5_7 := HE5.out.cell 7 rfl; have e5_8 := HE5.out.cell 8 rfl; have e5_9 := HE5.out.cell 9 rfl; clear hb5) | ((with_reducible show wpList _ _ _ _ _ _); refine wpList_store_cb rfl 30 (.tmp 2) (.tmp 23) rfl (w.heap.size + 1) [.slice none 0 0, .int .i64 0] rfl rfl 30 [.slice none 0 0, .int .i64 0] 2 (HR5.out.alloc _) sizeS rfl rfl (one_s _ _ _ _) ?_; intro w9 hc9 hg9 hz9))
      refine bodyPost_ret (res_cell Try.results57 rfl rfl hc9 Try.underlying30 sizeS rfl) rfl ⟨?_, below_grown (HB5.out.alloc (by omega) _) hg9 (by rw [asz]; omega) (by omega)⟩
      unfold widE
      rw [if_pos (by exact HO.out), if_neg (by rw [HG.out]; exact HY.out)]
      exact res_zero _ _ _
end Go.Proofs.Ytpgbpfdedpppeaa
