/-
  The reference's Apply, by a contract.
-/
import Derived.Test.YtpgbpfdedpppeaaRSpl
import Derived.Test.YtpgbpfdedpppeaaROne
import Derived.Test.YtpgbpfdedpppeaaPln2
namespace Go.Proofs.Ytpgbpfdedpppeaa
open Go.RowKit

theorem alln_fd {l : List Fd} (h : AllN (fun s => s.size ≤ 9223372036854775807) l) (i : Int) : (fieldD l i).nm.size ≤ 9223372036854775807 := by
  by_cases hh : hasF l i = true
  · exact alln_fld h hh
  · have e : field l i = none := by
      unfold hasF at hh
      simpa using hh
    unfold fieldD
    rw [e]
    show (0 : Nat) ≤ _
    omega

set_option maxHeartbeats 2000000 in
set_option maxRecDepth 20000 in
theorem RApply_add (A : Option Addr) (n c : Nat) (x : Int) (l : List Fd) (id wi : Int) (nm ot : ByteArray) (ty pa : Int) (sep : ByteArray) (w : World) (hn : n = l.length) (hs : Fds w w.heap.size A l) (hl0 : n ≤ 1000) (hx0 : 0 ≤ x) (hx1 : x ≤ 2305843009213693952) (hnm : nm.size ≤ 9223372036854775807) (hot : ot.size ≤ 9223372036854775807) (hsep : sep.size ≤ 9223372036854775807) :
    Calls Try.prog 15 #[.agg #[.slice A n c, .int .i64 x], .agg #[.int .i64 1, .int .i64 id, .int .i64 wi, .string nm, .string ot, .int .i64 ty, .int .i64 pa, .string sep]] w fun e w' => ResS w w' (addR ⟨l, x⟩ ⟨1, id, wi, nm, ot, ty, pa, sep⟩) e ∧ Below w.heap.size w w' := by
  have HN := Lib.hid hn
  have HS := Lib.hid hs
  clear hn hs
  have B0 := Lib.hid (al3 w (.cells #[.slice A n c, .int .i64 x] 30) (.cells #[.int .i64 1, .int .i64 id, .int .i64 wi, .string nm, .string ot, .int .i64 ty, .int .i64 pa, .string sep] 24) (.cells #[.slice none 0 0, .int .i64 0] 30))
  have R0 := Lib.hid (CB.new2 w (.cells #[.slice A n c, .int .i64 x] 30) (.cells #[.int .i64 1, .int .i64 id, .int .i64 wi, .string nm, .string ot, .int .i64 ty, .int .i64 pa, .string sep] 24) 30 [.slice none 0 0, .int .i64 0])
  have zR0 := R0.out.lt
  go_enter Try.func15, Try.ntmps15
  obtain ⟨⟨⟨fs2, x2⟩, er⟩, hq⟩ : ∃ r, addR ⟨l, x⟩ ⟨1, id, wi, nm, ot, ty, pa, sep⟩ = r := ⟨_, rfl⟩
  rw [hq]
  have HQ := Lib.hid hq
  clear hq
  go_wp2_with (first | (go_at_call 36; refine (Radd_any A n c x l 1 id wi nm ot ty pa sep _ HN.out (HS.out.up B0.out) hl0 hx0 hx1 hnm hot hsep).mono ?_; rintro e w7 ⟨⟨A7, m7, c7, rfl, hm7, ho7⟩, hb7⟩; rw [HQ.out] at hm7 ho7; rw [HQ.out]; have R7 := Lib.hid (R0.out.up hb7); have B7 := Lib.hid (below_step B0.out B0.out.size hb7); have O7 := Lib.hid (ho7.low (b := w.heap.size) B0.out.size); have M7 := Lib.hid hm7; have zR7 := R7.out.lt; clear hb7 ho7 hm7) | ((with_reducible show wpList _ _ _ (Oper.mk none (.store _ _ _) _ _ _ _ :: _) _ _); refine wpList_store_cb rfl 30 (.tmp 4) (.tmp 13) rfl (w.heap.size + 1 + 1) [.slice A7 m7 c7, .int .i64 x2] rfl rfl 30 [.slice none 0 0, .int .i64 0] 2 (R7.out) sizeS rfl rfl (one_s _ _ _ _) ?_; intro wz hcz hgz hzz))
  refine bodyPost_ret (res_cell Try.results15 rfl rfl hcz Try.underlying30 sizeS rfl) rfl ⟨?_, below_grown B7.out hgz (by omega) (by omega)⟩
  exact ⟨A7, m7, c7, rfl, M7.out, O7.out.kept hgz (.inr (Own.ne O7.out R7.out (by decide)).symm)⟩

set_option maxHeartbeats 2000000 in
set_option maxRecDepth 20000 in
theorem RApply_drop (A : Option Addr) (n c : Nat) (x : Int) (l : List Fd) (id wi : Int) (nm ot : ByteArray) (ty pa : Int) (sep : ByteArray) (w : World) (hn : n = l.length) (hs : Fds w w.heap.size A l) (hl0 : n ≤ 1000) (hx0 : 0 ≤ x) (hx1 : x ≤ 2305843009213693952) (hnm : nm.size ≤ 9223372036854775807) (hot : ot.size ≤ 9223372036854775807) (hsep : sep.size ≤ 9223372036854775807) :
    Calls Try.prog 15 #[.agg #[.slice A n c, .int .i64 x], .agg #[.int .i64 2, .int .i64 id, .int .i64 wi, .string nm, .string ot, .int .i64 ty, .int .i64 pa, .string sep]] w fun e w' => ResS w w' (dropR ⟨l, x⟩ ⟨2, id, wi, nm, ot, ty, pa, sep⟩) e ∧ Below w.heap.size w w' := by
  have HN := Lib.hid hn
  have HS := Lib.hid hs
  clear hn hs
  have B0 := Lib.hid (al3 w (.cells #[.slice A n c, .int .i64 x] 30) (.cells #[.int .i64 2, .int .i64 id, .int .i64 wi, .string nm, .string ot, .int .i64 ty, .int .i64 pa, .string sep] 24) (.cells #[.slice none 0 0, .int .i64 0] 30))
  have R0 := Lib.hid (CB.new2 w (.cells #[.slice A n c, .int .i64 x] 30) (.cells #[.int .i64 2, .int .i64 id, .int .i64 wi, .string nm, .string ot, .int .i64 ty, .int .i64 pa, .string sep] 24) 30 [.slice none 0 0, .int .i64 0])
  have zR0 := R0.out.lt
  go_enter Try.func15, Try.ntmps15
  obtain ⟨⟨⟨fs2, x2⟩, er⟩, hq⟩ : ∃ r, dropR ⟨l, x⟩ ⟨2, id, wi, nm, ot, ty, pa, sep⟩ = r := ⟨_, rfl⟩
  rw [hq]
  have HQ := Lib.hid hq
  clear hq
  go_wp2_with (first | (go_at_call 37; refine (Rone_drop A n c x l id wi nm ot ty pa sep _ HN.out (HS.out.up B0.out) hl0 hx0 hx1 hnm hot hsep).mono ?_; rintro e w7 ⟨⟨A7, m7, c7, rfl, hm7, ho7⟩, hb7⟩; rw [HQ.out] at hm7 ho7; rw [HQ.out]; have R7 := Lib.hid (R0.out.up hb7); have B7 := Lib.hid (below_step B0.out B0.out.size hb7); have O7 := Lib.hid (ho7.low (b := w.heap.size) B0.out.size); have M7 := Lib.hid hm7; have zR7 := R7.out.lt; clear hb7 ho7 hm7) | ((with_reducible show wpList _ _ _ (Oper.mk none (.store _ _ _) _ _ _ _ :: _) _ _); refine wpList_store_cb rfl 30 (.tmp 4) (.tmp 23) rfl (w.heap.size + 1 + 1) [.slice A7 m7 c7, .int .i64 x2] rfl rfl 30 [.slice none 0 0, .int .i64 0] 2 (R7.out) sizeS rfl rfl (one_s _ _ _ _) ?_; intro wz hcz hgz hzz))
  refine bodyPost_ret (res_cell Try.results15 rfl rfl hcz Try.underlying30 sizeS rfl) rfl ⟨?_, below_grown B7.out hgz (by omega) (by omega)⟩
  exact ⟨A7, m7, c7, rfl, M7.out, O7.out.kept hgz (.inr (Own.ne O7.out R7.out (by decide)).symm)⟩

set_option maxHeartbeats 2000000 in
set_option maxRecDepth 20000 in
theorem RApply_ren (A : Option Addr) (n c : Nat) (x : Int) (l : List Fd) (id wi : Int) (nm ot : ByteArray) (ty pa : Int) (sep : ByteArray) (w : World) (hn : n = l.length) (hs : Fds w w.heap.size A l) (hl0 : n ≤ 1000) (hx0 : 0 ≤ x) (hx1 : x ≤ 2305843009213693952) (hnm : nm.size ≤ 9223372036854775807) (hot : ot.size ≤ 9223372036854775807) (hsep : sep.size ≤ 9223372036854775807) :
    Calls Try.prog 15 #[.agg #[.slice A n c, .int .i64 x], .agg #[.int .i64 3, .int .i64 id, .int .i64 wi, .string nm, .string ot, .int .i64 ty, .int .i64 pa, .string sep]] w fun e w' => ResS w w' (renR ⟨l, x⟩ ⟨3, id, wi, nm, ot, ty, pa, sep⟩) e ∧ Below w.heap.size w w' := by
  have HN := Lib.hid hn
  have HS := Lib.hid hs
  clear hn hs
  have B0 := Lib.hid (al3 w (.cells #[.slice A n c, .int .i64 x] 30) (.cells #[.int .i64 3, .int .i64 id, .int .i64 wi, .string nm, .string ot, .int .i64 ty, .int .i64 pa, .string sep] 24) (.cells #[.slice none 0 0, .int .i64 0] 30))
  have R0 := Lib.hid (CB.new2 w (.cells #[.slice A n c, .int .i64 x] 30) (.cells #[.int .i64 3, .int .i64 id, .int .i64 wi, .string nm, .string ot, .int .i64 ty, .int .i64 pa, .string sep] 24) 30 [.slice none 0 0, .int .i64 0])
  have zR0 := R0.out.lt
  go_enter Try.func15, Try.ntmps15
  obtain ⟨⟨⟨fs2, x2⟩, er⟩, hq⟩ : ∃ r, renR ⟨l, x⟩ ⟨3, id, wi, nm, ot, ty, pa, sep⟩ = r := ⟨_, rfl⟩
  rw [hq]
  have HQ := Lib.hid hq
  clear hq
  go_wp2_with (first | (go_at_call 37; refine (Rone_rename A n c x l id wi nm ot ty pa sep _ HN.out (HS.out.up B0.out) hl0 hx0 hx1 hnm hot hsep).mono ?_; rintro e w7 ⟨⟨A7, m7, c7, rfl, hm7, ho7⟩, hb7⟩; rw [HQ.out] at hm7 ho7; rw [HQ.out]; have R7 := Lib.hid (R0.out.up hb7); have B7 := Lib.hid (below_step B0.out B0.out.size hb7); have O7 := Lib.hid (ho7.low (b := w.heap.size) B0.out.size); have M7 := Lib.hid hm7; have zR7 := R7.out.lt; clear hb7 ho7 hm7) | ((with_reducible show wpList _ _ _ (Oper.mk none (.store _ _ _) _ _ _ _ :: _) _ _); refine wpList_store_cb rfl 30 (.tmp 4) (.tmp 23) rfl (w.heap.size + 1 + 1) [.slice A7 m7 c7, .int .i64 x2] rfl rfl 30 [.slice none 0 0, .int .i64 0] 2 (R7.out) sizeS rfl rfl (one_s _ _ _ _) ?_; intro wz hcz hgz hzz))
  refine bodyPost_ret (res_cell Try.results15 rfl rfl hcz Try.underlying30 sizeS rfl) rfl ⟨?_, below_grown B7.out hgz (by omega) (by omega)⟩
  exact ⟨A7, m7, c7, rfl, M7.out, O7.out.kept hgz (.inr (Own.ne O7.out R7.out (by decide)).symm)⟩

set_option maxHeartbeats 2000000 in
set_option maxRecDepth 20000 in
theorem RApply_wid (A : Option Addr) (n c : Nat) (x : Int) (l : List Fd) (id wi : Int) (nm ot : ByteArray) (ty pa : Int) (sep : ByteArray) (w : World) (hn : n = l.length) (hs : Fds w w.heap.size A l) (hl0 : n ≤ 1000) (hx0 : 0 ≤ x) (hx1 : x ≤ 2305843009213693952) (hnm : nm.size ≤ 9223372036854775807) (hot : ot.size ≤ 9223372036854775807) (hsep : sep.size ≤ 9223372036854775807) :
    Calls Try.prog 15 #[.agg #[.slice A n c, .int .i64 x], .agg #[.int .i64 4, .int .i64 id, .int .i64 wi, .string nm, .string ot, .int .i64 ty, .int .i64 pa, .string sep]] w fun e w' => ResS w w' (widR ⟨l, x⟩ ⟨4, id, wi, nm, ot, ty, pa, sep⟩) e ∧ Below w.heap.size w w' := by
  have HN := Lib.hid hn
  have HS := Lib.hid hs
  clear hn hs
  have B0 := Lib.hid (al3 w (.cells #[.slice A n c, .int .i64 x] 30) (.cells #[.int .i64 4, .int .i64 id, .int .i64 wi, .string nm, .string ot, .int .i64 ty, .int .i64 pa, .string sep] 24) (.cells #[.slice none 0 0, .int .i64 0] 30))
  have R0 := Lib.hid (CB.new2 w (.cells #[.slice A n c, .int .i64 x] 30) (.cells #[.int .i64 4, .int .i64 id, .int .i64 wi, .string nm, .string ot, .int .i64 ty, .int .i64 pa, .string sep] 24) 30 [.slice none 0 0, .int .i64 0])
  have zR0 := R0.out.lt
  go_enter Try.func15, Try.ntmps15
  obtain ⟨⟨⟨fs2, x2⟩, er⟩, hq⟩ : ∃ r, widR ⟨l, x⟩ ⟨4, id, wi, nm, ot, ty, pa, sep⟩ = r := ⟨_, rfl⟩
  rw [hq]
  have HQ := Lib.hid hq
  clear hq
  go_wp2_with (first | (go_at_call 37; refine (Rone_widen A n c x l id wi nm ot ty pa sep _ HN.out (HS.out.up B0.out) hl0 hx0 hx1 hnm hot hsep).mono ?_; rintro e w7 ⟨⟨A7, m7, c7, rfl, hm7, ho7⟩, hb7⟩; rw [HQ.out] at hm7 ho7; rw [HQ.out]; have R7 := Lib.hid (R0.out.up hb7); have B7 := Lib.hid (below_step B0.out B0.out.size hb7); have O7 := Lib.hid (ho7.low (b := w.heap.size) B0.out.size); have M7 := Lib.hid hm7; have zR7 := R7.out.lt; clear hb7 ho7 hm7) | ((with_reducible show wpList _ _ _ (Oper.mk none (.store _ _ _) _ _ _ _ :: _) _ _); refine wpList_store_cb rfl 30 (.tmp 4) (.tmp 23) rfl (w.heap.size + 1 + 1) [.slice A7 m7 c7, .int .i64 x2] rfl rfl 30 [.slice none 0 0, .int .i64 0] 2 (R7.out) sizeS rfl rfl (one_s _ _ _ _) ?_; intro wz hcz hgz hzz))
  refine bodyPost_ret (res_cell Try.results15 rfl rfl hcz Try.underlying30 sizeS rfl) rfl ⟨?_, below_grown B7.out hgz (by omega) (by omega)⟩
  exact ⟨A7, m7, c7, rfl, M7.out, O7.out.kept hgz (.inr (Own.ne O7.out R7.out (by decide)).symm)⟩

set_option maxHeartbeats 2000000 in
set_option maxRecDepth 20000 in
theorem RApply_mov (A : Option Addr) (n c : Nat) (x : Int) (l : List Fd) (id wi : Int) (nm ot : ByteArray) (ty pa : Int) (sep : ByteArray) (w : World) (hn : n = l.length) (hs : Fds w w.heap.size A l) (hl0 : n ≤ 1000) (hx0 : 0 ≤ x) (hx1 : x ≤ 2305843009213693952) (hnm : nm.size ≤ 9223372036854775807) (hot : ot.size ≤ 9223372036854775807) (hsep : sep.size ≤ 9223372036854775807) (hnl : AllN (fun s => s.size ≤ 9223372036854775807) l) :
    Calls Try.prog 15 #[.agg #[.slice A n c, .int .i64 x], .agg #[.int .i64 5, .int .i64 id, .int .i64 wi, .string nm, .string ot, .int .i64 ty, .int .i64 pa, .string sep]] w fun e w' => ResS w w' (moveR ⟨l, x⟩ ⟨5, id, wi, nm, ot, ty, pa, sep⟩) e ∧ Below w.heap.size w w' := by
  have HN := Lib.hid hn
  have HS := Lib.hid hs
  clear hn hs
  have B0 := Lib.hid (al3 w (.cells #[.slice A n c, .int .i64 x] 30) (.cells #[.int .i64 5, .int .i64 id, .int .i64 wi, .string nm, .string ot, .int .i64 ty, .int .i64 pa, .string sep] 24) (.cells #[.slice none 0 0, .int .i64 0] 30))
  have R0 := Lib.hid (CB.new2 w (.cells #[.slice A n c, .int .i64 x] 30) (.cells #[.int .i64 5, .int .i64 id, .int .i64 wi, .string nm, .string ot, .int .i64 ty, .int .i64 pa, .string sep] 24) 30 [.slice none 0 0, .int .i64 0])
  have zR0 := R0.out.lt
  go_enter Try.func15, Try.ntmps15
  obtain ⟨⟨⟨fs2, x2⟩, er⟩, hq⟩ : ∃ r, moveR ⟨l, x⟩ ⟨5, id, wi, nm, ot, ty, pa, sep⟩ = r := ⟨_, rfl⟩
  rw [hq]
  have HQ := Lib.hid hq
  clear hq
  go_wp2_with (first | (go_at_call 37; refine (Rone_move A n c x l id wi nm ot ty pa sep _ HN.out (HS.out.up B0.out) hl0 hx0 hx1 hnm hot hsep (alln_fd hnl id)).mono ?_; rintro e w7 ⟨⟨A7, m7, c7, rfl, hm7, ho7⟩, hb7⟩; rw [HQ.out] at hm7 ho7; rw [HQ.out]; have R7 := Lib.hid (R0.out.up hb7); have B7 := Lib.hid (below_step B0.out B0.out.size hb7); have O7 := Lib.hid (ho7.low (b := w.heap.size) B0.out.size); have M7 := Lib.hid hm7; have zR7 := R7.out.lt; clear hb7 ho7 hm7) | ((with_reducible show wpList _ _ _ (Oper.mk none (.store _ _ _) _ _ _ _ :: _) _ _); refine wpList_store_cb rfl 30 (.tmp 4) (.tmp 23) rfl (w.heap.size + 1 + 1) [.slice A7 m7 c7, .int .i64 x2] rfl rfl 30 [.slice none 0 0, .int .i64 0] 2 (R7.out) sizeS rfl rfl (one_s _ _ _ _) ?_; intro wz hcz hgz hzz))
  refine bodyPost_ret (res_cell Try.results15 rfl rfl hcz Try.underlying30 sizeS rfl) rfl ⟨?_, below_grown B7.out hgz (by omega) (by omega)⟩
  exact ⟨A7, m7, c7, rfl, M7.out, O7.out.kept hgz (.inr (Own.ne O7.out R7.out (by decide)).symm)⟩

set_option maxHeartbeats 2000000 in
set_option maxRecDepth 20000 in
theorem RApply_spl (A : Option Addr) (n c : Nat) (x : Int) (l : List Fd) (id wi : Int) (nm ot : ByteArray) (ty pa : Int) (sep : ByteArray) (w : World) (hn : n = l.length) (hs : Fds w w.heap.size A l) (hl0 : n ≤ 1000) (hx0 : 0 ≤ x) (hx1 : x ≤ 2305843009213693952) (hnm : nm.size ≤ 9223372036854775807) (hot : ot.size ≤ 9223372036854775807) (hsep : sep.size ≤ 9223372036854775807) :
    Calls Try.prog 15 #[.agg #[.slice A n c, .int .i64 x], .agg #[.int .i64 6, .int .i64 id, .int .i64 wi, .string nm, .string ot, .int .i64 ty, .int .i64 pa, .string sep]] w fun e w' => ResS w w' (splitR ⟨l, x⟩ ⟨6, id, wi, nm, ot, ty, pa, sep⟩) e ∧ Below w.heap.size w w' := by
  have HN := Lib.hid hn
  have HS := Lib.hid hs
  clear hn hs
  have B0 := Lib.hid (al3 w (.cells #[.slice A n c, .int .i64 x] 30) (.cells #[.int .i64 6, .int .i64 id, .int .i64 wi, .string nm, .string ot, .int .i64 ty, .int .i64 pa, .string sep] 24) (.cells #[.slice none 0 0, .int .i64 0] 30))
  have R0 := Lib.hid (CB.new2 w (.cells #[.slice A n c, .int .i64 x] 30) (.cells #[.int .i64 6, .int .i64 id, .int .i64 wi, .string nm, .string ot, .int .i64 ty, .int .i64 pa, .string sep] 24) 30 [.slice none 0 0, .int .i64 0])
  have zR0 := R0.out.lt
  go_enter Try.func15, Try.ntmps15
  obtain ⟨⟨⟨fs2, x2⟩, er⟩, hq⟩ : ∃ r, splitR ⟨l, x⟩ ⟨6, id, wi, nm, ot, ty, pa, sep⟩ = r := ⟨_, rfl⟩
  rw [hq]
  have HQ := Lib.hid hq
  clear hq
  go_wp2_with (first | (go_at_call 38; refine (Rsplit_any A n c x l 6 id wi nm ot ty pa sep _ HN.out (HS.out.up B0.out) hl0 hx0 hx1 hnm hot hsep).mono ?_; rintro e w7 ⟨⟨A7, m7, c7, rfl, hm7, ho7⟩, hb7⟩; rw [HQ.out] at hm7 ho7; rw [HQ.out]; have R7 := Lib.hid (R0.out.up hb7); have B7 := Lib.hid (below_step B0.out B0.out.size hb7); have O7 := Lib.hid (ho7.low (b := w.heap.size) B0.out.size); have M7 := Lib.hid hm7; have zR7 := R7.out.lt; clear hb7 ho7 hm7) | ((with_reducible show wpList _ _ _ (Oper.mk none (.store _ _ _) _ _ _ _ :: _) _ _); refine wpList_store_cb rfl 30 (.tmp 4) (.tmp 30) rfl (w.heap.size + 1 + 1) [.slice A7 m7 c7, .int .i64 x2] rfl rfl 30 [.slice none 0 0, .int .i64 0] 2 (R7.out) sizeS rfl rfl (one_s _ _ _ _) ?_; intro wz hcz hgz hzz))
  refine bodyPost_ret (res_cell Try.results15 rfl rfl hcz Try.underlying30 sizeS rfl) rfl ⟨?_, below_grown B7.out hgz (by omega) (by omega)⟩
  exact ⟨A7, m7, c7, rfl, M7.out, O7.out.kept hgz (.inr (Own.ne O7.out R7.out (by decide)).symm)⟩

set_option maxHeartbeats 2000000 in
set_option maxRecDepth 20000 in
theorem RApply_joi (A : Option Addr) (n c : Nat) (x : Int) (l : List Fd) (id wi : Int) (nm ot : ByteArray) (ty pa : Int) (sep : ByteArray) (w : World) (hn : n = l.length) (hs : Fds w w.heap.size A l) (hl0 : n ≤ 1000) (hx0 : 0 ≤ x) (hx1 : x ≤ 2305843009213693952) (hnm : nm.size ≤ 9223372036854775807) (hot : ot.size ≤ 9223372036854775807) (hsep : sep.size ≤ 9223372036854775807) :
    Calls Try.prog 15 #[.agg #[.slice A n c, .int .i64 x], .agg #[.int .i64 7, .int .i64 id, .int .i64 wi, .string nm, .string ot, .int .i64 ty, .int .i64 pa, .string sep]] w fun e w' => ResS w w' (joinR ⟨l, x⟩ ⟨7, id, wi, nm, ot, ty, pa, sep⟩) e ∧ Below w.heap.size w w' := by
  have HN := Lib.hid hn
  have HS := Lib.hid hs
  clear hn hs
  have B0 := Lib.hid (al3 w (.cells #[.slice A n c, .int .i64 x] 30) (.cells #[.int .i64 7, .int .i64 id, .int .i64 wi, .string nm, .string ot, .int .i64 ty, .int .i64 pa, .string sep] 24) (.cells #[.slice none 0 0, .int .i64 0] 30))
  have R0 := Lib.hid (CB.new2 w (.cells #[.slice A n c, .int .i64 x] 30) (.cells #[.int .i64 7, .int .i64 id, .int .i64 wi, .string nm, .string ot, .int .i64 ty, .int .i64 pa, .string sep] 24) 30 [.slice none 0 0, .int .i64 0])
  have zR0 := R0.out.lt
  go_enter Try.func15, Try.ntmps15
  obtain ⟨⟨⟨fs2, x2⟩, er⟩, hq⟩ : ∃ r, joinR ⟨l, x⟩ ⟨7, id, wi, nm, ot, ty, pa, sep⟩ = r := ⟨_, rfl⟩
  rw [hq]
  have HQ := Lib.hid hq
  clear hq
  go_wp2_with (first | (go_at_call 39; refine (Rjoin_any A n c x l 7 id wi nm ot ty pa sep _ HN.out (HS.out.up B0.out) hl0 hx0 hx1 hnm hot hsep).mono ?_; rintro e w7 ⟨⟨A7, m7, c7, rfl, hm7, ho7⟩, hb7⟩; rw [HQ.out] at hm7 ho7; rw [HQ.out]; have R7 := Lib.hid (R0.out.up hb7); have B7 := Lib.hid (below_step B0.out B0.out.size hb7); have O7 := Lib.hid (ho7.low (b := w.heap.size) B0.out.size); have M7 := Lib.hid hm7; have zR7 := R7.out.lt; clear hb7 ho7 hm7) | ((with_reducible show wpList _ _ _ (Oper.mk none (.store _ _ _) _ _ _ _ :: _) _ _); refine wpList_store_cb rfl 30 (.tmp 4) (.tmp 37) rfl (w.heap.size + 1 + 1) [.slice A7 m7 c7, .int .i64 x2] rfl rfl 30 [.slice none 0 0, .int .i64 0] 2 (R7.out) sizeS rfl rfl (one_s _ _ _ _) ?_; intro wz hcz hgz hzz))
  refine bodyPost_ret (res_cell Try.results15 rfl rfl hcz Try.underlying30 sizeS rfl) rfl ⟨?_, below_grown B7.out hgz (by omega) (by omega)⟩
  exact ⟨A7, m7, c7, rfl, M7.out, O7.out.kept hgz (.inr (Own.ne O7.out R7.out (by decide)).symm)⟩

set_option maxHeartbeats 2000000 in
set_option maxRecDepth 20000 in
theorem RApply_none (A : Option Addr) (n c : Nat) (x : Int) (l : List Fd) (kd id wi : Int) (nm ot : ByteArray) (ty pa : Int) (sep : ByteArray) (w : World) (hn : n = l.length) (hs : Fds w w.heap.size A l) (_hl0 : n ≤ 1000) (_hx0 : 0 ≤ x) (_hx1 : x ≤ 2305843009213693952) (_hnm : nm.size ≤ 9223372036854775807) (_hot : ot.size ≤ 9223372036854775807) (_hsep : sep.size ≤ 9223372036854775807) (hk : ¬ (1 ≤ kd ∧ kd ≤ 7)) :
    Calls Try.prog 15 #[.agg #[.slice A n c, .int .i64 x], .agg #[.int .i64 kd, .int .i64 id, .int .i64 wi, .string nm, .string ot, .int .i64 ty, .int .i64 pa, .string sep]] w fun e w' => ResS w w' (Sc.zero, 1) e ∧ Below w.heap.size w w' := by
  have k1 : (kd == 1) = false := by simp; omega
  have k2 : (kd == 2) = false := by simp; omega
  have k3 : (kd == 3) = false := by simp; omega
  have k4 : (kd == 4) = false := by simp; omega
  have k5 : (kd == 5) = false := by simp; omega
  have k6 : (kd == 6) = false := by simp; omega
  have k7 : (kd == 7) = false := by simp; omega
  clear hk
  have HN := Lib.hid hn
  have HS := Lib.hid hs
  clear hn hs
  have B0 := Lib.hid (al3 w (.cells #[.slice A n c, .int .i64 x] 30) (.cells #[.int .i64 kd, .int .i64 id, .int .i64 wi, .string nm, .string ot, .int .i64 ty, .int .i64 pa, .string sep] 24) (.cells #[.slice none 0 0, .int .i64 0] 30))
  have R0 := Lib.hid (CB.new2 w (.cells #[.slice A n c, .int .i64 x] 30) (.cells #[.int .i64 kd, .int .i64 id, .int .i64 wi, .string nm, .string ot, .int .i64 ty, .int .i64 pa, .string sep] 24) 30 [.slice none 0 0, .int .i64 0])
  have zR0 := R0.out.lt
  go_enter Try.func15, Try.ntmps15
  go_wp2_with (first | ((with_reducible show wpList _ _ _ (Oper.mk none (.store _ _ _) _ _ _ _ :: _) _ _); refine wpList_store_cb rfl 30 (.tmp 4) (.tmp 39) rfl (w.heap.size + 1 + 1) [.slice none 0 0, .int .i64 0] rfl rfl 30 [.slice none 0 0, .int .i64 0] 2 (R0.out) sizeS rfl rfl (one_s _ _ _ _) ?_; intro wz hcz hgz hzz))
  refine bodyPost_ret (res_cell Try.results15 rfl rfl hcz Try.underlying30 sizeS rfl) rfl ⟨?_, below_grown B0.out hgz B0.out.size (by omega)⟩
  exact res_zero _ _ _
theorem RApply_any (A : Option Addr) (n c : Nat) (x : Int) (l : List Fd) (kd id wi : Int) (nm ot : ByteArray) (ty pa : Int) (sep : ByteArray) (w : World) (hn : n = l.length) (hs : Fds w w.heap.size A l) (hl0 : n ≤ 1000) (hx0 : 0 ≤ x) (hx1 : x ≤ 2305843009213693952) (hnm : nm.size ≤ 9223372036854775807) (hot : ot.size ≤ 9223372036854775807) (hsep : sep.size ≤ 9223372036854775807) (hnl : AllN (fun s => s.size ≤ 9223372036854775807) l) :
    Calls Try.prog 15 #[.agg #[.slice A n c, .int .i64 x], .agg #[.int .i64 kd, .int .i64 id, .int .i64 wi, .string nm, .string ot, .int .i64 ty, .int .i64 pa, .string sep]] w fun e w' => ResS w w' (applyR ⟨l, x⟩ ⟨kd, id, wi, nm, ot, ty, pa, sep⟩) e ∧ Below w.heap.size w w' := by
  by_cases hk : 1 ≤ kd ∧ kd ≤ 7
  · have h : kd = 1 ∨ kd = 2 ∨ kd = 3 ∨ kd = 4 ∨ kd = 5 ∨ kd = 6 ∨ kd = 7 := by omega
    rcases h with rfl | rfl | rfl | rfl | rfl | rfl | rfl
    · exact RApply_add A n c x l id wi nm ot ty pa sep w hn hs hl0 hx0 hx1 hnm hot hsep
    · exact RApply_drop A n c x l id wi nm ot ty pa sep w hn hs hl0 hx0 hx1 hnm hot hsep
    · exact RApply_ren A n c x l id wi nm ot ty pa sep w hn hs hl0 hx0 hx1 hnm hot hsep
    · exact RApply_wid A n c x l id wi nm ot ty pa sep w hn hs hl0 hx0 hx1 hnm hot hsep
    · exact RApply_mov A n c x l id wi nm ot ty pa sep w hn hs hl0 hx0 hx1 hnm hot hsep hnl
    · exact RApply_spl A n c x l id wi nm ot ty pa sep w hn hs hl0 hx0 hx1 hnm hot hsep
    · exact RApply_joi A n c x l id wi nm ot ty pa sep w hn hs hl0 hx0 hx1 hnm hot hsep
  · have h := RApply_none A n c x l kd id wi nm ot ty pa sep w hn hs hl0 hx0 hx1 hnm hot hsep hk
    have e : applyR ⟨l, x⟩ ⟨kd, id, wi, nm, ot, ty, pa, sep⟩ = (Sc.zero, 1) := by
      unfold applyR
      simp only
      rw [if_neg (by omega), if_neg (by omega), if_neg (by omega), if_neg (by omega), if_neg (by omega), if_neg (by omega), if_neg (by omega)]
    rw [e]
    exact h
end Go.Proofs.Ytpgbpfdedpppeaa
