/-
  The encodings of an element and of a predicate up to its Kids, by contracts.
-/
import Derived.Test.YtkeneoinfegodaaWf
import Derived.Test.YtkeneoinfegodaaWrite
namespace Go.Proofs.Ytkeneoinfegodaa
open Go.RowKit Go.Lib

def svar (n : Int) : List UInt8 := uvarint (zigzag n)
def elB (v : Va) : List UInt8 := [if v.b = true then 1 else 0] ++ svar v.n ++ counted v.s.data.toList
def headB (p : Pr) : List UInt8 :=
  [UInt8.ofNat p.op.toNat] ++ (if p.op = 1 then svar p.id ++ svar p.lo ++ svar p.hi else if p.op = 2 then svar p.id ++ uvarint p.set.length ++ (p.set.map elB).flatten else if p.op = 3 then svar p.id ++ counted p.tx.data.toList else if p.op = 4 then svar p.id else if p.op = 5 ∨ p.op = 6 ∨ p.op = 7 then uvarint p.kids.length else [])
theorem shows1 (W : World) (c : UInt8) (z : Int) (hz : z = (c.toNat : Int)) : Shows (W.alloc (.cells #[.int .u8 z] 5)) (W.alloc (.cells #[.int .u8 z] 5)).heap.size (some ⟨W.heap.size, 0, none⟩) [c] := fun _ =>
  ⟨W.heap.size, 0, rfl, by rw [asz]; omega, fun i d hi => by
    match i, hi with
    | 0, hi =>
      injection hi with hi
      subst hi
      rw [← hz]
      exact (CB.new W 5 [.int .u8 z]).cell 0 rfl⟩
theorem row_low {w : World} {b b' g c : Nat} {l : List UInt8} (h : Row w b g c l) (hb : b' ≤ b) : Row w b' g c l :=
  ⟨h.1, h.2.imp id fun ⟨g, cap, cur, h1, h2, h3⟩ => ⟨g, cap, cur, h1, by omega, h3⟩⟩
theorem svar_len {n : Int} (h0 : -9223372036854775808 ≤ n) (h1 : n ≤ 9223372036854775807) : (svar n).length ≤ 10 := uvarint_length64 (Num.zigzag_u64 n h0 h1)
def RetB (w w' : World) (l : List UInt8) (e : Ending) : Prop := ∃ g c, e = .returned (.slice (some ⟨g, 0, none⟩) l.length c) ∧ Row w' w.heap.size g c l
set_option maxHeartbeats 8000000 in
set_option maxRecDepth 20000 in
theorem element_any (vb : Bool) (vn : Int) (vs : ByteArray) (w : World) (hlo : -9223372036854775808 ≤ vn) (hhi : vn ≤ 9223372036854775807) (hs : vs.size ≤ 1000000) :
    Calls Try.prog 50 #[.agg #[.bool vb, .int .i64 vn, .string vs]] w fun e w' => RetB w w' (elB ⟨vb, vn, vs⟩) e ∧ Below w.heap.size w w' := by
  have HSV := Li (svar_len hlo hhi)
  have hz : True := trivial
  cases vb with
  | true =>
    show Calls Try.prog 50 #[.agg #[.bool true, .int .i64 vn, .string vs]] w fun e w' => RetB w w' (([1] ++ uvarint (zigzag vn)) ++ counted vs.data.toList) e ∧ Below w.heap.size w w'
    clear hz
    have B0 := Li (al2 w (.cells #[.bool true, .int .i64 vn, .string vs] 37) (.cells #[.int .u8 1] 5))
    have P0 := Li ((CB.new w 37 [.bool true, .int .i64 vn, .string vs]).alloc (.cells #[.int .u8 1] 5))
    have SH := Li (show Shows _ _ (some ⟨w.heap.size + 1, 0, none⟩) [1] from by have h := shows1 (w.alloc (.cells #[.bool true, .int .i64 vn, .string vs] 37)) 1 1 rfl; rwa [show (w.alloc (.cells #[.bool true, .int .i64 vn, .string vs] 37)).heap.size = w.heap.size + 1 from asz _ _] at h)
    go_enter Try.func50, Try.ntmps50
    go_upto_region 4 with fail
    have PP := Li (show (fun w' : World => CB w' w.heap.size 37 [.bool true, .int .i64 vn, .string vs] ∧ Below w.heap.size w w') _ from ⟨P0.out, B0.out⟩)
    generalize (w.alloc (.cells #[.bool true, .int .i64 vn, .string vs] 37)).alloc (.cells #[.int .u8 1] 5) = W0 at *
    clear P0 B0
    replace PP : Hid ((fun w' : World => CB w' w.heap.size 37 [.bool true, .int .i64 vn, .string vs] ∧ Below w.heap.size w w') W0.drew) := Li ⟨PP.out.1.dr, below_drewN PP.out.2 1⟩
    replace SH := Li (show Shows W0.drew W0.drew.heap.size (some ⟨w.heap.size + 1, 0, none⟩) [1] from SH.out)
    refine wp_region_held_drew (S := fun w' => Hid (CB w' w.heap.size 37 [.bool true, .int .i64 vn, .string vs] ∧ Below w.heap.size w w')) (by kernel_rfl) PP (fun hHeld => ?_)
    revert hHeld PP SH
    generalize W0.drew = X0
    intro PP SH hHeld
    refine htk 0 ?_
    refine htk 1 ?_
    refine htf 2 (fun _ h => And.intro h.out.1.c3 h.out.1.lt) ?_
    refine htk 4 ?_
    refine htf 5 (fun _ h => And.intro h.out.1.c3 h.out.1.lt) ?_
    refine rd1 3 fun KK hK => ?_
    go_simp
    go_at_call 48
    refine (S_any (some ⟨w.heap.size + 1, 0, none⟩) 1 [1] vn _ SH.out (by simp) hlo hhi).mono ?_
    rintro e v3 ⟨g3, c3, rfl, hr3, hb3⟩
    have SH3 := Li hr3.shows.2
    replace PP : Hid ((fun w' : World => CB w' w.heap.size 37 [.bool true, .int .i64 vn, .string vs] ∧ Below w.heap.size w w') _) := Li ⟨PP.out.1.up hb3, below_step PP.out.2 PP.out.2.size hb3⟩
    clear hb3 hr3
    go_wp2_with fail
    refine hK.out _ _ (PP) (fun hHeld => ?_)
    clear hK KK
    try simp only [pnz]
    refine rd1 6 fun KK hK => ?_
    go_simp
    go_at_call 51
    refine (Text_any (some ⟨g3, 0, none⟩) c3 ([1] ++ uvarint (zigzag vn)) vs _ SH3.out (by have := HSV.out; unfold svar at this; simp only [List.length_append, List.length_cons, List.length_nil]; omega)).mono ?_
    rintro e v6 ⟨g6, c6, rfl, hr6, hb6⟩
    have RR := Li (row_low hr6 PP.out.2.size)
    replace PP : Hid ((fun w' : World => CB w' w.heap.size 37 [.bool true, .int .i64 vn, .string vs] ∧ Below w.heap.size w w') _) := Li ⟨PP.out.1.up hb6, below_step PP.out.2 PP.out.2.size hb6⟩
    clear hb6 hr6
    go_wp2_with fail
    refine hK.out _ _ (PP) (fun hHeld => ?_)
    clear hK KK
    try simp only [pnz]
    refine htk 7 ?_
    refine wpAnyH_done (by kernel_rfl) ?_ _
    go_wp2_with fail
    go_ret
    exact ⟨⟨g6, c6, ret_slice (by simp only [List.length_append, List.length_cons, List.length_nil] <;> omega), RR.out⟩, PP.out.2⟩
  | false =>
    show Calls Try.prog 50 #[.agg #[.bool false, .int .i64 vn, .string vs]] w fun e w' => RetB w w' (([0] ++ uvarint (zigzag vn)) ++ counted vs.data.toList) e ∧ Below w.heap.size w w'
    clear hz
    have B0 := Li (al2 w (.cells #[.bool false, .int .i64 vn, .string vs] 37) (.cells #[.int .u8 0] 5))
    have P0 := Li ((CB.new w 37 [.bool false, .int .i64 vn, .string vs]).alloc (.cells #[.int .u8 0] 5))
    have SH := Li (show Shows _ _ (some ⟨w.heap.size + 1, 0, none⟩) [0] from by have h := shows1 (w.alloc (.cells #[.bool false, .int .i64 vn, .string vs] 37)) 0 0 rfl; rwa [show (w.alloc (.cells #[.bool false, .int .i64 vn, .string vs] 37)).heap.size = w.heap.size + 1 from asz _ _] at h)
    go_enter Try.func50, Try.ntmps50
    go_upto_region 4 with fail
    have PP := Li (show (fun w' : World => CB w' w.heap.size 37 [.bool false, .int .i64 vn, .string vs] ∧ Below w.heap.size w w') _ from ⟨P0.out, B0.out⟩)
    generalize (w.alloc (.cells #[.bool false, .int .i64 vn, .string vs] 37)).alloc (.cells #[.int .u8 0] 5) = W0 at *
    clear P0 B0
    replace PP : Hid ((fun w' : World => CB w' w.heap.size 37 [.bool false, .int .i64 vn, .string vs] ∧ Below w.heap.size w w') W0.drew) := Li ⟨PP.out.1.dr, below_drewN PP.out.2 1⟩
    replace SH := Li (show Shows W0.drew W0.drew.heap.size (some ⟨w.heap.size + 1, 0, none⟩) [0] from SH.out)
    refine wp_region_held_drew (S := fun w' => Hid (CB w' w.heap.size 37 [.bool false, .int .i64 vn, .string vs] ∧ Below w.heap.size w w')) (by kernel_rfl) PP (fun hHeld => ?_)
    revert hHeld PP SH
    generalize W0.drew = X0
    intro PP SH hHeld
    refine htk 0 ?_
    refine htk 1 ?_
    refine htf 2 (fun _ h => And.intro h.out.1.c3 h.out.1.lt) ?_
    refine htk 4 ?_
    refine htf 5 (fun _ h => And.intro h.out.1.c3 h.out.1.lt) ?_
    refine rd1 3 fun KK hK => ?_
    go_simp
    go_at_call 48
    refine (S_any (some ⟨w.heap.size + 1, 0, none⟩) 1 [0] vn _ SH.out (by simp) hlo hhi).mono ?_
    rintro e v3 ⟨g3, c3, rfl, hr3, hb3⟩
    have SH3 := Li hr3.shows.2
    replace PP : Hid ((fun w' : World => CB w' w.heap.size 37 [.bool false, .int .i64 vn, .string vs] ∧ Below w.heap.size w w') _) := Li ⟨PP.out.1.up hb3, below_step PP.out.2 PP.out.2.size hb3⟩
    clear hb3 hr3
    go_wp2_with fail
    refine hK.out _ _ (PP) (fun hHeld => ?_)
    clear hK KK
    try simp only [pnz]
    refine rd1 6 fun KK hK => ?_
    go_simp
    go_at_call 51
    refine (Text_any (some ⟨g3, 0, none⟩) c3 ([0] ++ uvarint (zigzag vn)) vs _ SH3.out (by have := HSV.out; unfold svar at this; simp only [List.length_append, List.length_cons, List.length_nil]; omega)).mono ?_
    rintro e v6 ⟨g6, c6, rfl, hr6, hb6⟩
    have RR := Li (row_low hr6 PP.out.2.size)
    replace PP : Hid ((fun w' : World => CB w' w.heap.size 37 [.bool false, .int .i64 vn, .string vs] ∧ Below w.heap.size w w') _) := Li ⟨PP.out.1.up hb6, below_step PP.out.2 PP.out.2.size hb6⟩
    clear hb6 hr6
    go_wp2_with fail
    refine hK.out _ _ (PP) (fun hHeld => ?_)
    clear hK KK
    try simp only [pnz]
    refine htk 7 ?_
    refine wpAnyH_done (by kernel_rfl) ?_ _
    go_wp2_with fail
    go_ret
    exact ⟨⟨g6, c6, ret_slice (by simp only [List.length_append, List.length_cons, List.length_nil] <;> omega), RR.out⟩, PP.out.2⟩
theorem row1 (W : World) (c : UInt8) (z : Int) (hz : z = (c.toNat : Int)) : Row (W.alloc (.cells #[.int .u8 z] 5)) W.heap.size W.heap.size 1 [c] := by
  subst hz
  have h : Blk (W.alloc (.cells #[.int .u8 (c.toNat : Int)] 5)) W.heap.size [c] := World.alloc_heap_new W _
  exact h.owns (n := 1) (by simp) (by show 1 ≤ maxLen; decide) (Nat.le_refl _)
theorem head0_any (id lo hi : Int) (S : Option Addr) (n sc : Nat) (tx : ByteArray) (K : Option Addr) (m kc : Nat) (w : World) : Calls Try.prog 36 #[.agg #[.int .i64 0, .int .i64 id, .int .i64 lo, .int .i64 hi, .slice S n sc, .string tx, .slice K m kc]] w fun e w' => RetB w w' [0] e ∧ Below w.heap.size w w' := by
  have B0 := Li (al2 w (.cells #[.int .i64 0, .int .i64 id, .int .i64 lo, .int .i64 hi, .slice S n sc, .string tx, .slice K m kc] 25) (.cells #[.int .u8 0] 5))
  have P0 := Li ((CB.new w 25 [.int .i64 0, .int .i64 id, .int .i64 lo, .int .i64 hi, .slice S n sc, .string tx, .slice K m kc]).alloc (.cells #[.int .u8 0] 5))
  have SH := Li (show Shows _ _ (some ⟨w.heap.size + 1, 0, none⟩) [0] from by have h := shows1 (w.alloc (.cells #[.int .i64 0, .int .i64 id, .int .i64 lo, .int .i64 hi, .slice S n sc, .string tx, .slice K m kc] 25)) 0 0 rfl; rwa [show (w.alloc (.cells #[.int .i64 0, .int .i64 id, .int .i64 lo, .int .i64 hi, .slice S n sc, .string tx, .slice K m kc] 25)).heap.size = w.heap.size + 1 from asz _ _] at h)
  have RO := Li (show Row _ (w.heap.size + 1) (w.heap.size + 1) 1 [0] from by have h := row1 (w.alloc (.cells #[.int .i64 0, .int .i64 id, .int .i64 lo, .int .i64 hi, .slice S n sc, .string tx, .slice K m kc] 25)) 0 0 rfl; rwa [show (w.alloc (.cells #[.int .i64 0, .int .i64 id, .int .i64 lo, .int .i64 hi, .slice S n sc, .string tx, .slice K m kc] 25)).heap.size = w.heap.size + 1 from asz _ _] at h)
  go_enter Try.func36, Try.ntmps36
  go_wp2
  go_ret
  exact ⟨⟨w.heap.size + 1, 1, rfl, row_low RO.out (by omega)⟩, B0.out⟩
set_option maxHeartbeats 8000000 in
set_option maxRecDepth 20000 in
theorem head1_any (id lo hi : Int) (S : Option Addr) (n sc : Nat) (tx : ByteArray) (K : Option Addr) (m kc : Nat) (w : World) (hi0 : -9223372036854775808 ≤ id) (hi1 : id ≤ 9223372036854775807) (hl0 : -9223372036854775808 ≤ lo) (hl1 : lo ≤ 9223372036854775807) (hh0 : -9223372036854775808 ≤ hi) (hh1 : hi ≤ 9223372036854775807) : Calls Try.prog 36 #[.agg #[.int .i64 1, .int .i64 id, .int .i64 lo, .int .i64 hi, .slice S n sc, .string tx, .slice K m kc]] w fun e w' => RetB w w' ([1] ++ uvarint (zigzag id) ++ uvarint (zigzag lo) ++ uvarint (zigzag hi)) e ∧ Below w.heap.size w w' := by
  obtain ⟨Z, hZ⟩ : ∃ Z, [1] ++ uvarint (zigzag id) ++ uvarint (zigzag lo) ++ uvarint (zigzag hi) = Z := ⟨_, rfl⟩
  rw [hZ]
  have HZ := Li hZ
  clear hZ
  have HB := Li (And.intro (uvarint_length64 (Num.zigzag_u64 id hi0 hi1)) (And.intro (uvarint_length64 (Num.zigzag_u64 lo hl0 hl1)) (uvarint_length64 (Num.zigzag_u64 hi hh0 hh1))))
  have B0 := Li (al2 w (.cells #[.int .i64 1, .int .i64 id, .int .i64 lo, .int .i64 hi, .slice S n sc, .string tx, .slice K m kc] 25) (.cells #[.int .u8 1] 5))
  have P0 := Li ((CB.new w 25 [.int .i64 1, .int .i64 id, .int .i64 lo, .int .i64 hi, .slice S n sc, .string tx, .slice K m kc]).alloc (.cells #[.int .u8 1] 5))
  have SH := Li (show Shows _ _ (some ⟨w.heap.size + 1, 0, none⟩) [1] from by have h := shows1 (w.alloc (.cells #[.int .i64 1, .int .i64 id, .int .i64 lo, .int .i64 hi, .slice S n sc, .string tx, .slice K m kc] 25)) 1 1 rfl; rwa [show (w.alloc (.cells #[.int .i64 1, .int .i64 id, .int .i64 lo, .int .i64 hi, .slice S n sc, .string tx, .slice K m kc] 25)).heap.size = w.heap.size + 1 from asz _ _] at h)
  go_enter Try.func36, Try.ntmps36
  go_upto_region 4 with fail
  have PP := Li (show (fun w' : World => CB w' w.heap.size 25 [.int .i64 1, .int .i64 id, .int .i64 lo, .int .i64 hi, .slice S n sc, .string tx, .slice K m kc] ∧ Below w.heap.size w w') _ from ⟨P0.out, B0.out⟩)
  generalize (w.alloc (.cells #[.int .i64 1, .int .i64 id, .int .i64 lo, .int .i64 hi, .slice S n sc, .string tx, .slice K m kc] 25)).alloc (.cells #[.int .u8 1] 5) = W0 at *
  clear P0 B0
  replace PP : Hid ((fun w' : World => CB w' w.heap.size 25 [.int .i64 1, .int .i64 id, .int .i64 lo, .int .i64 hi, .slice S n sc, .string tx, .slice K m kc] ∧ Below w.heap.size w w') W0.drew) := Li ⟨PP.out.1.dr, below_drewN PP.out.2 1⟩
  replace SH := Li (show Shows W0.drew W0.drew.heap.size (some ⟨w.heap.size + 1, 0, none⟩) [1] from SH.out)
  refine wp_region_held_drew (S := fun w' => Hid (CB w' w.heap.size 25 [.int .i64 1, .int .i64 id, .int .i64 lo, .int .i64 hi, .slice S n sc, .string tx, .slice K m kc] ∧ Below w.heap.size w w')) (by kernel_rfl) PP (fun hHeld => ?_)
  revert hHeld PP SH
  generalize W0.drew = X0
  intro PP SH hHeld
  refine htk 0 ?_
  refine htk 1 ?_
  refine htf 2 (fun _ h => And.intro h.out.1.c7 h.out.1.lt) ?_
  refine htk 4 ?_
  refine htf 5 (fun _ h => And.intro h.out.1.c7 h.out.1.lt) ?_
  refine htk 7 ?_
  refine htf 8 (fun _ h => And.intro h.out.1.c7 h.out.1.lt) ?_
  refine rd1 3 fun KK hK => ?_
  go_simp
  go_at_call 48
  refine (S_any (some ⟨w.heap.size + 1, 0, none⟩) 1 ([1]) id _ SH.out (by simp) hi0 hi1).mono ?_
  rintro e v3 ⟨g1, c1, rfl, hr, hb⟩
  generalize hl : ([1] ++ uvarint (zigzag id)) = l1 at hr ⊢
  have HL1 := Li hl
  have SH1 := Li hr.shows.2
  have RR1 := Li (row_low hr PP.out.2.size)
  clear hr hl
  replace PP : Hid ((fun w' : World => CB w' w.heap.size 25 [.int .i64 1, .int .i64 id, .int .i64 lo, .int .i64 hi, .slice S n sc, .string tx, .slice K m kc] ∧ Below w.heap.size w w') _) := Li ⟨PP.out.1.up hb, below_step PP.out.2 PP.out.2.size hb⟩
  clear hb
  go_wp2_with fail
  refine hK.out _ _ (PP) (fun hHeld => ?_)
  clear hK KK
  try simp only [pnz]
  refine rd1 6 fun KK hK => ?_
  go_simp
  go_at_call 48
  refine (S_any (some ⟨g1, 0, none⟩) c1 (l1) lo _ SH1.out (by have := HB.out; rw [← HL1.out]; simp only [List.length_append, List.length_cons, List.length_nil]; omega) hl0 hl1).mono ?_
  rintro e v6 ⟨g2, c2, rfl, hr, hb⟩
  generalize hl : (l1 ++ uvarint (zigzag lo)) = l2 at hr ⊢
  have HL2 := Li hl
  have SH2 := Li hr.shows.2
  have RR2 := Li (row_low hr PP.out.2.size)
  clear hr hl
  replace PP : Hid ((fun w' : World => CB w' w.heap.size 25 [.int .i64 1, .int .i64 id, .int .i64 lo, .int .i64 hi, .slice S n sc, .string tx, .slice K m kc] ∧ Below w.heap.size w w') _) := Li ⟨PP.out.1.up hb, below_step PP.out.2 PP.out.2.size hb⟩
  clear hb
  go_wp2_with fail
  refine hK.out _ _ (PP) (fun hHeld => ?_)
  clear hK KK
  try simp only [pnz]
  refine rd1 9 fun KK hK => ?_
  go_simp
  go_at_call 48
  refine (S_any (some ⟨g2, 0, none⟩) c2 (l2) hi _ SH2.out (by have := HB.out; rw [← HL2.out, ← HL1.out]; simp only [List.length_append, List.length_cons, List.length_nil]; omega) hh0 hh1).mono ?_
  rintro e v9 ⟨g3, c3, rfl, hr, hb⟩
  generalize hl : (l2 ++ uvarint (zigzag hi)) = l3 at hr ⊢
  have HL3 := Li hl
  have SH3 := Li hr.shows.2
  have RR3 := Li (row_low hr PP.out.2.size)
  clear hr hl
  replace PP : Hid ((fun w' : World => CB w' w.heap.size 25 [.int .i64 1, .int .i64 id, .int .i64 lo, .int .i64 hi, .slice S n sc, .string tx, .slice K m kc] ∧ Below w.heap.size w w') _) := Li ⟨PP.out.1.up hb, below_step PP.out.2 PP.out.2.size hb⟩
  clear hb
  go_wp2_with fail
  refine hK.out _ _ (PP) (fun hHeld => ?_)
  clear hK KK
  try simp only [pnz]
  refine htk 10 ?_
  refine wpAnyH_done (by kernel_rfl) ?_ _
  go_wp2_with fail
  go_ret
  have E : l3 = Z := by rw [← HZ.out, HL1.out, HL2.out, HL3.out]
  rw [← E]
  exact ⟨⟨g3, c3, rfl, RR3.out⟩, PP.out.2⟩
set_option maxHeartbeats 8000000 in
set_option maxRecDepth 20000 in
theorem head3_any (id lo hi : Int) (S : Option Addr) (n sc : Nat) (tx : ByteArray) (K : Option Addr) (m kc : Nat) (w : World) (hi0 : -9223372036854775808 ≤ id) (hi1 : id ≤ 9223372036854775807) (ht : tx.size ≤ 1000000) : Calls Try.prog 36 #[.agg #[.int .i64 3, .int .i64 id, .int .i64 lo, .int .i64 hi, .slice S n sc, .string tx, .slice K m kc]] w fun e w' => RetB w w' ([3] ++ uvarint (zigzag id) ++ counted tx.data.toList) e ∧ Below w.heap.size w w' := by
  obtain ⟨Z, hZ⟩ : ∃ Z, [3] ++ uvarint (zigzag id) ++ counted tx.data.toList = Z := ⟨_, rfl⟩
  rw [hZ]
  have HZ := Li hZ
  clear hZ
  have HB := Li (uvarint_length64 (Num.zigzag_u64 id hi0 hi1))
  have B0 := Li (al2 w (.cells #[.int .i64 3, .int .i64 id, .int .i64 lo, .int .i64 hi, .slice S n sc, .string tx, .slice K m kc] 25) (.cells #[.int .u8 3] 5))
  have P0 := Li ((CB.new w 25 [.int .i64 3, .int .i64 id, .int .i64 lo, .int .i64 hi, .slice S n sc, .string tx, .slice K m kc]).alloc (.cells #[.int .u8 3] 5))
  have SH := Li (show Shows _ _ (some ⟨w.heap.size + 1, 0, none⟩) [3] from by have h := shows1 (w.alloc (.cells #[.int .i64 3, .int .i64 id, .int .i64 lo, .int .i64 hi, .slice S n sc, .string tx, .slice K m kc] 25)) 3 3 rfl; rwa [show (w.alloc (.cells #[.int .i64 3, .int .i64 id, .int .i64 lo, .int .i64 hi, .slice S n sc, .string tx, .slice K m kc] 25)).heap.size = w.heap.size + 1 from asz _ _] at h)
  go_enter Try.func36, Try.ntmps36
  go_upto_region 13 with fail
  have PP := Li (show (fun w' : World => CB w' w.heap.size 25 [.int .i64 3, .int .i64 id, .int .i64 lo, .int .i64 hi, .slice S n sc, .string tx, .slice K m kc] ∧ Below w.heap.size w w') _ from ⟨P0.out, B0.out⟩)
  generalize (w.alloc (.cells #[.int .i64 3, .int .i64 id, .int .i64 lo, .int .i64 hi, .slice S n sc, .string tx, .slice K m kc] 25)).alloc (.cells #[.int .u8 3] 5) = W0 at *
  clear P0 B0
  replace PP : Hid ((fun w' : World => CB w' w.heap.size 25 [.int .i64 3, .int .i64 id, .int .i64 lo, .int .i64 hi, .slice S n sc, .string tx, .slice K m kc] ∧ Below w.heap.size w w') W0.drew) := Li ⟨PP.out.1.dr, below_drewN PP.out.2 1⟩
  replace SH := Li (show Shows W0.drew W0.drew.heap.size (some ⟨w.heap.size + 1, 0, none⟩) [3] from SH.out)
  refine wp_region_held_drew (S := fun w' => Hid (CB w' w.heap.size 25 [.int .i64 3, .int .i64 id, .int .i64 lo, .int .i64 hi, .slice S n sc, .string tx, .slice K m kc] ∧ Below w.heap.size w w')) (by kernel_rfl) PP (fun hHeld => ?_)
  revert hHeld PP SH
  generalize W0.drew = X0
  intro PP SH hHeld
  refine htk 0 ?_
  refine htk 1 ?_
  refine htf 2 (fun _ h => And.intro h.out.1.c7 h.out.1.lt) ?_
  refine htk 4 ?_
  refine htf 5 (fun _ h => And.intro h.out.1.c7 h.out.1.lt) ?_
  refine rd1 3 fun KK hK => ?_
  go_simp
  go_at_call 48
  refine (S_any (some ⟨w.heap.size + 1, 0, none⟩) 1 ([3]) id _ SH.out (by simp) hi0 hi1).mono ?_
  rintro e v3 ⟨g1, c1, rfl, hr, hb⟩
  generalize hl : ([3] ++ uvarint (zigzag id)) = l1 at hr ⊢
  have HL1 := Li hl
  have SH1 := Li hr.shows.2
  have RR1 := Li (row_low hr PP.out.2.size)
  clear hr hl
  replace PP : Hid ((fun w' : World => CB w' w.heap.size 25 [.int .i64 3, .int .i64 id, .int .i64 lo, .int .i64 hi, .slice S n sc, .string tx, .slice K m kc] ∧ Below w.heap.size w w') _) := Li ⟨PP.out.1.up hb, below_step PP.out.2 PP.out.2.size hb⟩
  clear hb
  go_wp2_with fail
  refine hK.out _ _ (PP) (fun hHeld => ?_)
  clear hK KK
  try simp only [pnz]
  refine rd1 6 fun KK hK => ?_
  go_simp
  go_at_call 51
  refine (Text_any (some ⟨g1, 0, none⟩) c1 l1 tx _ SH1.out (by have := HB.out; rw [← HL1.out]; simp only [List.length_append, List.length_cons, List.length_nil]; omega)).mono ?_
  rintro e v6 ⟨g2, c2, rfl, hr, hb⟩
  generalize hl : (l1 ++ counted tx.data.toList) = l2 at hr ⊢
  have HL2 := Li hl
  clear hl
  have RR2 := Li (row_low hr PP.out.2.size)
  clear hr
  replace PP : Hid ((fun w' : World => CB w' w.heap.size 25 [.int .i64 3, .int .i64 id, .int .i64 lo, .int .i64 hi, .slice S n sc, .string tx, .slice K m kc] ∧ Below w.heap.size w w') _) := Li ⟨PP.out.1.up hb, below_step PP.out.2 PP.out.2.size hb⟩
  clear hb
  go_wp2_with fail
  refine hK.out _ _ (PP) (fun hHeld => ?_)
  clear hK KK
  try simp only [pnz]
  refine htk 7 ?_
  refine wpAnyH_done (by kernel_rfl) ?_ _
  go_wp2_with fail
  go_ret
  have E : l2 = Z := by rw [← HZ.out, HL1.out, HL2.out]
  rw [← E]
  exact ⟨⟨g2, c2, rfl, RR2.out⟩, PP.out.2⟩
theorem head4_any (id lo hi : Int) (S : Option Addr) (n sc : Nat) (tx : ByteArray) (K : Option Addr) (m kc : Nat) (w : World) (hi0 : -9223372036854775808 ≤ id) (hi1 : id ≤ 9223372036854775807) : Calls Try.prog 36 #[.agg #[.int .i64 4, .int .i64 id, .int .i64 lo, .int .i64 hi, .slice S n sc, .string tx, .slice K m kc]] w fun e w' => RetB w w' ([4] ++ uvarint (zigzag id)) e ∧ Below w.heap.size w w' := by
  have B0 := Li (al2 w (.cells #[.int .i64 4, .int .i64 id, .int .i64 lo, .int .i64 hi, .slice S n sc, .string tx, .slice K m kc] 25) (.cells #[.int .u8 4] 5))
  have P0 := Li ((CB.new w 25 [.int .i64 4, .int .i64 id, .int .i64 lo, .int .i64 hi, .slice S n sc, .string tx, .slice K m kc]).alloc (.cells #[.int .u8 4] 5))
  have SH := Li (show Shows _ _ (some ⟨w.heap.size + 1, 0, none⟩) [4] from by have h := shows1 (w.alloc (.cells #[.int .i64 4, .int .i64 id, .int .i64 lo, .int .i64 hi, .slice S n sc, .string tx, .slice K m kc] 25)) 4 4 rfl; rwa [show (w.alloc (.cells #[.int .i64 4, .int .i64 id, .int .i64 lo, .int .i64 hi, .slice S n sc, .string tx, .slice K m kc] 25)).heap.size = w.heap.size + 1 from asz _ _] at h)
  go_enter Try.func36, Try.ntmps36
  go_wp2_with (go_at_call 48; refine (S_any (some ⟨w.heap.size + 1, 0, none⟩) 1 [4] id _ SH.out (by simp) hi0 hi1).mono ?_; rintro e v3 ⟨g1, c1, rfl, hr, hb⟩; have RR1 := Li (row_low hr B0.out.size); have B1 := Li (below_step B0.out B0.out.size hb); clear hr hb)
  go_ret
  exact ⟨⟨g1, c1, ret_slice (by simp only [List.length_append, List.length_cons, List.length_nil] <;> omega), RR1.out⟩, B1.out⟩
theorem head5_any (id lo hi : Int) (S : Option Addr) (n sc : Nat) (tx : ByteArray) (K : Option Addr) (m kc : Nat) (w : World) (hm : m ≤ 1000000) : Calls Try.prog 36 #[.agg #[.int .i64 5, .int .i64 id, .int .i64 lo, .int .i64 hi, .slice S n sc, .string tx, .slice K m kc]] w fun e w' => RetB w w' ([5] ++ uvarint m) e ∧ Below w.heap.size w w' := by
  have B0 := Li (al2 w (.cells #[.int .i64 5, .int .i64 id, .int .i64 lo, .int .i64 hi, .slice S n sc, .string tx, .slice K m kc] 25) (.cells #[.int .u8 5] 5))
  have P0 := Li ((CB.new w 25 [.int .i64 5, .int .i64 id, .int .i64 lo, .int .i64 hi, .slice S n sc, .string tx, .slice K m kc]).alloc (.cells #[.int .u8 5] 5))
  have SH := Li (show Shows _ _ (some ⟨w.heap.size + 1, 0, none⟩) [5] from by have h := shows1 (w.alloc (.cells #[.int .i64 5, .int .i64 id, .int .i64 lo, .int .i64 hi, .slice S n sc, .string tx, .slice K m kc] 25)) 5 5 rfl; rwa [show (w.alloc (.cells #[.int .i64 5, .int .i64 id, .int .i64 lo, .int .i64 hi, .slice S n sc, .string tx, .slice K m kc] 25)).heap.size = w.heap.size + 1 from asz _ _] at h)
  have HU : Num.U64 m := by unfold Num.U64; omega
  go_enter Try.func36, Try.ntmps36
  go_wp2_with (go_at_call 49; refine (U_any (some ⟨w.heap.size + 1, 0, none⟩) 1 [5] m _ SH.out (by simp) HU).mono ?_; rintro e v3 ⟨g1, c1, rfl, hr, hb⟩; have RR1 := Li (row_low hr B0.out.size); have B1 := Li (below_step B0.out B0.out.size hb); clear hr hb)
  go_ret
  exact ⟨⟨g1, c1, ret_slice (by simp only [List.length_append, List.length_cons, List.length_nil] <;> omega), RR1.out⟩, B1.out⟩
theorem head6_any (id lo hi : Int) (S : Option Addr) (n sc : Nat) (tx : ByteArray) (K : Option Addr) (m kc : Nat) (w : World) (hm : m ≤ 1000000) : Calls Try.prog 36 #[.agg #[.int .i64 6, .int .i64 id, .int .i64 lo, .int .i64 hi, .slice S n sc, .string tx, .slice K m kc]] w fun e w' => RetB w w' ([6] ++ uvarint m) e ∧ Below w.heap.size w w' := by
  have B0 := Li (al2 w (.cells #[.int .i64 6, .int .i64 id, .int .i64 lo, .int .i64 hi, .slice S n sc, .string tx, .slice K m kc] 25) (.cells #[.int .u8 6] 5))
  have P0 := Li ((CB.new w 25 [.int .i64 6, .int .i64 id, .int .i64 lo, .int .i64 hi, .slice S n sc, .string tx, .slice K m kc]).alloc (.cells #[.int .u8 6] 5))
  have SH := Li (show Shows _ _ (some ⟨w.heap.size + 1, 0, none⟩) [6] from by have h := shows1 (w.alloc (.cells #[.int .i64 6, .int .i64 id, .int .i64 lo, .int .i64 hi, .slice S n sc, .string tx, .slice K m kc] 25)) 6 6 rfl; rwa [show (w.alloc (.cells #[.int .i64 6, .int .i64 id, .int .i64 lo, .int .i64 hi, .slice S n sc, .string tx, .slice K m kc] 25)).heap.size = w.heap.size + 1 from asz _ _] at h)
  have HU : Num.U64 m := by unfold Num.U64; omega
  go_enter Try.func36, Try.ntmps36
  go_wp2_with (go_at_call 49; refine (U_any (some ⟨w.heap.size + 1, 0, none⟩) 1 [6] m _ SH.out (by simp) HU).mono ?_; rintro e v3 ⟨g1, c1, rfl, hr, hb⟩; have RR1 := Li (row_low hr B0.out.size); have B1 := Li (below_step B0.out B0.out.size hb); clear hr hb)
  go_ret
  exact ⟨⟨g1, c1, ret_slice (by simp only [List.length_append, List.length_cons, List.length_nil] <;> omega), RR1.out⟩, B1.out⟩
theorem head7_any (id lo hi : Int) (S : Option Addr) (n sc : Nat) (tx : ByteArray) (K : Option Addr) (m kc : Nat) (w : World) (hm : m ≤ 1000000) : Calls Try.prog 36 #[.agg #[.int .i64 7, .int .i64 id, .int .i64 lo, .int .i64 hi, .slice S n sc, .string tx, .slice K m kc]] w fun e w' => RetB w w' ([7] ++ uvarint m) e ∧ Below w.heap.size w w' := by
  have B0 := Li (al2 w (.cells #[.int .i64 7, .int .i64 id, .int .i64 lo, .int .i64 hi, .slice S n sc, .string tx, .slice K m kc] 25) (.cells #[.int .u8 7] 5))
  have P0 := Li ((CB.new w 25 [.int .i64 7, .int .i64 id, .int .i64 lo, .int .i64 hi, .slice S n sc, .string tx, .slice K m kc]).alloc (.cells #[.int .u8 7] 5))
  have SH := Li (show Shows _ _ (some ⟨w.heap.size + 1, 0, none⟩) [7] from by have h := shows1 (w.alloc (.cells #[.int .i64 7, .int .i64 id, .int .i64 lo, .int .i64 hi, .slice S n sc, .string tx, .slice K m kc] 25)) 7 7 rfl; rwa [show (w.alloc (.cells #[.int .i64 7, .int .i64 id, .int .i64 lo, .int .i64 hi, .slice S n sc, .string tx, .slice K m kc] 25)).heap.size = w.heap.size + 1 from asz _ _] at h)
  have HU : Num.U64 m := by unfold Num.U64; omega
  go_enter Try.func36, Try.ntmps36
  go_wp2_with (go_at_call 49; refine (U_any (some ⟨w.heap.size + 1, 0, none⟩) 1 [7] m _ SH.out (by simp) HU).mono ?_; rintro e v3 ⟨g1, c1, rfl, hr, hb⟩; have RR1 := Li (row_low hr B0.out.size); have B1 := Li (below_step B0.out B0.out.size hb); clear hr hb)
  go_ret
  exact ⟨⟨g1, c1, ret_slice (by simp only [List.length_append, List.length_cons, List.length_nil] <;> omega), RR1.out⟩, B1.out⟩
theorem owns_up {w w1 : World} {b : Nat} {v : Value} {l : List UInt8} (h : Owns w b v l) (hb : Below w.heap.size w w1) : Owns w1 b v l :=
  World.ownsRow.kept (row := none) h ⟨hb.os, hb.tape, hb.output, hb.size, fun i hi _ => hb.block i hi⟩ (by cases v.ownBlock <;> simp)
theorem elB_len {b : Bool} {n : Int} {s : ByteArray} (h0 : -9223372036854775808 ≤ n) (h1 : n ≤ 9223372036854775807) (hs : s.size ≤ 1000000) : (elB ⟨b, n, s⟩).length ≤ 1000030 := by
  have h2 := svar_len h0 h1
  have h3 := counted_len s.data.toList (by simp; omega)
  have h4 : s.data.toList.length = s.size := by simp
  unfold elB
  simp only [List.length_append, List.length_cons, List.length_nil]
  omega
set_option maxHeartbeats 16000000 in
set_option maxRecDepth 20000 in
theorem head2_any (id lo hi : Int) (S : Option Addr) (n sc : Nat) (tx : ByteArray) (K : Option Addr) (m kc : Nat) (w : World) (hi0 : -9223372036854775808 ≤ id) (hi1 : id ≤ 9223372036854775807) (set : List Va) (hn : n = set.length) (hs : Vas w w.heap.size S set) (hv : ∀ v ∈ set, v.Fine) (hvs : ∀ v ∈ set, v.s.size ≤ 1000000) (hnn : n ≤ 1000) :
    Calls Try.prog 36 #[.agg #[.int .i64 2, .int .i64 id, .int .i64 lo, .int .i64 hi, .slice S n sc, .string tx, .slice K m kc]] w fun e w' => RetB w w' ([2] ++ uvarint (zigzag id) ++ uvarint n ++ (set.map elB).flatten) e ∧ Below w.heap.size w w' := by
  obtain ⟨Z, hZ⟩ : ∃ Z, [2] ++ uvarint (zigzag id) ++ uvarint n ++ (set.map elB).flatten = Z := ⟨_, rfl⟩
  rw [hZ]
  have HZ := Li hZ
  have HU : Num.U64 n := by unfold Num.U64; omega
  have HB := Li (uvarint_length64 (Num.zigzag_u64 id hi0 hi1))
  have HBn := Li (uvarint_length64 HU)
  have HWn := Li (show IntKind.u64.wrap (n : Int) = (n : Int) by rw [IntKind.wrap_u64]; omega)
  have HN := Li hn
  have HS := Li hs
  have HV := Li hv
  have HVS := Li hvs
  have HNn := Li hnn
  clear hZ hn hs hv hvs
  have B0 := Li (al2 w (.cells #[.int .i64 2, .int .i64 id, .int .i64 lo, .int .i64 hi, .slice S n sc, .string tx, .slice K m kc] 25) (.cells #[.int .u8 2] 5))
  have P0 := Li ((CB.new w 25 [.int .i64 2, .int .i64 id, .int .i64 lo, .int .i64 hi, .slice S n sc, .string tx, .slice K m kc]).alloc (.cells #[.int .u8 2] 5))
  have SH := Li (show Shows _ _ (some ⟨w.heap.size + 1, 0, none⟩) [2] from by have h := shows1 (w.alloc (.cells #[.int .i64 2, .int .i64 id, .int .i64 lo, .int .i64 hi, .slice S n sc, .string tx, .slice K m kc] 25)) 2 2 rfl; rwa [show (w.alloc (.cells #[.int .i64 2, .int .i64 id, .int .i64 lo, .int .i64 hi, .slice S n sc, .string tx, .slice K m kc] 25)).heap.size = w.heap.size + 1 from asz _ _] at h)
  go_enter Try.func36, Try.ntmps36
  go_upto_region 6 with fail
  have PP := Li (show (fun w' : World => CB w' w.heap.size 25 [.int .i64 2, .int .i64 id, .int .i64 lo, .int .i64 hi, .slice S n sc, .string tx, .slice K m kc] ∧ Below w.heap.size w w') _ from ⟨P0.out, B0.out⟩)
  generalize (w.alloc (.cells #[.int .i64 2, .int .i64 id, .int .i64 lo, .int .i64 hi, .slice S n sc, .string tx, .slice K m kc] 25)).alloc (.cells #[.int .u8 2] 5) = W0 at *
  clear P0 B0
  replace PP : Hid ((fun w' : World => CB w' w.heap.size 25 [.int .i64 2, .int .i64 id, .int .i64 lo, .int .i64 hi, .slice S n sc, .string tx, .slice K m kc] ∧ Below w.heap.size w w') W0.drew) := Li ⟨PP.out.1.dr, below_drewN PP.out.2 1⟩
  replace SH := Li (show Shows W0.drew W0.drew.heap.size (some ⟨w.heap.size + 1, 0, none⟩) [2] from SH.out)
  refine wp_region_held_drew (S := fun w' => Hid (CB w' w.heap.size 25 [.int .i64 2, .int .i64 id, .int .i64 lo, .int .i64 hi, .slice S n sc, .string tx, .slice K m kc] ∧ Below w.heap.size w w')) (by kernel_rfl) PP (fun hHeld => ?_)
  revert hHeld PP SH
  generalize W0.drew = X0
  intro PP SH hHeld
  refine htk 0 ?_
  refine htk 1 ?_
  refine htf 2 (fun _ h => And.intro h.out.1.c7 h.out.1.lt) ?_
  refine htk 4 ?_
  refine htf 5 (fun _ h => And.intro h.out.1.c7 h.out.1.lt) ?_
  refine htk 6 ?_
  refine htk 7 ?_
  refine rd1 3 fun KK hK => ?_
  go_simp
  go_at_call 48
  refine (S_any (some ⟨w.heap.size + 1, 0, none⟩) 1 ([2]) id _ SH.out (by simp) hi0 hi1).mono ?_
  rintro e v3 ⟨g1, c1, rfl, hr, hb⟩
  generalize hl : ([2] ++ uvarint (zigzag id)) = l1 at hr ⊢
  have HL1 := Li hl
  have SH1 := Li hr.shows.2
  have RR1 := Li (row_low hr PP.out.2.size)
  clear hr hl
  replace PP : Hid ((fun w' : World => CB w' w.heap.size 25 [.int .i64 2, .int .i64 id, .int .i64 lo, .int .i64 hi, .slice S n sc, .string tx, .slice K m kc] ∧ Below w.heap.size w w') _) := Li ⟨PP.out.1.up hb, below_step PP.out.2 PP.out.2.size hb⟩
  clear hb
  go_wp2_with fail
  refine hK.out _ _ (PP) (fun hHeld => ?_)
  clear hK KK
  try simp only [pnz]
  refine rd1 8 fun KK hK => ?_
  go_simp
  go_at_call 49
  rw [HWn.out]
  refine (U_any (some ⟨g1, 0, none⟩) c1 l1 n _ SH1.out (by have := HB.out; rw [← HL1.out]; simp only [List.length_append, List.length_cons, List.length_nil]; omega) HU).mono ?_
  rintro e v8 ⟨g2, c2, rfl, hr, hb⟩
  generalize hl : (l1 ++ uvarint n) = l2 at hr ⊢
  have HL2 := Li hl
  have RR2 := Li (row_low hr PP.out.2.size)
  clear hr hl
  replace PP : Hid ((fun w' : World => CB w' w.heap.size 25 [.int .i64 2, .int .i64 id, .int .i64 lo, .int .i64 hi, .slice S n sc, .string tx, .slice K m kc] ∧ Below w.heap.size w w') _) := Li ⟨PP.out.1.up hb, below_step PP.out.2 PP.out.2.size hb⟩
  clear hb
  go_wp2_with fail
  refine hK.out _ _ (PP) (fun hHeld => ?_)
  clear hK KK
  try simp only [pnz]
  refine htk 9 ?_
  refine wpAnyH_done (by kernel_rfl) ?_ _
  have p7 := PP.out.1.c7
  have zp7 := PP.out.1.lt
  go_wp2_with fail
  clear p7 zp7
  have OW := Li RR2.out.owns
  have BB := Li PP.out.2
  have HL2b := Li (show l2.length ≤ 100 by have := HB.out; have := HBn.out; rw [← HL2.out, ← HL1.out]; simp only [List.length_append, List.length_cons, List.length_nil]; omega)
  have HZ2 := Li (show l2 ++ ((set.drop 0).map elB).flatten = Z by rw [← HZ.out, ← HL2.out, ← HL1.out]; rfl)
  clear PP RR2 SH SH1 RR1 hHeld HU
  go_loopw [3, 5, 38] (fun u _ j wr => ∃ (k : Nat) (A' : Option Addr) (c' : Nat) (acc : List UInt8), k ≤ n ∧ u = .slice A' acc.length c' ∧ j = .int .i64 k ∧ Hid (Owns wr w.heap.size (.slice A' acc.length c') acc) ∧ Hid (Below w.heap.size w wr) ∧ Hid (acc.length ≤ 100 + k * 1000030) ∧ Hid (acc ++ ((set.drop k).map elB).flatten = Z)) (fun _ _ j _ => n - (RowKit.intOf j).toNat)
  case atStart => exact ⟨0, _, _, l2, by omega, rfl, rfl, OW, BB, Li (by have := HL2b.out; omega), HZ2⟩
  case round =>
    obtain ⟨k, A', c', acc, hk, rfl, rfl, HO, HBe, HAL, HAZ⟩ := hrel
    by_cases hlt : k < n
    · have i1 : (k : Int) < (n : Int) := by omega
      have i0 : (0 : Int) ≤ (k : Int) := by omega
      obtain ⟨f, hf⟩ := getV_of (l := set) (k := k) (by rw [← HN.out]; exact hlt)
      obtain ⟨b, off, rfl, hb, c0, c1x, c2x⟩ := (show Vas wr w.heap.size S set from RowAt.below HS.out HBe.out).one hf
      have HD := Li (drop_cons hf)
      have zb : b < wr.heap.size := Nat.lt_of_lt_of_le hb HBe.out.size
      have hfv := HV.out f (List.mem_of_getElem? hf)
      have hfs := HVS.out f (List.mem_of_getElem? hf)
      have HFV := Li hfv
      have HFS := Li hfs
      clear hf hfv hfs hb
      obtain ⟨pb, hpb⟩ : ∃ l, elB ⟨f.b, f.n, f.s⟩ = l := ⟨_, rfl⟩
      have HPB := Li hpb
      have HPL := Li (show pb.length ≤ 1000030 by rw [← hpb]; exact elB_len HFV.out.lo HFV.out.hi HFS.out)
      clear hpb
      have BA := Li (HBe.out.alloc HBe.out.size (.cells #[.bool f.b, .int .i64 f.n, .string f.s] 37))
      have OA := Li (show Owns (wr.alloc (.cells #[.bool f.b, .int .i64 f.n, .string f.s] 37)) w.heap.size (.slice A' acc.length c') acc from World.ownsRow.alloc HO.out _)
      go_wp2_with (first | (go_at_call 50; go_loud (refine (element_any f.b f.n f.s _ HFV.out.lo HFV.out.hi HFS.out).mono ?_; rintro e w5 ⟨⟨ge, ce, rfl, hre⟩, hb5⟩; rw [HPB.out] at hre ⊢; have HRE := Li hre.shows.2; have B5 := Li (below_step BA.out BA.out.size hb5); have O5 := Li (owns_up OA.out hb5); clear hre hb5)) | (at_builtin; refine wpList_growB rfl (.tmp 42) (.tmp 44) 54 rfl Try.underlying54 info5 w.heap.size (.slice A' acc.length c') acc (some ⟨ge, 0, none⟩) pb ce w5.heap.size rfl rfl O5.out HRE.out (by have := HAL.out; have := HPL.out; have := HNn.out; omega) B5.out.size ?_; intro A6 c6 w6 ho6 hg6; have O6 := Li ho6; have B6 := Li (B5.out.grown hg6 B5.out.size (fun k e => (World.ownsRow.lt O5.out k e).1)); clear ho6 hg6))
      go_roundw
      case rel => exact ⟨k + 1, A6, c6, acc ++ pb, by omega, by rw [List.length_append], by go_num, O6, B6, Li (by have := HAL.out; have := HPL.out; simp only [List.length_append]; omega), Li (by rw [← HAZ.out, HD.out, List.map_cons, List.flatten_cons, List.append_assoc, ← HPB.out])⟩
      case measure => simp [RowKit.intOf]; omega
    · have i1 : ¬ (k : Int) < (n : Int) := by omega
      have hE : acc = Z := by have h := HAZ.out; rw [List.drop_eq_nil_of_le (by rw [← HN.out]; omega)] at h; simpa using h
      have HZl := Li (show 0 < acc.length by rw [hE, ← HZ.out]; simp)
      go_wp2
      go_ret
      rw [← hE]
      obtain ⟨gz, cz, e1, _⟩ : ∃ g c, Value.slice A' acc.length c' = .slice (some ⟨g, 0, none⟩) acc.length c ∧ True := by
        rcases HO.out.shape with ⟨_, h⟩ | ⟨g, c, h, _⟩
        · rw [h] at HZl; exact absurd HZl.out (by simp)
        · exact ⟨g, c, h, trivial⟩
      injection e1 with e1 _ e3
      subst e1 e3
      exact ⟨⟨gz, c', rfl, HO.out⟩, HBe.out⟩
/-- a predicate that head can encode -/
structure HdOk (p : Pr) : Prop where
  op : 0 ≤ p.op ∧ p.op ≤ 7
  set : p.set.length ≤ 1000
  sv : ∀ v ∈ p.set, v.s.size ≤ 1000000
  tx : p.tx.size ≤ 1000000
  ks : p.kids.length ≤ 1000000
theorem head_any (p : Pr) (w : World) (hp : PrAt w w.heap.size p) (ho : HdOk p) : Calls Try.prog 36 #[.agg #[.int .i64 p.op, .int .i64 p.id, .int .i64 p.lo, .int .i64 p.hi, .slice p.S p.set.length p.sc, .string p.tx, .slice p.K p.kids.length p.kc]] w fun e w' => RetB w w' (headB p) e ∧ Below w.heap.size w w' := by
  have hop := ho.op
  rcases (by omega : p.op = 0 ∨ p.op = 1 ∨ p.op = 2 ∨ p.op = 3 ∨ p.op = 4 ∨ p.op = 5 ∨ p.op = 6 ∨ p.op = 7) with h | h | h | h | h | h | h | h
  · have e : headB p = [0] := by
      unfold headB svar
      rw [h]
      simp [List.append_assoc]
    rw [e, h]
    exact head0_any p.id p.lo p.hi p.S p.set.length p.sc p.tx p.K p.kids.length p.kc w
  · have e : headB p = [1] ++ uvarint (zigzag p.id) ++ uvarint (zigzag p.lo) ++ uvarint (zigzag p.hi) := by
      unfold headB svar
      rw [h]
      simp [List.append_assoc]
    rw [e, h]
    exact head1_any p.id p.lo p.hi p.S p.set.length p.sc p.tx p.K p.kids.length p.kc w hp.hf.i0 hp.hf.i1 hp.hf.l0 hp.hf.l1 hp.hf.h0 hp.hf.h1
  · have e : headB p = [2] ++ uvarint (zigzag p.id) ++ uvarint p.set.length ++ (p.set.map elB).flatten := by
      unfold headB svar
      rw [h]
      simp [List.append_assoc]
    rw [e, h]
    exact head2_any p.id p.lo p.hi p.S p.set.length p.sc p.tx p.K p.kids.length p.kc w hp.hf.i0 hp.hf.i1 p.set rfl hp.hs hp.hv ho.sv ho.set
  · have e : headB p = [3] ++ uvarint (zigzag p.id) ++ counted p.tx.data.toList := by
      unfold headB svar
      rw [h]
      simp [List.append_assoc]
    rw [e, h]
    exact head3_any p.id p.lo p.hi p.S p.set.length p.sc p.tx p.K p.kids.length p.kc w hp.hf.i0 hp.hf.i1 ho.tx
  · have e : headB p = [4] ++ uvarint (zigzag p.id) := by
      unfold headB svar
      rw [h]
      simp [List.append_assoc]
    rw [e, h]
    exact head4_any p.id p.lo p.hi p.S p.set.length p.sc p.tx p.K p.kids.length p.kc w hp.hf.i0 hp.hf.i1
  · have e : headB p = [5] ++ uvarint p.kids.length := by
      unfold headB svar
      rw [h]
      simp [List.append_assoc]
    rw [e, h]
    exact head5_any p.id p.lo p.hi p.S p.set.length p.sc p.tx p.K p.kids.length p.kc w ho.ks
  · have e : headB p = [6] ++ uvarint p.kids.length := by
      unfold headB svar
      rw [h]
      simp [List.append_assoc]
    rw [e, h]
    exact head6_any p.id p.lo p.hi p.S p.set.length p.sc p.tx p.K p.kids.length p.kc w ho.ks
  · have e : headB p = [7] ++ uvarint p.kids.length := by
      unfold headB svar
      rw [h]
      simp [List.append_assoc]
    rw [e, h]
    exact head7_any p.id p.lo p.hi p.S p.set.length p.sc p.tx p.K p.kids.length p.kc w ho.ks
end Go.Proofs.Ytkeneoinfegodaa
