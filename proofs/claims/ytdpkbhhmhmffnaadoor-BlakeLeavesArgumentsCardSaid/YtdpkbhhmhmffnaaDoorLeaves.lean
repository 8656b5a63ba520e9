/-
  BlakeLeavesArguments: the walk.
-/
import Derived.Test.YtdpkbhhmhmffnaaDoorMatches
import Derived.Test.YtdpkbhhmhmffnaaDoorEqual
import Derived.Outline
import Derived.Lib.MinMax
namespace Go.Proofs.YtdpkbhhmhmffnaaDoor
open Go.RowKit

/-- what the walk has before its last statements: the arguments, their copies, the digests -/
structure SL (w wr : World) (K A X L : Option Addr) (g : Nat) (key b d1 d2 d3 d4 : List UInt8) : Prop where
  glob : Glob wr
  sk : Shows wr wr.heap.size K key
  sb : Shows wr wr.heap.size A b
  sx : Shows wr wr.heap.size X b
  sl : Shows wr wr.heap.size L key
  r1 : wr.rangeAt g 0 (cb d1)
  r2 : wr.rangeAt (g + 1) 0 (cb d2)
  r3 : wr.rangeAt (g + 1 + 1) 0 (cb d3)
  r4 : wr.rangeAt (g + 1 + 1 + 1) 0 (cb d4)
  lt : g + 1 + 1 + 1 < wr.heap.size
  low : w.heap.size ≤ wr.heap.size
  bel : Below w.heap.size w wr
section
variable {w wr w' : World} {K A X L : Option Addr} {g : Nat} {key b d1 d2 d3 d4 : List UInt8}
theorem SL.up (s : SL w wr K A X L g key b d1 d2 d3 d4) (hb : Below wr.heap.size wr w') : SL w w' K A X L g key b d1 d2 d3 d4 := by
  have l := s.lt
  exact ⟨s.glob.up hb, s.sk.up hb, s.sb.up hb, s.sx.up hb, s.sl.up hb, range_up s.r1 hb (by omega), range_up s.r2 hb (by omega), range_up s.r3 hb (by omega), range_up s.r4 hb l, Nat.lt_of_lt_of_le l hb.size, Nat.le_trans s.low hb.size, s.bel.trans (hb.mono s.low)⟩
theorem SL.drew (s : SL w wr K A X L g key b d1 d2 d3 d4) : SL w wr.drew K A X L g key b d1 d2 d3 d4 :=
  ⟨⟨s.glob.iv, s.glob.order, s.glob.size⟩, s.sk, s.sb, s.sx, s.sl, s.r1, s.r2, s.r3, s.r4, s.lt, s.low, s.bel.drew⟩
end
/-- four new blocks of zero bytes -/
theorem four_new (w : World) (z : Array Value) (hz : z = (cb (List.replicate 32 0)).toArray) : BT ((((w.alloc (.cells z 24)).alloc (.cells z 24)).alloc (.cells z 24)).alloc (.cells z 24)) w.heap.size 24 (List.replicate 32 0) ∧
    BT ((((w.alloc (.cells z 24)).alloc (.cells z 24)).alloc (.cells z 24)).alloc (.cells z 24)) (w.heap.size + 1) 24 (List.replicate 32 0) ∧
    BT ((((w.alloc (.cells z 24)).alloc (.cells z 24)).alloc (.cells z 24)).alloc (.cells z 24)) (w.heap.size + 1 + 1) 24 (List.replicate 32 0) ∧
    BT ((((w.alloc (.cells z 24)).alloc (.cells z 24)).alloc (.cells z 24)).alloc (.cells z 24)) (w.heap.size + 1 + 1 + 1) 24 (List.replicate 32 0) ∧
    Below w.heap.size w ((((w.alloc (.cells z 24)).alloc (.cells z 24)).alloc (.cells z 24)).alloc (.cells z 24)) ∧
    ((((w.alloc (.cells z 24)).alloc (.cells z 24)).alloc (.cells z 24)).alloc (.cells z 24)).heap.size = w.heap.size + 1 + 1 + 1 + 1 := by
  subst hz
  have z : ∀ (w : World) (o : Obj), (w.alloc o).heap.size = w.heap.size + 1 := fun w o => by simp
  have n : ∀ w : World, BT (w.alloc (.cells (cb (List.replicate 32 0)).toArray 24)) w.heap.size 24 (List.replicate 32 0) := fun w => bt_new rfl rfl
  refine ⟨(((n w).alloc _).alloc _).alloc _, ?_, ?_, ?_, (((below_alloc _).alloc (by simp) _).alloc (by simp; omega) _).alloc (by simp; omega) _, by rw [z, z, z, z]⟩
  · have := n (w.alloc (.cells (cb (List.replicate 32 0)).toArray 24))
    rw [z] at this
    exact (this.alloc _).alloc _
  · have := n ((w.alloc (.cells (cb (List.replicate 32 0)).toArray 24)).alloc (.cells (cb (List.replicate 32 0)).toArray 24))
    rw [z, z] at this
    exact this.alloc _
  · have := n (((w.alloc (.cells (cb (List.replicate 32 0)).toArray 24)).alloc (.cells (cb (List.replicate 32 0)).toArray 24)).alloc (.cells (cb (List.replicate 32 0)).toArray 24))
    rw [z, z, z] at this
    exact this
structure F4 (w0 w : World) (g : Nat) (a b c d : List UInt8) : Prop where
  ba : BT w g 24 a
  bb : BT w (g + 1) 24 b
  bc : BT w (g + 1 + 1) 24 c
  bd : BT w (g + 1 + 1 + 1) 24 d
  bel : Below g w0 w
section
variable {w0 w w' : World} {g : Nat} {a b c d a' : List UInt8}
theorem F4.s1 (s : F4 w0 w g a b c d) (hb : BT w' g 24 a') (hg : w.grownBy w' (some g)) : F4 w0 w' g a' b c d :=
  ⟨hb, s.bb.grown hg (by simp), s.bc.grown hg (by simp <;> omega), s.bd.grown hg (by simp <;> omega), s.bel.grown hg (Nat.le_of_lt s.ba.lt) (fun k hk => by injection hk with hk; omega)⟩
theorem F4.s2 (s : F4 w0 w g a b c d) (hb : BT w' (g + 1) 24 a') (hg : w.grownBy w' (some (g + 1))) : F4 w0 w' g a a' c d :=
  ⟨s.ba.grown hg (by simp), hb, s.bc.grown hg (by simp), s.bd.grown hg (by simp <;> omega), s.bel.grown hg (Nat.le_of_lt s.ba.lt) (fun k hk => by injection hk with hk; omega)⟩
theorem F4.s3 (s : F4 w0 w g a b c d) (hb : BT w' (g + 1 + 1) 24 a') (hg : w.grownBy w' (some (g + 1 + 1))) : F4 w0 w' g a b a' d :=
  ⟨s.ba.grown hg (by simp <;> omega), s.bb.grown hg (by simp), hb, s.bd.grown hg (by simp), s.bel.grown hg (Nat.le_of_lt s.ba.lt) (fun k hk => by injection hk with hk; omega)⟩
theorem F4.s4 (s : F4 w0 w g a b c d) (hb : BT w' (g + 1 + 1 + 1) 24 a') (hg : w.grownBy w' (some (g + 1 + 1 + 1))) : F4 w0 w' g a b c a' :=
  ⟨s.ba.grown hg (by simp <;> omega), s.bb.grown hg (by simp <;> omega), s.bc.grown hg (by simp), hb, s.bel.grown hg (Nat.le_of_lt s.ba.lt) (fun k hk => by injection hk with hk; omega)⟩
end
def dig1 : List UInt8 := 1 :: List.replicate 31 0
def dig2 : List UInt8 := 2 :: List.replicate 31 0
theorem digs : dig1.length = 32 ∧ dig2.length = 32 := by decide

/-- append([]byte{}, p...): a copy. -/
theorem wpList_copyNew {w : World} {ops : Array Oper} {rest : List Oper} {o : Oper} {a : Act} {Q : Exit → Act → World → Prop} (hgd : o.guard = none) (d x : Operand)
    (ho : o.op = .call { callee := .builtin .append, args := #[d, x], argTypes := #[22, 22] }) (wr : World) (A : Option Addr) (p : List UInt8) (c : Nat)
    (hs : a.eval d = .slice (some ⟨wr.heap.size, 0, none⟩) 0 0) (hx : a.eval x = .slice A p.length c) (hw : w = wr.alloc (.cells #[] 5)) (hp : Hid (Shows wr wr.heap.size A p)) (hl : p.length ≤ 1000000)
    (hK : ∀ A' c' w', Hid (Owns w' wr.heap.size (.slice A' p.length c') p) → Hid (Below wr.heap.size wr w') → wpList Tryd.prog ops Q rest (a.put o.dst (.slice A' p.length c')) w') : wpList Tryd.prog ops Q (o :: rest) a w := by
  subst hw
  refine wpList_growB hgd d x 22 ho Tryd.underlying22 info5 wr.heap.size (.slice (some ⟨wr.heap.size, 0, none⟩) 0 0) [] A p c wr.heap.size hs hx (bt_owns1 (heap_alloc_new wr (.cells #[] 5)) rfl (by decide) (Nat.le_refl _)) (hp.out.below (below_alloc _)) (by simp; omega) (by simp) ?_
  intro A' c' w' ho hg
  simp only [List.nil_append] at ho ⊢
  refine hK A' c' w' ho ?_
  exact (below_alloc _).grown hg (by simp) (fun k hk => by have := own_at hk; omega)
theorem Equal_same (A : Option Addr) (n cap : Nat) (l : List UInt8) (C : Option Addr) (d : Nat) (w : World) (hs : Shows w w.heap.size A l) (hp : Shows w w.heap.size C l) (h1 : n = l.length) (hn : n ≤ 9223372036854775807) :
    Calls Tryd.prog 17 #[.slice A n cap, .slice C n d] w fun e w' => e = .returned (.bool true) ∧ Below w.heap.size w w' :=
  (Equal_any A n cap l C n d l w hs hp h1 h1 hn hn).mono fun _ _ h => ⟨by rw [h.1]; simp, h.2⟩
theorem lt_no {c : Int} {n : Nat} (h : Hid (¬ c < (n : Int))) : (c < (n : Int)) = False := eq_false h.out
attribute [local irreducible] digestOf
attribute [local go_sem] lt_no
attribute [local go_sem] eqGuard_d
set_option maxHeartbeats 4000000 in
set_option maxRecDepth 20000 in
theorem walkL (K : Option Addr) (ck : Nat) (key : List UInt8) (A : Option Addr) (ca : Nat) (b : List UInt8) (n : Nat) (w : World) (hk : Shows w w.heap.size K key) (hkc : key.length ≤ ck) (hck : ck ≤ 140737488351232)
    (hb : Shows w w.heap.size A b) (hbc : b.length ≤ ca) (hca : ca ≤ 140737488351232) (hn : n < 256) (G : Glob w) :
    Calls Tryd.prog 7 #[.slice K key.length ck, .slice A b.length ca, .int .u8 n] w fun e w' => e = .returned (.bool true) ∧ Below w.heap.size w w' := by
  have HK := Lib.hid hk
  have HB := Lib.hid hb
  have HG := Lib.hid G
  have HC := Lib.hid (And.intro hkc (And.intro hck (And.intro hbc hca)))
  clear G hk hb hkc hck hbc hca
  obtain ⟨x, hx⟩ : ∃ x, x = b.take (min b.length n) := ⟨_, rfl⟩
  obtain ⟨k, hk⟩ : ∃ k, k = key.take (min key.length (n % 50)) := ⟨_, rfl⟩
  have hxl : x.length = min b.length n := by rw [hx, List.length_take]; omega
  have hkl : k.length = min key.length (n % 50) := by rw [hk, List.length_take]; omega
  have m1 : min (b.length : Int) (n : Int) = (x.length : Int) := by omega
  have m2 : min (key.length : Int) ((n : Int).tmod 50) = (k.length : Int) := by rw [Int.tmod_eq_emod_of_nonneg (by omega)]; omega
  have m3 : min (key.length : Int) ((n : Int) % 50) = (k.length : Int) := by omega
  have HX := Lib.hid (And.intro hx hk)
  have HL : Hid (x.length ≤ b.length ∧ k.length ≤ key.length) := by show _ ∧ _; omega
  clear hx hk hxl hkl
  go_enter Tryd.func7, Tryd.ntmps7
  by_cases hk100 : 100 < key.length
  · have i1 : (100 : Int) < (key.length : Int) := by omega
    go_wp2_with (go_at_call 8; refine (sanity_any _ HG.out).mono ?_; rintro e w2 ⟨rfl, hb2⟩)
    go_ret
    exact ⟨rfl, hb2⟩
  have i1 : Hid (¬ (100 : Int) < (key.length : Int)) := by show ¬ _; omega
  by_cases hb600 : 600 < b.length
  · have i2 : (600 : Int) < (b.length : Int) := by omega
    go_wp2_with (go_at_call 8; refine (sanity_any _ HG.out).mono ?_; rintro e w2 ⟨rfl, hb2⟩)
    go_ret
    exact ⟨rfl, hb2⟩
  have i2 : Hid (¬ (600 : Int) < (b.length : Int)) := by show ¬ _; omega
  go_wp2_with (first
    | (go_at_call 8; refine (sanity_any _ HG.out).mono ?_; rintro e w2 ⟨rfl, hb2⟩; have HB2 := Lib.hid hb2; clear hb2)
    | (at_builtin; (with_reducible show wpList _ _ _ _ _ _); refine wpList_copyNew rfl (.tmp 26) (.tmp 27) rfl w2 A b ca rfl rfl rfl (Lib.hid (HB.out.up HB2.out)) (by have := i2.out; omega) ?_; intro A3 c3 w3 ho3 hb3; have HB3 : Hid (Below w.heap.size w w3) := Lib.hid (HB2.out.trans (hb3.out.mono HB2.out.size)))
    | (at_builtin; (with_reducible show wpList _ _ _ _ _ _); refine wpList_copyNew rfl (.tmp 29) (.tmp 30) rfl w3 K key ck rfl rfl rfl (Lib.hid (HK.out.up HB3.out)) (by have := i1.out; omega) ?_; intro A4 c4 w4 ho4 hb4; have HB4 : Hid (Below w.heap.size w w4) := Lib.hid (HB3.out.trans (hb4.out.mono HB3.out.size)); have HO3 := Lib.hid (Shows.up (Owns.shows ho3.out).2.2 hb4.out); have HO4 := Lib.hid (Owns.shows ho4.out).2.2; have HC3 : Hid (b.length ≤ c3 ∧ c3 ≤ 9223372036854775807) := And.intro (Owns.shows ho3.out).2.1 ho3.out.cap_le; have HC4 : Hid (key.length ≤ c4 ∧ c4 ≤ 9223372036854775807) := And.intro (Owns.shows ho4.out).2.1 ho4.out.cap_le; have u1 : (x.length : Int) ≤ (c3 : Int) := (by have := HC3.out; have := HL.out; omega); have u2 : (k.length : Int) ≤ (c4 : Int) := (by have := HC4.out; have := HL.out; omega); clear ho3 ho4 hb4))
  have GG : Hid (Glob w4) := HG.out.up HB4.out
  have HXs : Hid (Shows w4 w4.heap.size A3 x) := by show Shows _ _ _ _; rw [HX.out.1]; exact HO3.out.first
  have HKs : Hid (Shows w4 w4.heap.size A4 k) := by show Shows _ _ _ _; rw [HX.out.2]; exact HO4.out.first
  have hb4 := Lib.hid (Below.refl w4.heap.size w4)
  go_wp2_with (first
    | (go_at_call 9; refine (sumP_any A3 c3 x w4 GG.out HXs.out (by have := HC3.out; have := HL.out; omega) HC3.out.2 (by have := HL.out; have := i2.out; omega)).mono ?_; rintro e w5 ⟨rfl, hb5⟩; have HB5 : Hid (Below w4.heap.size w4 w5) := Lib.hid (hb5); clear hb5)
    | (go_at_call 13; refine (leafP_any A3 c3 x w5 (GG.out.up HB5.out) (HXs.out.up HB5.out) (by have := HL.out; have := i2.out; omega)).mono ?_; rintro e w6 ⟨rfl, hb6⟩; have HB6 : Hid (Below w4.heap.size w4 w6) := Lib.hid (HB5.out.trans (hb6.mono HB5.out.size)); clear hb6)
    | (go_at_call 11; refine (keyedP_any A4 c4 k A3 c3 x w6 (GG.out.up HB6.out) (HKs.out.up HB6.out) (HXs.out.up HB6.out) (by have := HC4.out; have := HL.out; omega) (by have := HC3.out; have := HL.out; omega) HC4.out.2 HC3.out.2 (by have := HL.out; have := i2.out; omega)).mono ?_; rintro e w7 ⟨rfl, hb7⟩; have HB7 : Hid (Below w4.heap.size w4 w7) := Lib.hid (HB6.out.trans (hb7.mono HB6.out.size)); clear hb7)
    | (go_at_call 15; refine (pairP_any dig1 dig2 A3 c3 x w7 digs.1 digs.2 (GG.out.up HB7.out) (HXs.out.up HB7.out) (by have := HL.out; have := i2.out; omega)).mono ?_; rintro e w8 ⟨rfl, hb8⟩; have HB8 : Hid (Below w4.heap.size w4 w8) := Lib.hid (HB7.out.trans (hb8.mono HB7.out.size)); clear hb8; have HN := Lib.hid (four_new w8 #[Value.int IntKind.u8 0, Value.int IntKind.u8 0, Value.int IntKind.u8 0, Value.int IntKind.u8 0, Value.int IntKind.u8 0, Value.int IntKind.u8 0, Value.int IntKind.u8 0, Value.int IntKind.u8 0, Value.int IntKind.u8 0, Value.int IntKind.u8 0, Value.int IntKind.u8 0, Value.int IntKind.u8 0, Value.int IntKind.u8 0, Value.int IntKind.u8 0, Value.int IntKind.u8 0, Value.int IntKind.u8 0, Value.int IntKind.u8 0, Value.int IntKind.u8 0, Value.int IntKind.u8 0, Value.int IntKind.u8 0, Value.int IntKind.u8 0, Value.int IntKind.u8 0, Value.int IntKind.u8 0, Value.int IntKind.u8 0, Value.int IntKind.u8 0, Value.int IntKind.u8 0, Value.int IntKind.u8 0, Value.int IntKind.u8 0, Value.int IntKind.u8 0, Value.int IntKind.u8 0, Value.int IntKind.u8 0, Value.int IntKind.u8 0] rfl))
    | ((with_reducible show wpList _ _ _ _ _ _); refine wpList_store_all rfl 24 (.tmp 12) (.tmp 48) rfl w8.heap.size (cb (digestOf [] x)) rfl rfl 24 (cb (List.replicate 32 0)).toArray 32 HN.out.1 info24D (by simp [cb]) (by rw [cb_len, digestOf_len]) (cb_one _) ?_; intro w9 hb9 hg9 hz9; have F9 : Hid (F4 w8 w9 w8.heap.size (digestOf [] x) (List.replicate 32 0) (List.replicate 32 0) (List.replicate 32 0)) := F4.s1 (F4.mk (w0 := w8) HN.out.1 HN.out.2.1 HN.out.2.2.1 HN.out.2.2.2.1 HN.out.2.2.2.2.1) hb9 hg9; clear hb9 hg9 hz9)
    | ((with_reducible show wpList _ _ _ _ _ _); refine wpList_store_all rfl 24 (.tmp 13) (.tmp 50) rfl (w8.heap.size + 1) (cb (digestOf [] (0 :: x))) rfl rfl 24 (cb (List.replicate 32 0)).toArray 32 F9.out.bb info24D (by simp [cb]) (by rw [cb_len, digestOf_len]) (cb_one _) ?_; intro w10 hb10 hg10 hz10; have F10 : Hid (F4 w8 w10 w8.heap.size (digestOf [] x) (digestOf [] (0 :: x)) (List.replicate 32 0) (List.replicate 32 0)) := F4.s2 F9.out hb10 hg10; clear hb10 hg10 hz10)
    | ((with_reducible show wpList _ _ _ _ _ _); refine wpList_store_all rfl 24 (.tmp 14) (.tmp 53) rfl (w8.heap.size + 1 + 1) (cb (digestOf k x)) rfl rfl 24 (cb (List.replicate 32 0)).toArray 32 F10.out.bc info24D (by simp [cb]) (by rw [cb_len, digestOf_len]) (cb_one _) ?_; intro w11 hb11 hg11 hz11; have F11 : Hid (F4 w8 w11 w8.heap.size (digestOf [] x) (digestOf [] (0 :: x)) (digestOf k x) (List.replicate 32 0)) := F4.s3 F10.out hb11 hg11; clear hb11 hg11 hz11)
    | ((with_reducible show wpList _ _ _ _ _ _); refine wpList_store_all rfl 24 (.tmp 15) (.tmp 57) rfl (w8.heap.size + 1 + 1 + 1) (cb (digestOf [] (1 :: (dig1 ++ dig2 ++ x)))) rfl rfl 24 (cb (List.replicate 32 0)).toArray 32 F11.out.bd info24D (by simp [cb]) (by rw [cb_len, digestOf_len]) (cb_one _) ?_; intro w12 hb12 hg12 hz12; have F12 : Hid (F4 w8 w12 w8.heap.size (digestOf [] x) (digestOf [] (0 :: x)) (digestOf k x) (digestOf [] (1 :: (dig1 ++ dig2 ++ x)))) := F4.s4 F11.out hb12 hg12; clear hb12 hg12 hz12))
  have hs2 : Hid (SL w w12.drew K A A3 A4 w8.heap.size key b (digestOf [] x) (digestOf [] (0 :: x)) (digestOf k x) (digestOf [] (1 :: (dig1 ++ dig2 ++ x)))) := by
    have f := F12.out
    have b8 := HB8.out
    have bw : Below w.heap.size w w12 := (HB4.out.trans (b8.mono HB4.out.size)).trans (f.bel.mono (Nat.le_trans HB4.out.size b8.size))
    have b4 : Below w4.heap.size w4 w12 := b8.trans (f.bel.mono b8.size)
    exact SL.drew ⟨HG.out.up bw, HK.out.up bw, HB.out.up bw, HO3.out.up b4, HO4.out.up b4, f.ba.range, f.bb.range, f.bc.range, f.bd.range, f.bd.lt, bw.size, bw⟩
  have TX : Hid (∀ W, Shows W W.heap.size A3 b → Shows W W.heap.size A3 x) := fun W h => by rw [HX.out.1]; exact h.first
  have TK : Hid (∀ W, Shows W W.heap.size A4 key → Shows W W.heap.size A4 k) := fun W h => by rw [HX.out.2]; exact h.first
  clear F9 F10 F11 F12 HN HB4 HB5 HB6 HB7 HB8 hb4 HO3 HO4 HXs HKs GG HB2 HB3
  generalize w8.heap.size = g at *
  have q1 := eql_same (digestOf [] x) (digestOf_len _ _)
  have q2 := eql_same (digestOf [] (0 :: x)) (digestOf_len _ _)
  have q3 := eql_same (digestOf k x) (digestOf_len _ _)
  have q4 := eql_same (digestOf [] (1 :: (dig1 ++ dig2 ++ x))) (digestOf_len _ _)
  have q5 := eql_same (digestOf [] (1 :: (dig1 ++ (dig2 ++ x)))) (digestOf_len _ _)
  have hu := Tryd.underlying24
  have i4 : (Tryd.prog.info? 24).map (·.size) = some (cb (digestOf [] x)).length := by rw [cb_len, digestOf_len]; exact info24D
  have i5 : (Tryd.prog.info? 24).map (·.size) = some (cb (digestOf [] (0 :: x))).length := by rw [cb_len, digestOf_len]; exact info24D
  have i6 : (Tryd.prog.info? 24).map (·.size) = some (cb (digestOf k x)).length := by rw [cb_len, digestOf_len]; exact info24D
  have i7 : (Tryd.prog.info? 24).map (·.size) = some (cb (digestOf [] (1 :: (dig1 ++ dig2 ++ x)))).length := by rw [cb_len, digestOf_len]; exact info24D
  refine wp_region_held_drew (S := fun w' => Hid (SL w w' K A A3 A4 g key b (digestOf [] x) (digestOf [] (0 :: x)) (digestOf k x) (digestOf [] (1 :: (dig1 ++ dig2 ++ x))))) (by kernel_rfl) hs2 (fun hHeld => ?_)
  refine hand_take (i := 0) (v := ?_) rfl (by kernel_rfl) (by kernel_rfl) (by kernel_rfl) (fun _ _ _ h => h) (Or.inl ⟨by rfl, ?_⟩) (by assumption) ?_
  rotate_left
  · intro w hSw
    clear hSw
    go_simp
    try with_reducible rfl
  try simp only [Act.put, List.setIfInBounds_toArray, List.set_cons_zero, List.set_cons_succ]
  refine hand_take (i := 1) (v := ?_) rfl (by kernel_rfl) (by kernel_rfl) (by kernel_rfl) (fun _ _ _ h => h) (Or.inl ⟨by rfl, ?_⟩) (by assumption) ?_
  rotate_left
  · intro w hSw
    clear hSw
    go_simp
    try with_reducible rfl
  try simp only [Act.put, List.setIfInBounds_toArray, List.set_cons_zero, List.set_cons_succ]
  refine wpAnyH_ready (rs := [2]) (by kernel_rfl) (by simp) ?_
  refine hand_cons rfl (fun KK hK => ?_) AllReadyH.nil
  go_simp
  go_at_call 17
  refine (Equal_same A3 _ c3 b A ca _ hHeld.out.sx hHeld.out.sb rfl (by have := i2.out; omega)).mono ?_
  rintro e w21 ⟨rfl, hb21⟩
  have hs21 := Lib.hid (hHeld.out.up hb21)
  clear hb21 hHeld
  go_wp2_with fail
  refine hK.out _ _ (hs21) (fun hHeld => ?_)
  clear hK KK
  try simp only [Act.put, List.setIfInBounds_toArray, List.set_cons_zero, List.set_cons_succ]
  refine hand_take (i := 3) (v := ?_) rfl (by kernel_rfl) (by kernel_rfl) (by kernel_rfl) (fun _ _ _ h => h) (Or.inl ⟨by rfl, ?_⟩) (by assumption) ?_
  rotate_left
  · intro w hSw
    clear hSw
    go_simp
    try with_reducible rfl
  try simp only [Act.put, List.setIfInBounds_toArray, List.set_cons_zero, List.set_cons_succ]
  refine hand_take (i := 4) (v := ?_) rfl (by kernel_rfl) (by kernel_rfl) (by kernel_rfl) (fun _ _ _ h => h) (Or.inl ⟨by rfl, ?_⟩) (by assumption) ?_
  rotate_left
  · intro w hSw
    clear hSw
    go_simp
    try with_reducible rfl
  try simp only [Act.put, List.setIfInBounds_toArray, List.set_cons_zero, List.set_cons_succ]
  refine hand_take (i := 5) (v := ?_) rfl (by kernel_rfl) (by kernel_rfl) (by kernel_rfl) (fun _ _ _ h => h) (Or.inl ⟨by rfl, ?_⟩) (by assumption) ?_
  rotate_left
  · intro w hSw
    clear hSw
    go_simp
    try with_reducible rfl
  try simp only [Act.put, List.setIfInBounds_toArray, List.set_cons_zero, List.set_cons_succ]
  refine wpAnyH_ready (rs := [6]) (by kernel_rfl) (by simp) ?_
  refine hand_cons rfl (fun KK hK => ?_) AllReadyH.nil
  go_simp
  go_at_call 17
  refine (Equal_same A4 _ c4 key K ck _ hHeld.out.sl hHeld.out.sk rfl (by have := i1.out; omega)).mono ?_
  rintro e w22 ⟨rfl, hb22⟩
  have hs22 := Lib.hid (hHeld.out.up hb22)
  clear hb22 hHeld
  go_wp2_with fail
  refine hK.out _ _ (hs22) (fun hHeld => ?_)
  clear hK KK
  try simp only [Act.put, List.setIfInBounds_toArray, List.set_cons_zero, List.set_cons_succ]
  refine hand_take (i := 7) (v := ?_) rfl (by kernel_rfl) (by kernel_rfl) (by kernel_rfl) (fun _ _ _ h => h) (Or.inl ⟨by rfl, ?_⟩) (by assumption) ?_
  rotate_left
  · intro w hSw
    clear hSw
    go_simp
    try with_reducible rfl
  try simp only [Act.put, List.setIfInBounds_toArray, List.set_cons_zero, List.set_cons_succ]
  refine hand_take (i := 8) (v := ?_) rfl (by kernel_rfl) (by kernel_rfl) (by kernel_rfl) (fun _ _ _ h => h) (Or.inl ⟨by rfl, ?_⟩) (by assumption) ?_
  rotate_left
  · intro w hSw
    clear hSw
    go_simp
    try with_reducible rfl
  try simp only [Act.put, List.setIfInBounds_toArray, List.set_cons_zero, List.set_cons_succ]
  refine hand_take (i := 9) (v := ?_) rfl (by kernel_rfl) (by kernel_rfl) (by kernel_rfl) (fun _ _ _ h => h) (Or.inl ⟨by rfl, ?_⟩) (by assumption) ?_
  rotate_left
  · intro w hSw
    clear hSw
    go_simp
    try with_reducible rfl
  try simp only [Act.put, List.setIfInBounds_toArray, List.set_cons_zero, List.set_cons_succ]
  refine hand_take (i := 11) rfl (by kernel_rfl) (by kernel_rfl) (by kernel_rfl) (fun _ _ _ h => h) (yieldsIf_load_mid (by rfl) _ _ rfl g 0 rfl (cb (digestOf [] x)) _ (fun _ h => h.out.r1) hu rfl i4) (by assumption) ?_
  try simp only [Act.put, List.setIfInBounds_toArray, List.set_cons_zero, List.set_cons_succ]
  refine wpAnyH_ready (rs := [10]) (by kernel_rfl) (by simp) ?_
  refine hand_cons rfl (fun KK hK => ?_) AllReadyH.nil
  go_simp
  go_at_call 9
  refine (sumP_any A3 c3 x _ hHeld.out.glob (TX.out _ hHeld.out.sx) (by have := HC3.out; have := HL.out; omega) HC3.out.2 (by have := HL.out; have := i2.out; omega)).mono ?_
  rintro e w23 ⟨rfl, hb23⟩
  have hs23 := Lib.hid (hHeld.out.up hb23)
  clear hb23 hHeld
  go_wp2_with fail
  refine hK.out _ _ (hs23) (fun hHeld => ?_)
  clear hK KK
  try simp only [Act.put, List.setIfInBounds_toArray, List.set_cons_zero, List.set_cons_succ]
  refine hand_take (i := 12) (v := ?_) rfl (by kernel_rfl) (by kernel_rfl) (by kernel_rfl) (fun _ _ _ h => h) (Or.inl ⟨by rfl, ?_⟩) (by assumption) ?_
  rotate_left
  · intro w hSw
    clear hSw
    go_simp
    try with_reducible rfl
  try simp only [Act.put, List.setIfInBounds_toArray, List.set_cons_zero, List.set_cons_succ]
  refine hand_take (i := 13) (v := ?_) rfl (by kernel_rfl) (by kernel_rfl) (by kernel_rfl) (fun _ _ _ h => h) (Or.inl ⟨by rfl, ?_⟩) (by assumption) ?_
  rotate_left
  · intro w hSw
    clear hSw
    go_simp
    try with_reducible rfl
  try simp only [Act.put, List.setIfInBounds_toArray, List.set_cons_zero, List.set_cons_succ]
  refine hand_take (i := 14) (v := ?_) rfl (by kernel_rfl) (by kernel_rfl) (by kernel_rfl) (fun _ _ _ h => h) (Or.inl ⟨by rfl, ?_⟩) (by assumption) ?_
  rotate_left
  · intro w hSw
    clear hSw
    go_simp
    try with_reducible rfl
  try simp only [Act.put, List.setIfInBounds_toArray, List.set_cons_zero, List.set_cons_succ]
  refine hand_take (i := 15) (v := ?_) rfl (by kernel_rfl) (by kernel_rfl) (by kernel_rfl) (fun _ _ _ h => h) (Or.inl ⟨by rfl, ?_⟩) (by assumption) ?_
  rotate_left
  · intro w hSw
    clear hSw
    go_simp
    try with_reducible rfl
  try simp only [Act.put, List.setIfInBounds_toArray, List.set_cons_zero, List.set_cons_succ]
  refine hand_take (i := 17) rfl (by kernel_rfl) (by kernel_rfl) (by kernel_rfl) (fun _ _ _ h => h) (yieldsIf_load_mid (by rfl) _ _ rfl (g + 1) 0 rfl (cb (digestOf [] (0 :: x))) _ (fun _ h => h.out.r2) hu rfl i5) (by assumption) ?_
  try simp only [Act.put, List.setIfInBounds_toArray, List.set_cons_zero, List.set_cons_succ]
  refine wpAnyH_ready (rs := [16]) (by kernel_rfl) (by simp) ?_
  refine hand_cons rfl (fun KK hK => ?_) AllReadyH.nil
  go_simp
  go_at_call 13
  refine (leafP_any A3 c3 x _ hHeld.out.glob (TX.out _ hHeld.out.sx) (by have := HL.out; have := i2.out; omega)).mono ?_
  rintro e w24 ⟨rfl, hb24⟩
  have hs24 := Lib.hid (hHeld.out.up hb24)
  clear hb24 hHeld
  go_wp2_with fail
  refine hK.out _ _ (hs24) (fun hHeld => ?_)
  clear hK KK
  try simp only [Act.put, List.setIfInBounds_toArray, List.set_cons_zero, List.set_cons_succ]
  refine hand_take (i := 18) (v := ?_) rfl (by kernel_rfl) (by kernel_rfl) (by kernel_rfl) (fun _ _ _ h => h) (Or.inl ⟨by rfl, ?_⟩) (by assumption) ?_
  rotate_left
  · intro w hSw
    clear hSw
    go_simp
    try with_reducible rfl
  try simp only [Act.put, List.setIfInBounds_toArray, List.set_cons_zero, List.set_cons_succ]
  refine hand_take (i := 19) (v := ?_) rfl (by kernel_rfl) (by kernel_rfl) (by kernel_rfl) (fun _ _ _ h => h) (Or.inl ⟨by rfl, ?_⟩) (by assumption) ?_
  rotate_left
  · intro w hSw
    clear hSw
    go_simp
    try with_reducible rfl
  try simp only [Act.put, List.setIfInBounds_toArray, List.set_cons_zero, List.set_cons_succ]
  refine hand_take (i := 20) (v := ?_) rfl (by kernel_rfl) (by kernel_rfl) (by kernel_rfl) (fun _ _ _ h => h) (Or.inl ⟨by rfl, ?_⟩) (by assumption) ?_
  rotate_left
  · intro w hSw
    clear hSw
    go_simp
    try with_reducible rfl
  try simp only [Act.put, List.setIfInBounds_toArray, List.set_cons_zero, List.set_cons_succ]
  refine hand_take (i := 21) (v := ?_) rfl (by kernel_rfl) (by kernel_rfl) (by kernel_rfl) (fun _ _ _ h => h) (Or.inl ⟨by rfl, ?_⟩) (by assumption) ?_
  rotate_left
  · intro w hSw
    clear hSw
    go_simp
    try with_reducible rfl
  try simp only [Act.put, List.setIfInBounds_toArray, List.set_cons_zero, List.set_cons_succ]
  refine hand_take (i := 22) (v := ?_) rfl (by kernel_rfl) (by kernel_rfl) (by kernel_rfl) (fun _ _ _ h => h) (Or.inl ⟨by rfl, ?_⟩) (by assumption) ?_
  rotate_left
  · intro w hSw
    clear hSw
    go_simp
    try with_reducible rfl
  try simp only [Act.put, List.setIfInBounds_toArray, List.set_cons_zero, List.set_cons_succ]
  refine hand_take (i := 24) rfl (by kernel_rfl) (by kernel_rfl) (by kernel_rfl) (fun _ _ _ h => h) (yieldsIf_load_mid (by rfl) _ _ rfl (g + 1 + 1) 0 rfl (cb (digestOf k x)) _ (fun _ h => h.out.r3) hu rfl i6) (by assumption) ?_
  try simp only [Act.put, List.setIfInBounds_toArray, List.set_cons_zero, List.set_cons_succ]
  refine wpAnyH_ready (rs := [23]) (by kernel_rfl) (by simp) ?_
  refine hand_cons rfl (fun KK hK => ?_) AllReadyH.nil
  go_simp
  go_at_call 11
  refine (keyedP_any A4 c4 k A3 c3 x _ hHeld.out.glob (TK.out _ hHeld.out.sl) (TX.out _ hHeld.out.sx) (by have := HC4.out; have := HL.out; omega) (by have := HC3.out; have := HL.out; omega) HC4.out.2 HC3.out.2 (by have := HL.out; have := i2.out; omega)).mono ?_
  rintro e w25 ⟨rfl, hb25⟩
  have hs25 := Lib.hid (hHeld.out.up hb25)
  clear hb25 hHeld
  go_wp2_with fail
  refine hK.out _ _ (hs25) (fun hHeld => ?_)
  clear hK KK
  try simp only [Act.put, List.setIfInBounds_toArray, List.set_cons_zero, List.set_cons_succ]
  refine hand_take (i := 25) (v := ?_) rfl (by kernel_rfl) (by kernel_rfl) (by kernel_rfl) (fun _ _ _ h => h) (Or.inl ⟨by rfl, ?_⟩) (by assumption) ?_
  rotate_left
  · intro w hSw
    clear hSw
    go_simp
    try with_reducible rfl
  try simp only [Act.put, List.setIfInBounds_toArray, List.set_cons_zero, List.set_cons_succ]
  refine hand_take (i := 26) (v := ?_) rfl (by kernel_rfl) (by kernel_rfl) (by kernel_rfl) (fun _ _ _ h => h) (Or.inl ⟨by rfl, ?_⟩) (by assumption) ?_
  rotate_left
  · intro w hSw
    clear hSw
    go_simp
    try with_reducible rfl
  try simp only [Act.put, List.setIfInBounds_toArray, List.set_cons_zero, List.set_cons_succ]
  refine hand_take (i := 27) (v := ?_) rfl (by kernel_rfl) (by kernel_rfl) (by kernel_rfl) (fun _ _ _ h => h) (Or.inl ⟨by rfl, ?_⟩) (by assumption) ?_
  rotate_left
  · intro w hSw
    clear hSw
    go_simp
    try with_reducible rfl
  try simp only [Act.put, List.setIfInBounds_toArray, List.set_cons_zero, List.set_cons_succ]
  refine hand_take (i := 28) (v := ?_) rfl (by kernel_rfl) (by kernel_rfl) (by kernel_rfl) (fun _ _ _ h => h) (Or.inl ⟨by rfl, ?_⟩) (by assumption) ?_
  rotate_left
  · intro w hSw
    clear hSw
    go_simp
    try with_reducible rfl
  try simp only [Act.put, List.setIfInBounds_toArray, List.set_cons_zero, List.set_cons_succ]
  refine hand_take (i := 29) (v := ?_) rfl (by kernel_rfl) (by kernel_rfl) (by kernel_rfl) (fun _ _ _ h => h) (Or.inl ⟨by rfl, ?_⟩) (by assumption) ?_
  rotate_left
  · intro w hSw
    clear hSw
    go_simp
    try with_reducible rfl
  try simp only [Act.put, List.setIfInBounds_toArray, List.set_cons_zero, List.set_cons_succ]
  refine hand_take (i := 30) (v := ?_) rfl (by kernel_rfl) (by kernel_rfl) (by kernel_rfl) (fun _ _ _ h => h) (Or.inl ⟨by rfl, ?_⟩) (by assumption) ?_
  rotate_left
  · intro w hSw
    clear hSw
    go_simp
    try with_reducible rfl
  try simp only [Act.put, List.setIfInBounds_toArray, List.set_cons_zero, List.set_cons_succ]
  refine hand_take (i := 32) rfl (by kernel_rfl) (by kernel_rfl) (by kernel_rfl) (fun _ _ _ h => h) (yieldsIf_load_mid (by rfl) _ _ rfl (g + 1 + 1 + 1) 0 rfl (cb (digestOf [] (1 :: (dig1 ++ dig2 ++ x)))) _ (fun _ h => h.out.r4) hu rfl i7) (by assumption) ?_
  try simp only [Act.put, List.setIfInBounds_toArray, List.set_cons_zero, List.set_cons_succ]
  refine wpAnyH_ready (rs := [31]) (by kernel_rfl) (by simp) ?_
  refine hand_cons rfl (fun KK hK => ?_) AllReadyH.nil
  go_simp
  go_at_call 15
  refine (pairP_any dig1 dig2 A3 c3 x _ digs.1 digs.2 hHeld.out.glob (TX.out _ hHeld.out.sx) (by have := HL.out; have := i2.out; omega)).mono ?_
  rintro e w26 ⟨rfl, hb26⟩
  have hs26 := Lib.hid (hHeld.out.up hb26)
  clear hb26 hHeld
  go_wp2_with fail
  refine hK.out _ _ (hs26) (fun hHeld => ?_)
  clear hK KK
  try simp only [Act.put, List.setIfInBounds_toArray, List.set_cons_zero, List.set_cons_succ]
  refine hand_take (i := 33) (v := ?_) rfl (by kernel_rfl) (by kernel_rfl) (by kernel_rfl) (fun _ _ _ h => h) (Or.inl ⟨by rfl, ?_⟩) (by assumption) ?_
  rotate_left
  · intro w hSw
    clear hSw
    go_simp
    try with_reducible rfl
  try simp only [Act.put, List.setIfInBounds_toArray, List.set_cons_zero, List.set_cons_succ]
  refine hand_take (i := 34) (v := ?_) rfl (by kernel_rfl) (by kernel_rfl) (by kernel_rfl) (fun _ _ _ h => h) (Or.inl ⟨by rfl, ?_⟩) (by assumption) ?_
  rotate_left
  · intro w hSw
    clear hSw
    go_simp
    try with_reducible rfl
  try simp only [Act.put, List.setIfInBounds_toArray, List.set_cons_zero, List.set_cons_succ]
  refine hand_take (i := 35) (v := ?_) rfl (by kernel_rfl) (by kernel_rfl) (by kernel_rfl) (fun _ _ _ h => h) (Or.inl ⟨by rfl, ?_⟩) (by assumption) ?_
  rotate_left
  · intro w hSw
    clear hSw
    go_simp
    try with_reducible rfl
  try simp only [Act.put, List.setIfInBounds_toArray, List.set_cons_zero, List.set_cons_succ]
  refine hand_take (i := 36) (v := ?_) rfl (by kernel_rfl) (by kernel_rfl) (by kernel_rfl) (fun _ _ _ h => h) (Or.inl ⟨by rfl, ?_⟩) (by assumption) ?_
  rotate_left
  · intro w hSw
    clear hSw
    go_simp
    try with_reducible rfl
  try simp only [Act.put, List.setIfInBounds_toArray, List.set_cons_zero, List.set_cons_succ]
  refine hand_take (i := 37) (v := ?_) rfl (by kernel_rfl) (by kernel_rfl) (by kernel_rfl) (fun _ _ _ h => h) (Or.inl ⟨by rfl, ?_⟩) (by assumption) ?_
  rotate_left
  · intro w hSw
    clear hSw
    go_simp
    try with_reducible rfl
  try simp only [Act.put, List.setIfInBounds_toArray, List.set_cons_zero, List.set_cons_succ]
  refine hand_take (i := 38) (v := ?_) rfl (by kernel_rfl) (by kernel_rfl) (by kernel_rfl) (fun _ _ _ h => h) (Or.inl ⟨by rfl, ?_⟩) (by assumption) ?_
  rotate_left
  · intro w hSw
    clear hSw
    go_simp
    try with_reducible rfl
  try simp only [Act.put, List.setIfInBounds_toArray, List.set_cons_zero, List.set_cons_succ]
  refine wpAnyH_done (by kernel_rfl) ?_ _
  go_wp2
  go_ret
  exact ⟨rfl, hs26.out.bel⟩
end Go.Proofs.YtdpkbhhmhmffnaaDoor
