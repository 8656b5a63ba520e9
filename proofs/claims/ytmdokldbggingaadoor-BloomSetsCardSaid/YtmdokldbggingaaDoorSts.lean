/-
  BloomSets, walked: order and repetition of keys do not matter; the union of two sets' sketches is the sketch of all keys.
-/
import Derived.Test.YtmdokldbggingaaDoorBlG
import Derived.Deep.CutRange
namespace Go.Proofs.YtmdokldbggingaaDoor
open Go.RowKit
namespace sets

/-- keys as rows of one cell -/
def rw1 (ks : List Ky) : List (List Value) := ks.map fun x => [x.val]
theorem rw1_len (ks : List Ky) : (rw1 ks).length = ks.length := by simp [rw1]
theorem rw1_one (ks : List Ky) : ∀ vs ∈ rw1 ks, vs.length = 1 := fun vs h => by
  obtain ⟨x, _, rfl⟩ := List.mem_map.1 h
  rfl
theorem rw1_cell (ks : List Ky) : ∀ vs ∈ rw1 ks, ∀ u ∈ vs, u.oneCell' = true := fun vs h u hu => by
  obtain ⟨x, _, rfl⟩ := List.mem_map.1 h
  rw [List.mem_singleton] at hu
  subst hu
  rfl
theorem row_of {w : World} {B : Nat} {A : Option Addr} {ks : List Ky} (h : KsAt w B A ks) : RowAt 1 w B A (rw1 ks) := fun hl => by
  obtain ⟨b, off, e, hlt, hc⟩ := h.row (by rwa [rw1_len] at hl)
  refine ⟨b, off, e, hlt, fun i vs hi j v hj => ?_⟩
  rw [rw1, List.getElem?_map, Option.map_eq_some_iff] at hi
  obtain ⟨x, hx, rfl⟩ := hi
  cases j with
  | zero =>
    have e : x.val = v := by simpa using hj
    subst e
    simpa using hc i x hx
  | succ j => simp at hj
theorem of_row {w : World} {B : Nat} {A : Option Addr} {ks : List Ky} (h : RowAt 1 w B A (rw1 ks)) (hk : ∀ x ∈ ks, Shows w B x.A x.l) (hc : ∀ x ∈ ks, x.l.length ≤ x.c ∧ x.c ≤ 140737488351232) : KsAt w B A ks := ⟨fun hl => by
  obtain ⟨b, off, e, hlt, hc⟩ := h (by rwa [rw1_len])
  refine ⟨b, off, e, hlt, fun i x hi => ?_⟩
  have := hc i [x.val] (by rw [rw1, List.getElem?_map, hi]; rfl) 0 x.val rfl
  simpa using this, hk, hc⟩
theorem infoK : (Tryd.prog.info? 22).map (fun i => (i.zero, i.size, i.bytes)) = some (some (.slice none 0 0), 1, 24) := by kernel_rfl
/-- append(row, keys...) -/
theorem cat_keys {w : World} {ops : Array Oper} {rest : List Oper} {o : Oper} {a : Act} {Q : Exit → Act → World → Prop} (hgd : o.guard = none) (d x : Operand) (ho : o.op = .call { callee := .builtin .append, args := #[d, x], argTypes := #[37, 37] })
    (base : Nat) (v : Value) (l1 : List Ky) (A : Option Addr) (n c U : Nat) (l2 : List Ky) (N : Nat) (hs : a.eval d = v) (hx : a.eval x = .slice A n c) (hn : n = l2.length) (hN : l1.length + n = N)
    (hr : Own 22 1 w base v (rw1 l1)) (h2 : KsAt w U A l2) (hroom : N ≤ 1000) (hbase : base ≤ w.heap.size)
    (hK : ∀ A' c' w', Own 22 1 w' base (.slice A' N c') (rw1 (l1 ++ l2)) → w.grownBy w' v.ownBlock → Below base w w' → wpList Tryd.prog ops Q rest (a.put o.dst (.slice A' N c')) w') : wpList Tryd.prog ops Q (o :: rest) a w := by
  refine wpList_cat hgd d x ho Tryd.underlying37 infoK rfl (by decide) base v (rw1 l1) A n c U (rw1 l2) hs hx (by rw [rw1_len]; exact hn) hr (row_of h2) (rw1_one l2) (rw1_cell l2) (by rw [rw1_len]; omega) (by decide) hbase ?_
  intro A' c' w' ho hg hb
  rw [rw1_len, hN] at ho ⊢
  exact hK A' c' w' (by unfold rw1 at ho ⊢; rw [List.map_append]; exact ho) hg hb
/-- the first q keys of the row turned by t -/
def rotL (l : List Ky) (t q : Nat) : List Ky := (List.range q).map fun i => l.getD ((l.length - i + t) % l.length) ⟨none, [], 0⟩
theorem rotL_len (l : List Ky) (t q : Nat) : (rotL l t q).length = q := by simp [rotL]
theorem rotL_succ (l : List Ky) (t q : Nat) {x : Ky} (hx : l[(l.length - q + t) % l.length]? = some x) : rotL l t (q + 1) = rotL l t q ++ [x] := by
  simp [rotL, List.range_succ, List.getD_eq_getElem?_getD, hx]
theorem rotL_mem (l : List Ky) (t : Nat) (x : Ky) : x ∈ rotL l t l.length ↔ x ∈ l := by
  constructor
  · intro h
    obtain ⟨i, hi, rfl⟩ := List.mem_map.1 h
    have hi := List.mem_range.1 hi
    have hm : (l.length - i + t) % l.length < l.length := Nat.mod_lt _ (by omega)
    rw [List.getD_eq_getElem?_getD, List.getElem?_eq_getElem hm]
    exact List.getElem_mem hm
  · intro h
    obtain ⟨p, hp, rfl⟩ := List.getElem_of_mem h
    have hN : 0 < l.length := by omega
    have hi := Nat.mod_lt (t + l.length - p) hN
    have hd := Nat.mod_add_div (t + l.length - p) l.length
    refine List.mem_map.2 ⟨(t + l.length - p) % l.length, List.mem_range.2 hi, ?_⟩
    have e : l.length - (t + l.length - p) % l.length + t = p + l.length * ((t + l.length - p) / l.length) := by omega
    rw [e, Nat.add_mul_mod_self_left, Nat.mod_eq_of_lt hp, List.getD_eq_getElem?_getD, List.getElem?_eq_getElem hp]
    rfl
set_option maxRecDepth 20000 in
theorem long1 (A B : Option Addr) (nk ck n k mk dk at' : Nat) (ks os : List Ky) (w : World) (hnk : nk = ks.length) (hks : KsAt w w.heap.size A ks) (hnl : nk ≤ 140737488351232) (hmk : mk = os.length) (_hml : mk ≤ 140737488351232) (hos : KsAt w w.heap.size B os) (G : Glob w) (h1 : longB ks = true) : Calls Tryd.prog 5 #[.agg #[.slice A nk ck, .int .u8 n, .int .u8 k], .slice B mk dk, .int .u8 at'] w fun e w' => e = .returned (.bool true) ∧ Below w.heap.size w w' := by
  have HG := Li G
  have HKS := Li hks
  have HNK := Li hnk
  have HOS := Li hos
  have HMK := Li hmk
  have HL1 := Li h1
  clear G hks hnk hos hmk h1
  go_enter Tryd.func5, Tryd.ntmps5
  go_wp2_with (first | (go_at_call 8; refine (sanity_any _ (HG.out.up (al1 w _))).mono ?_; rintro e w1 ⟨rfl, hb⟩; have P1 := Li ((CB.new w 39 [.slice A nk ck, .int .u8 n, .int .u8 k]).up hb); have B1 := Li (below_step (al1 w _) (al1 w _).size hb); obtain ⟨s0, s1, s2⟩ := P1.out.c3; have zs := P1.out.lt; clear hb) | (go_at_call 20; (with_reducible show Calls _ _ #[.slice A _ _] _ _); refine (long_any A nk ck ks _ HNK.out (HKS.out.up B1.out) (by omega)).mono ?_; rintro e w1 ⟨rfl, rfl⟩; rw [HL1.out]))
  go_ret
  exact ⟨rfl, B1.out⟩
set_option maxRecDepth 20000 in
theorem long2 (A B : Option Addr) (nk ck n k mk dk at' : Nat) (ks os : List Ky) (w : World) (hnk : nk = ks.length) (hks : KsAt w w.heap.size A ks) (hnl : nk ≤ 140737488351232) (hmk : mk = os.length) (_hml : mk ≤ 140737488351232) (hos : KsAt w w.heap.size B os) (G : Glob w) (h1 : longB ks = false) (h2 : longB os = true) : Calls Tryd.prog 5 #[.agg #[.slice A nk ck, .int .u8 n, .int .u8 k], .slice B mk dk, .int .u8 at'] w fun e w' => e = .returned (.bool true) ∧ Below w.heap.size w w' := by
  have HG := Li G
  have HKS := Li hks
  have HNK := Li hnk
  have HOS := Li hos
  have HMK := Li hmk
  have HL1 := Li h1
  have HL2 := Li h2
  clear G hks hnk hos hmk h1 h2
  go_enter Tryd.func5, Tryd.ntmps5
  go_wp2_with (first | (go_at_call 8; refine (sanity_any _ (HG.out.up (al1 w _))).mono ?_; rintro e w1 ⟨rfl, hb⟩; have P1 := Li ((CB.new w 39 [.slice A nk ck, .int .u8 n, .int .u8 k]).up hb); have B1 := Li (below_step (al1 w _) (al1 w _).size hb); obtain ⟨s0, s1, s2⟩ := P1.out.c3; have zs := P1.out.lt; clear hb) | (go_at_call 20; (with_reducible show Calls _ _ #[.slice A _ _] _ _); refine (long_any A nk ck ks _ HNK.out (HKS.out.up B1.out) (by omega)).mono ?_; rintro e w1 ⟨rfl, rfl⟩; rw [HL1.out]) | (go_at_call 20; (with_reducible show Calls _ _ #[.slice B _ _] _ _); refine (long_any B mk dk os _ HMK.out (HOS.out.up B1.out) (by omega)).mono ?_; rintro e w1 ⟨rfl, rfl⟩; rw [HL2.out]))
  go_ret
  exact ⟨rfl, B1.out⟩
theorem oneS {A : Option Addr} {n c : Nat} {x y : Nat} : ∀ u ∈ [Value.slice A n c, .int .u8 x, .int .u8 y], u.oneCell' = true := fun u hu => by
  simp only [List.mem_cons, List.not_mem_nil, or_false] at hu
  rcases hu with rfl | rfl | rfl <;> rfl
/-- what lies below g: the set's box, the two sketches -/
structure TS (w : World) (A : Option Addr) (nk ck n k p8 : Nat) (A8 : Option Addr) (c8 : Nat) (la : List UInt8) (p9 : Nat) (A9 : Option Addr) (c9 : Nat) (lb : List UInt8) (K : Int) (m g : Nat) (X : World) : Prop where
  bx : CB X w.heap.size 39 [.slice A nk ck, .int .u8 n, .int .u8 k]
  f8 : CB X p8 24 [.int .i64 K, .slice A8 m c8]
  o8 : Owns X w.heap.size (.slice A8 m c8) la
  f9 : CB X p9 24 [.int .i64 K, .slice A9 m c9]
  o9 : Owns X w.heap.size (.slice A9 m c9) lb
  d : Below w.heap.size w X
  l8 : w.heap.size < g ∧ p8 < g ∧ p9 < g ∧ g ≤ X.heap.size
  n8 : ∀ j, (Value.slice A8 m c8).ownBlock = some j → j < g
  n9 : ∀ j, (Value.slice A9 m c9).ownBlock = some j → j < g
section
variable {w : World} {A : Option Addr} {nk ck n k p8 : Nat} {A8 : Option Addr} {c8 : Nat} {la : List UInt8} {p9 : Nat} {A9 : Option Addr} {c9 : Nat} {lb : List UInt8} {K : Int} {m g : Nat} {X X' : World}
theorem TS.up (h : TS w A nk ck n k p8 A8 c8 la p9 A9 c9 lb K m g X) (hb : Below X.heap.size X X') : TS w A nk ck n k p8 A8 c8 la p9 A9 c9 lb K m g X' :=
  ⟨h.bx.up hb, h.f8.up hb, owns_upB h.o8 hb, h.f9.up hb, owns_upB h.o9 hb, below_step h.d h.d.size hb, ⟨h.l8.1, h.l8.2.1, h.l8.2.2.1, Nat.le_trans h.l8.2.2.2 hb.size⟩, h.n8, h.n9⟩
theorem TS.row (h : TS w A nk ck n k p8 A8 c8 la p9 A9 c9 lb K m g X) {row : Option Nat} (hg : X.grownBy X' row) (hr : ∀ j, row = some j → g ≤ j) : TS w A nk ck n k p8 A8 c8 la p9 A9 c9 lb K m g X' := by
  have z := h.l8
  have ne : ∀ j, j < g → some j ≠ row := fun j hj e => by have := hr j e.symm; omega
  have kept : ∀ {v : Value} {l : List UInt8}, Owns X w.heap.size v l → (∀ j, v.ownBlock = some j → j < g) → Owns X' w.heap.size v l := fun {v l} ho hn => owns_kept ho hg (by
    cases hv : v.ownBlock with
    | none => exact .inl rfl
    | some j => exact .inr (ne j (hn j hv)))
  exact ⟨h.bx.grown hg (ne _ z.1), h.f8.grown hg (ne _ z.2.1), kept h.o8 h.n8, h.f9.grown hg (ne _ z.2.2.1), kept h.o9 h.n9, h.d.grown hg h.d.size (fun j hj => by have := hr j hj; omega), ⟨z.1, z.2.1, z.2.2.1, Nat.le_trans z.2.2.2 hg.size⟩, h.n8, h.n9⟩
end
theorem kept_ne {v v' : Value} {B S : Nat} (h : ∀ j, v.ownBlock = some j → j < B) (h' : ∀ g, v'.ownBlock = some g → B ≤ g ∧ g < S) : v.ownBlock = none ∨ v.ownBlock ≠ v'.ownBlock := by
  cases hv : v.ownBlock with
  | none => exact .inl rfl
  | some j => exact .inr (fun e => by have h1 := h j hv; have h2 := (h' j e.symm).1; omega)
theorem mem_map_same {a b : List Ky} (h : ∀ x, x ∈ a ↔ x ∈ b) (y : List UInt8) : y ∈ a.map (fun x => x.l) ↔ y ∈ b.map (fun x => x.l) := by
  simp only [List.mem_map, h]
/-- a sketch's box and its bytes -/
structure Sk (X : World) (p : Nat) (A : Option Addr) (c : Nat) (K : Int) (m : Nat) (l : List UInt8) : Prop where
  b : CB X p 24 [.int .i64 K, .slice A m c]
  s : Shows X X.heap.size A l
theorem Sk.up {X X' : World} {p : Nat} {A : Option Addr} {c : Nat} {K : Int} {m : Nat} {l : List UInt8} (h : Sk X p A c K m l) (hb : Below X.heap.size X X') : Sk X' p A c K m l := ⟨h.b.up hb, h.s.up hb⟩
theorem sk_new {w1 w2 : World} {B : Nat} {A : Option Addr} {c : Nat} {K : Int} {m : Nat} {l : List UInt8} (ho : Owns w1 B (.slice A m c) l) (e : w2 = w1.alloc (.cells #[.int .i64 K, .slice A m c] 24)) : Sk w2 w1.heap.size A c K m l := by
  subst e
  exact ⟨CB.new w1 24 [.int .i64 K, .slice A m c], owns_sh ho (al1 w1 _)⟩
/-- .. with the row of all keys -/
structure RS (w : World) (A : Option Addr) (nk ck n k p8 : Nat) (A8 : Option Addr) (c8 : Nat) (la : List UInt8) (p9 : Nat) (A9 : Option Addr) (c9 : Nat) (lb : List UInt8) (K : Int) (m g : Nat) (p10 B2 : Nat) (A10 : Option Addr) (N c10 : Nat) (all : List Ky) (X : World) : Prop where
  t : TS w A nk ck n k p8 A8 c8 la p9 A9 c9 lb K m g X
  x10 : CB X p10 39 [.slice A10 N c10, .int .u8 n, .int .u8 k]
  r10 : Own 22 1 X B2 (.slice A10 N c10) (rw1 all)
section
variable {w : World} {A : Option Addr} {nk ck n k p8 : Nat} {A8 : Option Addr} {c8 : Nat} {la : List UInt8} {p9 : Nat} {A9 : Option Addr} {c9 : Nat} {lb : List UInt8} {K : Int} {m g : Nat} {p10 B2 : Nat} {A10 : Option Addr} {N c10 : Nat} {all : List Ky} {X X' : World}
theorem RS.up (h : RS w A nk ck n k p8 A8 c8 la p9 A9 c9 lb K m g p10 B2 A10 N c10 all X) (hb : Below X.heap.size X X') : RS w A nk ck n k p8 A8 c8 la p9 A9 c9 lb K m g p10 B2 A10 N c10 all X' := ⟨h.t.up hb, h.x10.up hb, h.r10.up hb⟩
theorem RS.cell (h : RS w A nk ck n k p8 A8 c8 la p9 A9 c9 lb K m g p10 B2 A10 N c10 all X) {s b off : Nat} (hA : A10 = some ⟨b, off, none⟩) {x : Ky} (hx : all[s]? = some x) : X.cell? ⟨b, off + s, none⟩ = some (.slice x.A x.l.length x.c) ∧ b < X.heap.size := by
  obtain ⟨b', off', e, hlt, hc⟩ := (Own.row h.r10).2.2.2 (by rw [rw1_len]; have := (List.getElem?_eq_some_iff.1 hx).1; omega)
  rw [hA] at e
  injection e with e
  injection e with e1 e2
  subst e1 e2
  have h1 := hc s [x.val] (by rw [rw1, List.getElem?_map, hx]; rfl) 0 x.val rfl
  have h2 : X.cell? ⟨b, off + s, none⟩ = some x.val := by simpa using h1
  exact ⟨h2, hlt⟩
end
/-- .. with the rows of all keys and of the turned keys -/
structure LS (w : World) (A : Option Addr) (nk ck n k p8 : Nat) (A8 : Option Addr) (c8 : Nat) (la : List UInt8) (p9 : Nat) (A9 : Option Addr) (c9 : Nat) (lb : List UInt8) (K : Int) (m g : Nat) (p10 p11 B2 B3 : Nat) (A10 : Option Addr) (N c10 : Nat) (all : List Ky) (A11 : Option Addr) (q c11 : Nat) (tl : List Ky) (X : World) : Prop where
  t : TS w A nk ck n k p8 A8 c8 la p9 A9 c9 lb K m g X
  x10 : CB X p10 39 [.slice A10 N c10, .int .u8 n, .int .u8 k]
  r10 : Own 22 1 X B2 (.slice A10 N c10) (rw1 all)
  x11 : CB X p11 39 [.slice A11 q c11, .int .u8 n, .int .u8 k]
  r11 : Own 22 1 X B3 (.slice A11 q c11) (rw1 tl)
  z : B3 ≤ X.heap.size
section
variable {w : World} {A : Option Addr} {nk ck n k p8 : Nat} {A8 : Option Addr} {c8 : Nat} {la : List UInt8} {p9 : Nat} {A9 : Option Addr} {c9 : Nat} {lb : List UInt8} {K : Int} {m g : Nat} {p10 p11 B2 B3 : Nat} {A10 : Option Addr} {N c10 : Nat} {all : List Ky} {A11 : Option Addr} {q c11 : Nat} {tl : List Ky} {X X' : World}
theorem LS.up (h : LS w A nk ck n k p8 A8 c8 la p9 A9 c9 lb K m g p10 p11 B2 B3 A10 N c10 all A11 q c11 tl X) (hb : Below X.heap.size X X') : LS w A nk ck n k p8 A8 c8 la p9 A9 c9 lb K m g p10 p11 B2 B3 A10 N c10 all A11 q c11 tl X' :=
  ⟨h.t.up hb, h.x10.up hb, h.r10.up hb, h.x11.up hb, h.r11.up hb, Nat.le_trans h.z hb.size⟩
end
set_option maxHeartbeats 16000000 in
set_option maxRecDepth 40000 in
theorem main (A B : Option Addr) (nk ck n k mk dk at' : Nat) (ks os : List Ky) (w : World) (hnk : nk = ks.length) (hks : KsAt w w.heap.size A ks) (hnl : nk ≤ 140737488351232) (hmk : mk = os.length) (_hml : mk ≤ 140737488351232) (hos : KsAt w w.heap.size B os) (G : Glob w) (hn : n < 256) (hk : k < 256) (hat : at' < 256) (h1 : longB ks = false) (h2 : longB os = false) : Calls Tryd.prog 5 #[.agg #[.slice A nk ck, .int .u8 n, .int .u8 k], .slice B mk dk, .int .u8 at'] w fun e w' => e = .returned (.bool true) ∧ Below w.heap.size w w' := by
  obtain ⟨hk60, hk300⟩ := keys_len h1
  obtain ⟨ho60, ho300⟩ := keys_len h2
  obtain ⟨K, hK⟩ : ∃ K : Nat, kOf k = K := ⟨_, rfl⟩
  obtain ⟨m, hm⟩ : ∃ m : Nat, nOf n = m := ⟨_, rfl⟩
  have V := Li (show validB (K : Int) m = true by rw [← hK, ← hm]; exact valid_of k n)
  have hm0 : 0 < m := by have := (nOf_le n).1; omega
  have hm1 : m ≤ 1024 := by have := (nOf_le n).2; omega
  obtain ⟨la, ha⟩ : ∃ la, bldK k n ks = la := ⟨_, rfl⟩
  obtain ⟨lb, hb⟩ : ∃ lb, bldK k n os = lb := ⟨_, rfl⟩
  have LA := Li (show la.length = m by rw [← ha, ← hm]; exact bldK_len k n ks)
  have LB := Li (show lb.length = m by rw [← hb, ← hm]; exact bldK_len k n os)
  have HAB := Li (show orL la lb = bldK k n (ks ++ os) by rw [← ha, ← hb]; unfold bldK; rw [List.map_append]; exact bld_or _ _ _ _ (nOf_le n).1)
  have HA := Li ha
  have HB := Li hb
  have HK := Li hK
  have HM := Li hm
  have H60 : nk ≤ 60 := by omega
  have HO60 : mk ≤ 60 := by omega
  have H300 := Li hk300
  have HO300 := Li ho300
  have HG := Li G
  have HKS := Li hks
  have HNK := Li hnk
  have HOS := Li hos
  have HMK := Li hmk
  have HL1 := Li h1
  have HL2 := Li h2
  clear G hks hnk hos hmk h1 h2 hk60 hk300 ho60 ho300 hK hm ha hb
  go_enter Tryd.func5, Tryd.ntmps5
  go_upto_region 5 with (first
    | (go_at_call 8; refine (sanity_any _ (HG.out.up (al1 w _))).mono ?_; rintro e w1 ⟨rfl, hb⟩; have P1 := Li ((CB.new w 39 [.slice A nk ck, .int .u8 n, .int .u8 k]).up hb); have B1 := Li (below_step (al1 w _) (al1 w _).size hb); obtain ⟨s0, s1, s2⟩ := P1.out.c3; have zs := P1.out.lt; clear hb)
    | (go_at_call 20; (with_reducible show Calls _ _ #[.slice A _ _] _ _); refine (long_any A nk ck ks _ HNK.out (HKS.out.up B1.out) (by omega)).mono ?_; rintro e w1 ⟨rfl, rfl⟩; rw [HL1.out])
    | (go_at_call 20; (with_reducible show Calls _ _ #[.slice B _ _] _ _); refine (long_any B mk dk os _ HMK.out (HOS.out.up B1.out) (by omega)).mono ?_; rintro e w1 ⟨rfl, rfl⟩; rw [HL2.out])
    | (go_at_call 21; refine (build_any A nk ck n k ks _ HNK.out (HKS.out.up B1.out) hn hk (HG.out.up B1.out) HL1.out).mono ?_; rintro e w2 ⟨⟨A8, c8, rfl, ho⟩, hb⟩; rw [HA.out, HM.out] at ho; rw [HK.out, HM.out]; have P2 := Li (P1.out.up hb); have B2 := Li (below_step B1.out B1.out.size hb); have O2 := Li (owns_low ho B1.out.size); clear hb ho P1 s0 s1 s2))
  have z1 := P2.out.lt
  have b2 := al1 w2 (.cells #[.int .i64 K, .slice A8 m c8] 24)
  have F8 := Li (CB.new w2 24 [.int .i64 K, .slice A8 m c8])
  replace O2 := Li (owns_upB O2.out b2)
  replace P2 := Li (P2.out.up b2)
  replace B2 := Li (below_step B2.out B2.out.size b2)
  clear b2 B1 zs
  generalize w2.alloc (.cells #[.int .i64 K, .slice A8 m c8] 24) = V0 at *
  generalize w2.heap.size = p8 at *
  obtain ⟨y0, y1, y2⟩ := P2.out.c3
  have yt := P2.out.lt
  go_upto_region 6 with (go_at_call 21; refine (build_any B mk dk n k os _ HMK.out (HOS.out.up B2.out) hn hk (HG.out.up B2.out) HL2.out).mono ?_; rintro e w3 ⟨⟨A9, c9, rfl, ho⟩, hb⟩; rw [HB.out, HM.out] at ho; rw [HK.out, HM.out]; have P3 := Li (P2.out.up hb); have F3 := Li (F8.out.up hb); have O3 := Li (owns_upB O2.out hb); have B3 := Li (below_step B2.out B2.out.size hb); have Q3 := Li (owns_low ho B2.out.size); clear hb ho)
  clear y0 y1 y2 yt P2 F8 O2 B2
  have b3 := al1 w3 (.cells #[.int .i64 K, .slice A9 m c9] 24)
  have F9 := Li (CB.new w3 24 [.int .i64 K, .slice A9 m c9])
  replace O3 := Li (owns_upB O3.out b3)
  replace Q3 := Li (owns_upB Q3.out b3)
  replace P3 := Li (P3.out.up b3)
  replace F3 := Li (F3.out.up b3)
  replace B3 := Li (below_step B3.out B3.out.size b3)
  clear b3
  generalize w3.alloc (.cells #[.int .i64 K, .slice A9 m c9] 24) = V1 at *
  generalize w3.heap.size = p9 at *
  obtain ⟨g, hg⟩ : ∃ g, V1.heap.size = g := ⟨_, rfl⟩
  have olt : ∀ {v : Value} {l : List UInt8}, Owns V1 w.heap.size v l → ∀ j, v.ownBlock = some j → j < g := fun {v l} ho j hj => by
    rw [← hg]
    exact (World.ownsRow.lt ho j hj).2
  have PP := Li (show TS w A nk ck n k p8 A8 c8 la p9 A9 c9 lb (K : Int) m g V1 from ⟨P3.out, F3.out, O3.out, F9.out, Q3.out, B3.out, ⟨by rw [← hg]; exact P3.out.lt, by rw [← hg]; exact F3.out.lt, by rw [← hg]; exact F9.out.lt, by omega⟩, olt O3.out, olt Q3.out⟩)
  have HGE := Li hg
  clear P3 F3 O3 F9 Q3 B3 olt hg
  go_cut [10, 11] from 37 to 46 (fun x y wx => ∃ p10 p11 : Nat, x = .pointer (some ⟨p10, 0, none⟩) ∧ y = .pointer (some ⟨p11, 0, none⟩) ∧ g ≤ p10 ∧ g ≤ p11 ∧ p10 ≠ p11 ∧ Hid (TS w A nk ck n k p8 A8 c8 la p9 A9 c9 lb (K : Int) m g wx) ∧ Hid (CB wx p10 39 [.slice none 0 0, .int .u8 n, .int .u8 k]) ∧ Hid (CB wx p11 39 [.slice none 0 0, .int .u8 n, .int .u8 k]))
  case first =>
    replace PP := Li (show TS w A nk ck n k p8 A8 c8 la p9 A9 c9 lb (K : Int) m g V1.drew from PP.out.up (bd V1))
    have hge : g ≤ V1.drew.heap.size := PP.out.l8.2.2.2
    refine wp_region_held_drew (S := fun X => Hid (TS w A nk ck n k p8 A8 c8 la p9 A9 c9 lb (K : Int) m g X)) (by kernel_rfl) PP (fun hHeld => ?_)
    revert hHeld PP hge
    generalize V1.drew = X4
    intro PP hge hHeld
    refine htk 0 ?_
    refine htf 1 (fun _ h => And.intro h.out.bx.c3 h.out.bx.lt) ?_
    refine htk 2 ?_
    refine htf 3 (fun _ h => And.intro h.out.bx.c3 h.out.bx.lt) ?_
    refine htk 4 ?_
    refine htk 5 ?_
    refine htf 6 (fun _ h => And.intro h.out.bx.c3 h.out.bx.lt) ?_
    refine htk 7 ?_
    refine htf 8 (fun _ h => And.intro h.out.bx.c3 h.out.bx.lt) ?_
    refine htk 9 ?_
    refine rd2 10 11 (fun KK hK => ?_) (fun KK hK => ?_)
    · go_simp
      have hb := al1 X4 (.cells #[.slice none 0 0, .int .u8 0, .int .u8 0] 39)
      have K10 := Li (CB.new X4 39 [.slice none 0 0, .int .u8 0, .int .u8 0])
      replace PP := Li (show TS w A nk ck n k p8 A8 c8 la p9 A9 c9 lb (K : Int) m g (X4.alloc (.cells #[.slice none 0 0, .int .u8 0, .int .u8 0] 39)) from PP.out.up hb)
      clear hb
      refine hK.out _ _ (PP) (fun hHeld => ?_)
      clear hK KK
      try simp only [pnz]
      generalize X4.alloc (.cells #[.slice none 0 0, .int .u8 0, .int .u8 0] 39) = v10 at *
      refine rd1 11 fun KK hK => ?_
      go_simp
      have q1011 : X4.heap.size < v10.heap.size := K10.out.lt
      have hb := al1 v10 (.cells #[.slice none 0 0, .int .u8 0, .int .u8 0] 39)
      have K11 := Li (CB.new v10 39 [.slice none 0 0, .int .u8 0, .int .u8 0])
      replace K10 := Li (K10.out.up hb)
      replace PP := Li (show TS w A nk ck n k p8 A8 c8 la p9 A9 c9 lb (K : Int) m g (v10.alloc (.cells #[.slice none 0 0, .int .u8 0, .int .u8 0] 39)) from PP.out.up hb)
      clear hb
      refine hK.out _ _ (PP) (fun hHeld => ?_)
      clear hK KK
      try simp only [pnz]
      generalize v10.alloc (.cells #[.slice none 0 0, .int .u8 0, .int .u8 0] 39) = v11 at *
      refine rd1 12 fun KK hK => ?_
      refine step_store_cb rfl 39 (.tmp 10) (.tmp 41) rfl (X4.heap.size) [.slice none 0 0, .int .u8 n, .int .u8 k] rfl rfl 39 [.slice none 0 0, .int .u8 0, .int .u8 0] 3 K10.out infoS rfl rfl oneS ?_
      intro s12 hc hg hz
      replace PP := Li (show TS w A nk ck n k p8 A8 c8 la p9 A9 c9 lb (K : Int) m g s12 from PP.out.row hg (by intro j hj; injection hj with hj; omega))
      replace K10 := Li hc
      replace K11 := Li (K11.out.grown hg (by intro h; injection h with h; omega))
      clear hc hg hz
      refine hK.out _ _ (PP) (fun hHeld => ?_)
      clear hK KK
      try simp only [pnz]
      refine rd1 13 fun KK hK => ?_
      refine step_store_cb rfl 39 (.tmp 11) (.tmp 46) rfl (v10.heap.size) [.slice none 0 0, .int .u8 n, .int .u8 k] rfl rfl 39 [.slice none 0 0, .int .u8 0, .int .u8 0] 3 K11.out infoS rfl rfl oneS ?_
      intro s13 hc hg hz
      replace PP := Li (show TS w A nk ck n k p8 A8 c8 la p9 A9 c9 lb (K : Int) m g s13 from PP.out.row hg (by intro j hj; injection hj with hj; omega))
      replace K11 := Li hc
      replace K10 := Li (K10.out.grown hg (by intro h; injection h with h; omega))
      clear hc hg hz
      refine hK.out _ _ (PP) (fun hHeld => ?_)
      clear hK KK
      try simp only [pnz]
      refine wpAnyH_done (by kernel_rfl) ?_ _
      go_wp2_with fail
      go_meet
      exact ⟨X4.heap.size, v10.heap.size, rfl, rfl, by omega, by omega, by omega, PP, K10, K11⟩
    · go_simp
      have hb := al1 X4 (.cells #[.slice none 0 0, .int .u8 0, .int .u8 0] 39)
      have K11 := Li (CB.new X4 39 [.slice none 0 0, .int .u8 0, .int .u8 0])
      replace PP := Li (show TS w A nk ck n k p8 A8 c8 la p9 A9 c9 lb (K : Int) m g (X4.alloc (.cells #[.slice none 0 0, .int .u8 0, .int .u8 0] 39)) from PP.out.up hb)
      clear hb
      refine hK.out _ _ (PP) (fun hHeld => ?_)
      clear hK KK
      try simp only [pnz]
      generalize X4.alloc (.cells #[.slice none 0 0, .int .u8 0, .int .u8 0] 39) = v11 at *
      refine rd1 10 fun KK hK => ?_
      go_simp
      have q1110 : X4.heap.size < v11.heap.size := K11.out.lt
      have hb := al1 v11 (.cells #[.slice none 0 0, .int .u8 0, .int .u8 0] 39)
      have K10 := Li (CB.new v11 39 [.slice none 0 0, .int .u8 0, .int .u8 0])
      replace K11 := Li (K11.out.up hb)
      replace PP := Li (show TS w A nk ck n k p8 A8 c8 la p9 A9 c9 lb (K : Int) m g (v11.alloc (.cells #[.slice none 0 0, .int .u8 0, .int .u8 0] 39)) from PP.out.up hb)
      clear hb
      refine hK.out _ _ (PP) (fun hHeld => ?_)
      clear hK KK
      try simp only [pnz]
      generalize v11.alloc (.cells #[.slice none 0 0, .int .u8 0, .int .u8 0] 39) = v10 at *
      refine rd1 12 fun KK hK => ?_
      refine step_store_cb rfl 39 (.tmp 10) (.tmp 41) rfl (v11.heap.size) [.slice none 0 0, .int .u8 n, .int .u8 k] rfl rfl 39 [.slice none 0 0, .int .u8 0, .int .u8 0] 3 K10.out infoS rfl rfl oneS ?_
      intro s12 hc hg hz
      replace PP := Li (show TS w A nk ck n k p8 A8 c8 la p9 A9 c9 lb (K : Int) m g s12 from PP.out.row hg (by intro j hj; injection hj with hj; omega))
      replace K10 := Li hc
      replace K11 := Li (K11.out.grown hg (by intro h; injection h with h; omega))
      clear hc hg hz
      refine hK.out _ _ (PP) (fun hHeld => ?_)
      clear hK KK
      try simp only [pnz]
      refine rd1 13 fun KK hK => ?_
      refine step_store_cb rfl 39 (.tmp 11) (.tmp 46) rfl (X4.heap.size) [.slice none 0 0, .int .u8 n, .int .u8 k] rfl rfl 39 [.slice none 0 0, .int .u8 0, .int .u8 0] 3 K11.out infoS rfl rfl oneS ?_
      intro s13 hc hg hz
      replace PP := Li (show TS w A nk ck n k p8 A8 c8 la p9 A9 c9 lb (K : Int) m g s13 from PP.out.row hg (by intro j hj; injection hj with hj; omega))
      replace K11 := Li hc
      replace K10 := Li (K10.out.grown hg (by intro h; injection h with h; omega))
      clear hc hg hz
      refine hK.out _ _ (PP) (fun hHeld => ?_)
      clear hK KK
      try simp only [pnz]
      refine wpAnyH_done (by kernel_rfl) ?_ _
      go_wp2_with fail
      go_meet
      exact ⟨v11.heap.size, X4.heap.size, rfl, rfl, by omega, by omega, by omega, PP, K10, K11⟩
  case rest =>
    clear PP
    obtain ⟨p10, p11, rfl, rfl, z10, z11, zne, PP, X10, X11⟩ := hcut
    generalize wc = V2 at *
    obtain ⟨y0, y1, y2⟩ := PP.out.bx.c3
    have yt := PP.out.bx.lt
    obtain ⟨y3, y4, y5⟩ := X10.out.c3
    have yu := X10.out.lt
    have zl := PP.out.l8
    go_upto_region 8 with ((with_reducible show wpList _ _ _ _ _ _); refine cat_keys rfl (.tmp 48) (.tmp 50) rfl V2.heap.size (.slice none 0 0) [] A nk ck V2.heap.size ks nk rfl rfl HNK.out (by simp) (Own.nil _ _ _ _) (HKS.out.up PP.out.d) (by omega) (Nat.le_refl _) ?_; intro A7 c7 w7 ho hg hb; have O7 := Li ho; have P7 := Li (PP.out.up hb); have Y10 := Li (X10.out.up hb); have Y11 := Li (X11.out.up hb); have G7 := Li hg; have zs := hb.size; obtain ⟨y6, y7, y8⟩ := Y10.out.c3; have yf := Y10.out.frozen 0; have yv := Y10.out.lt; clear ho hg hb)
    clear y0 y1 y2 y3 y4 y5 y6 y7 y8 yt yu yf yv
    have z10' : p10 < V2.heap.size := X10.out.lt
    have z11' : p11 < V2.heap.size := X11.out.lt
    have g7 := grown_setM w7 p10 0 (.slice A7 nk c7)
    replace PP := Li (P7.out.row g7 (by intro j hj; injection hj with hj; omega))
    replace X10 := Li (Y10.out.set_ 0 (.slice A7 nk c7))
    replace X11 := Li (Y11.out.grown g7 (by intro h; injection h with h; omega))
    replace O7 := Li (show Own 22 1 (w7.setCell ⟨p10, 0, none⟩ (.slice A7 nk c7)) V2.heap.size (.slice A7 nk c7) (rw1 ks) from Own.set_ O7.out 0 _ (Own.below_ne O7.out z10'))
    obtain ⟨B2, hB2⟩ : ∃ B2, V2.heap.size = B2 := ⟨_, rfl⟩
    have zw : B2 ≤ (w7.setCell ⟨p10, 0, none⟩ (.slice A7 nk c7)).heap.size := by rw [← hB2]; simpa [World.setCell] using zs
    rw [hB2] at O7 z10' z11'
    have zg2 : g ≤ B2 := by omega
    clear g7 P7 Y10 Y11 G7 zs hB2
    generalize w7.setCell ⟨p10, 0, none⟩ (.slice A7 nk c7) = V3 at *
    replace X10 := Li (show CB V3 p10 39 [.slice A7 nk c7, .int .u8 n, .int .u8 k] from X10.out)
    obtain ⟨N, hN⟩ : ∃ N, nk + mk = N := ⟨_, rfl⟩
    have HNN := Li (show ks.length + mk = N by rw [← HNK.out]; exact hN)
    have hN120 : N ≤ 120 := by omega
    obtain ⟨all, hall⟩ : ∃ all, ks ++ os = all := ⟨_, rfl⟩
    have HALL := Li hall
    have HNL := Li (show N = all.length by rw [← hall, List.length_append, ← HMK.out]; exact HNN.out.symm)
    have HA3 := Li (show ∀ x ∈ all, x.l.length ≤ 300 by
      intro x hx
      rw [← hall] at hx
      rcases List.mem_append.1 hx with hx | hx
      · exact H300.out x hx
      · exact HO300.out x hx)
    clear hall
    obtain ⟨y3, y4, y5⟩ := X10.out.c3
    have yu := X10.out.lt
    go_upto_region 9 with ((with_reducible show wpList _ _ _ _ _ _); refine cat_keys rfl (.tmp 54) (.tmp 55) rfl B2 (.slice A7 nk c7) ks B mk dk V3.heap.size os N rfl rfl HMK.out HNN.out O7.out (HOS.out.up PP.out.d) (by omega) zw ?_; intro A10 c10 w8 ho hg hb; rw [HALL.out] at ho; have O8 := Li ho; have hnr := Own.lt O7.out; have P8 := Li (PP.out.row hg (fun j hj => by have := (hnr j hj).1; omega)); have Y10 := Li (X10.out.grown hg (Own.below_ne O7.out z10')); have Y11 := Li (X11.out.grown hg (Own.below_ne O7.out z11')); have zs := hg.size; obtain ⟨y6, y7, y8⟩ := Y10.out.c3; have yf := Y10.out.frozen 0; have yv := Y10.out.lt; clear ho hg hb hnr)
    clear y3 y4 y5 y6 y7 y8 yu yf yv
    have g8 := grown_setM w8 p10 0 (.slice A10 N c10)
    replace PP := Li (P8.out.row g8 (by intro j hj; injection hj with hj; omega))
    replace X10 := Li (Y10.out.set_ 0 (.slice A10 N c10))
    replace X11 := Li (Y11.out.grown g8 (by intro h; injection h with h; omega))
    have O10 := Li (show Own 22 1 (w8.setCell ⟨p10, 0, none⟩ (.slice A10 N c10)) B2 (.slice A10 N c10) (rw1 all) from Own.set_ O8.out 0 _ (Own.below_ne O8.out z10'))
    have e8 : (w8.setCell ⟨p10, 0, none⟩ (.slice A10 N c10)).heap.size = w8.heap.size := by simp [World.setCell]
    have zw8 : B2 ≤ (w8.setCell ⟨p10, 0, none⟩ (.slice A10 N c10)).heap.size := by rw [e8]; omega
    clear g8 P8 Y10 Y11 zs O7 O8 zw e8
    generalize w8.setCell ⟨p10, 0, none⟩ (.slice A10 N c10) = V4 at *
    replace X10 := Li (show CB V4 p10 39 [.slice A10 N c10, .int .u8 n, .int .u8 k] from X10.out)
    obtain ⟨B3, hB3⟩ : ∃ B3, V4.heap.size = B3 := ⟨_, rfl⟩
    have LL := Li (show LS w A nk ck n k p8 A8 c8 la p9 A9 c9 lb (K : Int) m g p10 p11 B2 B3 A10 N c10 all none 0 0 (rotL all at' 0) V4 from ⟨PP.out, X10.out, O10.out, X11.out, Own.nil _ _ _ _, by omega⟩)
    have N10 := Li (show ∀ j, (Value.slice A10 N c10).ownBlock = some j → j < B3 from fun j hj => by rw [← hB3]; exact (Own.lt O10.out j hj).2)
    have zB : B2 ≤ B3 := by omega
    clear PP X10 O10 X11 hB3 zw8
    obtain ⟨y3, y4, y5⟩ := LL.out.x10.c3
    have yu := LL.out.x10.lt
    go_wp2_with fail
    clear y3 y4 y5 yu
    go_loopw [13] (fun i wr => ∃ (q c11 : Nat) (A11 : Option Addr), q ≤ N ∧ i = .int .i64 q ∧ Hid (LS w A nk ck n k p8 A8 c8 la p9 A9 c9 lb (K : Int) m g p10 p11 B2 B3 A10 N c10 all A11 q c11 (rotL all at' q) wr)) (fun i _ => N - (intOf i).toNat)
    case atStart => exact ⟨0, 0, none, by omega, rfl, LL⟩
    case round =>
      clear LL
      obtain ⟨q, c11, A11, hq, rfl, PP⟩ := hrel
      by_cases hqN : q < N
      · have j2 : (q : Int) < (N : Int) := by omega
        obtain ⟨d, hd⟩ : ∃ d, N - q = d := ⟨_, rfl⟩
        obtain ⟨e, he⟩ : ∃ e, d + at' = e := ⟨_, rfl⟩
        obtain ⟨s, hs⟩ : ∃ s, e % N = s := ⟨_, rfl⟩
        have hsN : s < N := by rw [← hs]; exact Nat.mod_lt _ (by omega)
        obtain ⟨x, hx0⟩ : ∃ x, all[s]? = some x := ⟨_, List.getElem?_eq_getElem (by rw [← HNL.out]; exact hsN)⟩
        have HX := Li hx0
        have HRS := Li (show rotL all at' (q + 1) = rotL all at' q ++ [x] from rotL_succ all at' q (by rw [← HNL.out, hd, he, hs]; exact hx0))
        obtain ⟨b, off, hA10, _⟩ := (Own.row PP.out.r10).2.2.2 (by rw [rw1_len, ← HNL.out]; omega)
        subst hA10
        have a1 : (N : Int) - (q : Int) = (d : Int) := by omega
        have a2 : IntKind.i64.wrap (d : Int) = (d : Int) := by rw [IntKind.wrap_i64]; omega
        have a3 : (d : Int) + (at' : Int) = (e : Int) := by omega
        have a4 : IntKind.i64.wrap (e : Int) = (e : Int) := by rw [IntKind.wrap_i64]; omega
        have a5 : (e : Int) % (N : Int) = (s : Int) := by rw [← hs]; exact (Int.natCast_emod e N).symm
        have a6 : (e : Int).tmod (N : Int) = (s : Int) := by rw [Int.tmod_eq_emod_of_nonneg (by omega)]; exact a5
        have a7 : IntKind.i64.wrap (s : Int) = (s : Int) := by rw [IntKind.wrap_i64]; omega
        have a8 : ¬ N = 0 := by omega
        have a11 : IntKind.i64.wrap (at' : Int) = (at' : Int) := by rw [IntKind.wrap_i64]; omega
        have a9 : (s : Int) < (N : Int) := by omega
        have a10 : (0 : Int) ≤ (s : Int) := by omega
        have hcc := (Own.row PP.out.r10).2.1
        rw [rw1_len, ← HNL.out] at hcc
        clear hx0 hd he hs
        go_upto_region 13 with fail
        have Y11 := Li PP.out.x11
        have R11 := Li PP.out.r11
        have zz := PP.out.z
        replace PP := Li (show RS w A nk ck n k p8 A8 c8 la p9 A9 c9 lb (K : Int) m g p10 B2 (some ⟨b, off, none⟩) N c10 all wr from ⟨PP.out.t, PP.out.x10, PP.out.r10⟩)
        replace PP := Li (PP.out.up (bd wr))
        replace Y11 := Li (Y11.out.up (bd wr))
        replace R11 := Li (Own.up R11.out (bd wr))
        replace zz : B3 ≤ wr.drew.heap.size := zz
        refine wp_region_held_drew (S := fun X => Hid (RS w A nk ck n k p8 A8 c8 la p9 A9 c9 lb (K : Int) m g p10 B2 (some ⟨b, off, none⟩) N c10 all X)) (by kernel_rfl) PP (fun hHeld => ?_)
        revert hHeld PP Y11 R11 zz
        generalize wr.drew = X4
        intro PP Y11 R11 zz hHeld
        refine htk 0 ?_
        refine htk 2 ?_
        refine htf 3 (fun _ h => And.intro h.out.x10.c3 h.out.x10.lt) ?_
        refine htk 4 ?_
        refine htk 5 ?_
        refine htk 6 ?_
        refine htk 7 ?_
        refine htk 8 ?_
        refine htk 9 ?_
        refine htk 10 ?_
        refine htk 11 ?_
        refine htk 12 ?_
        refine htf 13 (fun _ h => h.out.cell rfl HX.out) ?_
        refine rd2 1 14 (fun KK hK => ?_) (fun KK hK => ?_)
        · obtain ⟨y3, y4, y5⟩ := Y11.out.c3
          have yl := Y11.out.lt
          go_simp
          clear y3 y4 y5 yl
          refine hK.out _ _ (PP) (fun hHeld => ?_)
          clear hK KK
          try simp only [pnz]
          refine rd1 14 fun KK hK => ?_
          go_simp
          have hb := al1 X4 (.cells #[.slice x.A x.l.length x.c] 22)
          have K14 := Li (CB.new X4 22 [.slice x.A x.l.length x.c])
          have zz4 : B3 ≤ (X4.alloc (.cells #[.slice x.A x.l.length x.c] 22)).heap.size := Nat.le_trans zz hb.size
          replace PP := Li (PP.out.up hb)
          replace Y11 := Li (Y11.out.up hb)
          replace R11 := Li (Own.up R11.out hb)
          clear hb
          refine hK.out _ _ (PP) (fun hHeld => ?_)
          clear hK KK
          try simp only [pnz]
          generalize hv14 : X4.alloc (.cells #[.slice x.A x.l.length x.c] 22) = v14 at *
          clear hv14
          refine rd1 15 fun KK hK => ?_
          refine step_push rfl (.tmp 67) (.tmp 80) rfl Tryd.underlying37 infoK rfl (by decide) B3 (.slice A11 q c11) (rw1 (rotL all at' q)) [.slice x.A x.l.length x.c] X4.heap.size rfl rfl R11.out K14.out rfl (by intro u hu; rw [List.mem_singleton] at hu; subst hu; rfl) (by rw [rw1_len, rotL_len]; omega) (by decide) zz4 ?_
          intro A15 c15 v15 ho hg hb
          rw [rw1_len, rotL_len] at ho ⊢
          have hnr := Own.lt R11.out
          have hne : (Value.slice (some ⟨b, off, none⟩) N c10).ownBlock = none ∨ (Value.slice (some ⟨b, off, none⟩) N c10).ownBlock ≠ (Value.slice A11 q c11).ownBlock := .inr (fun e => by have h1 := N10.out b rfl; have h2 := (hnr b (e.symm.trans rfl)).1; omega)
          have R15 := Li (show Own 22 1 v15 B3 (.slice A15 (q + 1) c15) (rw1 (rotL all at' (q + 1))) from by rw [HRS.out]; unfold rw1 at ho ⊢; rw [List.map_append]; exact ho)
          have z15 : B3 ≤ v15.heap.size := Nat.le_trans zz4 hg.size
          replace Y11 := Li (Y11.out.grown hg (Own.below_ne R11.out (by omega)))
          replace PP := Li (show RS w A nk ck n k p8 A8 c8 la p9 A9 c9 lb (K : Int) m g p10 B2 (some ⟨b, off, none⟩) N c10 all v15 from ⟨PP.out.t.row hg (fun j hj => by have := (hnr j hj).1; omega), PP.out.x10.grown hg (Own.below_ne R11.out (by omega)), Own.kept PP.out.r10 hg hne⟩)
          clear ho hg hb hnr hne K14
          refine hK.out _ _ (PP) (fun hHeld => ?_)
          clear hK KK
          try simp only [pnz]
          refine htk 16 ?_
          refine rd1 17 fun KK hK => ?_
          obtain ⟨y3, y4, y5⟩ := Y11.out.c3
          have yf := Y11.out.frozen 0
          have yl := Y11.out.lt
          go_simp
          have g15 := grown_setM v15 p11 0 (.slice A15 (q + 1) c15)
          have e15 : (v15.setCell ⟨p11, 0, none⟩ (.slice A15 (q + 1) c15)).heap.size = v15.heap.size := by simp [World.setCell]
          replace PP := Li (show RS w A nk ck n k p8 A8 c8 la p9 A9 c9 lb (K : Int) m g p10 B2 (some ⟨b, off, none⟩) N c10 all (v15.setCell ⟨p11, 0, none⟩ (.slice A15 (q + 1) c15)) from ⟨PP.out.t.row g15 (by intro j hj; injection hj with hj; omega), PP.out.x10.grown g15 (by intro h; injection h with h; omega), Own.set_ PP.out.r10 0 _ (Own.below_ne PP.out.r10 (by omega))⟩)
          replace Y11 := Li (Y11.out.set_ 0 (.slice A15 (q + 1) c15))
          replace R15 := Li (Own.set_ R15.out 0 (.slice A15 (q + 1) c15) (Own.below_ne (U := p11) R15.out (by omega)))
          clear y3 y4 y5 yf yl g15
          refine hK.out _ _ (PP) (fun hHeld => ?_)
          clear hK KK
          try simp only [pnz]
          refine wpAnyH_done (by kernel_rfl) ?_ _
          go_wp2_with fail
          go_roundw
          case rel => exact ⟨q + 1, c15, A15, by omega, by go_num, Li ⟨PP.out.t, PP.out.x10, PP.out.r10, Y11.out, R15.out, by omega⟩⟩
          case measure => simp [intOf]; omega
        · go_simp
          have hb := al1 X4 (.cells #[.slice x.A x.l.length x.c] 22)
          have K14 := Li (CB.new X4 22 [.slice x.A x.l.length x.c])
          have zz4 : B3 ≤ (X4.alloc (.cells #[.slice x.A x.l.length x.c] 22)).heap.size := Nat.le_trans zz hb.size
          replace PP := Li (PP.out.up hb)
          replace Y11 := Li (Y11.out.up hb)
          replace R11 := Li (Own.up R11.out hb)
          clear hb
          refine hK.out _ _ (PP) (fun hHeld => ?_)
          clear hK KK
          try simp only [pnz]
          generalize hv14 : X4.alloc (.cells #[.slice x.A x.l.length x.c] 22) = v14 at *
          clear hv14
          refine rd1 1 fun KK hK => ?_
          obtain ⟨y3, y4, y5⟩ := Y11.out.c3
          have yl := Y11.out.lt
          go_simp
          clear y3 y4 y5 yl
          refine hK.out _ _ (PP) (fun hHeld => ?_)
          clear hK KK
          try simp only [pnz]
          refine rd1 15 fun KK hK => ?_
          refine step_push rfl (.tmp 67) (.tmp 80) rfl Tryd.underlying37 infoK rfl (by decide) B3 (.slice A11 q c11) (rw1 (rotL all at' q)) [.slice x.A x.l.length x.c] X4.heap.size rfl rfl R11.out K14.out rfl (by intro u hu; rw [List.mem_singleton] at hu; subst hu; rfl) (by rw [rw1_len, rotL_len]; omega) (by decide) zz4 ?_
          intro A15 c15 v15 ho hg hb
          rw [rw1_len, rotL_len] at ho ⊢
          have hnr := Own.lt R11.out
          have hne : (Value.slice (some ⟨b, off, none⟩) N c10).ownBlock = none ∨ (Value.slice (some ⟨b, off, none⟩) N c10).ownBlock ≠ (Value.slice A11 q c11).ownBlock := .inr (fun e => by have h1 := N10.out b rfl; have h2 := (hnr b (e.symm.trans rfl)).1; omega)
          have R15 := Li (show Own 22 1 v15 B3 (.slice A15 (q + 1) c15) (rw1 (rotL all at' (q + 1))) from by rw [HRS.out]; unfold rw1 at ho ⊢; rw [List.map_append]; exact ho)
          have z15 : B3 ≤ v15.heap.size := Nat.le_trans zz4 hg.size
          replace Y11 := Li (Y11.out.grown hg (Own.below_ne R11.out (by omega)))
          replace PP := Li (show RS w A nk ck n k p8 A8 c8 la p9 A9 c9 lb (K : Int) m g p10 B2 (some ⟨b, off, none⟩) N c10 all v15 from ⟨PP.out.t.row hg (fun j hj => by have := (hnr j hj).1; omega), PP.out.x10.grown hg (Own.below_ne R11.out (by omega)), Own.kept PP.out.r10 hg hne⟩)
          clear ho hg hb hnr hne K14
          refine hK.out _ _ (PP) (fun hHeld => ?_)
          clear hK KK
          try simp only [pnz]
          refine htk 16 ?_
          refine rd1 17 fun KK hK => ?_
          obtain ⟨y3, y4, y5⟩ := Y11.out.c3
          have yf := Y11.out.frozen 0
          have yl := Y11.out.lt
          go_simp
          have g15 := grown_setM v15 p11 0 (.slice A15 (q + 1) c15)
          have e15 : (v15.setCell ⟨p11, 0, none⟩ (.slice A15 (q + 1) c15)).heap.size = v15.heap.size := by simp [World.setCell]
          replace PP := Li (show RS w A nk ck n k p8 A8 c8 la p9 A9 c9 lb (K : Int) m g p10 B2 (some ⟨b, off, none⟩) N c10 all (v15.setCell ⟨p11, 0, none⟩ (.slice A15 (q + 1) c15)) from ⟨PP.out.t.row g15 (by intro j hj; injection hj with hj; omega), PP.out.x10.grown g15 (by intro h; injection h with h; omega), Own.set_ PP.out.r10 0 _ (Own.below_ne PP.out.r10 (by omega))⟩)
          replace Y11 := Li (Y11.out.set_ 0 (.slice A15 (q + 1) c15))
          replace R15 := Li (Own.set_ R15.out 0 (.slice A15 (q + 1) c15) (Own.below_ne (U := p11) R15.out (by omega)))
          clear y3 y4 y5 yf yl g15
          refine hK.out _ _ (PP) (fun hHeld => ?_)
          clear hK KK
          try simp only [pnz]
          refine wpAnyH_done (by kernel_rfl) ?_ _
          go_wp2_with fail
          go_roundw
          case rel => exact ⟨q + 1, c15, A15, by omega, by go_num, Li ⟨PP.out.t, PP.out.x10, PP.out.r10, Y11.out, R15.out, by omega⟩⟩
          case measure => simp [intOf]; omega
      · have hqe : q = N := by omega
        subst hqe
        have j2 : ¬ (q : Int) < (q : Int) := by omega
        obtain ⟨y0, y1, y2⟩ := PP.out.t.bx.c3
        have yt := PP.out.t.bx.lt
        obtain ⟨y3, y4, y5⟩ := PP.out.x11.c3
        have yu := PP.out.x11.lt
        obtain ⟨N2, hN2⟩ : ∃ N2, q + nk = N2 := ⟨_, rfl⟩
        have HN2 := Li (show (rotL all at' q).length + nk = N2 by rw [rotL_len]; exact hN2)
        have hN200 : N2 ≤ 200 := by omega
        obtain ⟨tl, htl⟩ : ∃ tl, rotL all at' q ++ ks = tl := ⟨_, rfl⟩
        have HTL := Li htl
        have HTN := Li (show N2 = tl.length by rw [← htl, List.length_append, ← HNK.out]; exact HN2.out.symm)
        have HMEM := Li (show ∀ x, x ∈ tl ↔ x ∈ all by
          intro x
          rw [← htl, List.mem_append]
          have h1 : x ∈ rotL all at' q ↔ x ∈ all := by rw [HNL.out]; exact rotL_mem all at' x
          rw [h1, ← HALL.out, List.mem_append]
          constructor
          · rintro (h | h)
            · exact h
            · exact .inl h
          · exact fun h => .inl h)
        clear htl hN2
        go_upto_region 15 with ((with_reducible show wpList _ _ _ _ _ _); refine cat_keys rfl (.tmp 84) (.tmp 86) rfl B3 (.slice A11 q c11) (rotL all at' q) A nk ck wr.heap.size ks N2 rfl rfl HNK.out HN2.out PP.out.r11 (HKS.out.up PP.out.t.d) (by omega) PP.out.z ?_; intro A14 c14 w14 ho hg hb; rw [HTL.out] at ho; have O14 := Li ho; have hnr := Own.lt PP.out.r11; have hne := N10.out; have T14 := Li (PP.out.t.row hg (fun j hj => by have := (hnr j hj).1; omega)); have Y10 := Li (PP.out.x10.grown hg (Own.below_ne (U := p10) PP.out.r11 (by omega))); have Y11 := Li (PP.out.x11.grown hg (Own.below_ne (U := p11) PP.out.r11 (by omega))); have R10 := Li (Own.kept PP.out.r10 hg (kept_ne N10.out hnr)); have zz := Nat.le_trans PP.out.z hg.size; obtain ⟨y6, y7, y8⟩ := Y11.out.c3; have yf := Y11.out.frozen 0; have yv := Y11.out.lt; clear ho hg hb hnr hne)
        clear y0 y1 y2 y3 y4 y5 y6 y7 y8 yt yu yf yv PP
        have g14 := grown_setM w14 p11 0 (.slice A14 N2 c14)
        have e14 : (w14.setCell ⟨p11, 0, none⟩ (.slice A14 N2 c14)).heap.size = w14.heap.size := by simp [World.setCell]
        have LL := Li (show LS w A nk ck n k p8 A8 c8 la p9 A9 c9 lb (K : Int) m g p10 p11 B2 B3 A10 q c10 all A14 N2 c14 tl (w14.setCell ⟨p11, 0, none⟩ (.slice A14 N2 c14)) from ⟨T14.out.row g14 (by intro j hj; injection hj with hj; omega), Y10.out.grown g14 (by intro h; injection h with h; omega), Own.set_ R10.out 0 _ (Own.below_ne (U := p11) R10.out (by omega)), Y11.out.set_ 0 (.slice A14 N2 c14), Own.set_ O14.out 0 _ (Own.below_ne (U := p11) O14.out (by omega)), by rw [e14]; exact zz⟩)
        clear g14 e14 T14 Y10 Y11 R10 O14 zz
        generalize w14.setCell ⟨p11, 0, none⟩ (.slice A14 N2 c14) = V5 at *
        have HKA := Li (show ∀ X, Below w.heap.size w X → (∀ x ∈ all, Shows X X.heap.size x.A x.l) ∧ (∀ x ∈ all, x.l.length ≤ x.c ∧ x.c ≤ 140737488351232) by
          intro X hb
          rw [← HALL.out]
          refine ⟨fun x hx => ?_, fun x hx => ?_⟩ <;> rcases List.mem_append.1 hx with hx | hx
          · exact (HKS.out.up hb).key x hx
          · exact (HOS.out.up hb).key x hx
          · exact HKS.out.cap x hx
          · exact HOS.out.cap x hx)
        obtain ⟨lw, hlw⟩ : ∃ lw, bldK k n all = lw := ⟨_, rfl⟩
        have HLW := Li hlw
        have HLT := Li (show bldK k n tl = lw by rw [← hlw]; unfold bldK; exact bld_same _ _ _ _ (nOf_le n).1 (mem_map_same HMEM.out))
        have HU1 := Li (show orL la lb = lw by rw [HAB.out, HALL.out]; exact hlw)
        have HU2 := Li (show orL lb la = lw by rw [orL_comm]; exact HU1.out)
        have LW := Li (show lw.length = m by rw [← hlw, ← HM.out]; exact bldK_len k n all)
        clear hlw
        obtain ⟨y00, y01, y02⟩ := LL.out.x10.c3
        have t0 := LL.out.x10.lt
        go_upto_region 16 with (go_at_call 21; refine (build_big A10 q c10 n k all _ HNL.out (of_row (Own.row LL.out.r10).2.2.2 (fun x hx => (HKA.out _ LL.out.t.d).1 x hx) (fun x hx => (HKA.out _ LL.out.t.d).2 x hx)) hn hk (HG.out.up LL.out.t.d) (by rw [← HNL.out]; omega) (fun x hx => HA3.out x hx)).mono ?_; rintro e w15 ⟨⟨A15, c15, rfl, ho⟩, hb⟩; rw [HLW.out, HM.out] at ho; rw [HK.out, HM.out]; have HO := Li ho; have BB := Li hb; clear ho hb)
        clear y00 y01 y02 t0
        have bb := below_step BB.out BB.out.size (al1 w15 (.cells #[.int .i64 K, .slice A15 m c15] 24))
        replace LL := Li (LL.out.up bb)
        have S14 := Li (sk_new (K := (K : Int)) (w2 := w15.alloc (.cells #[.int .i64 K, .slice A15 m c15] 24)) HO.out rfl)
        clear HO BB bb
        generalize w15.alloc (.cells #[.int .i64 K, .slice A15 m c15] 24) = V6 at *
        generalize w15.heap.size = p14 at *
        obtain ⟨y00, y01⟩ := LL.out.t.f8.c2
        have t0 := LL.out.t.f8.lt
        obtain ⟨y10, y11⟩ := LL.out.t.f9.c2
        have t1 := LL.out.t.f9.lt
        go_upto_region 17 with (go_at_call 9; refine (Union_ok (K : Int) A8 A9 m c8 c9 la lb _ LA.out.symm LB.out.symm (by omega) (Owns.shows LL.out.t.o8).2.2 (Owns.shows LL.out.t.o9).2.2 V.out).mono ?_; rintro e w16 ⟨⟨A16, c16, rfl, ho⟩, hb⟩; rw [HU1.out] at ho; have HO := Li ho; have BB := Li hb; clear ho hb)
        clear y00 y01 t0
        clear y10 y11 t1
        have bb := below_step BB.out BB.out.size (al1 w16 (.cells #[.int .i64 K, .slice A16 m c16] 24))
        replace LL := Li (LL.out.up bb)
        replace S14 := Li (S14.out.up bb)
        have S15 := Li (sk_new (K := (K : Int)) (w2 := w16.alloc (.cells #[.int .i64 K, .slice A16 m c16] 24)) HO.out rfl)
        clear HO BB bb
        generalize w16.alloc (.cells #[.int .i64 K, .slice A16 m c16] 24) = V7 at *
        generalize w16.heap.size = p15 at *
        obtain ⟨y00, y01⟩ := LL.out.t.f9.c2
        have t0 := LL.out.t.f9.lt
        obtain ⟨y10, y11⟩ := LL.out.t.f8.c2
        have t1 := LL.out.t.f8.lt
        go_upto_region 18 with (go_at_call 9; refine (Union_ok (K : Int) A9 A8 m c9 c8 lb la _ LB.out.symm LA.out.symm (by omega) (Owns.shows LL.out.t.o9).2.2 (Owns.shows LL.out.t.o8).2.2 V.out).mono ?_; rintro e w17 ⟨⟨A17, c17, rfl, ho⟩, hb⟩; rw [HU2.out] at ho; have HO := Li ho; have BB := Li hb; clear ho hb)
        clear y00 y01 t0
        clear y10 y11 t1
        have bb := below_step BB.out BB.out.size (al1 w17 (.cells #[.int .i64 K, .slice A17 m c17] 24))
        replace LL := Li (LL.out.up bb)
        replace S14 := Li (S14.out.up bb)
        replace S15 := Li (S15.out.up bb)
        have S17 := Li (sk_new (K := (K : Int)) (w2 := w17.alloc (.cells #[.int .i64 K, .slice A17 m c17] 24)) HO.out rfl)
        clear HO BB bb
        generalize w17.alloc (.cells #[.int .i64 K, .slice A17 m c17] 24) = V8 at *
        generalize w17.heap.size = p17 at *
        have PP := Li (show LS w A nk ck n k p8 A8 c8 la p9 A9 c9 lb (K : Int) m g p10 p11 B2 B3 A10 q c10 all A14 N2 c14 tl V8 ∧ Sk V8 p14 A15 c15 (K : Int) m lw ∧ Sk V8 p15 A16 c16 (K : Int) m lw ∧ Sk V8 p17 A17 c17 (K : Int) m lw from ⟨LL.out, S14.out, S15.out, S17.out⟩)
        have hb := bd V8
        replace PP := Li (show LS w A nk ck n k p8 A8 c8 la p9 A9 c9 lb (K : Int) m g p10 p11 B2 B3 A10 q c10 all A14 N2 c14 tl V8.drew ∧ Sk V8.drew p14 A15 c15 (K : Int) m lw ∧ Sk V8.drew p15 A16 c16 (K : Int) m lw ∧ Sk V8.drew p17 A17 c17 (K : Int) m lw from ⟨PP.out.1.up hb, PP.out.2.1.up hb, PP.out.2.2.1.up hb, PP.out.2.2.2.up hb⟩)
        clear hb
        have hm9 : m ≤ 9223372036854775807 := by omega
        clear LL S14 S15 S17
        refine wpM.start (D := [0, 1, 2, 4, 12, 20, 36, 64, 64, 448, 576, 1536, 2048, 2048, 14336, 18432, 49152, 65536, 196608, 65536, 851968, 1114112, 3145728, 4194304, 12582912, 33554431]) (F := [0, 1, 2, 4, 12, 20, 32, 64, 64, 448, 576, 1024, 2048, 2048, 14336, 18432, 32768, 65536, 196608, 65536, 851968, 1114112, 2097152, 4194304, 12582912, 16777216]) (S := fun X => Hid (LS w A nk ck n k p8 A8 c8 la p9 A9 c9 lb (K : Int) m g p10 p11 B2 B3 A10 q c10 all A14 N2 c14 tl X ∧ Sk X p14 A15 c15 (K : Int) m lw ∧ Sk X p15 A16 c16 (K : Int) m lw ∧ Sk X p17 A17 c17 (K : Int) m lw)) (by kernel_rfl) PP (by kernel_rfl) (by kernel_rfl) (by kernel_rfl) (fun hHeld => ?_)
        revert hHeld PP
        generalize V8.drew = X0
        intro PP hHeld
        refine mtk 0 1 ?_
        refine mtk 1 3 ?_
        refine mtk 2 7 ?_
        refine mtk 3 15 ?_
        refine mtk 4 31 ?_
        refine mtk 5 63 ?_
        refine mtk 6 127 ?_
        refine mtf 7 255 (fun _ h => And.intro h.out.2.2.1.b.c2 h.out.2.2.1.b.lt) ?_
        refine mtf 8 511 (fun _ h => And.intro h.out.2.1.b.c2 h.out.2.1.b.lt) ?_
        refine md1 9 1023 fun KK hK => ?_
        go_simp
        go_at_call 15
        refine (Same_eq (K : Int) A16 A15 m c16 c15 lw _ LW.out.symm hm9 PP.out.2.2.1.s PP.out.2.1.s).mono ?_
        rintro e v112 ⟨rfl, hb⟩
        replace PP := Li (show LS w A nk ck n k p8 A8 c8 la p9 A9 c9 lb (K : Int) m g p10 p11 B2 B3 A10 q c10 all A14 N2 c14 tl v112 ∧ Sk v112 p14 A15 c15 (K : Int) m lw ∧ Sk v112 p15 A16 c16 (K : Int) m lw ∧ Sk v112 p17 A17 c17 (K : Int) m lw from ⟨PP.out.1.up hb, PP.out.2.1.up hb, PP.out.2.2.1.up hb, PP.out.2.2.2.up hb⟩)
        clear hb
        go_wp2_with fail
        refine hK.out _ _ (PP) (fun hHeld => ?_)
        clear hK KK
        try simp only [pnz]
        refine mtk 10 2047 ?_
        refine mtk 11 4095 ?_
        refine mtf 12 8191 (fun _ h => And.intro h.out.2.2.2.b.c2 h.out.2.2.2.b.lt) ?_
        refine mtf 13 16383 (fun _ h => And.intro h.out.2.1.b.c2 h.out.2.1.b.lt) ?_
        refine md1 14 32767 fun KK hK => ?_
        go_simp
        go_at_call 15
        refine (Same_eq (K : Int) A17 A15 m c17 c15 lw _ LW.out.symm hm9 PP.out.2.2.2.s PP.out.2.1.s).mono ?_
        rintro e v117 ⟨rfl, hb⟩
        replace PP := Li (show LS w A nk ck n k p8 A8 c8 la p9 A9 c9 lb (K : Int) m g p10 p11 B2 B3 A10 q c10 all A14 N2 c14 tl v117 ∧ Sk v117 p14 A15 c15 (K : Int) m lw ∧ Sk v117 p15 A16 c16 (K : Int) m lw ∧ Sk v117 p17 A17 c17 (K : Int) m lw from ⟨PP.out.1.up hb, PP.out.2.1.up hb, PP.out.2.2.1.up hb, PP.out.2.2.2.up hb⟩)
        clear hb
        go_wp2_with fail
        refine hK.out _ _ (PP) (fun hHeld => ?_)
        clear hK KK
        try simp only [pnz]
        refine mtk 15 65535 ?_
        refine mtk 16 131071 ?_
        refine mtf 17 262143 (fun _ h => And.intro h.out.1.x11.c3 h.out.1.x11.lt) ?_
        refine mtf 19 786431 (fun _ h => And.intro h.out.2.1.b.c2 h.out.2.1.b.lt) ?_
        refine md1 18 1048575 fun KK hK => ?_
        go_simp
        go_at_call 21
        refine (build_big A14 N2 c14 n k tl _ HTN.out (of_row (Own.row PP.out.1.r11).2.2.2 (fun x hx => (HKA.out _ PP.out.1.t.d).1 x ((HMEM.out x).1 hx)) (fun x hx => (HKA.out _ PP.out.1.t.d).2 x ((HMEM.out x).1 hx))) hn hk (HG.out.up PP.out.1.t.d) (by rw [← HTN.out]; omega) (fun x hx => HA3.out x ((HMEM.out x).1 hx))).mono ?_
        rintro e v121 ⟨⟨A121, c121, rfl, ho⟩, hb⟩
        rw [HLT.out, HM.out] at ho
        rw [HK.out, HM.out]
        have O121 := Li ho
        replace PP := Li (show LS w A nk ck n k p8 A8 c8 la p9 A9 c9 lb (K : Int) m g p10 p11 B2 B3 A10 q c10 all A14 N2 c14 tl v121 ∧ Sk v121 p14 A15 c15 (K : Int) m lw ∧ Sk v121 p15 A16 c16 (K : Int) m lw ∧ Sk v121 p17 A17 c17 (K : Int) m lw from ⟨PP.out.1.up hb, PP.out.2.1.up hb, PP.out.2.2.1.up hb, PP.out.2.2.2.up hb⟩)
        clear hb ho
        go_wp2_with fail
        refine hK.out _ _ (PP) (fun hHeld => ?_)
        clear hK KK
        try simp only [pnz]
        refine md1 20 2097151 fun KK hK => ?_
        go_simp
        go_at_call 15
        refine (Same_eq (K : Int) A121 A15 m c121 c15 lw _ LW.out.symm hm9 (Owns.shows O121.out).2.2 PP.out.2.1.s).mono ?_
        rintro e v123 ⟨rfl, hb⟩
        replace PP := Li (show LS w A nk ck n k p8 A8 c8 la p9 A9 c9 lb (K : Int) m g p10 p11 B2 B3 A10 q c10 all A14 N2 c14 tl v123 ∧ Sk v123 p14 A15 c15 (K : Int) m lw ∧ Sk v123 p15 A16 c16 (K : Int) m lw ∧ Sk v123 p17 A17 c17 (K : Int) m lw from ⟨PP.out.1.up hb, PP.out.2.1.up hb, PP.out.2.2.1.up hb, PP.out.2.2.2.up hb⟩)
        clear hb O121
        go_wp2_with fail
        refine hK.out _ _ (PP) (fun hHeld => ?_)
        clear hK KK
        try simp only [pnz]
        refine mtk 21 4194303 ?_
        refine mtk 22 8388607 ?_
        refine mtk 23 16777215 ?_
        refine mtk 24 33554431 ?_
        refine mtk 25 67108863 ?_
        refine done_m (of_decide_eq_true (by kernel_rfl)) (of_decide_eq_true (by kernel_rfl)) (by kernel_rfl) ?_
        go_wp2_with fail
        go_ret
        exact ⟨rfl, PP.out.1.t.d⟩
theorem walkF (A : Option Addr) (nk ck n k : Nat) (ks : List Ky) (B : Option Addr) (mk dk : Nat) (os : List Ky) (at' : Nat) (w : World) (hnk : nk = ks.length) (hks : KsAt w w.heap.size A ks) (hnl : nk ≤ 140737488351232) (hn : n < 256) (hk : k < 256) (hmk : mk = os.length) (hml : mk ≤ 140737488351232) (hos : KsAt w w.heap.size B os) (hat : at' < 256) (G : Glob w) :
    Calls Tryd.prog 5 #[.agg #[.slice A nk ck, .int .u8 n, .int .u8 k], .slice B mk dk, .int .u8 at'] w fun e w' => e = .returned (.bool true) ∧ Below w.heap.size w w' := by
  cases h1 : longB ks with
  | true => exact long1 A B nk ck n k mk dk at' ks os w hnk hks hnl hmk hml hos G h1
  | false =>
    cases h2 : longB os with
    | true => exact long2 A B nk ck n k mk dk at' ks os w hnk hks hnl hmk hml hos G h1 h2
    | false => exact main A B nk ck n k mk dk at' ks os w hnk hks hnl hmk hml hos G hn hk hat h1 h2
end sets
end Go.Proofs.YtmdokldbggingaaDoor
