/-
  What the law makes predicates with: between, null, op, not; and equal, by contracts.
-/
import Derived.Test.YtkeneoinfegodaaDcd
import Derived.Test.YtkeneoinfegodaaMtc
namespace Go.Proofs.Ytkeneoinfegodaa
open Go.RowKit
theorem one_q7 {a b c d : Int} {A K : Option Addr} {n m x y : Nat} {s : ByteArray} : ∀ z ∈ [Value.int .i64 a, .int .i64 b, .int .i64 c, .int .i64 d, .slice A n m, .string s, .slice K x y], z.oneCell' = true := by
  intro z hz
  simp only [List.mem_cons, List.not_mem_nil, or_false] at hz
  rcases hz with rfl | rfl | rfl | rfl | rfl | rfl | rfl <;> rfl
/-- one row of k cells in a block of its own -/
theorem row_one {k : Nat} {w : World} {B g : Nat} {t : TypeId} {vs : List Value} (h : CB w g t vs) (hB : g < B) : RowAt k w B (some ⟨g, 0, none⟩) [vs] := fun _ => ⟨g, 0, rfl, hB, fun i us hi j v hj => by
  cases i with
  | zero =>
    injection hi with hi
    subst hi
    have := h.cell j hj
    simpa using this
  | succ i => simp at hi⟩
/-- a predicate of an operator and Kids alone -/
def mkP (o : Int) (K : Option Addr) (kc : Nat) (ks : List Pr) : Pr := .mk o 0 0 0 none 0 [] ⟨#[]⟩ K kc ks
theorem mkP_at {w : World} {B : Nat} {o : Int} {K : Option Addr} {kc : Nat} {ks : List Pr} (hk : RowAt 7 w B K (ks.map Pr.cells)) (hkc : ks.length ≤ kc) (hkm : kc ≤ 9223372036854775807) (hp : ∀ k ∈ ks, PrAt w B k) : PrAt w B (mkP o K kc ks) :=
  ⟨RowAt.nil, Nat.le_refl _, by show (0 : Nat) ≤ _; omega, by show (0 : Nat) ≤ _; omega, hk, hkc, hkm, (fun v hv => by cases hv), ⟨by show _ ≤ (0 : Int); omega, by show (0 : Int) ≤ _; omega, by show _ ≤ (0 : Int); omega, by show (0 : Int) ≤ _; omega, by show _ ≤ (0 : Int); omega, by show (0 : Int) ≤ _; omega⟩, hp⟩
set_option maxHeartbeats 4000000 in
set_option maxRecDepth 20000 in
theorem op_any (o : Int) (K : Option Addr) (m kc : Nat) (w : World) : Calls Try.prog 9 #[.int .i64 o, .slice K m kc] w fun e w' => e = .returned (.agg #[.int .i64 o, .int .i64 0, .int .i64 0, .int .i64 0, .slice none 0 0, .string ⟨#[]⟩, .slice K m kc]) ∧ Below w.heap.size w w' := by
  have N0 := Li (CB.new w 25 [.int .i64 0, .int .i64 0, .int .i64 0, .int .i64 0, .slice none 0 0, .string ⟨#[]⟩, .slice none 0 0])
  have B0 := Li (al1 w (.cells #[.int .i64 0, .int .i64 0, .int .i64 0, .int .i64 0, .slice none 0 0, .string ⟨#[]⟩, .slice none 0 0] 25))
  go_enter Try.func9, Try.ntmps9
  go_wp2_with ((with_reducible show wpList _ _ _ (Oper.mk none (.store _ _ _) _ _ _ _ :: _) _ _); refine wpList_store_cb rfl 25 (.tmp 4) (.tmp 7) rfl (w.heap.size) [.int .i64 o, .int .i64 0, .int .i64 0, .int .i64 0, .slice none 0 0, .string ⟨#[]⟩, .slice K m kc] rfl rfl 25 [.int .i64 0, .int .i64 0, .int .i64 0, .int .i64 0, .slice none 0 0, .string ⟨#[]⟩, .slice none 0 0] 7 N0.out sizePr rfl rfl one_q7 ?_; intro w5 hc5 hg5 hz5; have E2 := Li hc5; have G2 := Li hg5; clear hc5 hg5 hz5)
  refine bodyPost_ret (res_cell1 Try.results9 rfl E2.out Try.underlying25 sizePr rfl) rfl ⟨rfl, below_grown B0.out G2.out B0.out.size (Nat.le_refl _)⟩
set_option maxHeartbeats 4000000 in
set_option maxRecDepth 20000 in
theorem between_any (i lo hi : Int) (w : World) : Calls Try.prog 15 #[.int .i64 i, .int .i64 lo, .int .i64 hi] w fun e w' => e = .returned (.agg #[.int .i64 1, .int .i64 i, .int .i64 lo, .int .i64 hi, .slice none 0 0, .string ⟨#[]⟩, .slice none 0 0]) ∧ Below w.heap.size w w' := by
  have N0 := Li (CB.new w 25 [.int .i64 0, .int .i64 0, .int .i64 0, .int .i64 0, .slice none 0 0, .string ⟨#[]⟩, .slice none 0 0])
  have B0 := Li (al1 w (.cells #[.int .i64 0, .int .i64 0, .int .i64 0, .int .i64 0, .slice none 0 0, .string ⟨#[]⟩, .slice none 0 0] 25))
  go_enter Try.func15, Try.ntmps15
  go_wp2_with ((with_reducible show wpList _ _ _ (Oper.mk none (.store _ _ _) _ _ _ _ :: _) _ _); refine wpList_store_cb rfl 25 (.tmp 6) (.tmp 10) rfl (w.heap.size) [.int .i64 1, .int .i64 i, .int .i64 lo, .int .i64 hi, .slice none 0 0, .string ⟨#[]⟩, .slice none 0 0] rfl rfl 25 [.int .i64 0, .int .i64 0, .int .i64 0, .int .i64 0, .slice none 0 0, .string ⟨#[]⟩, .slice none 0 0] 7 N0.out sizePr rfl rfl one_q7 ?_; intro w5 hc5 hg5 hz5; have E2 := Li hc5; have G2 := Li hg5; clear hc5 hg5 hz5)
  refine bodyPost_ret (res_cell1 Try.results15 rfl E2.out Try.underlying25 sizePr rfl) rfl ⟨rfl, below_grown B0.out G2.out B0.out.size (Nat.le_refl _)⟩
set_option maxHeartbeats 4000000 in
set_option maxRecDepth 20000 in
theorem null_any (i : Int) (w : World) : Calls Try.prog 16 #[.int .i64 i] w fun e w' => e = .returned (.agg #[.int .i64 4, .int .i64 i, .int .i64 0, .int .i64 0, .slice none 0 0, .string ⟨#[]⟩, .slice none 0 0]) ∧ Below w.heap.size w w' := by
  have N0 := Li (CB.new w 25 [.int .i64 0, .int .i64 0, .int .i64 0, .int .i64 0, .slice none 0 0, .string ⟨#[]⟩, .slice none 0 0])
  have B0 := Li (al1 w (.cells #[.int .i64 0, .int .i64 0, .int .i64 0, .int .i64 0, .slice none 0 0, .string ⟨#[]⟩, .slice none 0 0] 25))
  go_enter Try.func16, Try.ntmps16
  go_wp2_with ((with_reducible show wpList _ _ _ (Oper.mk none (.store _ _ _) _ _ _ _ :: _) _ _); refine wpList_store_cb rfl 25 (.tmp 2) (.tmp 4) rfl (w.heap.size) [.int .i64 4, .int .i64 i, .int .i64 0, .int .i64 0, .slice none 0 0, .string ⟨#[]⟩, .slice none 0 0] rfl rfl 25 [.int .i64 0, .int .i64 0, .int .i64 0, .int .i64 0, .slice none 0 0, .string ⟨#[]⟩, .slice none 0 0] 7 N0.out sizePr rfl rfl one_q7 ?_; intro w5 hc5 hg5 hz5; have E2 := Li hc5; have G2 := Li hg5; clear hc5 hg5 hz5)
  refine bodyPost_ret (res_cell1 Try.results16 rfl E2.out Try.underlying25 sizePr rfl) rfl ⟨rfl, below_grown B0.out G2.out B0.out.size (Nat.le_refl _)⟩
set_option maxHeartbeats 4000000 in
set_option maxRecDepth 20000 in
theorem not_any (p : Pr) (w : World) (hp : PrAt w w.heap.size p) : Calls Try.prog 11 #[.agg #[.int .i64 p.op, .int .i64 p.id, .int .i64 p.lo, .int .i64 p.hi, .slice p.S p.set.length p.sc, .string p.tx, .slice p.K p.kids.length p.kc]] w fun e w' => ∃ K, e = .returned (.agg #[.int .i64 7, .int .i64 0, .int .i64 0, .int .i64 0, .slice none 0 0, .string ⟨#[]⟩, .slice K 1 1]) ∧ PrAt w' w'.heap.size (mkP 7 K 1 [p]) ∧ Below w.heap.size w w' := by
  have HP := Li hp
  have P0 := Li ((CB.new w 25 [.int .i64 p.op, .int .i64 p.id, .int .i64 p.lo, .int .i64 p.hi, .slice p.S p.set.length p.sc, .string p.tx, .slice p.K p.kids.length p.kc]).alloc (.cells #[.int .i64 0, .int .i64 0, .int .i64 0, .int .i64 0, .slice none 0 0, .string ⟨#[]⟩, .slice none 0 0] 25))
  have N0 := Li ((CB.new1 w (.cells #[.int .i64 p.op, .int .i64 p.id, .int .i64 p.lo, .int .i64 p.hi, .slice p.S p.set.length p.sc, .string p.tx, .slice p.K p.kids.length p.kc] 25) 25 [.int .i64 0, .int .i64 0, .int .i64 0, .int .i64 0, .slice none 0 0, .string ⟨#[]⟩, .slice none 0 0]).alloc (.cells #[.int .i64 p.op, .int .i64 p.id, .int .i64 p.lo, .int .i64 p.hi, .slice p.S p.set.length p.sc, .string p.tx, .slice p.K p.kids.length p.kc] 25))
  have R0 := Li (CB.new2 w (.cells #[.int .i64 p.op, .int .i64 p.id, .int .i64 p.lo, .int .i64 p.hi, .slice p.S p.set.length p.sc, .string p.tx, .slice p.K p.kids.length p.kc] 25) (.cells #[.int .i64 0, .int .i64 0, .int .i64 0, .int .i64 0, .slice none 0 0, .string ⟨#[]⟩, .slice none 0 0] 25) 25 [.int .i64 p.op, .int .i64 p.id, .int .i64 p.lo, .int .i64 p.hi, .slice p.S p.set.length p.sc, .string p.tx, .slice p.K p.kids.length p.kc])
  have B0 := Li (al3 w (.cells #[.int .i64 p.op, .int .i64 p.id, .int .i64 p.lo, .int .i64 p.hi, .slice p.S p.set.length p.sc, .string p.tx, .slice p.K p.kids.length p.kc] 25) (.cells #[.int .i64 0, .int .i64 0, .int .i64 0, .int .i64 0, .slice none 0 0, .string ⟨#[]⟩, .slice none 0 0] 25) (.cells #[.int .i64 p.op, .int .i64 p.id, .int .i64 p.lo, .int .i64 p.hi, .slice p.S p.set.length p.sc, .string p.tx, .slice p.K p.kids.length p.kc] 25))
  have p0 := P0.out.c7
  have zp := P0.out.lt
  clear hp
  go_enter Try.func11, Try.ntmps11
  go_wp2_with (first | (go_at_call 9; refine (op_any 7 (some ⟨w.heap.size + 1 + 1, 0, none⟩) 1 1 _).mono ?_; rintro e w1 ⟨rfl, hb1⟩; have B1 := Li (below_step B0.out B0.out.size hb1); have N1 := Li (N0.out.up hb1); have R1 := Li (R0.out.up hb1); clear hb1) | ((with_reducible show wpList _ _ _ (Oper.mk none (.store _ _ _) _ _ _ _ :: _) _ _); refine wpList_store_cb rfl 25 (.tmp 2) (.tmp 5) rfl (w.heap.size + 1) [.int .i64 7, .int .i64 0, .int .i64 0, .int .i64 0, .slice none 0 0, .string ⟨#[]⟩, .slice (some ⟨w.heap.size + 1 + 1, 0, none⟩) 1 1] rfl rfl 25 [.int .i64 0, .int .i64 0, .int .i64 0, .int .i64 0, .slice none 0 0, .string ⟨#[]⟩, .slice none 0 0] 7 N1.out sizePr rfl rfl one_q7 ?_; intro w5 hc5 hg5 hz5; have E2 := Li hc5; have G2 := Li hg5; clear hc5 hg5 hz5))
  have B2 := Li (below_grown B1.out G2.out B1.out.size (by omega))
  have R2 := Li (R1.out.grown G2.out (by simp))
  refine bodyPost_ret (res_cell1 Try.results11 rfl E2.out Try.underlying25 sizePr rfl) rfl ⟨_, rfl, ?_, B2.out⟩
  refine mkP_at (row_one R2.out R2.out.lt) (by simp) (by omega) (fun k hk => ?_)
  rw [List.mem_singleton] at hk
  subst hk
  exact PrAt.up HP.out B2.out
set_option maxHeartbeats 4000000 in
set_option maxRecDepth 20000 in
theorem equal_any (A : Option Addr) (n c : Nat) (r : List Ce) (hn : n = r.length) (hl : n ≤ 9223372036854775807) (p q : Pr) (w : World) (hp : PrAt w w.heap.size p) (hq : PrAt w w.heap.size q) (hs : Ces w w.heap.size A r) :
    Calls Try.prog 10 #[.agg #[.int .i64 p.op, .int .i64 p.id, .int .i64 p.lo, .int .i64 p.hi, .slice p.S p.set.length p.sc, .string p.tx, .slice p.K p.kids.length p.kc], .agg #[.int .i64 q.op, .int .i64 q.id, .int .i64 q.lo, .int .i64 q.hi, .slice q.S q.set.length q.sc, .string q.tx, .slice q.K q.kids.length q.kc], .agg #[.slice A n c]] w fun e w' => e = .returned (.bool (ev r p == ev r q)) ∧ Below w.heap.size w w' := by
  have HE := Li (show ∀ (k : Pr) (X : World), PrAt X X.heap.size k → Ces X X.heap.size A r → Calls Try.prog 13 #[.agg #[.int .i64 k.op, .int .i64 k.id, .int .i64 k.lo, .int .i64 k.hi, .slice k.S k.set.length k.sc, .string k.tx, .slice k.K k.kids.length k.kc], .agg #[.slice A n c]] X fun e w' => e = .returned (.int .i64 (ev r k)) ∧ Below X.heap.size X w' from fun k X h1 h2 => Eval_any A n c r hn hl k X h1 h2)
  have HP := Li hp
  have HQ := Li hq
  have HS := Li hs
  obtain ⟨t, ht⟩ : ∃ t, ev r p = t := ⟨_, rfl⟩
  obtain ⟨u, hu⟩ : ∃ u, ev r q = u := ⟨_, rfl⟩
  rw [ht, hu]
  have HT := Li ht
  have HU := Li hu
  have B0 := Li (al3 w (.cells #[.int .i64 p.op, .int .i64 p.id, .int .i64 p.lo, .int .i64 p.hi, .slice p.S p.set.length p.sc, .string p.tx, .slice p.K p.kids.length p.kc] 25) (.cells #[.int .i64 q.op, .int .i64 q.id, .int .i64 q.lo, .int .i64 q.hi, .slice q.S q.set.length q.sc, .string q.tx, .slice q.K q.kids.length q.kc] 25) (.cells #[.slice A n c] 29))
  have P0 := Li (((CB.new w 25 [.int .i64 p.op, .int .i64 p.id, .int .i64 p.lo, .int .i64 p.hi, .slice p.S p.set.length p.sc, .string p.tx, .slice p.K p.kids.length p.kc]).alloc (.cells #[.int .i64 q.op, .int .i64 q.id, .int .i64 q.lo, .int .i64 q.hi, .slice q.S q.set.length q.sc, .string q.tx, .slice q.K q.kids.length q.kc] 25)).alloc (.cells #[.slice A n c] 29))
  have Q0 := Li ((CB.new1 w (.cells #[.int .i64 p.op, .int .i64 p.id, .int .i64 p.lo, .int .i64 p.hi, .slice p.S p.set.length p.sc, .string p.tx, .slice p.K p.kids.length p.kc] 25) 25 [.int .i64 q.op, .int .i64 q.id, .int .i64 q.lo, .int .i64 q.hi, .slice q.S q.set.length q.sc, .string q.tx, .slice q.K q.kids.length q.kc]).alloc (.cells #[.slice A n c] 29))
  have R0 := Li (CB.new2 w (.cells #[.int .i64 p.op, .int .i64 p.id, .int .i64 p.lo, .int .i64 p.hi, .slice p.S p.set.length p.sc, .string p.tx, .slice p.K p.kids.length p.kc] 25) (.cells #[.int .i64 q.op, .int .i64 q.id, .int .i64 q.lo, .int .i64 q.hi, .slice q.S q.set.length q.sc, .string q.tx, .slice q.K q.kids.length q.kc] 25) 29 [.slice A n c])
  have p0 := P0.out.c7
  have zp := P0.out.lt
  have r0 := R0.out.c1
  have zr := R0.out.lt
  clear hp hq hs ht hu hn
  go_enter Try.func10, Try.ntmps10
  go_upto_region 1 with fail
  have PP := Li (show (fun X : World => CB X w.heap.size 25 [.int .i64 p.op, .int .i64 p.id, .int .i64 p.lo, .int .i64 p.hi, .slice p.S p.set.length p.sc, .string p.tx, .slice p.K p.kids.length p.kc] ∧ CB X (w.heap.size + 1) 25 [.int .i64 q.op, .int .i64 q.id, .int .i64 q.lo, .int .i64 q.hi, .slice q.S q.set.length q.sc, .string q.tx, .slice q.K q.kids.length q.kc] ∧ CB X (w.heap.size + 1 + 1) 29 [.slice A n c] ∧ Below w.heap.size w X) _ from ⟨P0.out, Q0.out, R0.out, B0.out⟩)
  clear p0 zp r0 zr
  generalize hW9 : World.alloc _ (.cells #[.slice A n c] 29) = W0 at *
  clear hW9
  replace PP : Hid ((fun X : World => CB X w.heap.size 25 [.int .i64 p.op, .int .i64 p.id, .int .i64 p.lo, .int .i64 p.hi, .slice p.S p.set.length p.sc, .string p.tx, .slice p.K p.kids.length p.kc] ∧ CB X (w.heap.size + 1) 25 [.int .i64 q.op, .int .i64 q.id, .int .i64 q.lo, .int .i64 q.hi, .slice q.S q.set.length q.sc, .string q.tx, .slice q.K q.kids.length q.kc] ∧ CB X (w.heap.size + 1 + 1) 29 [.slice A n c] ∧ Below w.heap.size w X) W0.drew) := Li ⟨PP.out.1.dr, PP.out.2.1.dr, PP.out.2.2.1.dr, below_drewN PP.out.2.2.2 1⟩
  refine wp_region_held_drew (S := fun w' => Hid (CB w' w.heap.size 25 [.int .i64 p.op, .int .i64 p.id, .int .i64 p.lo, .int .i64 p.hi, .slice p.S p.set.length p.sc, .string p.tx, .slice p.K p.kids.length p.kc] ∧ CB w' (w.heap.size + 1) 25 [.int .i64 q.op, .int .i64 q.id, .int .i64 q.lo, .int .i64 q.hi, .slice q.S q.set.length q.sc, .string q.tx, .slice q.K q.kids.length q.kc] ∧ CB w' (w.heap.size + 1 + 1) 29 [.slice A n c] ∧ Below w.heap.size w w')) (by kernel_rfl) PP (fun hHeld => ?_)
  revert hHeld PP
  generalize W0.drew = X0
  intro PP hHeld
  refine htf 0 (fun _ h => And.intro h.out.1.c7 h.out.1.lt) ?_
  refine htf 1 (fun _ h => And.intro h.out.2.2.1.c1 h.out.2.2.1.lt) ?_
  refine htf 3 (fun _ h => And.intro h.out.2.1.c7 h.out.2.1.lt) ?_
  refine htf 4 (fun _ h => And.intro h.out.2.2.1.c1 h.out.2.2.1.lt) ?_
  refine rd1 2 fun KK hK => ?_
  go_simp
  go_at_call 13
  refine (HE.out p _ (PrAt.up HP.out PP.out.2.2.2) (RowAt.up HS.out PP.out.2.2.2)).mono ?_
  rintro e v2 ⟨rfl, hb2⟩
  rw [HT.out]
  replace PP := Li (show (fun X : World => CB X w.heap.size 25 [.int .i64 p.op, .int .i64 p.id, .int .i64 p.lo, .int .i64 p.hi, .slice p.S p.set.length p.sc, .string p.tx, .slice p.K p.kids.length p.kc] ∧ CB X (w.heap.size + 1) 25 [.int .i64 q.op, .int .i64 q.id, .int .i64 q.lo, .int .i64 q.hi, .slice q.S q.set.length q.sc, .string q.tx, .slice q.K q.kids.length q.kc] ∧ CB X (w.heap.size + 1 + 1) 29 [.slice A n c] ∧ Below w.heap.size w X) _ from ⟨PP.out.1.up hb2, PP.out.2.1.up hb2, PP.out.2.2.1.up hb2, below_step PP.out.2.2.2 PP.out.2.2.2.size hb2⟩)
  clear hb2
  go_wp2_with fail
  refine hK.out _ _ (PP) (fun hHeld => ?_)
  clear hK KK
  try simp only [pnz]
  refine rd1 5 fun KK hK => ?_
  go_simp
  go_at_call 13
  refine (HE.out q _ (PrAt.up HQ.out PP.out.2.2.2) (RowAt.up HS.out PP.out.2.2.2)).mono ?_
  rintro e v5 ⟨rfl, hb5⟩
  rw [HU.out]
  replace PP := Li (show (fun X : World => CB X w.heap.size 25 [.int .i64 p.op, .int .i64 p.id, .int .i64 p.lo, .int .i64 p.hi, .slice p.S p.set.length p.sc, .string p.tx, .slice p.K p.kids.length p.kc] ∧ CB X (w.heap.size + 1) 25 [.int .i64 q.op, .int .i64 q.id, .int .i64 q.lo, .int .i64 q.hi, .slice q.S q.set.length q.sc, .string q.tx, .slice q.K q.kids.length q.kc] ∧ CB X (w.heap.size + 1 + 1) 29 [.slice A n c] ∧ Below w.heap.size w X) _ from ⟨PP.out.1.up hb5, PP.out.2.1.up hb5, PP.out.2.2.1.up hb5, below_step PP.out.2.2.2 PP.out.2.2.2.size hb5⟩)
  clear hb5
  go_wp2_with fail
  refine hK.out _ _ (PP) (fun hHeld => ?_)
  clear hK KK
  try simp only [pnz]
  refine htk 6 ?_
  refine htk 7 ?_
  refine wpAnyH_done (by kernel_rfl) ?_ _
  go_wp2
  go_ret
  exact ⟨rfl, PP.out.2.2.2⟩
end Go.Proofs.Ytkeneoinfegodaa
