/-
  Decode of a place behind the end, and of an encoding that is none, by contracts.
-/
import Derived.Test.YtkeneoinfegodaaDec
namespace Go.Proofs.Ytkeneoinfegodaa
open Go.RowKit
theorem res_cell3 {fn : Func} {p u v : Tmp} {ty T : TypeId} {tmps : Array Value} {P : Program} {w : World} {g : Nat} {l : List Value} {fs : Array Go.Field} {n : Nat} {x y : Value} (h : fn.results = #[.cell p ty, .tmp u, .tmp v]) (hp : tmps.getD p undef = .pointer (some ⟨g, 0, none⟩)) (hx : tmps.getD u undef = x) (hy : tmps.getD v undef = y)
    (hg : CB w g T l) (hu : P.underlying ty = some (.struct fs)) (hi : (P.info? ty).map (·.size) = some n) (hl : l.length = n) :
    (results fn tmps).run P w = .ok (.tuple #[.agg l.toArray, x, y]) w := by
  rw [Array.getD_eq_getD_getElem?] at hp hx hy
  simp only [results, h]
  simp [Result.andThen, hp, hx, hy, asAddr, run_loadVar_row _ _ _ _ _ (0, 0) _ hg hu rfl (by rw [hi]; simp [hl])]
/-- what Decode answers with an error -/
def badD (e : Int) : Ending := .returned (.tuple #[.agg #[.int .i64 0, .int .i64 0, .int .i64 0, .int .i64 0, .slice none 0 0, .string ⟨#[]⟩, .slice none 0 0], .int .i64 0, .int .i64 e])
set_option maxHeartbeats 4000000 in
set_option maxRecDepth 20000 in
theorem Decode_arg (A : Option Addr) (n c : Nat) (k : Int) (hk : (n : Int) < k) (w : World) :
    Calls Try.prog 22 #[.slice A n c, .int .i64 k] w fun e w' => e = badD 1 ∧ Below w.heap.size w w' := by
  have e1 : decide (k < (0 : Int)) = false := decide_eq_false (by omega)
  have e2 : decide ((n : Int) < k) = true := decide_eq_true hk
  have N0 := Li (CB.new w 25 [.int .i64 0, .int .i64 0, .int .i64 0, .int .i64 0, .slice none 0 0, .string ⟨#[]⟩, .slice none 0 0])
  have B0 := Li (al1 w (.cells #[.int .i64 0, .int .i64 0, .int .i64 0, .int .i64 0, .slice none 0 0, .string ⟨#[]⟩, .slice none 0 0] 25))
  clear hk
  go_enter Try.func22, Try.ntmps22
  go_wp2_with ((with_reducible show wpList _ _ _ (Oper.mk none (.store _ _ _) _ _ _ _ :: _) _ _); refine wpList_store_cb rfl 25 (.tmp 4) (.tmp 17) rfl w.heap.size [.int .i64 0, .int .i64 0, .int .i64 0, .int .i64 0, .slice none 0 0, .string ⟨#[]⟩, .slice none 0 0] rfl rfl 25 [.int .i64 0, .int .i64 0, .int .i64 0, .int .i64 0, .slice none 0 0, .string ⟨#[]⟩, .slice none 0 0] 7 N0.out sizePr rfl rfl one_p7 ?_; intro w5 hc5 hg5 hz5; have E2 := Li hc5; have F2 := Li (below_grown B0.out hg5 B0.out.size (Nat.le_refl _)); clear hc5 hg5 hz5)
  refine bodyPost_ret (res_cell3 Try.results22 rfl rfl rfl E2.out Try.underlying25 sizePr rfl) rfl ⟨rfl, F2.out⟩
set_option maxHeartbeats 8000000 in
set_option maxRecDepth 20000 in
theorem Decode_err (A : Option Addr) (c : Nat) (l : List UInt8) (a op a1 e1 : Nat) (w : World) (hs : Shows w w.heap.size A l) (ha : a ≤ l.length) (he : e1 ≠ 0)
    (hP : ∀ (g B : Nat) (W : World), CB W g 81 [.slice A l.length c, .int .i64 (a : Nat), .int .i64 ((0 : Nat) : Int)] → Shows W B A l → B ≤ g → Calls Try.prog 37 #[.pointer (some ⟨g, 0, none⟩), .int .i64 1] W fun x w' => x = .returned (.agg #[.int .i64 op, .int .i64 0, .int .i64 0, .int .i64 0, .slice none 0 0, .string ⟨#[]⟩, .slice none 0 0]) ∧ CB w' g 81 [.slice A l.length c, .int .i64 (a1 : Nat), .int .i64 (e1 : Nat)] ∧ W.grownBy w' (some g)) :
    Calls Try.prog 22 #[.slice A l.length c, .int .i64 a] w fun e w' => e = badD e1 ∧ Below w.heap.size w w' := by
  obtain ⟨n, hn⟩ : ∃ n, l.length = n := ⟨_, rfl⟩
  rw [hn] at ha hP ⊢
  have HP := Li hP
  have d1 : decide ((a : Int) < (0 : Int)) = false := decide_eq_false (by omega)
  have d2 : decide ((n : Int) < (a : Int)) = false := decide_eq_false (by omega)
  have d4 : decide (n < a) = false := decide_eq_false (by omega)
  have d3 : ((e1 : Int) == 0) = false := by simp; omega
  have N0 := Li ((CB.new w 25 [.int .i64 0, .int .i64 0, .int .i64 0, .int .i64 0, .slice none 0 0, .string ⟨#[]⟩, .slice none 0 0]).alloc (.cells #[.slice A n c, .int .i64 (a : Nat), .int .i64 0] 81))
  have G0 := Li (CB.new1 w (.cells #[.int .i64 0, .int .i64 0, .int .i64 0, .int .i64 0, .slice none 0 0, .string ⟨#[]⟩, .slice none 0 0] 25) 81 [.slice A n c, .int .i64 (a : Nat), .int .i64 ((0 : Nat) : Int)])
  have B0 := Li (al2 w (.cells #[.int .i64 0, .int .i64 0, .int .i64 0, .int .i64 0, .slice none 0 0, .string ⟨#[]⟩, .slice none 0 0] 25) (.cells #[.slice A n c, .int .i64 (a : Nat), .int .i64 0] 81))
  have S0 := Li (hs.below B0.out)
  clear hs ha he hP hn
  go_enter Try.func22, Try.ntmps22
  go_upto_region 6 with ((go_at_call 37; refine (HP.out (w.heap.size + 1) w.heap.size _ G0.out S0.out (by omega)).mono ?_; rintro x1 w1 ⟨rfl, hg1, hr1⟩; have G1 := Li hg1; have N1 := Li (N0.out.grown hr1 (by simp)); have B1 := Li (below_grown B0.out hr1 B0.out.size (by omega)); have g1 := G1.out.c3; have zg1 := G1.out.lt; clear hg1 hr1))
  have PP := Li (show (fun X : World => CB X (w.heap.size + 1) 81 [.slice A n c, .int .i64 (a1 : Nat), .int .i64 (e1 : Nat)] ∧ CB X w.heap.size 25 [.int .i64 0, .int .i64 0, .int .i64 0, .int .i64 0, .slice none 0 0, .string ⟨#[]⟩, .slice none 0 0] ∧ Below w.heap.size w X) (w1.alloc (.cells #[.int .i64 op, .int .i64 0, .int .i64 0, .int .i64 0, .slice none 0 0, .string ⟨#[]⟩, .slice none 0 0] 25)) from ⟨G1.out.alloc _, N1.out.alloc _, B1.out.alloc B1.out.size _⟩)
  clear g1 zg1
  generalize w1.alloc (.cells #[.int .i64 op, .int .i64 0, .int .i64 0, .int .i64 0, .slice none 0 0, .string ⟨#[]⟩, .slice none 0 0] 25) = W0 at *
  replace PP : Hid ((fun X : World => CB X (w.heap.size + 1) 81 [.slice A n c, .int .i64 (a1 : Nat), .int .i64 (e1 : Nat)] ∧ CB X w.heap.size 25 [.int .i64 0, .int .i64 0, .int .i64 0, .int .i64 0, .slice none 0 0, .string ⟨#[]⟩, .slice none 0 0] ∧ Below w.heap.size w X) W0.drew) := Li ⟨PP.out.1.dr, PP.out.2.1.dr, below_drewN PP.out.2.2 1⟩
  refine wp_region_held_drew (S := fun w' => Hid (CB w' (w.heap.size + 1) 81 [.slice A n c, .int .i64 (a1 : Nat), .int .i64 (e1 : Nat)] ∧ CB w' w.heap.size 25 [.int .i64 0, .int .i64 0, .int .i64 0, .int .i64 0, .slice none 0 0, .string ⟨#[]⟩, .slice none 0 0] ∧ Below w.heap.size w w')) (by kernel_rfl) PP (fun hHeld => ?_)
  revert hHeld PP
  generalize W0.drew = X0
  intro PP hHeld
  refine htk 0 ?_
  refine htk 1 ?_
  refine htf 2 (fun _ h => And.intro h.out.1.c3 h.out.1.lt) ?_
  refine rd1 3 fun KK hK => ?_
  refine step_store_cb rfl 25 (.tmp 4) (.tmp 25) rfl w.heap.size [.int .i64 0, .int .i64 0, .int .i64 0, .int .i64 0, .slice none 0 0, .string ⟨#[]⟩, .slice none 0 0] rfl rfl 25 [.int .i64 0, .int .i64 0, .int .i64 0, .int .i64 0, .slice none 0 0, .string ⟨#[]⟩, .slice none 0 0] 7 PP.out.2.1 sizePr rfl rfl one_p7 ?_
  intro wz hcz hgz hzz
  have HBZ := Li (show (fun X : World => CB X (w.heap.size + 1) 81 [.slice A n c, .int .i64 (a1 : Nat), .int .i64 (e1 : Nat)] ∧ CB X w.heap.size 25 [.int .i64 0, .int .i64 0, .int .i64 0, .int .i64 0, .slice none 0 0, .string ⟨#[]⟩, .slice none 0 0] ∧ Below w.heap.size w X) wz from ⟨PP.out.1.grown hgz (by simp), hcz, below_grown PP.out.2.2 hgz PP.out.2.2.size (Nat.le_refl _)⟩)
  refine hK.out _ _ (HBZ) (fun hHeld => ?_)
  clear hK KK
  try simp only [pnz]
  refine htk 4 ?_
  refine htk 5 ?_
  refine wpAnyH_done (by kernel_rfl) ?_ _
  go_wp2
  refine bodyPost_ret (res_cell3 Try.results22 rfl rfl rfl HBZ.out.2.1 Try.underlying25 sizePr rfl) rfl ⟨rfl, HBZ.out.2.2⟩
theorem Decode_low (A : Option Addr) (c : Nat) (l : List UInt8) (a op a1 e1 : Nat) (w : World) (hs : Shows w w.heap.size A l) (ha : a ≤ l.length) (hl : l.length ≤ c ∧ c ≤ 9223372036854775806) (he : e1 ≠ 0) (h1 : smL l 7 a 0 = (op, a1, e1)) (hop : op = 0 ∨ op = 8) :
    Calls Try.prog 22 #[.slice A l.length c, .int .i64 a] w fun e w' => e = badD e1 ∧ Below w.heap.size w w' :=
  Decode_err A c l a op a1 e1 w hs ha he fun g B W hg hS hB => pred_low A c l g B a 0 1 op a1 e1 W hg hS hB hl (fun _ => ha) h1 hop
theorem Decode_kids (A : Option Addr) (c : Nat) (l : List UInt8) (a op a1 e1 a2 e2 : Nat) (w : World) (hs : Shows w w.heap.size A l) (ha : a ≤ l.length) (hl : l.length ≤ c ∧ c ≤ 9223372036854775806) (he : rqN (decide (op ≠ 7)) e2 5 ≠ 0) (h1 : smL l 7 a 0 = (op, a1, e1)) (h2 : cntL l a1 e1 = (0, a2, e2)) (hop : op = 5 ∨ op = 7) :
    Calls Try.prog 22 #[.slice A l.length c, .int .i64 a] w fun e w' => e = badD (rqN (decide (op ≠ 7)) e2 5) ∧ Below w.heap.size w w' :=
  Decode_err A c l a op a2 _ w hs ha he fun g B W hg hS hB => pred_kids A c l g B a 0 1 op a1 e1 a2 e2 W hg hS hB hl (fun _ => ha) h1 h2 hop
theorem Decode_8 (A : Option Addr) (c : Nat) (w : World) (hs : Shows w w.heap.size A [8]) (hc : 1 ≤ c ∧ c ≤ 9223372036854775806) : Calls Try.prog 22 #[.slice A 1 c, .int .i64 0] w fun e w' => e = badD 5 ∧ Below w.heap.size w w' :=
  Decode_low A c [8] 0 8 1 5 w hs (by decide) hc (by decide) (by decide) (.inr rfl)
theorem Decode_70 (A : Option Addr) (c : Nat) (w : World) (hs : Shows w w.heap.size A [7, 0]) (hc : 2 ≤ c ∧ c ≤ 9223372036854775806) : Calls Try.prog 22 #[.slice A 2 c, .int .i64 0] w fun e w' => e = badD 5 ∧ Below w.heap.size w w' :=
  Decode_kids A c [7, 0] 0 7 1 0 2 0 w hs (by decide) hc (by decide) (by decide) (by decide) (.inr rfl)
theorem Decode_517 (A : Option Addr) (c : Nat) (w : World) (hs : Shows w w.heap.size A [5, 17]) (hc : 2 ≤ c ∧ c ≤ 9223372036854775806) : Calls Try.prog 22 #[.slice A 2 c, .int .i64 0] w fun e w' => e = badD 2 ∧ Below w.heap.size w w' :=
  Decode_kids A c [5, 17] 0 5 1 0 2 2 w hs (by decide) hc (by decide) (by decide) (by decide) (.inl rfl)
theorem Decode_nil (w : World) : Calls Try.prog 22 #[.slice none 0 0, .int .i64 0] w fun e w' => e = badD 6 ∧ Below w.heap.size w w' :=
  Decode_low none 0 [] 0 0 0 6 w Shows.nil (by decide) (by decide) (by decide) (by decide) (.inl rfl)
end Go.Proofs.Ytkeneoinfegodaa
