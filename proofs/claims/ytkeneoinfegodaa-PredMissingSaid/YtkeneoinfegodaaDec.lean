/-
  What the program's Decode answers to an encoding that ends early or is of no form.
-/
import Derived.Test.YtkeneoinfegodaaRd2
namespace Go.Proofs.Ytkeneoinfegodaa
open Go.RowKit
theorem one_p7 {n : Int} : ∀ z ∈ [Value.int .i64 n, .int .i64 0, .int .i64 0, .int .i64 0, .slice none 0 0, .string ⟨#[]⟩, .slice none 0 0], z.oneCell' = true := by
  intro z hz
  simp only [List.mem_cons, List.not_mem_nil, or_false] at hz
  rcases hz with rfl | rfl | rfl | rfl | rfl | rfl | rfl <;> rfl
theorem grown_al (w : World) (o : Obj) (r : Option Nat) : w.grownBy (w.alloc o) r := ⟨rfl, rfl, rfl, by rw [asz]; omega, fun i hi _ => Below.heap_alloc w o i hi⟩
theorem grown_then {a b d : World} {r : Option Nat} {j : Nat} (h : a.grownBy b r) (k : b.grownBy d (some j)) (hj : a.heap.size ≤ j) : a.grownBy d r :=
  ⟨k.os.trans h.os, k.tape.trans h.tape, k.output.trans h.output, Nat.le_trans h.size k.size, fun i hi hr => (k.block i (Nat.lt_of_lt_of_le hi h.size) (by intro e; injection e with e; omega)).trans (h.block i hi hr)⟩
set_option maxHeartbeats 4000000 in
set_option maxRecDepth 20000 in
theorem listP_nil (f : Value) (w : World) : Calls Try.prog 60 #[.int .i64 0, f] w fun x w' => x = .returned (.slice none 0 0) ∧ w' = w := by
  go_enter Try.func60, Try.ntmps60
  go_wp2
  go_loopw [5, 7, 8] (fun s j _ wr => s = .slice none 0 0 ∧ j = .int .i64 0 ∧ wr = w) (fun _ _ _ _ => 0)
  case atStart => exact ⟨rfl, rfl, rfl⟩
  case round =>
    obtain ⟨rfl, rfl, rfl⟩ := hrel
    go_wp2
    go_ret
    exact ⟨rfl, rfl⟩
set_option maxHeartbeats 4000000 in
set_option maxRecDepth 20000 in
theorem pred_low (A : Option Addr) (c : Nat) (l : List UInt8) (g B : Nat) (a e : Nat) (lv : Int) (op a1 e1 : Nat) (w : World) (hg : CB w g 81 [.slice A l.length c, .int .i64 (a : Nat), .int .i64 (e : Nat)]) (hs : Shows w B A l) (hB : B ≤ g) (hl : l.length ≤ c ∧ c ≤ 9223372036854775806) (ha : e = 0 → a ≤ l.length) (h1 : smL l 7 a e = (op, a1, e1)) (hop : op = 0 ∨ op = 8) :
    Calls Try.prog 37 #[.pointer (some ⟨g, 0, none⟩), .int .i64 lv] w fun x w' => x = .returned (.agg #[.int .i64 op, .int .i64 0, .int .i64 0, .int .i64 0, .slice none 0 0, .string ⟨#[]⟩, .slice none 0 0]) ∧ CB w' g 81 [.slice A l.length c, .int .i64 a1, .int .i64 e1] ∧ w.grownBy w' (some g) := by
  have HL := Li hl
  have HA := Li ha
  have HB := Li hB
  have H1 := Li h1
  have GZ := Li hg.lt
  have B0 := Li (al3 w (.cells #[.pointer (some ⟨g, 0, none⟩)] 92) (.cells #[.int .i64 lv] 3) (.cells #[.int .i64 0, .int .i64 0, .int .i64 0, .int .i64 0, .slice none 0 0, .string ⟨#[]⟩, .slice none 0 0] 25))
  have G0 := Li (((hg.alloc (.cells #[.pointer (some ⟨g, 0, none⟩)] 92)).alloc (.cells #[.int .i64 lv] 3)).alloc (.cells #[.int .i64 0, .int .i64 0, .int .i64 0, .int .i64 0, .slice none 0 0, .string ⟨#[]⟩, .slice none 0 0] 25))
  have S0 := Li (hs.below (B0.out.mono (Nat.le_trans hB (Nat.le_of_lt hg.lt))))
  have R0 := Li (((CB.new w 92 [.pointer (some ⟨g, 0, none⟩)]).alloc (.cells #[.int .i64 lv] 3)).alloc (.cells #[.int .i64 0, .int .i64 0, .int .i64 0, .int .i64 0, .slice none 0 0, .string ⟨#[]⟩, .slice none 0 0] 25))
  have N0 := Li (CB.new2 w (.cells #[.pointer (some ⟨g, 0, none⟩)] 92) (.cells #[.int .i64 lv] 3) 25 [.int .i64 0, .int .i64 0, .int .i64 0, .int .i64 0, .slice none 0 0, .string ⟨#[]⟩, .slice none 0 0])
  have W0 := Li (show w.grownBy (((w.alloc (.cells #[.pointer (some ⟨g, 0, none⟩)] 92)).alloc (.cells #[.int .i64 lv] 3)).alloc (.cells #[.int .i64 0, .int .i64 0, .int .i64 0, .int .i64 0, .slice none 0 0, .string ⟨#[]⟩, .slice none 0 0] 25)) (some g) from ⟨B0.out.os, B0.out.tape, B0.out.output, B0.out.size, fun i hi _ => B0.out.block i hi⟩)
  have r0 := R0.out.c1
  have zr := R0.out.lt
  clear hg hs hB hl ha h1
  rcases hop with rfl | rfl
  · go_enter Try.func37, Try.ntmps37
    go_wp2_with (first | (go_at_call 52; refine (small_any A c l g B a e 7 _ G0.out S0.out HB.out HL.out HA.out).mono ?_; rintro x1 w1 ⟨rfl, hg1, hr1⟩; rw [H1.out] at hg1 ⊢; have G1 := Li hg1; have R1 := Li hr1; have N1 := Li (N0.out.grown hr1 (by have := GZ.out; simp; omega)); have zn := N1.out.lt; clear hg1 hr1) | ((with_reducible show wpList _ _ _ (Oper.mk none (.store _ _ _) _ _ _ _ :: _) _ _); refine wpList_store_cb rfl 25 (.tmp 4) (.tmp 74) rfl (w.heap.size + 1 + 1) [.int .i64 0, .int .i64 0, .int .i64 0, .int .i64 0, .slice none 0 0, .string ⟨#[]⟩, .slice none 0 0] rfl rfl 25 [.int .i64 0, .int .i64 0, .int .i64 0, .int .i64 0, .slice none 0 0, .string ⟨#[]⟩, .slice none 0 0] 7 (N1.out.alloc _) sizePr rfl rfl one_p7 ?_; intro w5 hc5 hg5 hz5; have E2 := Li hc5; have F2 := Li hg5; clear hc5 hg5 hz5))
    refine bodyPost_ret (res_cell1 Try.results37 rfl E2.out Try.underlying25 sizePr rfl) rfl ⟨rfl, ?_, ?_⟩
    · exact (G1.out.alloc _).grown F2.out (by have := GZ.out; simp; omega)
    · exact grown_then (grown_step (grown_step W0.out R1.out) (grown_al _ _ _)) F2.out (by omega)
  · go_enter Try.func37, Try.ntmps37
    go_wp2_with (first | (go_at_call 52; refine (small_any A c l g B a e 7 _ G0.out S0.out HB.out HL.out HA.out).mono ?_; rintro x1 w1 ⟨rfl, hg1, hr1⟩; rw [H1.out] at hg1 ⊢; have G1 := Li hg1; have R1 := Li hr1; have N1 := Li (N0.out.grown hr1 (by have := GZ.out; simp; omega)); have zn := N1.out.lt; clear hg1 hr1) | ((with_reducible show wpList _ _ _ (Oper.mk none (.store _ _ _) _ _ _ _ :: _) _ _); refine wpList_store_cb rfl 25 (.tmp 4) (.tmp 74) rfl (w.heap.size + 1 + 1) [.int .i64 8, .int .i64 0, .int .i64 0, .int .i64 0, .slice none 0 0, .string ⟨#[]⟩, .slice none 0 0] rfl rfl 25 [.int .i64 0, .int .i64 0, .int .i64 0, .int .i64 0, .slice none 0 0, .string ⟨#[]⟩, .slice none 0 0] 7 (N1.out.alloc _) sizePr rfl rfl one_p7 ?_; intro w5 hc5 hg5 hz5; have E2 := Li hc5; have F2 := Li hg5; clear hc5 hg5 hz5))
    refine bodyPost_ret (res_cell1 Try.results37 rfl E2.out Try.underlying25 sizePr rfl) rfl ⟨rfl, ?_, ?_⟩
    · exact (G1.out.alloc _).grown F2.out (by have := GZ.out; simp; omega)
    · exact grown_then (grown_step (grown_step W0.out R1.out) (grown_al _ _ _)) F2.out (by omega)
set_option maxHeartbeats 8000000 in
set_option maxRecDepth 20000 in
theorem pred_kids (A : Option Addr) (c : Nat) (l : List UInt8) (g B : Nat) (a e : Nat) (lv : Int) (op a1 e1 a2 e2 : Nat) (w : World) (hg : CB w g 81 [.slice A l.length c, .int .i64 (a : Nat), .int .i64 (e : Nat)]) (hs : Shows w B A l) (hB : B ≤ g) (hl : l.length ≤ c ∧ c ≤ 9223372036854775806) (ha : e = 0 → a ≤ l.length) (h1 : smL l 7 a e = (op, a1, e1)) (h2 : cntL l a1 e1 = (0, a2, e2)) (hop : op = 5 ∨ op = 7) :
    Calls Try.prog 37 #[.pointer (some ⟨g, 0, none⟩), .int .i64 lv] w fun x w' => x = .returned (.agg #[.int .i64 op, .int .i64 0, .int .i64 0, .int .i64 0, .slice none 0 0, .string ⟨#[]⟩, .slice none 0 0]) ∧ CB w' g 81 [.slice A l.length c, .int .i64 a2, .int .i64 (rqN (decide (op ≠ 7)) e2 5)] ∧ w.grownBy w' (some g) := by
  have HL := Li hl
  have HA := Li ha
  have HB := Li hB
  have H1 := Li h1
  have H2 := Li h2
  have GZ := Li hg.lt
  have B0 := Li (al3 w (.cells #[.pointer (some ⟨g, 0, none⟩)] 92) (.cells #[.int .i64 lv] 3) (.cells #[.int .i64 0, .int .i64 0, .int .i64 0, .int .i64 0, .slice none 0 0, .string ⟨#[]⟩, .slice none 0 0] 25))
  have G0 := Li (((hg.alloc (.cells #[.pointer (some ⟨g, 0, none⟩)] 92)).alloc (.cells #[.int .i64 lv] 3)).alloc (.cells #[.int .i64 0, .int .i64 0, .int .i64 0, .int .i64 0, .slice none 0 0, .string ⟨#[]⟩, .slice none 0 0] 25))
  have S0 := Li (hs.below (B0.out.mono (Nat.le_trans hB (Nat.le_of_lt hg.lt))))
  have R0 := Li (((CB.new w 92 [.pointer (some ⟨g, 0, none⟩)]).alloc (.cells #[.int .i64 lv] 3)).alloc (.cells #[.int .i64 0, .int .i64 0, .int .i64 0, .int .i64 0, .slice none 0 0, .string ⟨#[]⟩, .slice none 0 0] 25))
  have N0 := Li (CB.new2 w (.cells #[.pointer (some ⟨g, 0, none⟩)] 92) (.cells #[.int .i64 lv] 3) 25 [.int .i64 0, .int .i64 0, .int .i64 0, .int .i64 0, .slice none 0 0, .string ⟨#[]⟩, .slice none 0 0])
  have W0 := Li (show w.grownBy (((w.alloc (.cells #[.pointer (some ⟨g, 0, none⟩)] 92)).alloc (.cells #[.int .i64 lv] 3)).alloc (.cells #[.int .i64 0, .int .i64 0, .int .i64 0, .int .i64 0, .slice none 0 0, .string ⟨#[]⟩, .slice none 0 0] 25)) (some g) from ⟨B0.out.os, B0.out.tape, B0.out.output, B0.out.size, fun i hi _ => B0.out.block i hi⟩)
  have r0 := R0.out.c1
  have zr := R0.out.lt
  have NE := Li (show some (w.heap.size + 1 + 1) ≠ some g from by have := hg.lt; simp; omega)
  have NR := Li (show some w.heap.size ≠ some g from by have := hg.lt; simp; omega)
  clear hg hs hB hl ha h1 h2
  rcases hop with rfl | rfl
  · obtain ⟨e3, he3⟩ : ∃ x, rqN true e2 5 = x := ⟨_, rfl⟩
    have H3 := Li (show rqE true (e2 : Int) (5 : Int) = (e3 : Int) from by rw [← he3]; exact rqE_cast true e2 5)
    have H4 := Li (show rqE true (e3 : Int) (2 : Int) = (e3 : Int) from by rw [rqE, if_neg (by simp)])
    rw [show rqN (decide ((5 : Nat) ≠ 7)) e2 5 = e3 from he3]
    clear he3
    go_enter Try.func37, Try.ntmps37
    go_wp2_with (first | (go_at_call 52; refine (small_any A c l g B a e 7 _ G0.out S0.out HB.out HL.out HA.out).mono ?_; rintro x1 w1 ⟨rfl, hg1, hr1⟩; rw [H1.out] at hg1 ⊢; have G1 := Li hg1; have R1 := Li (grown_step W0.out hr1); have N1 := Li (N0.out.grown hr1 NE.out); have B1 := Li (R0.out.grown hr1 NR.out); have S1 := Li (S0.out.grownG hr1 HB.out (Nat.le_trans HB.out (Nat.le_of_lt G0.out.lt))); have Q1 := Li (CB.new w1 25 [.int .i64 5, .int .i64 0, .int .i64 0, .int .i64 0, .slice none 0 0, .string ⟨#[]⟩, .slice none 0 0]); have NQ := Li (show some w1.heap.size ≠ some g from by have := G1.out.lt; simp; omega); have zn := N1.out.lt; have b1 := B1.out.c1; have zb1 := B1.out.lt; clear hg1 hr1) | (go_at_call 56; refine (count_any A c l g B a1 e1 _ (G1.out.alloc _) (S1.out.grownG (grown_al w1 _ _) HB.out (Nat.le_trans HB.out (Nat.le_of_lt G1.out.lt))) HB.out HL.out).mono ?_; rintro x2 w2 ⟨rfl, hg2, hr2⟩; rw [H2.out] at hg2 ⊢; have G2 := Li hg2; have R2 := Li (grown_step (grown_step R1.out (grown_al _ _ _)) hr2); have N2 := Li ((N1.out.alloc _).grown hr2 NE.out); have Q2 := Li (Q1.out.grown hr2 NQ.out); have B2 := Li ((B1.out.alloc _).grown hr2 NR.out); have q2 := Q2.out.c7; have zq2 := Q2.out.lt; have b2 := B2.out.c1; have zb2 := B2.out.lt; clear hg2 hr2) | (go_at_call 59; (with_reducible show Calls _ _ #[_, _, .int .i64 5] _ _); refine (require_any A c l g a2 e2 5 true _ G2.out).mono ?_; rintro x3 w3 ⟨rfl, hg3, hr3⟩; rw [H3.out] at hg3; have G3 := Li hg3; have R3 := Li (grown_step R2.out hr3); have N3 := Li (N2.out.grown hr3 NE.out); have Q3 := Li (Q2.out.grown hr3 NQ.out); have B3 := Li (B2.out.grown hr3 NR.out); have q3 := Q3.out.c7; have zq3 := Q3.out.lt; have b3 := B3.out.c1; have zb3 := B3.out.lt; clear hg3 hr3) | (go_at_call 59; (with_reducible show Calls _ _ #[_, _, .int .i64 2] _ _); refine (require_any A c l g a2 e3 2 true _ G3.out).mono ?_; rintro x4 w4 ⟨rfl, hg4, hr4⟩; rw [H4.out] at hg4; have G4 := Li hg4; have R4 := Li (grown_step R3.out hr4); have N4 := Li (N3.out.grown hr4 NE.out); have Q4 := Li (Q3.out.grown hr4 NQ.out); have q4 := Q4.out.c7; have zq4 := Q4.out.lt; have qf4 := Q4.out.frozen 6; have T4 := Li (Q4.out.set_ 6 (.slice none 0 0)); have t4 := T4.out.c7; clear hg4 hr4) | (go_at_call 60; refine (listP_nil _ _).mono ?_; rintro x5 w5 ⟨rfl, rfl⟩) | ((with_reducible show wpList _ _ _ (Oper.mk none (.store _ _ _) _ _ _ _ :: _) _ _); refine wpList_store_cb rfl 25 (.tmp 4) (.tmp 74) rfl (w.heap.size + 1 + 1) [.int .i64 5, .int .i64 0, .int .i64 0, .int .i64 0, .slice none 0 0, .string ⟨#[]⟩, .slice none 0 0] rfl rfl 25 [.int .i64 0, .int .i64 0, .int .i64 0, .int .i64 0, .slice none 0 0, .string ⟨#[]⟩, .slice none 0 0] 7 (N4.out.set_other 6 _ (by have := NQ.out; have := N1.out.lt; omega)) sizePr rfl rfl one_p7 ?_; intro w6 hc6 hg6 hz6; have E2 := Li hc6; have F2 := Li hg6; clear hc6 hg6 hz6))
    refine bodyPost_ret (res_cell1 Try.results37 rfl E2.out Try.underlying25 sizePr rfl) rfl ⟨rfl, ?_, ?_⟩
    · exact (G4.out.set_other 6 _ (fun h => NQ.out (by rw [h]))).grown F2.out (fun h => NE.out h.symm)
    · exact grown_then (grown_then R4.out (grown_set _ w1.heap.size 6 _) R1.out.size) F2.out (by omega)
  · obtain ⟨e3, he3⟩ : ∃ x, rqN false e2 5 = x := ⟨_, rfl⟩
    have H3 := Li (show rqE false (e2 : Int) (5 : Int) = (e3 : Int) from by rw [← he3]; exact rqE_cast false e2 5)
    have H4 := Li (show rqE true (e3 : Int) (2 : Int) = (e3 : Int) from by rw [rqE, if_neg (by simp)])
    rw [show rqN (decide ((7 : Nat) ≠ 7)) e2 5 = e3 from he3]
    clear he3
    go_enter Try.func37, Try.ntmps37
    go_wp2_with (first | (go_at_call 52; refine (small_any A c l g B a e 7 _ G0.out S0.out HB.out HL.out HA.out).mono ?_; rintro x1 w1 ⟨rfl, hg1, hr1⟩; rw [H1.out] at hg1 ⊢; have G1 := Li hg1; have R1 := Li (grown_step W0.out hr1); have N1 := Li (N0.out.grown hr1 NE.out); have B1 := Li (R0.out.grown hr1 NR.out); have S1 := Li (S0.out.grownG hr1 HB.out (Nat.le_trans HB.out (Nat.le_of_lt G0.out.lt))); have Q1 := Li (CB.new w1 25 [.int .i64 7, .int .i64 0, .int .i64 0, .int .i64 0, .slice none 0 0, .string ⟨#[]⟩, .slice none 0 0]); have NQ := Li (show some w1.heap.size ≠ some g from by have := G1.out.lt; simp; omega); have zn := N1.out.lt; have b1 := B1.out.c1; have zb1 := B1.out.lt; clear hg1 hr1) | (go_at_call 56; refine (count_any A c l g B a1 e1 _ (G1.out.alloc _) (S1.out.grownG (grown_al w1 _ _) HB.out (Nat.le_trans HB.out (Nat.le_of_lt G1.out.lt))) HB.out HL.out).mono ?_; rintro x2 w2 ⟨rfl, hg2, hr2⟩; rw [H2.out] at hg2 ⊢; have G2 := Li hg2; have R2 := Li (grown_step (grown_step R1.out (grown_al _ _ _)) hr2); have N2 := Li ((N1.out.alloc _).grown hr2 NE.out); have Q2 := Li (Q1.out.grown hr2 NQ.out); have B2 := Li ((B1.out.alloc _).grown hr2 NR.out); have q2 := Q2.out.c7; have zq2 := Q2.out.lt; have b2 := B2.out.c1; have zb2 := B2.out.lt; clear hg2 hr2) | (go_at_call 59; (with_reducible show Calls _ _ #[_, _, .int .i64 5] _ _); refine (require_any A c l g a2 e2 5 false _ G2.out).mono ?_; rintro x3 w3 ⟨rfl, hg3, hr3⟩; rw [H3.out] at hg3; have G3 := Li hg3; have R3 := Li (grown_step R2.out hr3); have N3 := Li (N2.out.grown hr3 NE.out); have Q3 := Li (Q2.out.grown hr3 NQ.out); have B3 := Li (B2.out.grown hr3 NR.out); have q3 := Q3.out.c7; have zq3 := Q3.out.lt; have b3 := B3.out.c1; have zb3 := B3.out.lt; clear hg3 hr3) | (go_at_call 59; (with_reducible show Calls _ _ #[_, _, .int .i64 2] _ _); refine (require_any A c l g a2 e3 2 true _ G3.out).mono ?_; rintro x4 w4 ⟨rfl, hg4, hr4⟩; rw [H4.out] at hg4; have G4 := Li hg4; have R4 := Li (grown_step R3.out hr4); have N4 := Li (N3.out.grown hr4 NE.out); have Q4 := Li (Q3.out.grown hr4 NQ.out); have q4 := Q4.out.c7; have zq4 := Q4.out.lt; have qf4 := Q4.out.frozen 6; have T4 := Li (Q4.out.set_ 6 (.slice none 0 0)); have t4 := T4.out.c7; clear hg4 hr4) | (go_at_call 60; refine (listP_nil _ _).mono ?_; rintro x5 w5 ⟨rfl, rfl⟩) | ((with_reducible show wpList _ _ _ (Oper.mk none (.store _ _ _) _ _ _ _ :: _) _ _); refine wpList_store_cb rfl 25 (.tmp 4) (.tmp 74) rfl (w.heap.size + 1 + 1) [.int .i64 7, .int .i64 0, .int .i64 0, .int .i64 0, .slice none 0 0, .string ⟨#[]⟩, .slice none 0 0] rfl rfl 25 [.int .i64 0, .int .i64 0, .int .i64 0, .int .i64 0, .slice none 0 0, .string ⟨#[]⟩, .slice none 0 0] 7 (N4.out.set_other 6 _ (by have := NQ.out; have := N1.out.lt; omega)) sizePr rfl rfl one_p7 ?_; intro w6 hc6 hg6 hz6; have E2 := Li hc6; have F2 := Li hg6; clear hc6 hg6 hz6))
    refine bodyPost_ret (res_cell1 Try.results37 rfl E2.out Try.underlying25 sizePr rfl) rfl ⟨rfl, ?_, ?_⟩
    · exact (G4.out.set_other 6 _ (fun h => NQ.out (by rw [h]))).grown F2.out (fun h => NE.out h.symm)
    · exact grown_then (grown_then R4.out (grown_set _ w1.heap.size 6 _) R1.out.size) F2.out (by omega)
end Go.Proofs.Ytkeneoinfegodaa
