/-
  The laws' fixed examples hold.
-/
import Derived.Test.YtkeneoinfegodaaSan
namespace Go.Proofs.Ytkeneoinfegodaa
open Go.RowKit
set_option maxHeartbeats 20000000 in
set_option maxRecDepth 40000 in
theorem sanity_any (w : World) : Calls Try.prog 7 #[] w fun e w' => e = .returned (.bool true) ∧ Below w.heap.size w w' := by
  go_enter Try.func7, Try.ntmps7
  go_upto_region 4 with fail
  have PP : Hid (S4 w _) := Li (S4.new w)
  generalize hW9 : World.alloc _ (.cells #[.int .i64 3, .int .i64 2, .int .i64 0, .int .i64 0, .slice none 0 0, .string ⟨#[97]⟩, .slice none 0 0] 25) = W0 at *
  clear hW9
  replace PP := Li PP.out.dr
  refine wp_region_held_drew (S := fun X => Hid (S4 w X)) (by kernel_rfl) PP (fun hHeld => ?_)
  revert hHeld PP
  generalize W0.drew = X4
  intro PP hHeld
  refine htf 1 (fun _ h => And.intro h.out.b.c1 h.out.b.lt) ?_
  refine rd1 0 fun KK hK => ?_
  go_simp
  go_at_call 15
  refine (between_any 1 0 4 _).mono ?_
  rintro e v0 ⟨rfl, hb⟩
  replace PP := Li (PP.out.up hb)
  clear hb
  go_wp2_with fail
  refine hK.out _ _ (PP) (fun hHeld => ?_)
  clear hK KK
  try simp only [pnz]
  refine rd1 2 fun KK hK => ?_
  go_simp
  go_at_call 13
  refine (PP.out.ev (btw 1 0 4) (bIn rfl) (vB1)).mono ?_
  rintro e v2 ⟨rfl, hb⟩
  replace PP := Li (PP.out.up hb)
  clear hb
  go_wp2_with fail
  refine hK.out _ _ (PP) (fun hHeld => ?_)
  clear hK KK
  try simp only [pnz]
  refine htk 3 ?_
  refine htk 4 ?_
  refine htf 6 (fun _ h => And.intro h.out.b.c1 h.out.b.lt) ?_
  refine rd1 5 fun KK hK => ?_
  go_simp
  go_at_call 15
  refine (between_any 1 5 5 _).mono ?_
  rintro e v5 ⟨rfl, hb⟩
  replace PP := Li (PP.out.up hb)
  clear hb
  go_wp2_with fail
  refine hK.out _ _ (PP) (fun hHeld => ?_)
  clear hK KK
  try simp only [pnz]
  refine rd1 7 fun KK hK => ?_
  go_simp
  go_at_call 13
  refine (PP.out.ev (btw 1 5 5) (bIn rfl) (vB2)).mono ?_
  rintro e v7 ⟨rfl, hb⟩
  replace PP := Li (PP.out.up hb)
  clear hb
  go_wp2_with fail
  refine hK.out _ _ (PP) (fun hHeld => ?_)
  clear hK KK
  try simp only [pnz]
  refine htk 8 ?_
  refine htk 9 ?_
  refine htk 10 ?_
  refine htf 12 (fun _ h => And.intro h.out.b.c1 h.out.b.lt) ?_
  refine rd1 11 fun KK hK => ?_
  go_simp
  go_at_call 15
  refine (between_any 3 0 9 _).mono ?_
  rintro e v11 ⟨rfl, hb⟩
  replace PP := Li (PP.out.up hb)
  clear hb
  go_wp2_with fail
  refine hK.out _ _ (PP) (fun hHeld => ?_)
  clear hK KK
  try simp only [pnz]
  refine rd1 13 fun KK hK => ?_
  go_simp
  go_at_call 13
  refine (PP.out.ev (btw 3 0 9) (bIn rfl) (vB3)).mono ?_
  rintro e v13 ⟨rfl, hb⟩
  replace PP := Li (PP.out.up hb)
  clear hb
  go_wp2_with fail
  refine hK.out _ _ (PP) (fun hHeld => ?_)
  clear hK KK
  try simp only [pnz]
  refine htk 14 ?_
  refine htk 15 ?_
  refine htk 16 ?_
  refine htf 17 (fun _ h => And.intro h.out.i.c7 h.out.i.lt) ?_
  refine htf 18 (fun _ h => And.intro h.out.b.c1 h.out.b.lt) ?_
  refine rd1 19 fun KK hK => ?_
  go_simp
  go_at_call 13
  refine (PP.out.ev (inP (w.heap.size + 1 + 1)) (PP.out.inp) (vIn _)).mono ?_
  rintro e v19 ⟨rfl, hb⟩
  replace PP := Li (PP.out.up hb)
  clear hb
  go_wp2_with fail
  refine hK.out _ _ (PP) (fun hHeld => ?_)
  clear hK KK
  try simp only [pnz]
  refine htk 20 ?_
  refine htk 21 ?_
  refine htk 22 ?_
  refine htf 23 (fun _ h => And.intro h.out.p.c7 h.out.p.lt) ?_
  refine htf 24 (fun _ h => And.intro h.out.b.c1 h.out.b.lt) ?_
  refine rd1 25 fun KK hK => ?_
  go_simp
  go_at_call 13
  refine (PP.out.ev (preP) (preP_at) (vPre)).mono ?_
  rintro e v25 ⟨rfl, hb⟩
  replace PP := Li (PP.out.up hb)
  clear hb
  go_wp2_with fail
  refine hK.out _ _ (PP) (fun hHeld => ?_)
  clear hK KK
  try simp only [pnz]
  refine htk 26 ?_
  refine htk 27 ?_
  refine htk 28 ?_
  refine htf 30 (fun _ h => And.intro h.out.b.c1 h.out.b.lt) ?_
  refine rd1 29 fun KK hK => ?_
  go_simp
  go_at_call 16
  refine (null_any 3 _).mono ?_
  rintro e v29 ⟨rfl, hb⟩
  replace PP := Li (PP.out.up hb)
  clear hb
  go_wp2_with fail
  refine hK.out _ _ (PP) (fun hHeld => ?_)
  clear hK KK
  try simp only [pnz]
  refine rd1 31 fun KK hK => ?_
  go_simp
  go_at_call 13
  refine (PP.out.ev (nulP 3) (nulP_at (by unfold I64; omega)) (vNul)).mono ?_
  rintro e v31 ⟨rfl, hb⟩
  replace PP := Li (PP.out.up hb)
  clear hb
  go_wp2_with fail
  refine hK.out _ _ (PP) (fun hHeld => ?_)
  clear hK KK
  try simp only [pnz]
  refine htk 32 ?_
  refine htk 33 ?_
  refine htk 34 ?_
  refine htf 37 (fun _ h => And.intro h.out.b.c1 h.out.b.lt) ?_
  refine rd1 35 fun KK hK => ?_
  go_simp
  go_at_call 16
  refine (null_any 3 _).mono ?_
  rintro e v35 ⟨rfl, hb⟩
  replace PP := Li (PP.out.up hb)
  clear hb
  go_wp2_with fail
  refine hK.out _ _ (PP) (fun hHeld => ?_)
  clear hK KK
  try simp only [pnz]
  refine rd1 36 fun KK hK => ?_
  go_simp
  go_at_call 11
  refine (not_any (nulP 3) _ (nulP_at (by unfold I64; omega))).mono ?_
  rintro e v36 ⟨K36, rfl, hn, hb⟩
  have NN := Li hn
  clear hn
  replace PP := Li (PP.out.up hb)
  clear hb
  go_wp2_with fail
  refine hK.out _ _ (PP) (fun hHeld => ?_)
  clear hK KK
  try simp only [pnz]
  refine rd1 38 fun KK hK => ?_
  go_simp
  go_at_call 13
  refine (PP.out.ev (mkP 7 K36 1 [nulP 3]) (NN.out) (vNot _)).mono ?_
  rintro e v38 ⟨rfl, hb⟩
  replace PP := Li (PP.out.up hb)
  clear hb
  go_wp2_with fail
  refine hK.out _ _ (PP) (fun hHeld => ?_)
  clear hK KK
  try simp only [pnz]
  refine htk 39 ?_
  refine htk 40 ?_
  refine htk 41 ?_
  refine wpAnyH_done (by kernel_rfl) ?_ _
  clear NN
  have tk1 : Hid True := Li trivial
  go_upto_region 6 with (first | (have tok1 := tk1; go_at_call 16; refine (null_any 2 _).mono ?_; rintro e x1 ⟨rfl, hb⟩; have Q1 := Li (PP.out.up hb); have tk2 : Hid True := Li trivial; clear tok1 tk1 hb) | (have tok2 := tk2; go_at_call 15; refine (between_any 1 0 4 _).mono ?_; rintro e x2 ⟨rfl, hb⟩; have Q2 := Li (Q1.out.up hb); have tk3 : Hid True := Li trivial; clear tok2 tk2 hb) | (have tok3 := tk3; go_at_call 16; refine (null_any 2 _).mono ?_; rintro e x3 ⟨rfl, hb⟩; have Q3 := Li (Q2.out.up hb); have tk4 : Hid True := Li trivial; clear tok3 tk3 hb) | (have tok4 := tk4; go_at_call 9; refine (op_any 6 (some ⟨x3.heap.size, 0, none⟩) 3 3 _).mono ?_; rintro e x4 ⟨rfl, hb⟩; have Q4 := Li ((Q3.out.al (.cells #[.int .i64 4, .int .i64 2, .int .i64 0, .int .i64 0, .slice none 0 0, .string ⟨#[]⟩, .slice none 0 0, .int .i64 1, .int .i64 1, .int .i64 0, .int .i64 4, .slice none 0 0, .string ⟨#[]⟩, .slice none 0 0, .int .i64 4, .int .i64 2, .int .i64 0, .int .i64 0, .slice none 0 0, .string ⟨#[]⟩, .slice none 0 0] 25)).up hb); have KB := Li ((CB.new x3 25 [.int .i64 4, .int .i64 2, .int .i64 0, .int .i64 0, .slice none 0 0, .string ⟨#[]⟩, .slice none 0 0, .int .i64 1, .int .i64 1, .int .i64 0, .int .i64 4, .slice none 0 0, .string ⟨#[]⟩, .slice none 0 0, .int .i64 4, .int .i64 2, .int .i64 0, .int .i64 0, .slice none 0 0, .string ⟨#[]⟩, .slice none 0 0]).up hb); have tk5 : Hid True := Li trivial; clear tok4 tk4 hb))
  have PP : Hid (S5 w x3.heap.size x4.heap.size _) := Li (⟨Q4.out.al _, KB.out.alloc _, CB.new x4 25 [.int .i64 6, .int .i64 0, .int .i64 0, .int .i64 0, .slice none 0 0, .string ⟨#[]⟩, .slice (some ⟨x3.heap.size, 0, none⟩) 3 3]⟩)
  clear Q1 Q2 Q3 Q4 KB
  generalize hW9 : World.alloc _ (.cells #[.int .i64 6, .int .i64 0, .int .i64 0, .int .i64 0, .slice none 0 0, .string ⟨#[]⟩, .slice (some ⟨x3.heap.size, 0, none⟩) 3 3] 25) = W0 at *
  clear hW9
  replace PP := Li PP.out.dr
  refine wp_region_held_drew (S := fun X => Hid (S5 w x3.heap.size x4.heap.size X)) (by kernel_rfl) PP (fun hHeld => ?_)
  revert hHeld PP
  generalize W0.drew = X6
  intro PP hHeld
  refine htf 4 (fun _ h => And.intro h.out.s.b.c1 h.out.s.b.lt) ?_
  refine rd1 0 fun KK hK => ?_
  go_simp
  go_at_call 15
  refine (between_any 3 0 9 _).mono ?_
  rintro e v0 ⟨rfl, hb⟩
  replace PP := Li (PP.out.up hb)
  clear hb
  go_wp2_with fail
  refine hK.out _ _ (PP) (fun hHeld => ?_)
  clear hK KK
  try simp only [pnz]
  refine rd1 1 fun KK hK => ?_
  go_simp
  go_at_call 15
  refine (between_any 1 0 4 _).mono ?_
  rintro e v1 ⟨rfl, hb⟩
  replace PP := Li (PP.out.up hb)
  clear hb
  go_wp2_with fail
  refine hK.out _ _ (PP) (fun hHeld => ?_)
  clear hK KK
  try simp only [pnz]
  refine rd1 2 fun KK hK => ?_
  go_simp
  have K2 := Li (CB.new v1 25 [.int .i64 1, .int .i64 3, .int .i64 0, .int .i64 9, .slice none 0 0, .string ⟨#[]⟩, .slice none 0 0, .int .i64 1, .int .i64 1, .int .i64 0, .int .i64 4, .slice none 0 0, .string ⟨#[]⟩, .slice none 0 0])
  replace PP := Li (PP.out.al (.cells #[.int .i64 1, .int .i64 3, .int .i64 0, .int .i64 9, .slice none 0 0, .string ⟨#[]⟩, .slice none 0 0, .int .i64 1, .int .i64 1, .int .i64 0, .int .i64 4, .slice none 0 0, .string ⟨#[]⟩, .slice none 0 0] 25))
  refine hK.out _ _ (PP) (fun hHeld => ?_)
  clear hK KK
  try simp only [pnz]
  refine rd1 3 fun KK hK => ?_
  go_simp
  go_at_call 9
  refine (op_any 5 (some ⟨v1.heap.size, 0, none⟩) 2 2 _).mono ?_
  rintro e v3 ⟨rfl, hb⟩
  replace K2 := Li (K2.out.up hb)
  replace PP := Li (PP.out.up hb)
  clear hb
  go_wp2_with fail
  refine hK.out _ _ (PP) (fun hHeld => ?_)
  clear hK KK
  try simp only [pnz]
  refine rd1 5 fun KK hK => ?_
  go_simp
  go_at_call 13
  refine (PP.out.s.ev (mkP 5 (some ⟨v1.heap.size, 0, none⟩) 2 [btw 3 0 9, btw 1 0 4]) (op_at K2.out rfl rfl (by omega) (two_at (bIn rfl) (bIn rfl))) (vAnd _)).mono ?_
  rintro e v5 ⟨rfl, hb⟩
  replace K2 := Li (K2.out.up hb)
  replace PP := Li (PP.out.up hb)
  clear hb
  go_wp2_with fail
  refine hK.out _ _ (PP) (fun hHeld => ?_)
  clear hK KK
  try simp only [pnz]
  refine htk 6 ?_
  refine htk 7 ?_
  refine htf 12 (fun _ h => And.intro h.out.s.b.c1 h.out.s.b.lt) ?_
  refine rd1 8 fun KK hK => ?_
  go_simp
  go_at_call 15
  refine (between_any 3 0 9 _).mono ?_
  rintro e v8 ⟨rfl, hb⟩
  replace K2 := Li (K2.out.up hb)
  replace PP := Li (PP.out.up hb)
  clear hb
  go_wp2_with fail
  refine hK.out _ _ (PP) (fun hHeld => ?_)
  clear hK KK
  try simp only [pnz]
  refine rd1 9 fun KK hK => ?_
  go_simp
  go_at_call 15
  refine (between_any 1 0 4 _).mono ?_
  rintro e v9 ⟨rfl, hb⟩
  replace K2 := Li (K2.out.up hb)
  replace PP := Li (PP.out.up hb)
  clear hb
  go_wp2_with fail
  refine hK.out _ _ (PP) (fun hHeld => ?_)
  clear hK KK
  try simp only [pnz]
  refine rd1 10 fun KK hK => ?_
  go_simp
  have K10 := Li (CB.new v9 25 [.int .i64 1, .int .i64 3, .int .i64 0, .int .i64 9, .slice none 0 0, .string ⟨#[]⟩, .slice none 0 0, .int .i64 1, .int .i64 1, .int .i64 0, .int .i64 4, .slice none 0 0, .string ⟨#[]⟩, .slice none 0 0])
  replace K2 := Li (K2.out.alloc (.cells #[.int .i64 1, .int .i64 3, .int .i64 0, .int .i64 9, .slice none 0 0, .string ⟨#[]⟩, .slice none 0 0, .int .i64 1, .int .i64 1, .int .i64 0, .int .i64 4, .slice none 0 0, .string ⟨#[]⟩, .slice none 0 0] 25))
  replace PP := Li (PP.out.al (.cells #[.int .i64 1, .int .i64 3, .int .i64 0, .int .i64 9, .slice none 0 0, .string ⟨#[]⟩, .slice none 0 0, .int .i64 1, .int .i64 1, .int .i64 0, .int .i64 4, .slice none 0 0, .string ⟨#[]⟩, .slice none 0 0] 25))
  refine hK.out _ _ (PP) (fun hHeld => ?_)
  clear hK KK
  try simp only [pnz]
  refine rd1 11 fun KK hK => ?_
  go_simp
  go_at_call 9
  refine (op_any 6 (some ⟨v9.heap.size, 0, none⟩) 2 2 _).mono ?_
  rintro e v11 ⟨rfl, hb⟩
  replace K2 := Li (K2.out.up hb)
  replace K10 := Li (K10.out.up hb)
  replace PP := Li (PP.out.up hb)
  clear hb
  go_wp2_with fail
  refine hK.out _ _ (PP) (fun hHeld => ?_)
  clear hK KK
  try simp only [pnz]
  refine rd1 13 fun KK hK => ?_
  go_simp
  go_at_call 13
  refine (PP.out.s.ev (mkP 6 (some ⟨v9.heap.size, 0, none⟩) 2 [btw 3 0 9, btw 1 0 4]) (op_at K10.out rfl rfl (by omega) (two_at (bIn rfl) (bIn rfl))) (vOr _)).mono ?_
  rintro e v13 ⟨rfl, hb⟩
  replace K2 := Li (K2.out.up hb)
  replace K10 := Li (K10.out.up hb)
  replace PP := Li (PP.out.up hb)
  clear hb
  go_wp2_with fail
  refine hK.out _ _ (PP) (fun hHeld => ?_)
  clear hK KK
  try simp only [pnz]
  refine htk 14 ?_
  refine htk 15 ?_
  refine htk 16 ?_
  refine htf 18 (fun _ h => And.intro h.out.s.b.c1 h.out.s.b.lt) ?_
  refine rd1 17 fun KK hK => ?_
  go_simp
  go_at_call 9
  refine (op_any 5 none 0 0 _).mono ?_
  rintro e v17 ⟨rfl, hb⟩
  replace K2 := Li (K2.out.up hb)
  replace K10 := Li (K10.out.up hb)
  replace PP := Li (PP.out.up hb)
  clear hb
  go_wp2_with fail
  refine hK.out _ _ (PP) (fun hHeld => ?_)
  clear hK KK
  try simp only [pnz]
  refine rd1 19 fun KK hK => ?_
  go_simp
  go_at_call 13
  refine (PP.out.s.ev (mkP 5 none 0 []) (op0_at) (vAnd0)).mono ?_
  rintro e v19 ⟨rfl, hb⟩
  replace K2 := Li (K2.out.up hb)
  replace K10 := Li (K10.out.up hb)
  replace PP := Li (PP.out.up hb)
  clear hb
  go_wp2_with fail
  refine hK.out _ _ (PP) (fun hHeld => ?_)
  clear hK KK
  try simp only [pnz]
  refine htk 20 ?_
  refine htk 21 ?_
  refine htk 22 ?_
  refine htf 24 (fun _ h => And.intro h.out.s.b.c1 h.out.s.b.lt) ?_
  refine rd1 23 fun KK hK => ?_
  go_simp
  go_at_call 9
  refine (op_any 6 none 0 0 _).mono ?_
  rintro e v23 ⟨rfl, hb⟩
  replace K2 := Li (K2.out.up hb)
  replace K10 := Li (K10.out.up hb)
  replace PP := Li (PP.out.up hb)
  clear hb
  go_wp2_with fail
  refine hK.out _ _ (PP) (fun hHeld => ?_)
  clear hK KK
  try simp only [pnz]
  refine rd1 25 fun KK hK => ?_
  go_simp
  go_at_call 13
  refine (PP.out.s.ev (mkP 6 none 0 []) (op0_at) (vOr0)).mono ?_
  rintro e v25 ⟨rfl, hb⟩
  replace K2 := Li (K2.out.up hb)
  replace K10 := Li (K10.out.up hb)
  replace PP := Li (PP.out.up hb)
  clear hb
  go_wp2_with fail
  refine hK.out _ _ (PP) (fun hHeld => ?_)
  clear hK KK
  try simp only [pnz]
  refine htk 26 ?_
  refine htk 27 ?_
  refine htk 28 ?_
  refine htf 30 (fun _ h => And.intro h.out.s.b.c1 h.out.s.b.lt) ?_
  refine rd1 29 fun KK hK => ?_
  go_simp
  go_at_call 9
  refine (op_any 9 none 0 0 _).mono ?_
  rintro e v29 ⟨rfl, hb⟩
  replace K2 := Li (K2.out.up hb)
  replace K10 := Li (K10.out.up hb)
  replace PP := Li (PP.out.up hb)
  clear hb
  go_wp2_with fail
  refine hK.out _ _ (PP) (fun hHeld => ?_)
  clear hK KK
  try simp only [pnz]
  refine rd1 31 fun KK hK => ?_
  go_simp
  go_at_call 13
  refine (PP.out.s.ev (mkP 9 none 0 []) (op0_at) (vNine)).mono ?_
  rintro e v31 ⟨rfl, hb⟩
  replace K2 := Li (K2.out.up hb)
  replace K10 := Li (K10.out.up hb)
  replace PP := Li (PP.out.up hb)
  clear hb
  go_wp2_with fail
  refine hK.out _ _ (PP) (fun hHeld => ?_)
  clear hK KK
  try simp only [pnz]
  refine htk 32 ?_
  refine htk 33 ?_
  refine htk 34 ?_
  refine htf 36 (fun _ h => And.intro h.out.s.b.c1 h.out.s.b.lt) ?_
  refine rd1 35 fun KK hK => ?_
  go_simp
  go_at_call 15
  refine (between_any 3 0 9 _).mono ?_
  rintro e v35 ⟨rfl, hb⟩
  replace K2 := Li (K2.out.up hb)
  replace K10 := Li (K10.out.up hb)
  replace PP := Li (PP.out.up hb)
  clear hb
  go_wp2_with fail
  refine hK.out _ _ (PP) (fun hHeld => ?_)
  clear hK KK
  try simp only [pnz]
  refine rd1 37 fun KK hK => ?_
  go_simp
  go_at_call 17
  refine (PP.out.s.mt (btw 3 0 9) (bIn rfl) vB3 (b := false) rfl).mono ?_
  rintro e v37 ⟨rfl, hb⟩
  replace K2 := Li (K2.out.up hb)
  replace K10 := Li (K10.out.up hb)
  replace PP := Li (PP.out.up hb)
  clear hb
  go_wp2_with fail
  refine hK.out _ _ (PP) (fun hHeld => ?_)
  clear hK KK
  try simp only [pnz]
  refine htk 38 ?_
  refine htk 39 ?_
  refine htk 40 ?_
  refine wpAnyH_done (by kernel_rfl) ?_ _
  clear K2 K10
  have tk11 : Hid True := Li trivial
  have c7 := PP.out.t.c7
  have z7 := PP.out.t.lt
  go_upto_region 15 with (first | (have tok11 := tk11; go_at_call 12; refine (PP.out.fld).mono ?_; rintro e x11 ⟨⟨AF, cF, rfl, hI⟩, hb⟩; have Q11 := Li (PP.out.up hb); have I1 := Li hI; clear hI; have tk12 : Hid True := Li trivial; clear tok11 tk11 hb) | (have tok12 := tk12; go_at_call 18; refine (Ints_yes AF 2 cF [1, 2] (some ⟨x11.heap.size, 0, none⟩) 2 2 _ (RowAt.up I1.out (al1 _ _)) (cb_row (CB.new x11 3 [.int .i64 1, .int .i64 2]) rfl (fun _ hv => len_in (l := [1, 2]) hv)) rfl rfl (by decide)).mono ?_; rintro e x12 ⟨rfl, hb⟩; have Q12 := Li ((Q11.out.al (.cells #[.int .i64 1, .int .i64 2] 3)).up hb); have d7 := Q12.out.t.c7; have y7 := Q12.out.t.lt; have tk13 : Hid True := Li trivial; clear tok12 tk12 hb) | (have tok13 := tk13; go_at_call 19; refine (Q12.out.siz).mono ?_; rintro e x13 ⟨rfl, hb⟩; have Q13 := Li (Q12.out.up hb); clear d7 y7; have tk14 : Hid True := Li trivial; clear tok13 tk13 hb) | (have tok14 := tk14; go_at_call 15; refine (between_any 3 0 64 _).mono ?_; rintro e x14 ⟨rfl, hb⟩; have Q14 := Li (Q13.out.up hb); have tk15 : Hid True := Li trivial; clear tok14 tk14 hb) | (have tok15 := tk15; go_at_call 21; refine (Encode_is none 0 0 [] (btw 3 0 64) [1, 6, 0, 128, 1] 5 _ rfl Shows.nil (by decide) (bIn rfl) (d1 rfl) (n1 rfl) (by rw [cBtw]; rfl) rfl).mono ?_; rintro e x15 ⟨A15, c15, rfl, hE, hb⟩; have Q15 := Li (Q14.out.up hb); have E15 := Li hE; clear hE; have tk16 : Hid True := Li trivial; clear tok15 tk15 hb) | (have tok16 := tk16; go_at_call 20; refine (Same_yes A15 5 c15 [1, 6, 0, 128, 1] (some ⟨x15.heap.size, 0, none⟩) 5 5 _ (Shows.up E15.out (al1 _ _)) (shows_lit x15 _ _ rfl) rfl rfl (by decide)).mono ?_; rintro e x16 ⟨rfl, hb⟩; have Q16 := Li ((Q15.out.al (.cells #[.int .u8 1, .int .u8 6, .int .u8 0, .int .u8 128, .int .u8 1] 5)).up hb); have tk17 : Hid True := Li trivial; clear tok16 tk16 hb) | (have tok17 := tk17; go_at_call 11; refine (not_any truP _ truP_at).mono ?_; rintro e x17 ⟨K17, rfl, hn, hb⟩; have Q17 := Li (Q16.out.up hb); have N17 := Li hn; clear hn; have tk18 : Hid True := Li trivial; clear tok17 tk17 hb) | (have tok18 := tk18; go_at_call 21; refine (Encode_is none 0 0 [] (mkP 7 K17 1 [truP]) [7, 1, 0] 3 _ rfl Shows.nil (by decide) N17.out (dN _) (nN _) (by rw [cNot]; rfl) rfl).mono ?_; rintro e x18 ⟨A18, c18, rfl, hE, hb⟩; have Q18 := Li (Q17.out.up hb); have E18 := Li hE; clear hE; have tk19 : Hid True := Li trivial; clear tok18 tk18 hb) | (have tok19 := tk19; go_at_call 20; refine (Same_yes A18 3 c18 [7, 1, 0] (some ⟨x18.heap.size, 0, none⟩) 3 3 _ (Shows.up E18.out (al1 _ _)) (shows_lit x18 _ _ rfl) rfl rfl (by decide)).mono ?_; rintro e x19 ⟨rfl, hb⟩; have Q19 := Li ((Q18.out.al (.cells #[.int .u8 7, .int .u8 1, .int .u8 0] 5)).up hb); have tk20 : Hid True := Li trivial; clear tok19 tk19 hb) | (have tok20 := tk20; go_at_call 9; refine (op_any 7 none 0 0 _).mono ?_; rintro e x20 ⟨rfl, hb⟩; have Q20 := Li ((Q19.out.al (.cells #[.int .u8 4] 5)).up hb); have E20 := Li ((shows_lit x19 _ [4] rfl).up hb); have tk21 : Hid True := Li trivial; clear tok20 tk20 hb) | (have tok21 := tk21; go_at_call 21; refine (Encode_is (some ⟨x19.heap.size, 0, none⟩) 1 1 [4] (mkP 7 none 0 []) [4] 1 _ rfl E20.out (by decide) op0_at (d1 rfl) (n1 rfl) (by rw [cNot0]; rfl) rfl).mono ?_; rintro e x21 ⟨A21, c21, rfl, hE, hb⟩; have Q21 := Li (Q20.out.up hb); have E21 := Li hE; clear hE; have tk22 : Hid True := Li trivial; clear tok21 tk21 hb) | (have tok22 := tk22; go_at_call 20; refine (Same_yes A21 1 c21 [4] (some ⟨x21.heap.size, 0, none⟩) 1 1 _ (Shows.up E21.out (al1 _ _)) (shows_lit x21 _ _ rfl) rfl rfl (by decide)).mono ?_; rintro e x22 ⟨rfl, hb⟩; have Q22 := Li ((Q21.out.al (.cells #[.int .u8 4] 5)).up hb); have tk23 : Hid True := Li trivial; clear tok22 tk22 hb) | (have tok23 := tk23; go_at_call 22; refine (show Calls _ _ _ _ (fun e w' => e = .returned (.tuple #[.agg #[.int .i64 0, .int .i64 0, .int .i64 0, .int .i64 0, .slice none 0 0, .string ⟨#[]⟩, .slice none 0 0], .int .i64 0, .int .i64 5]) ∧ Below _ _ w') from Decode_8 (some ⟨x22.heap.size, 0, none⟩) 1 _ (shows_lit x22 _ _ rfl) (by decide)).mono ?_; rintro e x23 ⟨rfl, hb⟩; have Q23 := Li ((Q22.out.al (.cells #[.int .u8 8] 5)).up hb); have tk24 : Hid True := Li trivial; clear tok23 tk23 hb) | (have tok24 := tk24; go_at_call 22; refine (show Calls _ _ _ _ (fun e w' => e = .returned (.tuple #[.agg #[.int .i64 0, .int .i64 0, .int .i64 0, .int .i64 0, .slice none 0 0, .string ⟨#[]⟩, .slice none 0 0], .int .i64 0, .int .i64 5]) ∧ Below _ _ w') from Decode_70 (some ⟨x23.heap.size + 1, 0, none⟩) 2 _ (shows_lit1 x23 _ _ _ rfl) (by decide)).mono ?_; rintro e x24 ⟨rfl, hb⟩; have Q24 := Li (((Q23.out.al (.cells #[.int .i64 0, .int .i64 0, .int .i64 0, .int .i64 0, .slice none 0 0, .string ⟨#[]⟩, .slice none 0 0] 25)).al (.cells #[.int .u8 7, .int .u8 0] 5)).up hb); have tk25 : Hid True := Li trivial; clear tok24 tk24 hb) | (have tok25 := tk25; go_at_call 22; refine (show Calls _ _ _ _ (fun e w' => e = .returned (.tuple #[.agg #[.int .i64 0, .int .i64 0, .int .i64 0, .int .i64 0, .slice none 0 0, .string ⟨#[]⟩, .slice none 0 0], .int .i64 0, .int .i64 2]) ∧ Below _ _ w') from Decode_517 (some ⟨x24.heap.size + 1, 0, none⟩) 2 _ (shows_lit1 x24 _ _ _ rfl) (by decide)).mono ?_; rintro e x25 ⟨rfl, hb⟩; have Q25 := Li (((Q24.out.al (.cells #[.int .i64 0, .int .i64 0, .int .i64 0, .int .i64 0, .slice none 0 0, .string ⟨#[]⟩, .slice none 0 0] 25)).al (.cells #[.int .u8 5, .int .u8 17] 5)).up hb); have tk26 : Hid True := Li trivial; clear tok25 tk25 hb) | (have tok26 := tk26; go_at_call 22; refine (show Calls _ _ _ _ (fun e w' => e = .returned (.tuple #[.agg #[.int .i64 0, .int .i64 0, .int .i64 0, .int .i64 0, .slice none 0 0, .string ⟨#[]⟩, .slice none 0 0], .int .i64 0, .int .i64 6]) ∧ Below _ _ w') from Decode_nil _).mono ?_; rintro e x26 ⟨rfl, hb⟩; have Q26 := Li ((Q25.out.al (.cells #[.int .i64 0, .int .i64 0, .int .i64 0, .int .i64 0, .slice none 0 0, .string ⟨#[]⟩, .slice none 0 0] 25)).up hb); have tk27 : Hid True := Li trivial; clear tok26 tk26 hb) | (have tok27 := tk27; go_at_call 22; refine (show Calls _ _ _ _ (fun e w' => e = .returned (.tuple #[.agg #[.int .i64 0, .int .i64 0, .int .i64 0, .int .i64 0, .slice none 0 0, .string ⟨#[]⟩, .slice none 0 0], .int .i64 0, .int .i64 1]) ∧ Below _ _ w') from Decode_arg none 0 0 1 (by decide) _).mono ?_; rintro e x27 ⟨rfl, hb⟩; have Q27 := Li ((Q26.out.al (.cells #[.int .i64 0, .int .i64 0, .int .i64 0, .int .i64 0, .slice none 0 0, .string ⟨#[]⟩, .slice none 0 0] 25)).up hb); have tk28 : Hid True := Li trivial; clear tok27 tk27 hb))
  clear c7 z7 E15 E18 E20 E21 I1 N17
  have PP : Hid (S6 w x3.heap.size x4.heap.size x27.heap.size _) := Li (⟨((Q27.out.al (.cells #[.int .i64 0, .int .i64 0, .int .i64 0, .int .i64 0, .slice none 0 0, .string ⟨#[]⟩, .slice none 0 0] 25)).al (.cells #[.int .i64 1, .string ⟨#[]⟩, .int .i64 3, .int .i64 0, .int .i64 2, .string ⟨#[]⟩, .int .i64 4, .int .i64 0] 60)).al (.cells #[.slice (some ⟨x27.heap.size + 1, 0, none⟩) 2 2, .int .i64 0] 63), (CB.new1 x27 (.cells #[.int .i64 0, .int .i64 0, .int .i64 0, .int .i64 0, .slice none 0 0, .string ⟨#[]⟩, .slice none 0 0] 25) 60 [.int .i64 1, .string ⟨#[]⟩, .int .i64 3, .int .i64 0, .int .i64 2, .string ⟨#[]⟩, .int .i64 4, .int .i64 0]).alloc (.cells #[.slice (some ⟨x27.heap.size + 1, 0, none⟩) 2 2, .int .i64 0] 63), CB.new2 x27 (.cells #[.int .i64 0, .int .i64 0, .int .i64 0, .int .i64 0, .slice none 0 0, .string ⟨#[]⟩, .slice none 0 0] 25) (.cells #[.int .i64 1, .string ⟨#[]⟩, .int .i64 3, .int .i64 0, .int .i64 2, .string ⟨#[]⟩, .int .i64 4, .int .i64 0] 60) 63 [.slice (some ⟨x27.heap.size + 1, 0, none⟩) 2 2, .int .i64 0]⟩)
  clear Q11 Q12 Q13 Q14 Q15 Q16 Q17 Q18 Q19 Q20 Q21 Q22 Q23 Q24 Q25 Q26 Q27
  generalize hW9 : World.alloc _ (.cells #[.slice (some ⟨x27.heap.size + 1, 0, none⟩) 2 2, .int .i64 0] 63) = W0 at *
  clear hW9
  replace PP := Li PP.out.dr
  refine wp_region_held_drew (S := fun X => Hid (S6 w x3.heap.size x4.heap.size x27.heap.size X)) (by kernel_rfl) PP (fun hHeld => ?_)
  revert hHeld PP
  generalize W0.drew = X15
  intro PP hHeld
  refine htf 0 (fun _ h => And.intro h.out.c.c2 h.out.c.lt) ?_
  refine htf 1 (fun _ h => And.intro h.out.s.t.c7 h.out.s.t.lt) ?_
  refine rd1 2 fun KK hK => ?_
  go_simp
  go_at_call 23
  refine (PP.out.vl (treP (some ⟨x3.heap.size, 0, none⟩)) (PP.out.s.tree) (dTre _) (wTre _)).mono ?_
  rintro e v2 ⟨rfl, hb⟩
  replace PP := Li (PP.out.up hb)
  clear hb
  go_wp2_with fail
  refine hK.out _ _ (PP) (fun hHeld => ?_)
  clear hK KK
  try simp only [pnz]
  refine htk 3 ?_
  refine htf 4 (fun _ h => And.intro h.out.c.c2 h.out.c.lt) ?_
  refine rd1 5 fun KK hK => ?_
  go_simp
  go_at_call 16
  refine (null_any 2 _).mono ?_
  rintro e v5 ⟨rfl, hb⟩
  replace PP := Li (PP.out.up hb)
  clear hb
  go_wp2_with fail
  refine hK.out _ _ (PP) (fun hHeld => ?_)
  clear hK KK
  try simp only [pnz]
  refine rd1 6 fun KK hK => ?_
  go_simp
  go_at_call 15
  refine (between_any 1 4 0 _).mono ?_
  rintro e v6 ⟨rfl, hb⟩
  replace PP := Li (PP.out.up hb)
  clear hb
  go_wp2_with fail
  refine hK.out _ _ (PP) (fun hHeld => ?_)
  clear hK KK
  try simp only [pnz]
  refine rd1 7 fun KK hK => ?_
  go_simp
  have K7 := Li (CB.new v6 25 [.int .i64 4, .int .i64 2, .int .i64 0, .int .i64 0, .slice none 0 0, .string ⟨#[]⟩, .slice none 0 0, .int .i64 1, .int .i64 1, .int .i64 4, .int .i64 0, .slice none 0 0, .string ⟨#[]⟩, .slice none 0 0])
  replace PP := Li (PP.out.al (.cells #[.int .i64 4, .int .i64 2, .int .i64 0, .int .i64 0, .slice none 0 0, .string ⟨#[]⟩, .slice none 0 0, .int .i64 1, .int .i64 1, .int .i64 4, .int .i64 0, .slice none 0 0, .string ⟨#[]⟩, .slice none 0 0] 25))
  refine hK.out _ _ (PP) (fun hHeld => ?_)
  clear hK KK
  try simp only [pnz]
  refine rd1 8 fun KK hK => ?_
  go_simp
  go_at_call 9
  refine (op_any 6 (some ⟨v6.heap.size, 0, none⟩) 2 2 _).mono ?_
  rintro e v8 ⟨rfl, hb⟩
  replace K7 := Li (K7.out.up hb)
  replace PP := Li (PP.out.up hb)
  clear hb
  go_wp2_with fail
  refine hK.out _ _ (PP) (fun hHeld => ?_)
  clear hK KK
  try simp only [pnz]
  refine rd1 9 fun KK hK => ?_
  go_simp
  go_at_call 23
  refine (PP.out.vl (mkP 6 (some ⟨v6.heap.size, 0, none⟩) 2 [nulP 2, btw 1 4 0]) (op_at K7.out rfl rfl (by omega) (two_at (nulP_at (by unfold I64; omega)) (bIn rfl))) (dOr _) (wOr _)).mono ?_
  rintro e v9 ⟨rfl, hb⟩
  replace K7 := Li (K7.out.up hb)
  replace PP := Li (PP.out.up hb)
  clear hb
  go_wp2_with fail
  refine hK.out _ _ (PP) (fun hHeld => ?_)
  clear hK KK
  try simp only [pnz]
  refine htk 10 ?_
  refine htk 11 ?_
  refine htf 12 (fun _ h => And.intro h.out.c.c2 h.out.c.lt) ?_
  refine rd1 13 fun KK hK => ?_
  go_simp
  go_at_call 15
  refine (between_any 2 0 1 _).mono ?_
  rintro e v13 ⟨rfl, hb⟩
  replace K7 := Li (K7.out.up hb)
  replace PP := Li (PP.out.up hb)
  clear hb
  go_wp2_with fail
  refine hK.out _ _ (PP) (fun hHeld => ?_)
  clear hK KK
  try simp only [pnz]
  refine rd1 14 fun KK hK => ?_
  go_simp
  go_at_call 23
  refine (PP.out.vl (btw 2 0 1) (bIn rfl) (d1 rfl) (wBtw)).mono ?_
  rintro e v14 ⟨rfl, hb⟩
  replace K7 := Li (K7.out.up hb)
  replace PP := Li (PP.out.up hb)
  clear hb
  go_wp2_with fail
  refine hK.out _ _ (PP) (fun hHeld => ?_)
  clear hK KK
  try simp only [pnz]
  refine htk 15 ?_
  refine htk 16 ?_
  refine htk 17 ?_
  refine htf 18 (fun _ h => And.intro h.out.c.c2 h.out.c.lt) ?_
  refine rd1 19 fun KK hK => ?_
  go_simp
  go_at_call 16
  refine (null_any 3 _).mono ?_
  rintro e v19 ⟨rfl, hb⟩
  replace K7 := Li (K7.out.up hb)
  replace PP := Li (PP.out.up hb)
  clear hb
  go_wp2_with fail
  refine hK.out _ _ (PP) (fun hHeld => ?_)
  clear hK KK
  try simp only [pnz]
  refine rd1 20 fun KK hK => ?_
  go_simp
  go_at_call 23
  refine (PP.out.vl (nulP 3) (nulP_at (by unfold I64; omega)) (d1 rfl) (wNul)).mono ?_
  rintro e v20 ⟨rfl, hb⟩
  replace K7 := Li (K7.out.up hb)
  replace PP := Li (PP.out.up hb)
  clear hb
  go_wp2_with fail
  refine hK.out _ _ (PP) (fun hHeld => ?_)
  clear hK KK
  try simp only [pnz]
  refine htk 21 ?_
  refine htk 22 ?_
  refine htk 23 ?_
  refine htf 24 (fun _ h => And.intro h.out.c.c2 h.out.c.lt) ?_
  refine htf 25 (fun _ h => And.intro h.out.s.s.i.c7 h.out.s.s.i.lt) ?_
  refine rd1 26 fun KK hK => ?_
  go_simp
  go_at_call 23
  refine (PP.out.vl (inP (w.heap.size + 1 + 1)) (PP.out.s.s.inp) (d1 rfl) (wIn _)).mono ?_
  rintro e v26 ⟨rfl, hb⟩
  replace K7 := Li (K7.out.up hb)
  replace PP := Li (PP.out.up hb)
  clear hb
  go_wp2_with fail
  refine hK.out _ _ (PP) (fun hHeld => ?_)
  clear hK KK
  try simp only [pnz]
  refine htk 27 ?_
  refine htk 28 ?_
  refine htk 29 ?_
  refine htk 30 ?_
  refine rd1 31 fun KK hK => ?_
  go_simp
  go_at_call 23
  refine (val_nil _).mono ?_
  rintro e v31 ⟨rfl, hb⟩
  replace K7 := Li (K7.out.up hb)
  replace PP := Li (PP.out.up hb)
  clear hb
  go_wp2_with fail
  refine hK.out _ _ (PP) (fun hHeld => ?_)
  clear hK KK
  try simp only [pnz]
  refine htk 32 ?_
  refine htk 33 ?_
  refine wpAnyH_done (by kernel_rfl) ?_ _
  clear K7
  go_wp2
  go_ret
  exact ⟨rfl, PP.out.s.s.d⟩
end Go.Proofs.Ytkeneoinfegodaa
