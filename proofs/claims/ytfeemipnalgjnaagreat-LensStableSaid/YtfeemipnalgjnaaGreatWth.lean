/-
 The program's with, by a contract.
-/
import Derived.Test.YtfeemipnalgjnaaGreatHb
import Derived.Test.YtfeemipnalgjnaaGreatWit
import Derived.Test.YtfeemipnalgjnaaGreatGK
import Derived.Deep.CutRange
import Derived.IntWalk
import Derived.Deep.DeepCutAuto
namespace Go.Proofs.YtfeemipnalgjnaaGreat
open Go.RowKit

theorem RowAt.cut {k : Nat} {w : World} {B : Nat} {A A2 : Option Addr} {L : List (List Value)} (h : RowAt k w B A L) {e c : Nat} (hA : (if c = e then A else Option.map (fun x => x.add (e * k)) A) = A2) (hc : L.length ≤ c) : RowAt k w B A2 (L.drop e) := fun hl => by
 rw [List.length_drop] at hl
 obtain ⟨b, off, rfl, hlt, hcell⟩ := h (by omega)
 rw [if_neg (by omega)] at hA
 subst hA
 refine ⟨b, off + e * k, by rw [Option.map_some, Addr.add_lit], hlt, fun i vs hi => ?_⟩
 rw [List.getElem?_drop] at hi
 have := hcell (e + i) vs hi
 rw [Nat.add_mul, ← Nat.add_assoc] at this
 exact this
theorem Ces.take {w : World} {B : Nat} {A : Option Addr} {l : List Ce} (h : Ces w B A l) (n : Nat) : Ces w B A (l.take n) := by
 unfold Ces
 rw [List.map_take]
 exact RowAt.take h n
theorem Ces.cut {w : World} {B : Nat} {A A2 : Option Addr} {l : List Ce} (h : Ces w B A l) {e c : Nat} (hA : (if c = e then A else Option.map (fun x => x.add (e * 4)) A) = A2) (hc : l.length ≤ c) : Ces w B A2 (l.drop e) := by
 unfold Ces
 rw [List.map_drop]
 exact RowAt.cut h hA (by simpa using hc)
theorem ces_one {w : World} {g : Nat} {q : Ce} {T : TypeId} (h : CB w g T [.int .i64 q.id, .bool q.v.b, .int .i64 q.v.n, .string q.v.s]) : Ces w w.heap.size (some ⟨g, 0, none⟩) [q] := fun _ =>
 ⟨g, 0, rfl, h.lt, fun i vs hvs => by
  rcases i with _ | i
  ·
   obtain rfl : q.cells = vs := by simpa using hvs
   intro j v hv
   have := h.cell j hv
   simpa using this
  ·
   simp at hvs⟩
theorem pt3 {w : World} {B g : Nat} {T : TypeId} {A1 A2 A3 : Option Addr} {n1 n2 n3 c1 c2 c3 : Nat} {l1 l2 l3 : List Ce} (h : CB w g T [.slice A1 n1 c1, .slice A2 n2 c2, .slice A3 n3 c3]) (e1 : n1 = l1.length) (e2 : n2 = l2.length) (e3 : n3 = l3.length)
  (h1 : Ces w B A1 l1) (h2 : Ces w B A2 l2) (h3 : Ces w B A3 l3) : PtAtC w B g [(A1, c1, l1), (A2, c2, l2), (A3, c3, l3)] := ⟨fun i q hq => by
 subst e1 e2 e3
 rcases i with _ | _ | _ | i
 ·
  obtain rfl : _ = q := by simpa using hq
  exact ⟨h.cell 0 rfl, h1⟩
 ·
  obtain rfl : _ = q := by simpa using hq
  exact ⟨h.cell 1 rfl, h2⟩
 ·
  obtain rfl : _ = q := by simpa using hq
  exact ⟨h.cell 2 rfl, h3⟩
 ·
  simp at hq⟩
theorem flat3 (A1 A2 A3 : Option Addr) (c1 c2 c3 : Nat) (l1 l2 l3 : List Ce) : flatC [(A1, c1, l1), (A2, c2, l2), (A3, c3, l3)] = l1 ++ (l2 ++ l3) := by simp [flatC]
theorem set_len (r : List Ce) (i : Int) (v : Va) : (setL r i v).length ≤ r.length + 1 := by
 rw [set_parts]
 simp only [List.length_append, List.length_take, List.length_drop]
 have : (if v.b = true then [] else [(⟨i, v⟩ : Ce)]).length ≤ 1 := by split <;> simp
 omega

/-- a row that is returned, in memory of the call's own -/
def RetO (w w' : World) (q : List Ce) (e : Ending) : Prop := ∃ (A' : Option Addr) (c' : Nat), e = .returned (.agg #[.slice A' q.length c']) ∧ Own 66 4 w' w.heap.size (.slice A' q.length c') (q.map Ce.cells)

set_option maxHeartbeats 4000000 in
set_option maxRecDepth 20000 in
theorem with_tf (A : Option Addr) (n c : Nat) (r : List Ce) (i : Int) (vn : Int) (vs : ByteArray) (w : World) (hn : n = r.length) (hs : Ces w w.heap.size A r) (hl : n ≤ 100000) (hc : n ≤ c) (_hcm : c ≤ 9223372036854775807) (hi : Inc r) (hf : fndL r i = false) :
  Calls Tryz.prog 85 #[.agg #[.slice A n c], .int .i64 i, .agg #[.bool true, .int .i64 vn, .string vs]] w fun e w' => RetO w w' (setL r i ⟨true, vn, vs⟩) e ∧ Below w.heap.size w w' := by
 have HN := Li hn
 have HS := Li hs
 have HC := Li (show posL r i ≤ n by rw [hn]; exact posL_le)
 have HE := Li (set_parts (r := r) (i := i) (v := ⟨true, vn, vs⟩))
 rw [hf] at HE
 obtain ⟨p, hp⟩ : ∃ p, posL r i = p := ⟨_, rfl⟩
 have i1 : (p : Int) ≤ (n : Int) := by have := HC.out; omega
 have i2 : (p : Int) ≤ (c : Int) := by have := HC.out; omega
 have i3 : (n : Int) ≤ (c : Int) := by omega
 rw [hp] at HE
 have HP := Li hp
 clear hp
 obtain ⟨A2, hA2⟩ : ∃ A2, (if c = p then A else Option.map (fun x => x.add (p * 4)) A) = A2 := ⟨_, rfl⟩
 have HA2 := Li hA2
 have HSD := Li (Ces.cut hs hA2 (by omega))
 have HST := Li (hs.take p)
 have HX : Hid (setL r i ⟨true, vn, vs⟩ = r.take p ++ (([] : List Ce) ++ r.drop p)) := by
  show _ = _
  rw [HE.out]
  first | rfl | simp
 have HZ : Hid ((flatC [(A, c, r.take p), (none, 0, []), (A2, c - p, r.drop p)]).length ≤ 1000000) := by
  show _ ≤ _
  rw [flat3]
  simp
  omega
 have HZ2 : Hid ((r.take p ++ (([] : List Ce) ++ r.drop p)).length ≤ 1000000) := by
  show _ ≤ _
  simp
  omega
 have HTP : Hid (p = (r.take p).length) := by
  show _ = _
  simp
  omega
 have HTD : Hid (n - p = (r.drop p).length) := by
  show _ = _
  simp
  omega
 have B0 := Li (al3 w (.cells #[.slice A n c] 30) (.cells #[.bool true, .int .i64 vn, .string vs] 62) (.cells #[.slice none 0 0] 30))
 have R0 := Li (((CB.new w 30 [.slice A n c]).alloc (.cells #[.bool true, .int .i64 vn, .string vs] 62)).alloc (.cells #[.slice none 0 0] 30))
 have V0 := Li ((CB.new1 w (.cells #[.slice A n c] 30) 62 [.bool true, .int .i64 vn, .string vs]).alloc (.cells #[.slice none 0 0] 30))
 have T0 := Li (CB.new2 w (.cells #[.slice A n c] 30) (.cells #[.bool true, .int .i64 vn, .string vs] 62) 30 [.slice none 0 0])
 clear hs hn hc
 go_enter Tryz.func85, Tryz.ntmps85
 go_upto_region 8 with (go_at_call 103; refine (find_any A n c r i _ HN.out (HS.out.up B0.out) (by omega) hi).mono ?_; rintro e w1 ⟨rfl, hb1⟩; rw [hf, HP.out]; have B1 := Li (below_step B0.out B0.out.size hb1); have V1 := Li (V0.out.up hb1); have R1 := Li (R0.out.up hb1); have T1 := Li (T0.out.up hb1); have zV1 := V1.out.lt; have zR1 := R1.out.lt; have zT1 := T1.out.lt; have r10 := R1.out.cell 0 rfl; have v10 := V1.out.cell 0 rfl; have v11 := V1.out.cell 1 rfl; have v12 := V1.out.cell 2 rfl; clear hb1)
 have B2 := B1
 have R2 := R1
 have T2 := T1
 have C2 : Hid (Ces w1 w1.heap.size none []) := Li RowAt.nil
 go_region_with (go_at_call 104; go_loud (have hab := bad w1 (.cells #[.slice A p c, .slice none 0 0, .slice A2 (n - p) (c - p)] 28); refine (ConcatC_any w1.heap.size 3 [(A, c, r.take p), (none, 0, ([] : List Ce)), (A2, c - p, r.drop p)] _ rfl (by show _ < (w1.alloc (.cells #[.slice A p c, .slice none 0 0, .slice A2 (n - p) (c - p)] 28)).heap.size; rw [asz]; omega) (pt3 ((CB.new w1 28 [.slice A p c, .slice none 0 0, .slice A2 (n - p) (c - p)]).dr) HTP.out rfl HTD.out ((HST.out.up B2.out).up hab) (C2.out.up hab) ((HSD.out.up B2.out).up hab)) (by decide) (by rw [flat3]; exact HZ2.out)).mono ?_; rintro e w3 ⟨A4, c4, rfl, ho4, hb4⟩; rw [flat3, ← HX.out] at ho4 ⊢; have hb5 := hab.trans (hb4.mono hab.size); have HO4 := Li (ho4.low (b := w.heap.size) (Nat.le_trans B2.out.size hab.size)); have B3 := Li (below_step B2.out B2.out.size hb5); have T3 := Li (T2.out.up hb5); have zT3 := T3.out.lt; have t30 := T3.out.cell 0 rfl; have t3f := T3.out.frozen 0; clear ho4 hb4 hb5 hab))
 all_goals
  go_wp2
  have hne := HO4.out.ne T3.out (by decide)
  refine bodyPost_ret (res_cell1 Tryz.results85 rfl (T3.out.set_ 0 (.slice A4 (setL r i ⟨true, vn, vs⟩).length c4)) Tryz.underlying30 sizeRw rfl) rfl ⟨⟨A4, c4, rfl, HO4.out.set_ 0 _ hne⟩, B3.out.setCell (p := ⟨w.heap.size + 1 + 1, 0, none⟩) (by show w.heap.size ≤ w.heap.size + 1 + 1; omega) _⟩

set_option maxHeartbeats 4000000 in
set_option maxRecDepth 20000 in
theorem with_tt (A : Option Addr) (n c : Nat) (r : List Ce) (i : Int) (vn : Int) (vs : ByteArray) (w : World) (hn : n = r.length) (hs : Ces w w.heap.size A r) (hl : n ≤ 100000) (hc : n ≤ c) (hcm : c ≤ 9223372036854775807) (hi : Inc r) (hf : fndL r i = true) :
  Calls Tryz.prog 85 #[.agg #[.slice A n c], .int .i64 i, .agg #[.bool true, .int .i64 vn, .string vs]] w fun e w' => RetO w w' (setL r i ⟨true, vn, vs⟩) e ∧ Below w.heap.size w w' := by
 have HN := Li hn
 have HS := Li hs
 have HC := Li (show posL r i ≤ n by rw [hn]; exact posL_le)
 have HE := Li (set_parts (r := r) (i := i) (v := ⟨true, vn, vs⟩))
 have HL := Li (show posL r i + 1 ≤ n by rw [hn]; exact fndL_lt hf)
 rw [hf] at HE
 obtain ⟨p, hp⟩ : ∃ p, posL r i = p := ⟨_, rfl⟩
 have i1 : (p : Int) ≤ (n : Int) := by have := HC.out; omega
 have i2 : (p : Int) ≤ (c : Int) := by have := HC.out; omega
 have i3 : (n : Int) ≤ (c : Int) := by omega
 have i4 : (p : Int) + 1 ≤ (n : Int) := by have := HL.out; omega
 have i5 : (p : Int) + 1 ≤ (c : Int) := by omega
 rw [hp] at HE
 have HP := Li hp
 clear hp
 obtain ⟨A2, hA2⟩ : ∃ A2, (if c = p + 1 then A else Option.map (fun x => x.add ((p + 1) * 4)) A) = A2 := ⟨_, rfl⟩
 have HA2 := Li hA2
 have HSD := Li (Ces.cut hs hA2 (by omega))
 have HST := Li (hs.take p)
 have HX : Hid (setL r i ⟨true, vn, vs⟩ = r.take p ++ (([] : List Ce) ++ r.drop (p + 1))) := by
  show _ = _
  rw [HE.out]
  first | rfl | simp
 have HZ : Hid ((flatC [(A, c, r.take p), (none, 0, []), (A2, c - (p + 1), r.drop (p + 1))]).length ≤ 1000000) := by
  show _ ≤ _
  rw [flat3]
  simp
  omega
 have HZ2 : Hid ((r.take p ++ (([] : List Ce) ++ r.drop (p + 1))).length ≤ 1000000) := by
  show _ ≤ _
  simp
  omega
 have HTP : Hid (p = (r.take p).length) := by
  show _ = _
  simp
  omega
 have HTD : Hid (n - (p + 1) = (r.drop (p + 1)).length) := by
  show _ = _
  simp
  omega
 have B0 := Li (al3 w (.cells #[.slice A n c] 30) (.cells #[.bool true, .int .i64 vn, .string vs] 62) (.cells #[.slice none 0 0] 30))
 have R0 := Li (((CB.new w 30 [.slice A n c]).alloc (.cells #[.bool true, .int .i64 vn, .string vs] 62)).alloc (.cells #[.slice none 0 0] 30))
 have V0 := Li ((CB.new1 w (.cells #[.slice A n c] 30) 62 [.bool true, .int .i64 vn, .string vs]).alloc (.cells #[.slice none 0 0] 30))
 have T0 := Li (CB.new2 w (.cells #[.slice A n c] 30) (.cells #[.bool true, .int .i64 vn, .string vs] 62) 30 [.slice none 0 0])
 clear hs hn hc
 go_enter Tryz.func85, Tryz.ntmps85
 go_upto_region 8 with (go_at_call 103; refine (find_any A n c r i _ HN.out (HS.out.up B0.out) (by omega) hi).mono ?_; rintro e w1 ⟨rfl, hb1⟩; rw [hf, HP.out]; have B1 := Li (below_step B0.out B0.out.size hb1); have V1 := Li (V0.out.up hb1); have R1 := Li (R0.out.up hb1); have T1 := Li (T0.out.up hb1); have zV1 := V1.out.lt; have zR1 := R1.out.lt; have zT1 := T1.out.lt; have r10 := R1.out.cell 0 rfl; have v10 := V1.out.cell 0 rfl; have v11 := V1.out.cell 1 rfl; have v12 := V1.out.cell 2 rfl; clear hb1)
 have B2 := B1
 have R2 := R1
 have T2 := T1
 have C2 : Hid (Ces w1 w1.heap.size none []) := Li RowAt.nil
 go_region_with (go_at_call 104; go_loud (have hab := bad w1 (.cells #[.slice A p c, .slice none 0 0, .slice A2 (n - (p + 1)) (c - (p + 1))] 28); refine (ConcatC_any w1.heap.size 3 [(A, c, r.take p), (none, 0, ([] : List Ce)), (A2, c - (p + 1), r.drop (p + 1))] _ rfl (by show _ < (w1.alloc (.cells #[.slice A p c, .slice none 0 0, .slice A2 (n - (p + 1)) (c - (p + 1))] 28)).heap.size; rw [asz]; omega) (pt3 ((CB.new w1 28 [.slice A p c, .slice none 0 0, .slice A2 (n - (p + 1)) (c - (p + 1))]).dr) HTP.out rfl HTD.out ((HST.out.up B2.out).up hab) (C2.out.up hab) ((HSD.out.up B2.out).up hab)) (by decide) (by rw [flat3]; exact HZ2.out)).mono ?_; rintro e w3 ⟨A4, c4, rfl, ho4, hb4⟩; rw [flat3, ← HX.out] at ho4 ⊢; have hb5 := hab.trans (hb4.mono hab.size); have HO4 := Li (ho4.low (b := w.heap.size) (Nat.le_trans B2.out.size hab.size)); have B3 := Li (below_step B2.out B2.out.size hb5); have T3 := Li (T2.out.up hb5); have zT3 := T3.out.lt; have t30 := T3.out.cell 0 rfl; have t3f := T3.out.frozen 0; clear ho4 hb4 hb5 hab))
 all_goals
  go_wp2
  have hne := HO4.out.ne T3.out (by decide)
  refine bodyPost_ret (res_cell1 Tryz.results85 rfl (T3.out.set_ 0 (.slice A4 (setL r i ⟨true, vn, vs⟩).length c4)) Tryz.underlying30 sizeRw rfl) rfl ⟨⟨A4, c4, rfl, HO4.out.set_ 0 _ hne⟩, B3.out.setCell (p := ⟨w.heap.size + 1 + 1, 0, none⟩) (by show w.heap.size ≤ w.heap.size + 1 + 1; omega) _⟩

set_option maxHeartbeats 4000000 in
set_option maxRecDepth 20000 in
theorem with_ff (A : Option Addr) (n c : Nat) (r : List Ce) (i : Int) (vn : Int) (vs : ByteArray) (w : World) (hn : n = r.length) (hs : Ces w w.heap.size A r) (hl : n ≤ 100000) (hc : n ≤ c) (_hcm : c ≤ 9223372036854775807) (hi : Inc r) (hf : fndL r i = false) :
  Calls Tryz.prog 85 #[.agg #[.slice A n c], .int .i64 i, .agg #[.bool false, .int .i64 vn, .string vs]] w fun e w' => RetO w w' (setL r i ⟨false, vn, vs⟩) e ∧ Below w.heap.size w w' := by
 have HN := Li hn
 have HS := Li hs
 have HC := Li (show posL r i ≤ n by rw [hn]; exact posL_le)
 have HE := Li (set_parts (r := r) (i := i) (v := ⟨false, vn, vs⟩))
 rw [hf] at HE
 obtain ⟨p, hp⟩ : ∃ p, posL r i = p := ⟨_, rfl⟩
 have i1 : (p : Int) ≤ (n : Int) := by have := HC.out; omega
 have i2 : (p : Int) ≤ (c : Int) := by have := HC.out; omega
 have i3 : (n : Int) ≤ (c : Int) := by omega
 rw [hp] at HE
 have HP := Li hp
 clear hp
 obtain ⟨A2, hA2⟩ : ∃ A2, (if c = p then A else Option.map (fun x => x.add (p * 4)) A) = A2 := ⟨_, rfl⟩
 have HA2 := Li hA2
 have HSD := Li (Ces.cut hs hA2 (by omega))
 have HST := Li (hs.take p)
 have HX : Hid (setL r i ⟨false, vn, vs⟩ = r.take p ++ (([⟨i, ⟨false, vn, vs⟩⟩] : List Ce) ++ r.drop p)) := by
  show _ = _
  rw [HE.out]
  first | rfl | simp
 have HZ : Hid ((flatC [(A, c, r.take p), (none, 0, []), (A2, c - p, r.drop p)]).length ≤ 1000000) := by
  show _ ≤ _
  rw [flat3]
  simp
  omega
 have HZ2 : Hid ((r.take p ++ (([⟨i, ⟨false, vn, vs⟩⟩] : List Ce) ++ r.drop p)).length ≤ 1000000) := by
  show _ ≤ _
  simp
  omega
 have HTP : Hid (p = (r.take p).length) := by
  show _ = _
  simp
  omega
 have HTD : Hid (n - p = (r.drop p).length) := by
  show _ = _
  simp
  omega
 have B0 := Li (al3 w (.cells #[.slice A n c] 30) (.cells #[.bool false, .int .i64 vn, .string vs] 62) (.cells #[.slice none 0 0] 30))
 have R0 := Li (((CB.new w 30 [.slice A n c]).alloc (.cells #[.bool false, .int .i64 vn, .string vs] 62)).alloc (.cells #[.slice none 0 0] 30))
 have V0 := Li ((CB.new1 w (.cells #[.slice A n c] 30) 62 [.bool false, .int .i64 vn, .string vs]).alloc (.cells #[.slice none 0 0] 30))
 have T0 := Li (CB.new2 w (.cells #[.slice A n c] 30) (.cells #[.bool false, .int .i64 vn, .string vs] 62) 30 [.slice none 0 0])
 clear hs hn hc
 go_enter Tryz.func85, Tryz.ntmps85
 go_upto_region 8 with (go_at_call 103; refine (find_any A n c r i _ HN.out (HS.out.up B0.out) (by omega) hi).mono ?_; rintro e w1 ⟨rfl, hb1⟩; rw [hf, HP.out]; have B1 := Li (below_step B0.out B0.out.size hb1); have V1 := Li (V0.out.up hb1); have R1 := Li (R0.out.up hb1); have T1 := Li (T0.out.up hb1); have zV1 := V1.out.lt; have zR1 := R1.out.lt; have zT1 := T1.out.lt; have r10 := R1.out.cell 0 rfl; have v10 := V1.out.cell 0 rfl; have v11 := V1.out.cell 1 rfl; have v12 := V1.out.cell 2 rfl; clear hb1)
 have B2 := Li (B1.out.alloc B1.out.size (.cells #[.int .i64 i, .bool false, .int .i64 vn, .string vs] 66))
 have R2 := Li (R1.out.alloc (.cells #[.int .i64 i, .bool false, .int .i64 vn, .string vs] 66))
 have T2 := Li (T1.out.alloc (.cells #[.int .i64 i, .bool false, .int .i64 vn, .string vs] 66))
 have C2 := Li (ces_one (q := ⟨i, ⟨false, vn, vs⟩⟩) (CB.new w1 66 [.int .i64 i, .bool false, .int .i64 vn, .string vs]))
 have zz := (asz w1 (.cells #[.int .i64 i, .bool false, .int .i64 vn, .string vs] 66)).symm
 have zR2 := R2.out.lt
 have zT2 := T2.out.lt
 have r20 := R2.out.cell 0 rfl
 clear r10 v10 v11 v12 zV1 zR1 zT1 V1 R1 T1 B1
 generalize (w1.alloc (.cells #[.int .i64 i, .bool false, .int .i64 vn, .string vs] 66)) = w2 at *
 go_region_with (go_at_call 104; go_loud (have hab := bad w2 (.cells #[.slice A p c, .slice (some ⟨w1.heap.size, 0, none⟩) 1 1, .slice A2 (n - p) (c - p)] 28); refine (ConcatC_any w2.heap.size 3 [(A, c, r.take p), ((some ⟨w1.heap.size, 0, none⟩), 1, ([⟨i, ⟨false, vn, vs⟩⟩] : List Ce)), (A2, c - p, r.drop p)] _ rfl (by show _ < (w2.alloc (.cells #[.slice A p c, .slice (some ⟨w1.heap.size, 0, none⟩) 1 1, .slice A2 (n - p) (c - p)] 28)).heap.size; rw [asz]; omega) (pt3 ((CB.new w2 28 [.slice A p c, .slice (some ⟨w1.heap.size, 0, none⟩) 1 1, .slice A2 (n - p) (c - p)]).dr) HTP.out rfl HTD.out ((HST.out.up B2.out).up hab) (C2.out.up hab) ((HSD.out.up B2.out).up hab)) (by decide) (by rw [flat3]; exact HZ2.out)).mono ?_; rintro e w3 ⟨A4, c4, rfl, ho4, hb4⟩; rw [flat3, ← HX.out] at ho4 ⊢; have hb5 := hab.trans (hb4.mono hab.size); have HO4 := Li (ho4.low (b := w.heap.size) (Nat.le_trans B2.out.size hab.size)); have B3 := Li (below_step B2.out B2.out.size hb5); have T3 := Li (T2.out.up hb5); have zT3 := T3.out.lt; have t30 := T3.out.cell 0 rfl; have t3f := T3.out.frozen 0; clear ho4 hb4 hb5 hab))
 all_goals
  go_wp2
  have hne := HO4.out.ne T3.out (by decide)
  refine bodyPost_ret (res_cell1 Tryz.results85 rfl (T3.out.set_ 0 (.slice A4 (setL r i ⟨false, vn, vs⟩).length c4)) Tryz.underlying30 sizeRw rfl) rfl ⟨⟨A4, c4, rfl, HO4.out.set_ 0 _ hne⟩, B3.out.setCell (p := ⟨w.heap.size + 1 + 1, 0, none⟩) (by show w.heap.size ≤ w.heap.size + 1 + 1; omega) _⟩

set_option maxHeartbeats 4000000 in
set_option maxRecDepth 20000 in
theorem with_ft (A : Option Addr) (n c : Nat) (r : List Ce) (i : Int) (vn : Int) (vs : ByteArray) (w : World) (hn : n = r.length) (hs : Ces w w.heap.size A r) (hl : n ≤ 100000) (hc : n ≤ c) (hcm : c ≤ 9223372036854775807) (hi : Inc r) (hf : fndL r i = true) :
  Calls Tryz.prog 85 #[.agg #[.slice A n c], .int .i64 i, .agg #[.bool false, .int .i64 vn, .string vs]] w fun e w' => RetO w w' (setL r i ⟨false, vn, vs⟩) e ∧ Below w.heap.size w w' := by
 have HN := Li hn
 have HS := Li hs
 have HC := Li (show posL r i ≤ n by rw [hn]; exact posL_le)
 have HE := Li (set_parts (r := r) (i := i) (v := ⟨false, vn, vs⟩))
 have HL := Li (show posL r i + 1 ≤ n by rw [hn]; exact fndL_lt hf)
 rw [hf] at HE
 obtain ⟨p, hp⟩ : ∃ p, posL r i = p := ⟨_, rfl⟩
 have i1 : (p : Int) ≤ (n : Int) := by have := HC.out; omega
 have i2 : (p : Int) ≤ (c : Int) := by have := HC.out; omega
 have i3 : (n : Int) ≤ (c : Int) := by omega
 have i4 : (p : Int) + 1 ≤ (n : Int) := by have := HL.out; omega
 have i5 : (p : Int) + 1 ≤ (c : Int) := by omega
 rw [hp] at HE
 have HP := Li hp
 clear hp
 obtain ⟨A2, hA2⟩ : ∃ A2, (if c = p + 1 then A else Option.map (fun x => x.add ((p + 1) * 4)) A) = A2 := ⟨_, rfl⟩
 have HA2 := Li hA2
 have HSD := Li (Ces.cut hs hA2 (by omega))
 have HST := Li (hs.take p)
 have HX : Hid (setL r i ⟨false, vn, vs⟩ = r.take p ++ (([⟨i, ⟨false, vn, vs⟩⟩] : List Ce) ++ r.drop (p + 1))) := by
  show _ = _
  rw [HE.out]
  first | rfl | simp
 have HZ : Hid ((flatC [(A, c, r.take p), (none, 0, []), (A2, c - (p + 1), r.drop (p + 1))]).length ≤ 1000000) := by
  show _ ≤ _
  rw [flat3]
  simp
  omega
 have HZ2 : Hid ((r.take p ++ (([⟨i, ⟨false, vn, vs⟩⟩] : List Ce) ++ r.drop (p + 1))).length ≤ 1000000) := by
  show _ ≤ _
  simp
  omega
 have HTP : Hid (p = (r.take p).length) := by
  show _ = _
  simp
  omega
 have HTD : Hid (n - (p + 1) = (r.drop (p + 1)).length) := by
  show _ = _
  simp
  omega
 have B0 := Li (al3 w (.cells #[.slice A n c] 30) (.cells #[.bool false, .int .i64 vn, .string vs] 62) (.cells #[.slice none 0 0] 30))
 have R0 := Li (((CB.new w 30 [.slice A n c]).alloc (.cells #[.bool false, .int .i64 vn, .string vs] 62)).alloc (.cells #[.slice none 0 0] 30))
 have V0 := Li ((CB.new1 w (.cells #[.slice A n c] 30) 62 [.bool false, .int .i64 vn, .string vs]).alloc (.cells #[.slice none 0 0] 30))
 have T0 := Li (CB.new2 w (.cells #[.slice A n c] 30) (.cells #[.bool false, .int .i64 vn, .string vs] 62) 30 [.slice none 0 0])
 clear hs hn hc
 go_enter Tryz.func85, Tryz.ntmps85
 go_upto_region 8 with (go_at_call 103; refine (find_any A n c r i _ HN.out (HS.out.up B0.out) (by omega) hi).mono ?_; rintro e w1 ⟨rfl, hb1⟩; rw [hf, HP.out]; have B1 := Li (below_step B0.out B0.out.size hb1); have V1 := Li (V0.out.up hb1); have R1 := Li (R0.out.up hb1); have T1 := Li (T0.out.up hb1); have zV1 := V1.out.lt; have zR1 := R1.out.lt; have zT1 := T1.out.lt; have r10 := R1.out.cell 0 rfl; have v10 := V1.out.cell 0 rfl; have v11 := V1.out.cell 1 rfl; have v12 := V1.out.cell 2 rfl; clear hb1)
 have B2 := Li (B1.out.alloc B1.out.size (.cells #[.int .i64 i, .bool false, .int .i64 vn, .string vs] 66))
 have R2 := Li (R1.out.alloc (.cells #[.int .i64 i, .bool false, .int .i64 vn, .string vs] 66))
 have T2 := Li (T1.out.alloc (.cells #[.int .i64 i, .bool false, .int .i64 vn, .string vs] 66))
 have C2 := Li (ces_one (q := ⟨i, ⟨false, vn, vs⟩⟩) (CB.new w1 66 [.int .i64 i, .bool false, .int .i64 vn, .string vs]))
 have zz := (asz w1 (.cells #[.int .i64 i, .bool false, .int .i64 vn, .string vs] 66)).symm
 have zR2 := R2.out.lt
 have zT2 := T2.out.lt
 have r20 := R2.out.cell 0 rfl
 clear r10 v10 v11 v12 zV1 zR1 zT1 V1 R1 T1 B1
 generalize (w1.alloc (.cells #[.int .i64 i, .bool false, .int .i64 vn, .string vs] 66)) = w2 at *
 go_region_with (go_at_call 104; go_loud (have hab := bad w2 (.cells #[.slice A p c, .slice (some ⟨w1.heap.size, 0, none⟩) 1 1, .slice A2 (n - (p + 1)) (c - (p + 1))] 28); refine (ConcatC_any w2.heap.size 3 [(A, c, r.take p), ((some ⟨w1.heap.size, 0, none⟩), 1, ([⟨i, ⟨false, vn, vs⟩⟩] : List Ce)), (A2, c - (p + 1), r.drop (p + 1))] _ rfl (by show _ < (w2.alloc (.cells #[.slice A p c, .slice (some ⟨w1.heap.size, 0, none⟩) 1 1, .slice A2 (n - (p + 1)) (c - (p + 1))] 28)).heap.size; rw [asz]; omega) (pt3 ((CB.new w2 28 [.slice A p c, .slice (some ⟨w1.heap.size, 0, none⟩) 1 1, .slice A2 (n - (p + 1)) (c - (p + 1))]).dr) HTP.out rfl HTD.out ((HST.out.up B2.out).up hab) (C2.out.up hab) ((HSD.out.up B2.out).up hab)) (by decide) (by rw [flat3]; exact HZ2.out)).mono ?_; rintro e w3 ⟨A4, c4, rfl, ho4, hb4⟩; rw [flat3, ← HX.out] at ho4 ⊢; have hb5 := hab.trans (hb4.mono hab.size); have HO4 := Li (ho4.low (b := w.heap.size) (Nat.le_trans B2.out.size hab.size)); have B3 := Li (below_step B2.out B2.out.size hb5); have T3 := Li (T2.out.up hb5); have zT3 := T3.out.lt; have t30 := T3.out.cell 0 rfl; have t3f := T3.out.frozen 0; clear ho4 hb4 hb5 hab))
 all_goals
  go_wp2
  have hne := HO4.out.ne T3.out (by decide)
  refine bodyPost_ret (res_cell1 Tryz.results85 rfl (T3.out.set_ 0 (.slice A4 (setL r i ⟨false, vn, vs⟩).length c4)) Tryz.underlying30 sizeRw rfl) rfl ⟨⟨A4, c4, rfl, HO4.out.set_ 0 _ hne⟩, B3.out.setCell (p := ⟨w.heap.size + 1 + 1, 0, none⟩) (by show w.heap.size ≤ w.heap.size + 1 + 1; omega) _⟩

theorem withC_any (A : Option Addr) (n c : Nat) (r : List Ce) (i : Int) (v : Va) (w : World) (hn : n = r.length) (hs : Ces w w.heap.size A r) (hl : n ≤ 100000) (hc : n ≤ c) (hcm : c ≤ 9223372036854775807) (hi : Inc r) :
  Calls Tryz.prog 85 #[.agg #[.slice A n c], .int .i64 i, .agg #[.bool v.b, .int .i64 v.n, .string v.s]] w fun e w' => RetO w w' (setL r i v) e ∧ Below w.heap.size w w' := by
 obtain ⟨vb, vn, vs⟩ := v
 cases hf : fndL r i <;> cases vb
 ·
  exact with_ff A n c r i vn vs w hn hs hl hc hcm hi hf
 ·
  exact with_tf A n c r i vn vs w hn hs hl hc hcm hi hf
 ·
  exact with_ft A n c r i vn vs w hn hs hl hc hcm hi hf
 ·
  exact with_tt A n c r i vn vs w hn hs hl hc hcm hi hf
end Go.Proofs.YtfeemipnalgjnaaGreat
