/-
  The program's Union, Fold and New, and the laws' sketch and size: by contracts.
-/
import Derived.Test.YtmdokldbggingaaDoorBl6
namespace Go.Proofs.YtmdokldbggingaaDoor
open Go.RowKit

/-- a sketch and a code: a new row that holds l -/
def RetB (w w' : World) (K : Int) (n : Nat) (l : List UInt8) (e : Ending) : Prop := ∃ A' c', e = .returned (.tuple #[.agg #[.int .i64 K, .slice A' n c'], .int .i64 0]) ∧ Owns w' w.heap.size (.slice A' n c') l
set_option maxHeartbeats 4000000 in
set_option maxRecDepth 20000 in
theorem Union_bad1 (K1 K2 : Int) (A B : Option Addr) (n c m d : Nat) (w : World) (hn : n ≤ 140737488351232) (h1 : validB K1 n = false) :
    Calls Tryd.prog 9 #[.agg #[.int .i64 K1, .slice A n c], .agg #[.int .i64 K2, .slice B m d]] w fun e w' => e = .returned (.tuple #[.agg #[.int .i64 0, .slice none 0 0], .int .i64 1]) ∧ Below w.heap.size w w' := by
  have H1 := Li h1
  clear h1
  go_enter Tryd.func9, Tryd.ntmps9
  go_wp2_with (first | (go_at_call 26; (with_reducible show Calls _ _ #[.agg #[_, .slice A _ _]] _ _); refine (isValid_any K1 A n c _ (by omega)).mono ?_; rintro e w' ⟨rfl, rfl⟩; rw [H1.out]))
  exact bodyPost_ret (v := .tuple #[.agg #[.int .i64 0, .slice none 0 0], .int .i64 1]) (by simp [results, Tryd.results9, go_sem]) rfl ⟨rfl, by
    repeat (first | exact Below.refl _ _ | (refine Below.setCell ?_ (by simp) _) | (refine Below.alloc ?_ (by simp; try omega) _))⟩
set_option maxHeartbeats 4000000 in
set_option maxRecDepth 20000 in
theorem Union_bad2 (K1 K2 : Int) (A B : Option Addr) (n c m d : Nat) (w : World) (hn : n ≤ 140737488351232) (hm : m ≤ 140737488351232) (h1 : validB K1 n = true) (h2 : validB K2 m = false) :
    Calls Tryd.prog 9 #[.agg #[.int .i64 K1, .slice A n c], .agg #[.int .i64 K2, .slice B m d]] w fun e w' => e = .returned (.tuple #[.agg #[.int .i64 0, .slice none 0 0], .int .i64 1]) ∧ Below w.heap.size w w' := by
  have H1 := Li h1
  have H2 := Li h2
  clear h1 h2
  go_enter Tryd.func9, Tryd.ntmps9
  go_wp2_with (first | (go_at_call 26; (with_reducible show Calls _ _ #[.agg #[_, .slice A _ _]] _ _); refine (isValid_any K1 A n c _ (by omega)).mono ?_; rintro e w' ⟨rfl, rfl⟩; rw [H1.out]) | (go_at_call 26; (with_reducible show Calls _ _ #[.agg #[_, .slice B _ _]] _ _); refine (isValid_any K2 B m d _ (by omega)).mono ?_; rintro e w' ⟨rfl, rfl⟩; rw [H2.out]))
  exact bodyPost_ret (v := .tuple #[.agg #[.int .i64 0, .slice none 0 0], .int .i64 1]) (by simp [results, Tryd.results9, go_sem]) rfl ⟨rfl, by
    repeat (first | exact Below.refl _ _ | (refine Below.setCell ?_ (by simp) _) | (refine Below.alloc ?_ (by simp; try omega) _))⟩
set_option maxHeartbeats 4000000 in
set_option maxRecDepth 20000 in
theorem Union_bad3 (K1 K2 : Int) (A B : Option Addr) (n c m d : Nat) (w : World) (hn : n ≤ 140737488351232) (hm : m ≤ 140737488351232) (h1 : validB K1 n = true) (h2 : validB K2 m = true) (h3 : K1 ≠ K2) :
    Calls Tryd.prog 9 #[.agg #[.int .i64 K1, .slice A n c], .agg #[.int .i64 K2, .slice B m d]] w fun e w' => e = .returned (.tuple #[.agg #[.int .i64 0, .slice none 0 0], .int .i64 1]) ∧ Below w.heap.size w w' := by
  have H1 := Li h1
  have H2 := Li h2
  have k1 : (K1 != K2) = true := by simpa using h3
  clear h1 h2 h3
  go_enter Tryd.func9, Tryd.ntmps9
  go_wp2_with (first | (go_at_call 26; (with_reducible show Calls _ _ #[.agg #[_, .slice A _ _]] _ _); refine (isValid_any K1 A n c _ (by omega)).mono ?_; rintro e w' ⟨rfl, rfl⟩; rw [H1.out]) | (go_at_call 26; (with_reducible show Calls _ _ #[.agg #[_, .slice B _ _]] _ _); refine (isValid_any K2 B m d _ (by omega)).mono ?_; rintro e w' ⟨rfl, rfl⟩; rw [H2.out]))
  exact bodyPost_ret (v := .tuple #[.agg #[.int .i64 0, .slice none 0 0], .int .i64 1]) (by simp [results, Tryd.results9, go_sem]) rfl ⟨rfl, by
    repeat (first | exact Below.refl _ _ | (refine Below.setCell ?_ (by simp) _) | (refine Below.alloc ?_ (by simp; try omega) _))⟩
set_option maxHeartbeats 4000000 in
set_option maxRecDepth 20000 in
theorem Union_bad4 (K1 : Int) (A B : Option Addr) (n c m d : Nat) (w : World) (hn : n ≤ 140737488351232) (hm : m ≤ 140737488351232) (h1 : validB K1 n = true) (h2 : validB K1 m = true) (h3 : n ≠ m) :
    Calls Tryd.prog 9 #[.agg #[.int .i64 K1, .slice A n c], .agg #[.int .i64 K1, .slice B m d]] w fun e w' => e = .returned (.tuple #[.agg #[.int .i64 0, .slice none 0 0], .int .i64 1]) ∧ Below w.heap.size w w' := by
  have H1 := Li h1
  have H2 := Li h2
  have k1 : ((n : Int) != (m : Int)) = true := by simp; omega
  clear h1 h2 h3
  go_enter Tryd.func9, Tryd.ntmps9
  go_wp2_with (first | (go_at_call 26; (with_reducible show Calls _ _ #[.agg #[_, .slice A _ _]] _ _); refine (isValid_any K1 A n c _ (by omega)).mono ?_; rintro e w' ⟨rfl, rfl⟩; rw [H1.out]) | (go_at_call 26; (with_reducible show Calls _ _ #[.agg #[_, .slice B _ _]] _ _); refine (isValid_any K1 B m d _ (by omega)).mono ?_; rintro e w' ⟨rfl, rfl⟩; rw [H2.out]))
  exact bodyPost_ret (v := .tuple #[.agg #[.int .i64 0, .slice none 0 0], .int .i64 1]) (by simp [results, Tryd.results9, go_sem]) rfl ⟨rfl, by
    repeat (first | exact Below.refl _ _ | (refine Below.setCell ?_ (by simp) _) | (refine Below.alloc ?_ (by simp; try omega) _))⟩
set_option maxHeartbeats 4000000 in
set_option maxRecDepth 20000 in
theorem Union_ok (K : Int) (A B : Option Addr) (n c d : Nat) (a b : List UInt8) (w : World) (hn : n = a.length) (hm : n = b.length) (hnl : n ≤ 140737488351232) (hA : Shows w w.heap.size A a) (hB : Shows w w.heap.size B b) (h1 : validB K n = true) :
    Calls Tryd.prog 9 #[.agg #[.int .i64 K, .slice A n c], .agg #[.int .i64 K, .slice B n d]] w fun e w' => RetB w w' K n (orL a b) e ∧ Below w.heap.size w w' := by
  have H1 := Li h1
  have HN := Li hn
  have HM := Li hm
  have HAB := Li (show a.length = b.length by omega)
  have W5 := Li (((al3 w (.cells #[.int .i64 K, .slice A n c] 24) (.cells #[.int .i64 K, .slice B n d] 24) (.cells #[.int .i64 0, .slice none 0 0] 24)).alloc (by simp; omega) (.cells #[.int .i64 K, .slice A n c] 24)).alloc (by simp; omega) (.cells #[.int .i64 K, .slice B n d] 24))
  have HB5 := Li (((CB.new1 w (.cells #[.int .i64 K, .slice A n c] 24) 24 [.int .i64 K, .slice B n d]).alloc (.cells #[.int .i64 0, .slice none 0 0] 24)).alloc (.cells #[.int .i64 K, .slice A n c] 24) |>.alloc (.cells #[.int .i64 K, .slice B n d] 24))
  have HR5 := Li ((CB.new2 w (.cells #[.int .i64 K, .slice A n c] 24) (.cells #[.int .i64 K, .slice B n d] 24) 24 [.int .i64 0, .slice none 0 0]).alloc (.cells #[.int .i64 K, .slice A n c] 24) |>.alloc (.cells #[.int .i64 K, .slice B n d] 24))
  have SA5 := Li (hA.up W5.out)
  have SB5 := Li (hB.up W5.out)
  clear hn hm hA hB h1
  go_enter Tryd.func9, Tryd.ntmps9
  go_wp2_with (first
    | (go_at_call 26; (with_reducible show Calls _ _ #[.agg #[_, .slice A _ _]] _ _); refine (isValid_any K A n c _ (by omega)).mono ?_; rintro e w' ⟨rfl, rfl⟩; rw [H1.out])
    | (go_at_call 26; (with_reducible show Calls _ _ #[.agg #[_, .slice B _ _]] _ _); refine (isValid_any K B n d _ (by omega)).mono ?_; rintro e w' ⟨rfl, rfl⟩; rw [H1.out])
    | (go_at_call 27; refine (combineU_any K A n c a b _ HN.out HAB.out hnl SA5.out (w.heap.size + 1) K B n d rfl HB5.out SB5.out).mono ?_; rintro e w6 ⟨⟨A6, c6, rfl, ho6⟩, hb6⟩; have O6 := Li (owns_low ho6 (b' := w.heap.size + 1 + 1 + 1) (by simp only [asz]; omega)); have R6 := Li (HR5.out.up hb6); have B6 := Li (below_step W5.out W5.out.size hb6); clear hb6 ho6; obtain ⟨r0, r1⟩ := R6.out.c2; have rf0 := R6.out.frozen 0; have rf1 := R6.out.frozen 1; have zr := R6.out.lt))
  have g1 := grown_setM w6 (w.heap.size + 1 + 1) 0 (.int .i64 K)
  have g2 := grown_setM (w6.setCell ⟨w.heap.size + 1 + 1, 0, none⟩ (.int .i64 K)) (w.heap.size + 1 + 1) 1 (.slice A6 n c6)
  have hneO : (Value.slice A6 n c6).ownBlock ≠ some (w.heap.size + 1 + 1) := fun e => owns_ne O6.out R6.out (by decide) e.symm
  have N2 : CB ((w6.setCell ⟨w.heap.size + 1 + 1, 0, none⟩ (.int .i64 K)).setCell ⟨w.heap.size + 1 + 1, 1, none⟩ (.slice A6 n c6)) (w.heap.size + 1 + 1) 24 [.int .i64 K, .slice A6 n c6] := (R6.out.set_ 0 (.int .i64 K)).set_ 1 (.slice A6 n c6)
  have O2 := owns_kept (owns_kept O6.out g1 (.inr hneO)) g2 (.inr hneO)
  have B2 := below_grownM (below_grownM B6.out g1 B6.out.size (by omega)) g2 (by have := B6.out.size; simpa [World.setCell] using this) (by omega)
  generalize (w6.setCell ⟨w.heap.size + 1 + 1, 0, none⟩ (.int .i64 K)).setCell ⟨w.heap.size + 1 + 1, 1, none⟩ (.slice A6 n c6) = W2 at *
  obtain ⟨T0, T1⟩ := N2.c2
  exact bodyPost_ret (v := .tuple #[.agg #[.int .i64 K, .slice A6 n c6], .int .i64 0]) (by simp [results, Tryd.results9, go_sem, T0, T1]) rfl ⟨⟨A6, c6, rfl, owns_low O2 (by omega)⟩, B2⟩
theorem infoB : (Tryd.prog.info? 24).map (·.size) = some 2 := by kernel_rfl
theorem oneB {A : Option Addr} {n c : Nat} {K : Int} : ∀ u ∈ [Value.int .i64 K, .slice A n c], u.oneCell' = true := fun u hu => by
  simp only [List.mem_cons, List.not_mem_nil, or_false] at hu
  rcases hu with rfl | rfl <;> rfl
set_option maxHeartbeats 4000000 in
set_option maxRecDepth 20000 in
theorem Fold_bad1 (K : Int) (A : Option Addr) (n c : Nat) (w : World) (hn : n ≤ 140737488351232) (h1 : validB K n = false) :
    Calls Tryd.prog 11 #[.agg #[.int .i64 K, .slice A n c]] w fun e w' => e = .returned (.tuple #[.agg #[.int .i64 0, .slice none 0 0], .int .i64 1]) ∧ Below w.heap.size w w' := by
  have H1 := Li h1
  have i0 : (0 : Int) ≤ (n : Int) := by omega
  clear h1
  go_enter Tryd.func11, Tryd.ntmps11
  go_wp2_with (go_at_call 26; refine (isValid_any K A n c _ (by omega)).mono ?_; rintro e w' ⟨rfl, rfl⟩; rw [H1.out])
  exact bodyPost_ret (v := .tuple #[.agg #[.int .i64 0, .slice none 0 0], .int .i64 1]) (by simp [results, Tryd.results11, go_sem]) rfl ⟨rfl, by
    repeat (first | exact Below.refl _ _ | (refine Below.setCell ?_ (by simp) _) | (refine Below.alloc ?_ (by simp; try omega) _))⟩
set_option maxHeartbeats 4000000 in
set_option maxRecDepth 20000 in
theorem Fold_bad2 (K : Int) (A : Option Addr) (c : Nat) (w : World) :
    Calls Tryd.prog 11 #[.agg #[.int .i64 K, .slice A 1 c]] w fun e w' => e = .returned (.tuple #[.agg #[.int .i64 0, .slice none 0 0], .int .i64 1]) ∧ Below w.heap.size w w' := by
  obtain ⟨b, hb⟩ : ∃ b, validB K 1 = b := ⟨_, rfl⟩
  have H1 := Li hb
  clear hb
  cases b <;>
  · go_enter Tryd.func11, Tryd.ntmps11
    go_wp2_with (go_at_call 26; refine (isValid_any K A 1 c _ (by omega)).mono ?_; rintro e w' ⟨rfl, rfl⟩; rw [H1.out])
    exact bodyPost_ret (v := .tuple #[.agg #[.int .i64 0, .slice none 0 0], .int .i64 1]) (by simp [results, Tryd.results11, go_sem]) rfl ⟨rfl, by
      repeat (first | exact Below.refl _ _ | (refine Below.setCell ?_ (by simp) _) | (refine Below.alloc ?_ (by simp; try omega) _))⟩
set_option maxHeartbeats 4000000 in
set_option maxRecDepth 20000 in
theorem Fold_ok (K : Int) (A : Option Addr) (n c h : Nat) (fl : List UInt8) (w : World) (hn : n = fl.length) (hh : n = 2 * h) (h0 : 0 < h) (hnc : n ≤ c) (hc : c ≤ 9223372036854775807) (hnl : n ≤ 140737488351232) (hA : Shows w w.heap.size A fl) (h1 : validB K n = true) :
    Calls Tryd.prog 11 #[.agg #[.int .i64 K, .slice A n c]] w fun e w' => RetB w w' K h (foldL fl) e ∧ Below w.heap.size w w' := by
  have H1 := Li h1
  have HN := Li hn
  have HH := Li hh
  have q1 : (n : Int) / 2 = (h : Int) := by omega
  have q2 : (n : Int).tdiv 2 = (h : Int) := by rw [Int.tdiv_eq_ediv_of_nonneg (by omega)]; exact q1
  have q3 : ((h : Int) == 0) = false := by simp; omega
  have q4 : (h : Int) ≤ (c : Int) := by omega
  have q5 : (0 : Int) ≤ (h : Int) := by omega
  have HA := Li hA
  clear hn hh hA h1
  go_enter Tryd.func11, Tryd.ntmps11
  go_wp2_with (go_at_call 26; refine (isValid_any K A n c _ (by omega)).mono ?_; rintro e w' ⟨rfl, rfl⟩; rw [H1.out])
  have F3 := Li (((CB.new w 24 [.int .i64 K, .slice A n c]).alloc (.cells #[.int .i64 0, .slice none 0 0] 24)).alloc (.cells #[.int .i64 h] 3) |>.alloc (.cells #[.int .i64 K, .slice A n c] 24))
  have N3 := Li ((CB.new1 w (.cells #[.int .i64 K, .slice A n c] 24) 24 [.int .i64 0, .slice none 0 0]).alloc (.cells #[.int .i64 h] 3) |>.alloc (.cells #[.int .i64 K, .slice A n c] 24))
  have I3 := Li ((CB.new2 w (.cells #[.int .i64 K, .slice A n c] 24) (.cells #[.int .i64 0, .slice none 0 0] 24) 3 [.int .i64 h]).alloc (.cells #[.int .i64 K, .slice A n c] 24))
  have B3 := Li (al4 w (.cells #[.int .i64 K, .slice A n c] 24) (.cells #[.int .i64 0, .slice none 0 0] 24) (.cells #[.int .i64 h] 3) (.cells #[.int .i64 K, .slice A n c] 24))
  have S3 := Li (HA.out.up B3.out)
  generalize (((w.alloc (.cells #[.int .i64 K, .slice A n c] 24)).alloc (.cells #[.int .i64 0, .slice none 0 0] 24)).alloc (.cells #[.int .i64 h] 3)).alloc (.cells #[.int .i64 K, .slice A n c] 24) = V at *
  obtain ⟨f0, f1⟩ := F3.out.c2
  have e0 := I3.out.c1
  have zf := F3.out.lt
  have zi := I3.out.lt
  have zn := N3.out.lt
  have HT := Li (show h = (fl.take h).length by rw [List.length_take, ← HN.out, HH.out]; omega)
  have HD := Li (show (fl.take h).length = (fl.drop h).length by rw [List.length_take, List.length_drop, ← HN.out, HH.out]; omega)
  have HS := Li (show Shows V.drew V.drew.heap.size A (fl.take h) from (S3.out.up (bd V)).first)
  have HFl := Li (show orL (fl.take h) (fl.drop h) = foldL fl by unfold foldL; rw [show fl.length / 2 = h by rw [← HN.out, HH.out]; omega])
  have hhn : h + h = n := by rw [HH.out]; omega
  have hlh : h ≤ 140737488351232 := by omega
  have PP : Hid (CB V w.heap.size 24 [.int .i64 K, .slice A n c] ∧ CB V (w.heap.size + 1 + 1) 3 [.int .i64 h] ∧ Shows V V.heap.size A fl ∧ Below w.heap.size w V) := Li ⟨F3.out, I3.out, S3.out, B3.out⟩
  clear f0 f1 e0 zf zi zn HS F3 I3 S3 B3
  replace N3 := Li N3.out.dr
  replace PP := Li (show CB V.drew w.heap.size 24 [.int .i64 K, .slice A n c] ∧ CB V.drew (w.heap.size + 1 + 1) 3 [.int .i64 h] ∧ Shows V.drew V.drew.heap.size A fl ∧ Below w.heap.size w V.drew from ⟨PP.out.1.dr, PP.out.2.1.dr, PP.out.2.2.1.up (bd V), PP.out.2.2.2.drew⟩)
  refine wp_region_held_drew (S := fun X => Hid (CB X w.heap.size 24 [.int .i64 K, .slice A n c] ∧ CB X (w.heap.size + 1 + 1) 3 [.int .i64 h] ∧ Shows X X.heap.size A fl ∧ Below w.heap.size w X)) (by kernel_rfl) PP (fun hHeld => ?_)
  revert hHeld PP N3
  generalize V.drew = X4
  intro N3 PP hHeld
  refine htk 0 ?_
  refine htf 1 (fun _ h => And.intro h.out.1.c2 h.out.1.lt) ?_
  refine htk 2 ?_
  refine htf 3 (fun _ h => And.intro h.out.1.c2 h.out.1.lt) ?_
  refine htf 4 (fun _ h => And.intro h.out.2.1.c1 h.out.2.1.lt) ?_
  refine htk 5 ?_
  refine htk 6 ?_
  refine rd1 7 fun KK hK => ?_
  go_simp
  go_at_call 27
  refine Calls.mono (combineF_any K A h c (fl.take h) (fl.drop h) X4 HT.out HD.out hlh PP.out.2.2.1.first w.heap.size (w.heap.size + 1 + 1) K A n c h fl HN.out hnl rfl hhn PP.out.1 PP.out.2.1 PP.out.2.2.1) ?_
  rintro e w6 ⟨⟨A6, c6, rfl, ho6⟩, hb6⟩
  have O6 := Li ho6
  replace N3 := Li (N3.out.up hb6)
  have zX : w.heap.size ≤ X4.heap.size := PP.out.2.2.2.size
  replace PP := Li (show CB w6 w.heap.size 24 [.int .i64 K, .slice A n c] ∧ CB w6 (w.heap.size + 1 + 1) 3 [.int .i64 h] ∧ Shows w6 w6.heap.size A fl ∧ Below w.heap.size w w6 from ⟨PP.out.1.up hb6, PP.out.2.1.up hb6, PP.out.2.2.1.up hb6, below_step PP.out.2.2.2 PP.out.2.2.2.size hb6⟩)
  clear hb6 ho6
  go_wp2_with fail
  refine hK.out _ _ (PP) (fun hHeld => ?_)
  clear hK KK
  try simp only [pnz]
  refine rd1 8 fun KK hK => ?_
  refine step_store_cb rfl 24 (.tmp 2) (.tmp 24) rfl (w.heap.size + 1) [.int .i64 K, .slice A6 h c6] rfl rfl 24 [.int .i64 0, .slice none 0 0] 2 N3.out infoB rfl rfl oneB ?_
  intro s8 hc hg hz
  have hneO : (Value.slice A6 h c6).ownBlock ≠ some (w.heap.size + 1) := fun e => owns_ne O6.out N3.out (by decide) e.symm
  replace N3 := Li hc
  have O8 := Li (owns_kept O6.out hg (.inr hneO))
  have hbs := below_grownM PP.out.2.2.2 hg PP.out.2.2.2.size (by omega)
  replace PP := Li (show CB s8 w.heap.size 24 [.int .i64 K, .slice A n c] ∧ CB s8 (w.heap.size + 1 + 1) 3 [.int .i64 h] ∧ Shows s8 s8.heap.size A fl ∧ Below w.heap.size w s8 from ⟨PP.out.1.grown hg (by intro h; injection h with h; omega), PP.out.2.1.grown hg (by intro h; injection h with h; omega), (HA.out.below hbs).more hbs.size, hbs⟩)
  clear hc hg hz
  refine hK.out _ _ (PP) (fun hHeld => ?_)
  clear hK KK
  try simp only [pnz]
  refine htk 9 ?_
  refine wpAnyH_done (by kernel_rfl) ?_ _
  go_wp2_with fail
  obtain ⟨T0, T1⟩ := N3.out.c2
  exact bodyPost_ret (v := .tuple #[.agg #[.int .i64 K, .slice A6 h c6], .int .i64 0]) (by simp [results, Tryd.results11, go_sem, T0, T1]) rfl ⟨⟨A6, c6, rfl, by rw [← HFl.out]; exact owns_low O8.out zX⟩, PP.out.2.2.2⟩
end Go.Proofs.YtmdokldbggingaaDoor
