/-
  The program's combine, by a contract for each of the two functions that it is handed.
-/
import Derived.Test.YtmdokldbggingaaDoorBl5
import Derived.Deep.RegionWith
namespace Go.Proofs.YtmdokldbggingaaDoor
open Go.RowKit

/-- the first k bytes joined, the others as they were -/
def comb (a b : List UInt8) (k : Nat) : List UInt8 := (orL a b).take k ++ a.drop k
theorem comb_zero (a b : List UInt8) : comb a b 0 = a := by simp [comb]
theorem comb_len {a b : List UInt8} (h : a.length = b.length) (k : Nat) : (comb a b k).length = a.length := by
  unfold comb
  rw [List.length_append, List.length_take, List.length_drop, orL_len h]
  omega
theorem comb_all {a b : List UInt8} (h : a.length = b.length) {k : Nat} (hk : a.length ≤ k) : comb a b k = orL a b := by
  unfold comb
  rw [List.take_of_length_le (by rw [orL_len h]; exact hk), List.drop_eq_nil_of_le hk, List.append_nil]
theorem comb_at {a b : List UInt8} {k : Nat} (h : a.length = b.length) {x : UInt8} (hx : a[k]? = some x) : (comb a b k)[k]? = some x := by
  have hk := (List.getElem?_eq_some_iff.1 hx).1
  unfold comb
  rw [List.getElem?_append_right (by rw [List.length_take, orL_len h]; omega), List.length_take, orL_len h, Nat.min_eq_left (by omega), Nat.sub_self, List.getElem?_drop, Nat.add_zero, hx]
theorem comb_set {a b : List UInt8} {k : Nat} (h : a.length = b.length) {x y : UInt8} (hx : a[k]? = some x) (hy : b[k]? = some y) : (comb a b k).set k (x ||| y) = comb a b (k + 1) := by
  have hk := (List.getElem?_eq_some_iff.1 hx).1
  have ho : (orL a b)[k]? = some (x ||| y) := by unfold orL; rw [List.getElem?_zipWith, hx, hy]
  unfold comb
  rw [List.set_append_right _ _ (by rw [List.length_take, orL_len h]; omega), List.length_take, orL_len h, Nat.min_eq_left (by omega), Nat.sub_self, List.take_add_one, ho]
  rw [show a.drop k = x :: a.drop (k + 1) from by rw [List.drop_eq_getElem_cons hk]; congr 1; rw [List.getElem?_eq_getElem hk] at hx; exact Option.some.inj hx]
  simp
theorem u8_orb (x y : UInt8) : bits .or .u8 (x.toNat : Int) (y.toNat : Int) = ((x ||| y).toNat : Int) := by rw [u8_or _ _ x.toNat_lt y.toNat_lt, UInt8.toNat_or]
theorem un1_any (gb : Nat) (bb bo m d k : Nat) (y : UInt8) (w : World) (b1 : w.cell? ⟨gb, 1, none⟩ = some (.slice (some ⟨bb, bo, none⟩) m d)) (hk : k < m) (s1 : w.cell? ⟨bb, bo + k, none⟩ = some (.int .u8 (y.toNat : Int))) :
    Calls Tryd.prog 28 #[.int .i64 k, .pointer (some ⟨gb, 0, none⟩)] w fun e w' => e = .returned (.int .u8 (y.toNat : Int)) ∧ w' = w := by
  have i1 : (k : Int) < (m : Int) := by omega
  have i0 : (0 : Int) ≤ (k : Int) := by omega
  go_enter Tryd.func28, Tryd.ntmps28
  go_wp2
  go_ret
  exact ⟨rfl, rfl⟩
theorem fo1_any (gf gh : Nat) (bb bo m d k h : Nat) (y : UInt8) (w : World) (b1 : w.cell? ⟨gf, 1, none⟩ = some (.slice (some ⟨bb, bo, none⟩) m d)) (h0 : w.cell? ⟨gh, 0, none⟩ = some (.int .i64 h)) (hk : h + k < m) (hm : m ≤ 140737488351232) (s1 : w.cell? ⟨bb, bo + (h + k), none⟩ = some (.int .u8 (y.toNat : Int))) :
    Calls Tryd.prog 31 #[.int .i64 k, .pointer (some ⟨gf, 0, none⟩), .pointer (some ⟨gh, 0, none⟩)] w fun e w' => e = .returned (.int .u8 (y.toNat : Int)) ∧ w' = w := by
  obtain ⟨j, hj⟩ : ∃ j, j = h + k := ⟨_, rfl⟩
  rw [← hj] at s1 hk
  have i1 : (j : Int) < (m : Int) := by omega
  have i0 : (0 : Int) ≤ (j : Int) := by omega
  have i3 : IntKind.i64.wrap ((h : Int) + (k : Int)) = (j : Int) := by rw [IntKind.wrap_i64]; omega
  have i4 : (h : Int) + (k : Int) = (j : Int) := by omega
  clear hj
  go_enter Tryd.func31, Tryd.ntmps31
  go_wp2
  go_ret
  exact ⟨rfl, rfl⟩
set_option maxHeartbeats 8000000 in
set_option maxRecDepth 20000 in
theorem combineU_any (K : Int) (A : Option Addr) (n c : Nat) (a b : List UInt8) (w : World) (hn : n = a.length) (hab : a.length = b.length) (hnl : n ≤ 140737488351232) (hs : Shows w w.heap.size A a) (gb : Nat) (K2 : Int) (B : Option Addr) (m d : Nat) (hm : n = m) (hB : CB w gb 24 [.int .i64 K2, .slice B m d]) (hsb : Shows w w.heap.size B b) :
    Calls Tryd.prog 27 #[.int .i64 K, .slice A n c, .func (.func 28) #[] #[.pointer (some ⟨gb, 0, none⟩)]] w fun e w' => (∃ A' c', e = .returned (.agg #[.int .i64 K, .slice A' n c']) ∧ Owns w' w.heap.size (.slice A' n c') (orL a b)) ∧ Below w.heap.size w w' := by
  have HN := Li hn
  have HAB := Li hab
  subst hm
  have HB := Li hB
  have HSB := Li hsb
  have B1 := Li (al1 w (.cells #[.int .i64 0, .slice none 0 0] 24))
  have N1 := Li (CB.new w 24 [.int .i64 0, .slice none 0 0])
  have S1 := Li (hs.up B1.out)
  clear hn hab hs hB hsb
  go_enter Tryd.func27, Tryd.ntmps27
  go_wp2_with (go_at_call 33; refine (clone_any A n c a _ HN.out S1.out (by rw [← HN.out]; exact hnl)).mono ?_; rintro e w3 ⟨⟨A1, c1, rfl, ho3⟩, hb3⟩; have B3 := Li (below_step B1.out B1.out.size hb3); have N3 := Li (N1.out.up hb3); have O3 := Li (owns_low ho3 (b' := w.heap.size + 1) (by simp)); clear hb3 ho3 B1 N1 S1)
  have O0 : Hid (Owns w3 (w.heap.size + 1) (.slice A1 n c1) (comb a b 0)) := Li (by rw [comb_zero]; exact O3.out)
  clear O3
  have i2 : (n : Int) ≤ 140737488351232 := by omega
  go_loopw [8, 13] (fun _ i wr => ∃ k : Nat, k ≤ n ∧ i = .int .i64 k ∧ Hid (Owns wr (w.heap.size + 1) (.slice A1 n c1) (comb a b k)) ∧ Hid (CB wr w.heap.size 24 [.int .i64 0, .slice none 0 0]) ∧ Hid (Below w.heap.size w wr)) (fun _ i _ => n - (intOf i).toNat)
  case atStart => exact ⟨0, by omega, rfl, O0, N3, B3⟩
  case round =>
    clear O0 N3 B3
    obtain ⟨k, hk, rfl, OR, NR, BR⟩ := hrel
    by_cases hlt : k < n
    · have i1 : (k : Int) < (n : Int) := by omega
      have i0 : (0 : Int) ≤ (k : Int) := by omega
      obtain ⟨x, hx⟩ := getL_of (l := a) (k := k) (by rw [← HN.out]; exact hlt)
      obtain ⟨y, hy⟩ := getL_of (l := b) (k := k) (by rw [← HAB.out, ← HN.out]; exact hlt)
      have hnc : n = (comb a b k).length := by rw [comb_len HAB.out]; exact HN.out
      obtain ⟨g, rfl⟩ : ∃ g, A1 = some ⟨g, 0, none⟩ := by
        rcases OR.out.shape with ⟨e, h0⟩ | ⟨g, cap, e, _⟩
        · rw [h0] at hnc; simp at hnc; omega
        · injection e with e _ _; exact ⟨g, e⟩
      obtain ⟨e1, ef⟩ := owns_cell OR.out hnc (comb_at HAB.out hx)
      have HSet := Li (owns_set OR.out hnc k (x ||| y))
      have HCb := Li (comb_set HAB.out hx hy)
      have hgl : w.heap.size + 1 ≤ g ∧ g < wr.heap.size := World.ownsRow.lt OR.out g rfl
      have gg := Li (grown_setM wr g k (.int .u8 ((x ||| y).toNat : Int)))
      have hor := u8_orb x y
      obtain ⟨bb, bo, rfl, hbb, hbc⟩ := (HSB.out.below BR.out) (by rw [← HAB.out, ← HN.out]; omega)
      have s1 := hbc k y hy
      have hB1 := HB.out.up BR.out
      obtain ⟨b0, b1⟩ := hB1.c2
      have zb := hB1.lt
      have zbb : bb < wr.heap.size := Nat.lt_of_lt_of_le hbb BR.out.size
      clear hbc hB1
      clear hx hy hnc
      go_wp2
      go_region_with (go_at_call 28; refine Calls.mono (un1_any gb bb bo n d k y wr.drew b1 hlt s1) ?_; rintro e w9 ⟨rfl, rfl⟩)
      all_goals
       go_wp2_with fail
       go_roundw
       case rel => exact ⟨k + 1, by omega, by go_num, Li (show Owns _ _ _ _ from by rw [← HCb.out]; exact HSet.out), Li (CB.dr (NR.out.grown gg.out (by intro h; injection h with h; omega))), Li (below_grownM BR.out gg.out BR.out.size (by omega)).drew⟩
       case measure => simp [intOf]; omega
    · have hkk : k = n := by omega
      have HO := Li (show Owns wr (w.heap.size + 1) (.slice A1 n c1) (orL a b) from by
        have h := OR.out
        rwa [comb_all HAB.out (by rw [← HN.out]; omega)] at h)
      have i1 : ¬ (k : Int) < (n : Int) := by omega
      obtain ⟨n0, n1⟩ := NR.out.c2
      have nf0 := NR.out.frozen 0
      have nf1 := NR.out.frozen 1
      have zn := NR.out.lt
      clear hkk
      go_wp2
      have g1 := grown_setM wr w.heap.size 0 (.int .i64 K)
      have g2 := grown_setM (wr.setCell ⟨w.heap.size, 0, none⟩ (.int .i64 K)) w.heap.size 1 (.slice A1 n c1)
      have hneO : (Value.slice A1 n c1).ownBlock ≠ some w.heap.size := fun e => owns_ne HO.out NR.out (by decide) e.symm
      have N2 : CB ((wr.setCell ⟨w.heap.size, 0, none⟩ (.int .i64 K)).setCell ⟨w.heap.size, 1, none⟩ (.slice A1 n c1)) w.heap.size 24 [.int .i64 K, .slice A1 n c1] := (NR.out.set_ 0 (.int .i64 K)).set_ 1 (.slice A1 n c1)
      have O2 := owns_kept (owns_kept HO.out g1 (.inr hneO)) g2 (.inr hneO)
      have B2 := below_grownM (below_grownM BR.out g1 BR.out.size (by omega)) g2 (by have := BR.out.size; simpa [World.setCell] using this) (by omega)
      generalize (wr.setCell ⟨w.heap.size, 0, none⟩ (.int .i64 K)).setCell ⟨w.heap.size, 1, none⟩ (.slice A1 n c1) = W2 at *
      obtain ⟨T0, T1⟩ := N2.c2
      exact bodyPost_ret (v := .agg #[.int .i64 K, .slice A1 n c1]) (by simp [results, Tryd.results27, go_sem, T0, T1]) rfl ⟨⟨A1, c1, rfl, owns_low O2 (by omega)⟩, B2⟩
set_option maxHeartbeats 8000000 in
set_option maxRecDepth 20000 in
theorem combineF_any (K : Int) (A : Option Addr) (n c : Nat) (a b : List UInt8) (w : World) (hn : n = a.length) (hab : a.length = b.length) (hnl : n ≤ 140737488351232) (hs : Shows w w.heap.size A a) (gf gh : Nat) (K2 : Int) (F : Option Addr) (m d h : Nat) (fl : List UInt8) (hm : m = fl.length) (hml : m ≤ 140737488351232) (hb : b = fl.drop h) (hhm : h + n = m) (hB : CB w gf 24 [.int .i64 K2, .slice F m d]) (hH : CB w gh 3 [.int .i64 h]) (hsb : Shows w w.heap.size F fl) :
    Calls Tryd.prog 27 #[.int .i64 K, .slice A n c, .func (.func 31) #[] #[.pointer (some ⟨gf, 0, none⟩), .pointer (some ⟨gh, 0, none⟩)]] w fun e w' => (∃ A' c', e = .returned (.agg #[.int .i64 K, .slice A' n c']) ∧ Owns w' w.heap.size (.slice A' n c') (orL a b)) ∧ Below w.heap.size w w' := by
  have HN := Li hn
  have HAB := Li hab
  have HB := Li hB
  have HH := Li hH
  have HSB := Li hsb
  have HM := Li hm
  have HBd := Li hb
  have B1 := Li (al1 w (.cells #[.int .i64 0, .slice none 0 0] 24))
  have N1 := Li (CB.new w 24 [.int .i64 0, .slice none 0 0])
  have S1 := Li (hs.up B1.out)
  clear hn hab hs hB hH hsb hm hb
  go_enter Tryd.func27, Tryd.ntmps27
  go_wp2_with (go_at_call 33; refine (clone_any A n c a _ HN.out S1.out (by rw [← HN.out]; exact hnl)).mono ?_; rintro e w3 ⟨⟨A1, c1, rfl, ho3⟩, hb3⟩; have B3 := Li (below_step B1.out B1.out.size hb3); have N3 := Li (N1.out.up hb3); have O3 := Li (owns_low ho3 (b' := w.heap.size + 1) (by simp)); clear hb3 ho3 B1 N1 S1)
  have O0 : Hid (Owns w3 (w.heap.size + 1) (.slice A1 n c1) (comb a b 0)) := Li (by rw [comb_zero]; exact O3.out)
  clear O3
  have i2 : (n : Int) ≤ 140737488351232 := by omega
  go_loopw [8, 13] (fun _ i wr => ∃ k : Nat, k ≤ n ∧ i = .int .i64 k ∧ Hid (Owns wr (w.heap.size + 1) (.slice A1 n c1) (comb a b k)) ∧ Hid (CB wr w.heap.size 24 [.int .i64 0, .slice none 0 0]) ∧ Hid (Below w.heap.size w wr)) (fun _ i _ => n - (intOf i).toNat)
  case atStart => exact ⟨0, by omega, rfl, O0, N3, B3⟩
  case round =>
    clear O0 N3 B3
    obtain ⟨k, hk, rfl, OR, NR, BR⟩ := hrel
    by_cases hlt : k < n
    · have i1 : (k : Int) < (n : Int) := by omega
      have i0 : (0 : Int) ≤ (k : Int) := by omega
      obtain ⟨x, hx⟩ := getL_of (l := a) (k := k) (by rw [← HN.out]; exact hlt)
      obtain ⟨y, hy⟩ := getL_of (l := b) (k := k) (by rw [← HAB.out, ← HN.out]; exact hlt)
      have hnc : n = (comb a b k).length := by rw [comb_len HAB.out]; exact HN.out
      obtain ⟨g, rfl⟩ : ∃ g, A1 = some ⟨g, 0, none⟩ := by
        rcases OR.out.shape with ⟨e, h0⟩ | ⟨g, cap, e, _⟩
        · rw [h0] at hnc; simp at hnc; omega
        · injection e with e _ _; exact ⟨g, e⟩
      obtain ⟨e1, ef⟩ := owns_cell OR.out hnc (comb_at HAB.out hx)
      have HSet := Li (owns_set OR.out hnc k (x ||| y))
      have HCb := Li (comb_set HAB.out hx hy)
      have hgl : w.heap.size + 1 ≤ g ∧ g < wr.heap.size := World.ownsRow.lt OR.out g rfl
      have gg := Li (grown_setM wr g k (.int .u8 ((x ||| y).toNat : Int)))
      have hor := u8_orb x y
      have hyf : fl[h + k]? = some y := by rw [HBd.out, List.getElem?_drop] at hy; exact hy
      obtain ⟨bb, bo, rfl, hbb, hbc⟩ := (HSB.out.below BR.out) (by rw [← HM.out]; omega)
      have s1 := hbc (h + k) y hyf
      have hhk : h + k < m := by omega
      have hB1 := HB.out.up BR.out
      obtain ⟨b0, b1⟩ := hB1.c2
      have zb := hB1.lt
      have hH1 := HH.out.up BR.out
      have h0 := hH1.c1
      have zh := hH1.lt
      have zbb : bb < wr.heap.size := Nat.lt_of_lt_of_le hbb BR.out.size
      clear hbc hB1 hH1 hyf
      clear hx hy hnc
      go_wp2
      go_region_with (go_at_call 31; refine Calls.mono (fo1_any gf gh bb bo m d k h y wr.drew b1 h0 hhk hml s1) ?_; rintro e w9 ⟨rfl, rfl⟩)
      all_goals
       go_wp2_with fail
       go_roundw
       case rel => exact ⟨k + 1, by omega, by go_num, Li (show Owns _ _ _ _ from by rw [← HCb.out]; exact HSet.out), Li (CB.dr (NR.out.grown gg.out (by intro h; injection h with h; omega))), Li (below_grownM BR.out gg.out BR.out.size (by omega)).drew⟩
       case measure => simp [intOf]; omega
    · have hkk : k = n := by omega
      have HO := Li (show Owns wr (w.heap.size + 1) (.slice A1 n c1) (orL a b) from by
        have h := OR.out
        rwa [comb_all HAB.out (by rw [← HN.out]; omega)] at h)
      have i1 : ¬ (k : Int) < (n : Int) := by omega
      obtain ⟨n0, n1⟩ := NR.out.c2
      have nf0 := NR.out.frozen 0
      have nf1 := NR.out.frozen 1
      have zn := NR.out.lt
      clear hkk
      go_wp2
      have g1 := grown_setM wr w.heap.size 0 (.int .i64 K)
      have g2 := grown_setM (wr.setCell ⟨w.heap.size, 0, none⟩ (.int .i64 K)) w.heap.size 1 (.slice A1 n c1)
      have hneO : (Value.slice A1 n c1).ownBlock ≠ some w.heap.size := fun e => owns_ne HO.out NR.out (by decide) e.symm
      have N2 : CB ((wr.setCell ⟨w.heap.size, 0, none⟩ (.int .i64 K)).setCell ⟨w.heap.size, 1, none⟩ (.slice A1 n c1)) w.heap.size 24 [.int .i64 K, .slice A1 n c1] := (NR.out.set_ 0 (.int .i64 K)).set_ 1 (.slice A1 n c1)
      have O2 := owns_kept (owns_kept HO.out g1 (.inr hneO)) g2 (.inr hneO)
      have B2 := below_grownM (below_grownM BR.out g1 BR.out.size (by omega)) g2 (by have := BR.out.size; simpa [World.setCell] using this) (by omega)
      generalize (wr.setCell ⟨w.heap.size, 0, none⟩ (.int .i64 K)).setCell ⟨w.heap.size, 1, none⟩ (.slice A1 n c1) = W2 at *
      obtain ⟨T0, T1⟩ := N2.c2
      exact bodyPost_ret (v := .agg #[.int .i64 K, .slice A1 n c1]) (by simp [results, Tryd.results27, go_sem, T0, T1]) rfl ⟨⟨A1, c1, rfl, owns_low O2 (by omega)⟩, B2⟩
end Go.Proofs.YtmdokldbggingaaDoor
