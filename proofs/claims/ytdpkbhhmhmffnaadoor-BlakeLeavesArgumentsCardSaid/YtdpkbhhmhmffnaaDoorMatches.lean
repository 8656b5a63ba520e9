/-
  BlakeMatchesReference: the walk.
-/
import Derived.Test.YtdpkbhhmhmffnaaDoorSanity
namespace Go.Proofs.YtdpkbhhmhmffnaaDoor
open Go.RowKit

/-- what the walk has before its last statement -/
structure SM (w wr : World) (K A : Option Addr) (g : Nat) (key b d0 d1 : List UInt8) : Prop where
  glob : Glob wr
  key : Shows wr wr.heap.size K key
  b : Shows wr wr.heap.size A b
  d0 : wr.rangeAt g 0 (cb d0)
  d1 : wr.rangeAt g 32 (cb d1)
  lt : g < wr.heap.size
  low : w.heap.size ≤ wr.heap.size
  bel : Below w.heap.size w wr
theorem range_up {w w' : World} {g o : Nat} {l : List Value} (h : w.rangeAt g o l) (hb : Below w.heap.size w w') (hg : g < w.heap.size) : w'.rangeAt g o l := fun j v hv => (hb.cell (p := ⟨g, o + j, none⟩) hg).trans (h j v hv)
section
variable {w wr w' : World} {K A : Option Addr} {g : Nat} {key b d0 d1 : List UInt8}
theorem SM.up (s : SM w wr K A g key b d0 d1) (hb : Below wr.heap.size wr w') : SM w w' K A g key b d0 d1 :=
  ⟨s.glob.up hb, s.key.up hb, s.b.up hb, range_up s.d0 hb s.lt, range_up s.d1 hb s.lt, Nat.lt_of_lt_of_le s.lt hb.size, Nat.le_trans s.low hb.size, s.bel.trans (hb.mono s.low)⟩
theorem SM.drew (s : SM w wr K A g key b d0 d1) : SM w wr.drew K A g key b d0 d1 :=
  ⟨⟨s.glob.iv, s.glob.order, s.glob.size⟩, s.key, s.b, s.d0, s.d1, s.lt, s.low, s.bel.drew⟩
end
theorem sm_new (w : World) (K A : Option Addr) (key b d0 d1 : List UInt8) (t : TypeId) (G : Glob w) (hk : Shows w w.heap.size K key) (hb : Shows w w.heap.size A b) (h0 : d0.length = 32) :
    SM w (w.alloc (.cells (cb d0 ++ cb d1).toArray t)) K A w.heap.size key b d0 d1 := by
  have ha := below_alloc (w := w) (.cells (cb d0 ++ cb d1).toArray t)
  have hn : (w.alloc (.cells (cb d0 ++ cb d1).toArray t)).heap[w.heap.size]? = some (.cells (cb d0 ++ cb d1).toArray t (0, 0)) := heap_alloc_new w _
  have e0 : (cb d0).length = 32 := by rw [cb_len, h0]
  refine ⟨G.up ha, hk.up ha, hb.up ha, fun j v hv => ?_, fun j v hv => ?_, by simp, by simp, ha⟩
  · rw [Nat.zero_add, cell_of_row _ _ j _ _ (0, 0) hn, List.getElem?_toArray, List.getElem?_append_left (List.getElem?_eq_some_iff.1 hv).1, hv]
  · rw [cell_of_row _ _ (32 + j) _ _ (0, 0) hn, List.getElem?_toArray, List.getElem?_append_right (by omega), e0, show 32 + j - 32 = j by omega, hv]

theorem len_gtr (n c : Nat) : (decide ((c : Int) < (n : Int))) = decide (c < n) := by simp

attribute [local irreducible] digestOf
attribute [local go_sem] eqGuard_d
set_option maxHeartbeats 4000000 in
set_option maxRecDepth 20000 in
theorem walk (K : Option Addr) (ck : Nat) (key : List UInt8) (A : Option Addr) (ca : Nat) (b d0 d1 : List UInt8) (w : World) (hk : Shows w w.heap.size K key) (hkc : key.length ≤ ck) (hck : ck ≤ 140737488351232)
    (hb : Shows w w.heap.size A b) (hbc : b.length ≤ ca) (hca : ca ≤ 140737488351232) (h0 : d0.length = 32) (h1 : d1.length = 32) (G : Glob w) :
    Calls Tryd.prog 3 #[.slice K key.length ck, .slice A b.length ca, .agg (cb d0 ++ cb d1).toArray] w fun e w' => e = .returned (.bool true) ∧ Below w.heap.size w w' := by
  have hs0 := Lib.hid (sm_new w K A key b d0 d1 25 G hk hb h0)
  have HC := Lib.hid (And.intro hkc (And.intro hck (And.intro hbc hca)))
  have HD := Lib.hid (And.intro h0 h1)
  have hd64 : (cb d0 ++ cb d1).length = 64 := by simp [cb_len, h0, h1]
  clear G hk hb h0 h1 hkc hck hbc hca
  go_enter Tryd.func3, Tryd.ntmps3
  by_cases hk100 : 100 < key.length
  · have i1 : (100 : Int) < (key.length : Int) := by omega
    go_wp2_with (go_at_call 8; refine (sanity_any _ hs0.out.glob).mono ?_; rintro e w2 ⟨rfl, hb2⟩)
    go_ret
    exact ⟨rfl, (hs0.out.up hb2).bel⟩
  have i1 : ¬ (100 : Int) < (key.length : Int) := by omega
  by_cases hb600 : 600 < b.length
  · have i2 : (600 : Int) < (b.length : Int) := by omega
    go_wp2_with (go_at_call 8; refine (sanity_any _ hs0.out.glob).mono ?_; rintro e w2 ⟨rfl, hb2⟩)
    go_ret
    exact ⟨rfl, (hs0.out.up hb2).bel⟩
  have i2 : ¬ (600 : Int) < (b.length : Int) := by omega
  go_wp2_with (go_at_call 8; refine (sanity_any _ hs0.out.glob).mono ?_; rintro e w2 ⟨rfl, hb2⟩)
  have hs2 := Lib.hid (hs0.out.up hb2).drew
  generalize w.heap.size = g at *
  clear hb2 hs0
  have hlen := Lib.hid (And.intro (Nat.le_of_not_lt hk100) (Nat.le_of_not_lt hb600))
  have q1 := eql_same (digestOf [] b) (digestOf_len _ _)
  have q2 := eql_same (digestOf key b) (digestOf_len _ _)
  have q3 := eql_same (digestOf [] (0 :: b)) (digestOf_len _ _)
  have q4 := eql_same (digestOf [] (1 :: (d0 ++ d1 ++ b))) (digestOf_len _ _)
  have q5 := eql_same (digestOf [] (1 :: (d0 ++ (d1 ++ b)))) (digestOf_len _ _)
  have hu := Tryd.underlying24
  have i3 : (Tryd.prog.info? 24).map (·.size) = some (cb d0).length := by rw [cb_len, HD.out.1]; exact info24D
  have i4 : (Tryd.prog.info? 24).map (·.size) = some (cb d1).length := by rw [cb_len, HD.out.2]; exact info24D
  refine wp_region_held_drew (S := fun w' => Hid (SM w w' K A g key b d0 d1)) (by kernel_rfl) hs2 (fun hHeld => ?_)
  refine hand_take (i := 0) (v := ?_) rfl (by kernel_rfl) (by kernel_rfl) (by kernel_rfl) (fun _ _ _ h => h) (Or.inl ⟨by rfl, ?_⟩) (by assumption) ?_
  rotate_left
  · intro w hSw
    clear hSw
    go_simp
    try with_reducible rfl
  try simp only [Act.put, List.setIfInBounds_toArray, List.set_cons_zero, List.set_cons_succ]
  refine hand_take (i := 2) (v := ?_) rfl (by kernel_rfl) (by kernel_rfl) (by kernel_rfl) (fun _ _ _ h => h) (Or.inl ⟨by rfl, ?_⟩) (by assumption) ?_
  rotate_left
  · intro w hSw
    clear hSw
    go_simp
    try with_reducible rfl
  try simp only [Act.put, List.setIfInBounds_toArray, List.set_cons_zero, List.set_cons_succ]
  refine wpAnyH_ready (rs := [1]) (by kernel_rfl) (by simp) ?_
  refine hand_cons rfl (fun KK hK => ?_) AllReadyH.nil
  go_simp
  go_at_call 9
  refine (sumP_any A ca b _ hHeld.out.glob hHeld.out.b HC.out.2.2.1 (by have := HC.out.2.2.2; omega) (by have := hlen.out.2; omega)).mono ?_
  rintro e w3 ⟨rfl, hb3⟩
  have hs3 := Lib.hid (hHeld.out.up hb3)
  clear hb3 hHeld
  go_wp2_with fail
  refine hK.out _ _ (hs3) (fun hHeld => ?_)
  clear hK KK
  try simp only [Act.put, List.setIfInBounds_toArray, List.set_cons_zero, List.set_cons_succ]
  refine wpAnyH_ready (rs := [3]) (by kernel_rfl) (by simp) ?_
  refine hand_cons rfl (fun KK hK => ?_) AllReadyH.nil
  go_simp
  go_at_call 10
  refine (sumR_any A ca b _ hHeld.out.b (by have := hlen.out.2; omega)).mono ?_
  rintro e w4 ⟨rfl, hb4⟩
  have hs4 := Lib.hid (hHeld.out.up hb4)
  clear hb4 hHeld
  go_wp2_with fail
  refine hK.out _ _ (hs4) (fun hHeld => ?_)
  clear hK KK
  try simp only [Act.put, List.setIfInBounds_toArray, List.set_cons_zero, List.set_cons_succ]
  refine hand_take (i := 4) (v := ?_) rfl (by kernel_rfl) (by kernel_rfl) (by kernel_rfl) (fun _ _ _ h => h) (Or.inl ⟨by rfl, ?_⟩) (by assumption) ?_
  rotate_left
  · intro w hSw
    clear hSw
    go_simp
    try with_reducible rfl
  try simp only [Act.put, List.setIfInBounds_toArray, List.set_cons_zero, List.set_cons_succ]
  refine hand_take (i := 5) (v := ?_) rfl (by kernel_rfl) (by kernel_rfl) (by kernel_rfl) (fun _ _ _ h => h) (Or.inl ⟨by rfl, ?_⟩) (by assumption) ?_
  rotate_left
  · intro w hSw
    clear hSw
    go_simp
    try with_reducible rfl
  try simp only [Act.put, List.setIfInBounds_toArray, List.set_cons_zero, List.set_cons_succ]
  refine hand_take (i := 6) (v := ?_) rfl (by kernel_rfl) (by kernel_rfl) (by kernel_rfl) (fun _ _ _ h => h) (Or.inl ⟨by rfl, ?_⟩) (by assumption) ?_
  rotate_left
  · intro w hSw
    clear hSw
    go_simp
    try with_reducible rfl
  try simp only [Act.put, List.setIfInBounds_toArray, List.set_cons_zero, List.set_cons_succ]
  refine hand_take (i := 7) (v := ?_) rfl (by kernel_rfl) (by kernel_rfl) (by kernel_rfl) (fun _ _ _ h => h) (Or.inl ⟨by rfl, ?_⟩) (by assumption) ?_
  rotate_left
  · intro w hSw
    clear hSw
    go_simp
    try with_reducible rfl
  try simp only [Act.put, List.setIfInBounds_toArray, List.set_cons_zero, List.set_cons_succ]
  refine hand_take (i := 9) (v := ?_) rfl (by kernel_rfl) (by kernel_rfl) (by kernel_rfl) (fun _ _ _ h => h) (Or.inl ⟨by rfl, ?_⟩) (by assumption) ?_
  rotate_left
  · intro w hSw
    clear hSw
    go_simp
    try with_reducible rfl
  try simp only [Act.put, List.setIfInBounds_toArray, List.set_cons_zero, List.set_cons_succ]
  refine hand_take (i := 10) (v := ?_) rfl (by kernel_rfl) (by kernel_rfl) (by kernel_rfl) (fun _ _ _ h => h) (Or.inl ⟨by rfl, ?_⟩) (by assumption) ?_
  rotate_left
  · intro w hSw
    clear hSw
    go_simp
    try with_reducible rfl
  try simp only [Act.put, List.setIfInBounds_toArray, List.set_cons_zero, List.set_cons_succ]
  refine wpAnyH_ready (rs := [8]) (by kernel_rfl) (by simp) ?_
  refine hand_cons rfl (fun KK hK => ?_) AllReadyH.nil
  go_simp
  go_at_call 11
  refine (keyedP_any K ck key A ca b _ hHeld.out.glob hHeld.out.key hHeld.out.b HC.out.1 HC.out.2.2.1 (by have := HC.out.2.1; omega) (by have := HC.out.2.2.2; omega) (by have := hlen.out.2; omega)).mono ?_
  rintro e w5 ⟨rfl, hb5⟩
  have hs5 := Lib.hid (hHeld.out.up hb5)
  clear hb5 hHeld
  go_wp2_with fail
  refine hK.out _ _ (hs5) (fun hHeld => ?_)
  clear hK KK
  try simp only [Act.put, List.setIfInBounds_toArray, List.set_cons_zero, List.set_cons_succ]
  refine wpAnyH_ready (rs := [11]) (by kernel_rfl) (by simp) ?_
  refine hand_cons rfl (fun KK hK => ?_) AllReadyH.nil
  go_simp
  go_at_call 12
  refine (keyedR_any K ck key A ca b _ hHeld.out.key hHeld.out.b HC.out.1 (by have := HC.out.2.1; omega) (by have := hlen.out.2; omega)).mono ?_
  rintro e w6 ⟨rfl, hb6⟩
  have hs6 := Lib.hid (hHeld.out.up hb6)
  clear hb6 hHeld
  go_wp2_with fail
  refine hK.out _ _ (hs6) (fun hHeld => ?_)
  clear hK KK
  try simp only [Act.put, List.setIfInBounds_toArray, List.set_cons_zero, List.set_cons_succ]
  refine hand_take (i := 12) (v := ?_) rfl (by kernel_rfl) (by kernel_rfl) (by kernel_rfl) (fun _ _ _ h => h) (Or.inl ⟨by rfl, ?_⟩) (by assumption) ?_
  rotate_left
  · intro w hSw
    clear hSw
    go_simp
    try with_reducible rfl
  try simp only [Act.put, List.setIfInBounds_toArray, List.set_cons_zero, List.set_cons_succ]
  refine hand_take (i := 13) (v := ?_) rfl (by kernel_rfl) (by kernel_rfl) (by kernel_rfl) (fun _ _ _ h => h) (Or.inl ⟨by rfl, ?_⟩) (by assumption) ?_
  rotate_left
  · intro w hSw
    clear hSw
    go_simp
    try with_reducible rfl
  try simp only [Act.put, List.setIfInBounds_toArray, List.set_cons_zero, List.set_cons_succ]
  refine hand_take (i := 14) (v := ?_) rfl (by kernel_rfl) (by kernel_rfl) (by kernel_rfl) (fun _ _ _ h => h) (Or.inl ⟨by rfl, ?_⟩) (by assumption) ?_
  rotate_left
  · intro w hSw
    clear hSw
    go_simp
    try with_reducible rfl
  try simp only [Act.put, List.setIfInBounds_toArray, List.set_cons_zero, List.set_cons_succ]
  refine hand_take (i := 15) (v := ?_) rfl (by kernel_rfl) (by kernel_rfl) (by kernel_rfl) (fun _ _ _ h => h) (Or.inl ⟨by rfl, ?_⟩) (by assumption) ?_
  rotate_left
  · intro w hSw
    clear hSw
    go_simp
    try with_reducible rfl
  try simp only [Act.put, List.setIfInBounds_toArray, List.set_cons_zero, List.set_cons_succ]
  refine hand_take (i := 17) (v := ?_) rfl (by kernel_rfl) (by kernel_rfl) (by kernel_rfl) (fun _ _ _ h => h) (Or.inl ⟨by rfl, ?_⟩) (by assumption) ?_
  rotate_left
  · intro w hSw
    clear hSw
    go_simp
    try with_reducible rfl
  try simp only [Act.put, List.setIfInBounds_toArray, List.set_cons_zero, List.set_cons_succ]
  refine wpAnyH_ready (rs := [16]) (by kernel_rfl) (by simp) ?_
  refine hand_cons rfl (fun KK hK => ?_) AllReadyH.nil
  go_simp
  go_at_call 13
  refine (leafP_any A ca b _ hHeld.out.glob hHeld.out.b (by have := hlen.out.2; omega)).mono ?_
  rintro e w7 ⟨rfl, hb7⟩
  have hs7 := Lib.hid (hHeld.out.up hb7)
  clear hb7 hHeld
  go_wp2_with fail
  refine hK.out _ _ (hs7) (fun hHeld => ?_)
  clear hK KK
  try simp only [Act.put, List.setIfInBounds_toArray, List.set_cons_zero, List.set_cons_succ]
  refine wpAnyH_ready (rs := [18]) (by kernel_rfl) (by simp) ?_
  refine hand_cons rfl (fun KK hK => ?_) AllReadyH.nil
  go_simp
  go_at_call 14
  refine (leafR_any A ca b _ hHeld.out.b (by have := hlen.out.2; omega)).mono ?_
  rintro e w8 ⟨rfl, hb8⟩
  have hs8 := Lib.hid (hHeld.out.up hb8)
  clear hb8 hHeld
  go_wp2_with fail
  refine hK.out _ _ (hs8) (fun hHeld => ?_)
  clear hK KK
  try simp only [Act.put, List.setIfInBounds_toArray, List.set_cons_zero, List.set_cons_succ]
  refine hand_take (i := 19) (v := ?_) rfl (by kernel_rfl) (by kernel_rfl) (by kernel_rfl) (fun _ _ _ h => h) (Or.inl ⟨by rfl, ?_⟩) (by assumption) ?_
  rotate_left
  · intro w hSw
    clear hSw
    go_simp
    try with_reducible rfl
  try simp only [Act.put, List.setIfInBounds_toArray, List.set_cons_zero, List.set_cons_succ]
  refine hand_take (i := 20) (v := ?_) rfl (by kernel_rfl) (by kernel_rfl) (by kernel_rfl) (fun _ _ _ h => h) (Or.inl ⟨by rfl, ?_⟩) (by assumption) ?_
  rotate_left
  · intro w hSw
    clear hSw
    go_simp
    try with_reducible rfl
  try simp only [Act.put, List.setIfInBounds_toArray, List.set_cons_zero, List.set_cons_succ]
  refine hand_take (i := 21) (v := ?_) rfl (by kernel_rfl) (by kernel_rfl) (by kernel_rfl) (fun _ _ _ h => h) (Or.inl ⟨by rfl, ?_⟩) (by assumption) ?_
  rotate_left
  · intro w hSw
    clear hSw
    go_simp
    try with_reducible rfl
  try simp only [Act.put, List.setIfInBounds_toArray, List.set_cons_zero, List.set_cons_succ]
  refine hand_take (i := 22) (v := ?_) rfl (by kernel_rfl) (by kernel_rfl) (by kernel_rfl) (fun _ _ _ h => h) (Or.inl ⟨by rfl, ?_⟩) (by assumption) ?_
  rotate_left
  · intro w hSw
    clear hSw
    go_simp
    try with_reducible rfl
  try simp only [Act.put, List.setIfInBounds_toArray, List.set_cons_zero, List.set_cons_succ]
  refine hand_take (i := 23) rfl (by kernel_rfl) (by kernel_rfl) (by kernel_rfl) (fun _ _ _ h => h) (yieldsIf_load_mid (by rfl) _ _ rfl g 0 rfl (cb d0) _ (fun _ h => h.out.d0) hu rfl i3) (by assumption) ?_
  try simp only [Act.put, List.setIfInBounds_toArray, List.set_cons_zero, List.set_cons_succ]
  refine hand_take (i := 24) (v := ?_) rfl (by kernel_rfl) (by kernel_rfl) (by kernel_rfl) (fun _ _ _ h => h) (Or.inl ⟨by rfl, ?_⟩) (by assumption) ?_
  rotate_left
  · intro w hSw
    clear hSw
    go_simp
    try with_reducible rfl
  try simp only [Act.put, List.setIfInBounds_toArray, List.set_cons_zero, List.set_cons_succ]
  refine hand_take (i := 25) rfl (by kernel_rfl) (by kernel_rfl) (by kernel_rfl) (fun _ _ _ h => h) (yieldsIf_load_mid (by rfl) _ _ rfl g 32 rfl (cb d1) _ (fun _ h => h.out.d1) hu rfl i4) (by assumption) ?_
  try simp only [Act.put, List.setIfInBounds_toArray, List.set_cons_zero, List.set_cons_succ]
  refine hand_take (i := 26) (v := ?_) rfl (by kernel_rfl) (by kernel_rfl) (by kernel_rfl) (fun _ _ _ h => h) (Or.inl ⟨by rfl, ?_⟩) (by assumption) ?_
  rotate_left
  · intro w hSw
    clear hSw
    go_simp
    try with_reducible rfl
  try simp only [Act.put, List.setIfInBounds_toArray, List.set_cons_zero, List.set_cons_succ]
  refine hand_take (i := 28) (v := ?_) rfl (by kernel_rfl) (by kernel_rfl) (by kernel_rfl) (fun _ _ _ h => h) (Or.inl ⟨by rfl, ?_⟩) (by assumption) ?_
  rotate_left
  · intro w hSw
    clear hSw
    go_simp
    try with_reducible rfl
  try simp only [Act.put, List.setIfInBounds_toArray, List.set_cons_zero, List.set_cons_succ]
  refine hand_take (i := 29) rfl (by kernel_rfl) (by kernel_rfl) (by kernel_rfl) (fun _ _ _ h => h) (yieldsIf_load_mid (by rfl) _ _ rfl g 0 rfl (cb d0) _ (fun _ h => h.out.d0) hu rfl i3) (by assumption) ?_
  try simp only [Act.put, List.setIfInBounds_toArray, List.set_cons_zero, List.set_cons_succ]
  refine hand_take (i := 30) (v := ?_) rfl (by kernel_rfl) (by kernel_rfl) (by kernel_rfl) (fun _ _ _ h => h) (Or.inl ⟨by rfl, ?_⟩) (by assumption) ?_
  rotate_left
  · intro w hSw
    clear hSw
    go_simp
    try with_reducible rfl
  try simp only [Act.put, List.setIfInBounds_toArray, List.set_cons_zero, List.set_cons_succ]
  refine hand_take (i := 31) rfl (by kernel_rfl) (by kernel_rfl) (by kernel_rfl) (fun _ _ _ h => h) (yieldsIf_load_mid (by rfl) _ _ rfl g 32 rfl (cb d1) _ (fun _ h => h.out.d1) hu rfl i4) (by assumption) ?_
  try simp only [Act.put, List.setIfInBounds_toArray, List.set_cons_zero, List.set_cons_succ]
  refine hand_take (i := 32) (v := ?_) rfl (by kernel_rfl) (by kernel_rfl) (by kernel_rfl) (fun _ _ _ h => h) (Or.inl ⟨by rfl, ?_⟩) (by assumption) ?_
  rotate_left
  · intro w hSw
    clear hSw
    go_simp
    try with_reducible rfl
  try simp only [Act.put, List.setIfInBounds_toArray, List.set_cons_zero, List.set_cons_succ]
  refine wpAnyH_ready (rs := [27]) (by kernel_rfl) (by simp) ?_
  refine hand_cons rfl (fun KK hK => ?_) AllReadyH.nil
  go_simp
  go_at_call 15
  refine (pairP_any d0 d1 A ca b _ HD.out.1 HD.out.2 hHeld.out.glob hHeld.out.b (by have := hlen.out.2; omega)).mono ?_
  rintro e w9 ⟨rfl, hb9⟩
  have hs9 := Lib.hid (hHeld.out.up hb9)
  clear hb9 hHeld
  go_wp2_with fail
  refine hK.out _ _ (hs9) (fun hHeld => ?_)
  clear hK KK
  try simp only [Act.put, List.setIfInBounds_toArray, List.set_cons_zero, List.set_cons_succ]
  refine wpAnyH_ready (rs := [33]) (by kernel_rfl) (by simp) ?_
  refine hand_cons rfl (fun KK hK => ?_) AllReadyH.nil
  go_simp
  go_at_call 16
  refine (pairR_any d0 d1 A ca b _ HD.out.1 HD.out.2 hHeld.out.b (by have := hlen.out.2; omega)).mono ?_
  rintro e w10 ⟨rfl, hb10⟩
  have hs10 := Lib.hid (hHeld.out.up hb10)
  clear hb10 hHeld
  go_wp2_with fail
  refine hK.out _ _ (hs10) (fun hHeld => ?_)
  clear hK KK
  try simp only [Act.put, List.setIfInBounds_toArray, List.set_cons_zero, List.set_cons_succ]
  refine hand_take (i := 34) (v := ?_) rfl (by kernel_rfl) (by kernel_rfl) (by kernel_rfl) (fun _ _ _ h => h) (Or.inl ⟨by rfl, ?_⟩) (by assumption) ?_
  rotate_left
  · intro w hSw
    clear hSw
    go_simp
    try with_reducible rfl
  try simp only [Act.put, List.setIfInBounds_toArray, List.set_cons_zero, List.set_cons_succ]
  refine hand_take (i := 35) (v := ?_) rfl (by kernel_rfl) (by kernel_rfl) (by kernel_rfl) (fun _ _ _ h => h) (Or.inl ⟨by rfl, ?_⟩) (by assumption) ?_
  rotate_left
  · intro w hSw
    clear hSw
    go_simp
    try with_reducible rfl
  try simp only [Act.put, List.setIfInBounds_toArray, List.set_cons_zero, List.set_cons_succ]
  refine hand_take (i := 36) (v := ?_) rfl (by kernel_rfl) (by kernel_rfl) (by kernel_rfl) (fun _ _ _ h => h) (Or.inl ⟨by rfl, ?_⟩) (by assumption) ?_
  rotate_left
  · intro w hSw
    clear hSw
    go_simp
    try with_reducible rfl
  try simp only [Act.put, List.setIfInBounds_toArray, List.set_cons_zero, List.set_cons_succ]
  refine hand_take (i := 37) (v := ?_) rfl (by kernel_rfl) (by kernel_rfl) (by kernel_rfl) (fun _ _ _ h => h) (Or.inl ⟨by rfl, ?_⟩) (by assumption) ?_
  rotate_left
  · intro w hSw
    clear hSw
    go_simp
    try with_reducible rfl
  try simp only [Act.put, List.setIfInBounds_toArray, List.set_cons_zero, List.set_cons_succ]
  refine hand_take (i := 38) (v := ?_) rfl (by kernel_rfl) (by kernel_rfl) (by kernel_rfl) (fun _ _ _ h => h) (Or.inl ⟨by rfl, ?_⟩) (by assumption) ?_
  rotate_left
  · intro w hSw
    clear hSw
    go_simp
    try with_reducible rfl
  try simp only [Act.put, List.setIfInBounds_toArray, List.set_cons_zero, List.set_cons_succ]
  refine hand_take (i := 39) (v := ?_) rfl (by kernel_rfl) (by kernel_rfl) (by kernel_rfl) (fun _ _ _ h => h) (Or.inl ⟨by rfl, ?_⟩) (by assumption) ?_
  rotate_left
  · intro w hSw
    clear hSw
    go_simp
    try with_reducible rfl
  try simp only [Act.put, List.setIfInBounds_toArray, List.set_cons_zero, List.set_cons_succ]
  refine wpAnyH_done (by kernel_rfl) ?_ _
  go_wp2
  go_ret
  exact ⟨rfl, hs10.out.bel⟩
end Go.Proofs.YtdpkbhhmhmffnaaDoor
