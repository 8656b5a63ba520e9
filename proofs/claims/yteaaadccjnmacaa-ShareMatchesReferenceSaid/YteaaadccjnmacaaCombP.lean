/-
  The program's Combine, by a contract.
-/
import Derived.Test.YteaaadccjnmacaaRefrP
import Derived.Test.YteaaadccjnmacaaInterP
import Derived.Test.YteaaadccjnmacaaHand
namespace Go.Proofs.Yteaaadccjnmacaa
open Go.RowKit
attribute [local go_sem] zero56
attribute [local simp] Z56_ne

theorem interp_is (A : Option Addr) (N cap : Nat) (l : List Sh) (x : UInt8) (z : Int) (F n : Nat) (w : World) (hN : N = l.length) (hz : z = (x.toNat : Int)) (hs : ShL w w.heap.size A l) (h0 : 0 < l.length) (hl : l.length ≤ 1000000) (hn : ∀ s ∈ l, s.2.length = n) (hn0 : n ≤ 140737488351232) (hF : FB w F) :
    Calls Try.prog 26 #[.slice A N cap, .int .u8 z, .func (.func 27) #[.pointer (some ⟨F, 0, none⟩)] #[], .func (.func 28) #[.pointer (some ⟨F, 0, none⟩)] #[]] w
      fun e w' => ∃ g, e = .returned (.slice (some ⟨g, 0, none⟩) n n) ∧ Blk w' g (interpB l x n) ∧ w.heap.size ≤ g ∧ Below w.heap.size w w' := by
  subst hN hz
  exact interpolate_any A cap l x F n w hs h0 hl hn hn0 hF
theorem Blk.shows {w : World} {g : Nat} {l : List UInt8} (h : Blk w g l) : Shows w w.heap.size (some ⟨g, 0, none⟩) l := fun _ => ⟨g, 0, rfl, h.lt, fun i c hi => by
  have hl := (List.getElem?_eq_some_iff.1 hi).1
  rw [Nat.zero_add, h.cell i hl, byte_of hi]⟩

/-- The shares behind the first ones lie on the polynomials through these. -/
def Fits (l : List Sh) (need n : Nat) : Prop := ∀ s ∈ l.drop need, s.2 = interpB (l.take need) s.1 n

set_option maxHeartbeats 4000000 in
set_option maxRecDepth 20000 in
theorem combine_any (A : Option Addr) (N cap : Nat) (l : List Sh) (need n : Nat) (w : World) (hN : N = l.length) (hs : ShL w w.heap.size A l) (hl : l.length ≤ 1000000) (hc : N ≤ cap ∧ cap ≤ 9223372036854775807) (hn : ∀ s ∈ l, s.2.length = n) (hn0 : n ≤ 140737488351232) (h1 : 1 ≤ need) (h2 : need ≤ 255) (hw : wfB l = true) (hle : need ≤ N) :
    Calls Try.prog 9 #[.slice A N cap, .int .i64 (need : Int)] w fun e w' =>
      ((Fits l need n ∧ ∃ g, e = .returned (.tuple #[.slice (some ⟨g, 0, none⟩) n n, .int .i64 0]) ∧ Blk w' g (interpB (l.take need) 0 n) ∧ w.heap.size ≤ g) ∨
        (¬ Fits l need n ∧ e = .returned (.tuple #[.slice none 0 0, .int .i64 40]))) ∧ Below w.heap.size w w' := by
  have zn := Z56_ne
  have HS := Lib.hid hs
  have HN := Lib.hid hN
  have HL := Lib.hid hn
  have HW := Lib.hid (wellFormed_is A N cap l true w hN hs hl (fun s hs => by rw [hn s hs]; exact hn0) hw)
  have hNl : N ≤ 1000000 := by omega
  have hcap := hc.1
  have hcm := hc.2
  have i1 : ¬ (need : Int) < 1 := by omega
  have i3 : ¬ (need : Int) > 255 := by omega
  have i4 : ¬ (N : Int) < (need : Int) := by omega
  obtain ⟨b, off, rfl, hbB, _⟩ := hs (by omega)
  clear hs hN hn hw hc hl
  have HT : Hid (ShL w w.heap.size (some ⟨b, off, none⟩) (l.take need)) := HS.out.take need
  have HTL : Hid (need = (l.take need).length) := by show _ = _; rw [List.length_take, ← HN.out]; omega
  have HTN : Hid (∀ s ∈ l.take need, s.2.length = n) := fun s hs => HL.out s (List.mem_of_mem_take hs)
  have HIN : Hid (∀ (x : UInt8) (F : Nat) (w1 : World), Below w.heap.size w w1 → FB w1 F → Calls Try.prog 26 #[.slice (some ⟨b, off, none⟩) need cap, .int .u8 (x.toNat : Int), .func (.func 27) #[.pointer (some ⟨F, 0, none⟩)] #[], .func (.func 28) #[.pointer (some ⟨F, 0, none⟩)] #[]] w1
      fun e w' => ∃ g, e = .returned (.slice (some ⟨g, 0, none⟩) n n) ∧ Blk w' g (interpB (l.take need) x n) ∧ w1.heap.size ≤ g ∧ Below w1.heap.size w1 w') := fun x F w1 hb hf =>
    interp_is _ need cap (l.take need) x _ F n w1 HTL.out rfl (HT.out.up hb) (by rw [← HTL.out]; omega) (by rw [← HTL.out]; omega) HTN.out hn0 hf
  have k1 : (need : Int) ≤ (cap : Int) := by omega
  have k2 : (need : Int) ≤ (N : Int) := by omega
  have k3 : (N : Int) ≤ (cap : Int) := by omega
  obtain ⟨OA, hOA, hOS⟩ : ∃ OA : Option Addr, Hid ((if cap = need then (some ⟨b, off, none⟩ : Option Addr) else some ⟨b, off + need * 2, none⟩) = OA) ∧ Hid (ShL w w.heap.size OA (l.drop need)) := by
    refine ⟨_, rfl, ?_⟩
    have := HS.out.drop (k := need) (cap := cap) (by rw [← HN.out]; exact hcap)
    simp only [Option.map_some, Addr.add_lit] at this
    exact this
  go_enter Try.func9, Try.ntmps9
  go_wp2_with (first | (go_at_call 23; refine HW.out.mono ?_; rintro e w1 ⟨rfl, hb1⟩; have HB1 := Lib.hid hb1; clear hb1))
  go_quiet (fail)
  rw [hOA.out]
  have HB1q : Hid (Below w.heap.size w (w1.drewN nq)) := below_drewN HB1.out nq
  clear HW HB1
  generalize w1.drewN nq = w2 at *
  go_wp2_with (first
    | (go_at_call 24; refine (newField_any _).mono ?_; rintro e w3 ⟨rfl, hb3⟩; have HB3 : Hid (Below w.heap.size w w3) := (HB1q.out.trans (hb3.mono HB1q.out.size)); clear hb3)
    | ((with_reducible show wpList _ _ _ _ _ _); refine wpList_store_all rfl 55 (.tmp 8) (.tmp 34) rfl w3.heap.size (cb tabs) rfl rfl 55 Z56 511 (heap_alloc_new w3 _) infoF Z56_size (by rw [cb_len, tabs_len]) (cb_one _) ?_; intro w4 hf4 hg4 hz4; have HF4 := Lib.hid (fb_new hf4); have HB4 := Lib.hid (made_f HB3.out hg4); clear hf4 hg4 hz4))
  generalize hF : w3.heap.size = F at *
  have HFB : Hid (w.heap.size ≤ F) := by have := HB3.out.size; show _ ≤ _; omega
  clear hF HB3 HB1q
  obtain ⟨M, hM⟩ : ∃ M, M = N - need := ⟨_, rfl⟩
  have HM := Lib.hid hM
  have hMl : M ≤ 1000000 := by omega
  rw [← hM]
  clear hM
  go_loopw [37] (fun i wr => ∃ k : Nat, k ≤ M ∧ i = .int .i64 k ∧ Hid (FB wr F) ∧ Hid (Below w.heap.size w wr) ∧ Hid (∀ s ∈ (l.drop need).take k, s.2 = interpB (l.take need) s.1 n)) (fun i _ => M - (intOf i).toNat)
  case atStart => exact ⟨0, by omega, rfl, HF4, HB4, fun s hs => absurd hs (by simp)⟩
  case round =>
    clear HF4 HB4
    obtain ⟨k, hk, rfl, hfb, hbw, hfit⟩ := hrel
    obtain ⟨wo, hwo⟩ : ∃ wo : World, wo = wr := ⟨_, rfl⟩
    subst hwo
    by_cases hlt : k < M
    · have j1 : (k : Int) < (M : Int) := by omega
      obtain ⟨s, hsk⟩ : ∃ s, (l.drop need)[k]? = some s := ⟨(l.drop need)[k]'(by rw [List.length_drop, ← HN.out, ← HM.out]; exact hlt), by simp⟩
      obtain ⟨b2, off2, rfl, hbB2, c1, A1, n1, c2, hsh1, hle1, hmx1⟩ := (hOS.out.below hbw.out).one hsk
      have hsn := HL.out s (List.mem_of_mem_drop (List.mem_of_getElem? hsk))
      have HSN := Lib.hid hsn
      have HSK := Lib.hid hsk
      have HS1 := Lib.hid hsh1
      rw [hsn] at c2 hle1
      clear hsk hsh1 hsn
      go_wp2
      have hbx : Hid ((wo.alloc (.cells #[.int .u8 (s.1.toNat : Int), .slice A1 n n1] 29)).cell? ⟨wo.heap.size, 0, none⟩ = some (.int .u8 (s.1.toNat : Int)) ∧ (wo.alloc (.cells #[.int .u8 (s.1.toNat : Int), .slice A1 n n1] 29)).cell? ⟨wo.heap.size, 1, none⟩ = some (.slice A1 n n1)) := by
        have hnew := heap_alloc_new wo (.cells #[.int .u8 (s.1.toNat : Int), .slice A1 n n1] 29)
        exact ⟨cell_of_row _ wo.heap.size 0 _ _ (0, 0) hnew, cell_of_row _ wo.heap.size 1 _ _ (0, 0) hnew⟩
      have hK5 : Hid (wo.heap.size < (wo.alloc (.cells #[.int .u8 (s.1.toNat : Int), .slice A1 n n1] 29)).heap.size) := by show _ < _; simp
      have hbo : Hid (Below wo.heap.size wo (wo.alloc (.cells #[.int .u8 (s.1.toNat : Int), .slice A1 n n1] 29))) := below_alloc _
      have HF5 : Hid (FB (wo.alloc (.cells #[.int .u8 (s.1.toNat : Int), .slice A1 n n1] 29)) F) := hfb.out.alloc _
      generalize hw5 : (wo.alloc (.cells #[.int .u8 (s.1.toNat : Int), .slice A1 n n1] 29)) = w5 at *
      clear hw5
      have hbw5 : Hid (Below w.heap.size w w5) := hbw.out.trans (hbo.out.mono hbw.out.size)
      have hw5 : Hid (w.heap.size ≤ w5.heap.size) := hbw5.out.size
      have hwo2 : Hid (w.heap.size ≤ wo.heap.size) := hbw.out.size
      generalize hK : wo.heap.size = K at *
      clear hK
      have HCALL : Hid (Calls Try.prog 26 #[.slice (some ⟨b, off, none⟩) need cap, .int .u8 (s.1.toNat : Int), .func (.func 27) #[.pointer (some ⟨F, 0, none⟩)] #[], .func (.func 28) #[.pointer (some ⟨F, 0, none⟩)] #[]] w5.drew
          fun e w' => ∃ g, e = .returned (.slice (some ⟨g, 0, none⟩) n n) ∧ Blk w' g (interpB (l.take need) s.1 n) ∧ w5.heap.size ≤ g ∧ Below w5.heap.size w5 w') := by
        refine (HIN.out s.1 F w5.drew hbw5.out.drew HF5.out).mono ?_
        rintro e w' ⟨g, h1, h2, h3, h4⟩
        exact ⟨g, h1, h2, h3, (Below.drew (Below.refl _ _)).trans h4⟩
      have hs0 : Hid (Below w5.heap.size w5 w5.drew) := Below.drew (Below.refl _ _)
      have HEQ0 : Hid (∀ (g6 : Nat) (w6 : World), Blk w6 g6 (interpB (l.take need) s.1 n) → Below w5.heap.size w5 w6 → Calls Try.prog 25 #[.slice A1 n n1, .slice (some ⟨g6, 0, none⟩) n n] w6 fun e w' => e = .returned (.bool (decide (s.2 = interpB (l.take need) s.1 n))) ∧ w' = w6) := fun g6 w6 h1 h2 =>
        bytesEqual_any A1 n1 n s.2 _ n n _ w6 (((HS1.out.below (hbo.out.mono hwo2.out)).more hw5.out).up h2) h1.shows HSN.out.symm (by unfold interpB; rw [yAt_len])
      clear hbo
      by_cases hde : s.2 = interpB (l.take need) s.1 n
      · have HDE := Lib.hid hde
        have HEQ : Hid (∀ (g6 : Nat) (w6 : World), Blk w6 g6 (interpB (l.take need) s.1 n) → Below w5.heap.size w5 w6 → Calls Try.prog 25 #[.slice A1 n n1, .slice (some ⟨g6, 0, none⟩) n n] w6 fun e w' => e = .returned (.bool true) ∧ w' = w6) := by
          have := HEQ0.out
          rw [decide_eq_true hde] at this
          exact this
        clear hde HEQ0
        refine wp_region_held_drew (S := fun w' => Hid (Below w5.heap.size w5 w')) (by kernel_rfl) hs0 (fun hHeld => ?_)
        refine hand_take (i := 0) (v := ?_) rfl (by kernel_rfl) (by kernel_rfl) (by kernel_rfl) (fun _ _ _ h => h) (Or.inl ⟨by rfl, ?_⟩) (by assumption) ?_
        rotate_left
        · intro w hSw
          clear hSw
          go_simp
          try with_reducible rfl
        try simp only [Act.put, List.setIfInBounds_toArray, List.set_cons_zero, List.set_cons_succ]
        refine hand_take (i := 1) (v := ?_) rfl (by kernel_rfl) (by kernel_rfl) (by kernel_rfl) (fun _ _ _ h => h) (Or.inl ⟨by rfl, ?_⟩) (by assumption) ?_
        rotate_left
        · intro w hSw
          have hx := (hSw.out.cell (p := ⟨K, 1, none⟩) hK5.out).trans hbx.out.2
          clear hSw
          go_simp
          try with_reducible rfl
        try simp only [Act.put, List.setIfInBounds_toArray, List.set_cons_zero, List.set_cons_succ]
        refine hand_take (i := 2) (v := ?_) rfl (by kernel_rfl) (by kernel_rfl) (by kernel_rfl) (fun _ _ _ h => h) (Or.inl ⟨by rfl, ?_⟩) (by assumption) ?_
        rotate_left
        · intro w hSw
          clear hSw
          go_simp
          try with_reducible rfl
        try simp only [Act.put, List.setIfInBounds_toArray, List.set_cons_zero, List.set_cons_succ]
        refine hand_take (i := 3) (v := ?_) rfl (by kernel_rfl) (by kernel_rfl) (by kernel_rfl) (fun _ _ _ h => h) (Or.inl ⟨by rfl, ?_⟩) (by assumption) ?_
        rotate_left
        · intro w hSw
          clear hSw
          go_simp
          try with_reducible rfl
        try simp only [Act.put, List.setIfInBounds_toArray, List.set_cons_zero, List.set_cons_succ]
        refine hand_take (i := 4) (v := ?_) rfl (by kernel_rfl) (by kernel_rfl) (by kernel_rfl) (fun _ _ _ h => h) (Or.inl ⟨by rfl, ?_⟩) (by assumption) ?_
        rotate_left
        · intro w hSw
          have hx := (hSw.out.cell (p := ⟨K, 0, none⟩) hK5.out).trans hbx.out.1
          clear hSw
          go_simp
          try with_reducible rfl
        try simp only [Act.put, List.setIfInBounds_toArray, List.set_cons_zero, List.set_cons_succ]
        refine hand_take (i := 5) (v := ?_) rfl (by kernel_rfl) (by kernel_rfl) (by kernel_rfl) (fun _ _ _ h => h) (Or.inl ⟨by rfl, ?_⟩) (by assumption) ?_
        rotate_left
        · intro w hSw
          clear hSw
          go_simp
          try with_reducible rfl
        try simp only [Act.put, List.setIfInBounds_toArray, List.set_cons_zero, List.set_cons_succ]
        refine hand_take (i := 6) (v := ?_) rfl (by kernel_rfl) (by kernel_rfl) (by kernel_rfl) (fun _ _ _ h => h) (Or.inl ⟨by rfl, ?_⟩) (by assumption) ?_
        rotate_left
        · intro w hSw
          clear hSw
          go_simp
          try with_reducible rfl
        try simp only [Act.put, List.setIfInBounds_toArray, List.set_cons_zero, List.set_cons_succ]
        refine wpAnyH_ready (rs := [7]) (by kernel_rfl) (by simp) ?_
        refine hand_cons rfl (fun KK hK => ?_) AllReadyH.nil
        go_simp
        go_at_call 26
        refine HCALL.out.mono ?_
        rintro e w6 ⟨g6, rfl, hk6, hl6, hb6⟩
        have HK6 := Lib.hid hk6
        have HB6 := Lib.hid hb6
        clear hk6 hl6 hb6
        go_wp2_with fail
        refine hK.out _ _ (HB6) (fun hHeld => ?_)
        clear hK KK
        try simp only [Act.put, List.setIfInBounds_toArray, List.set_cons_zero, List.set_cons_succ]
        refine wpAnyH_ready (rs := [8]) (by kernel_rfl) (by simp) ?_
        refine hand_cons rfl (fun KK hK => ?_) AllReadyH.nil
        go_simp
        go_at_call 25
        refine (HEQ.out g6 w6 HK6.out HB6.out).mono ?_
        rintro e w7 ⟨rfl, rfl⟩
        go_wp2_with fail
        refine hK.out _ _ (HB6) (fun hHeld => ?_)
        clear hK KK
        try simp only [Act.put, List.setIfInBounds_toArray, List.set_cons_zero, List.set_cons_succ]
        refine hand_take (i := 9) (v := ?_) rfl (by kernel_rfl) (by kernel_rfl) (by kernel_rfl) (fun _ _ _ h => h) (Or.inl ⟨by rfl, ?_⟩) (by assumption) ?_
        rotate_left
        · intro w hSw
          clear hSw
          go_simp
          try with_reducible rfl
        try simp only [Act.put, List.setIfInBounds_toArray, List.set_cons_zero, List.set_cons_succ]
        refine wpAnyH_done (by kernel_rfl) ?_ _
        go_wp2
        go_roundw
        case rel =>
          refine ⟨k + 1, by omega, by go_num, HF5.out.up HB6.out, hbw5.out.trans (HB6.out.mono hw5.out), ?_⟩
          intro t ht
          rw [List.take_add_one, HSK.out] at ht
          rcases List.mem_append.1 ht with h | h
          · exact hfit.out t h
          · have : t = s := by simpa using h
            subst this
            exact HDE.out
        case measure => simp [intOf]; omega
      · have HDE := Lib.hid hde
        have HEQ : Hid (∀ (g6 : Nat) (w6 : World), Blk w6 g6 (interpB (l.take need) s.1 n) → Below w5.heap.size w5 w6 → Calls Try.prog 25 #[.slice A1 n n1, .slice (some ⟨g6, 0, none⟩) n n] w6 fun e w' => e = .returned (.bool false) ∧ w' = w6) := by
          have := HEQ0.out
          rw [decide_eq_false hde] at this
          exact this
        clear hde HEQ0
        refine wp_region_held_drew (S := fun w' => Hid (Below w5.heap.size w5 w')) (by kernel_rfl) hs0 (fun hHeld => ?_)
        refine hand_take (i := 0) (v := ?_) rfl (by kernel_rfl) (by kernel_rfl) (by kernel_rfl) (fun _ _ _ h => h) (Or.inl ⟨by rfl, ?_⟩) (by assumption) ?_
        rotate_left
        · intro w hSw
          clear hSw
          go_simp
          try with_reducible rfl
        try simp only [Act.put, List.setIfInBounds_toArray, List.set_cons_zero, List.set_cons_succ]
        refine hand_take (i := 1) (v := ?_) rfl (by kernel_rfl) (by kernel_rfl) (by kernel_rfl) (fun _ _ _ h => h) (Or.inl ⟨by rfl, ?_⟩) (by assumption) ?_
        rotate_left
        · intro w hSw
          have hx := (hSw.out.cell (p := ⟨K, 1, none⟩) hK5.out).trans hbx.out.2
          clear hSw
          go_simp
          try with_reducible rfl
        try simp only [Act.put, List.setIfInBounds_toArray, List.set_cons_zero, List.set_cons_succ]
        refine hand_take (i := 2) (v := ?_) rfl (by kernel_rfl) (by kernel_rfl) (by kernel_rfl) (fun _ _ _ h => h) (Or.inl ⟨by rfl, ?_⟩) (by assumption) ?_
        rotate_left
        · intro w hSw
          clear hSw
          go_simp
          try with_reducible rfl
        try simp only [Act.put, List.setIfInBounds_toArray, List.set_cons_zero, List.set_cons_succ]
        refine hand_take (i := 3) (v := ?_) rfl (by kernel_rfl) (by kernel_rfl) (by kernel_rfl) (fun _ _ _ h => h) (Or.inl ⟨by rfl, ?_⟩) (by assumption) ?_
        rotate_left
        · intro w hSw
          clear hSw
          go_simp
          try with_reducible rfl
        try simp only [Act.put, List.setIfInBounds_toArray, List.set_cons_zero, List.set_cons_succ]
        refine hand_take (i := 4) (v := ?_) rfl (by kernel_rfl) (by kernel_rfl) (by kernel_rfl) (fun _ _ _ h => h) (Or.inl ⟨by rfl, ?_⟩) (by assumption) ?_
        rotate_left
        · intro w hSw
          have hx := (hSw.out.cell (p := ⟨K, 0, none⟩) hK5.out).trans hbx.out.1
          clear hSw
          go_simp
          try with_reducible rfl
        try simp only [Act.put, List.setIfInBounds_toArray, List.set_cons_zero, List.set_cons_succ]
        refine hand_take (i := 5) (v := ?_) rfl (by kernel_rfl) (by kernel_rfl) (by kernel_rfl) (fun _ _ _ h => h) (Or.inl ⟨by rfl, ?_⟩) (by assumption) ?_
        rotate_left
        · intro w hSw
          clear hSw
          go_simp
          try with_reducible rfl
        try simp only [Act.put, List.setIfInBounds_toArray, List.set_cons_zero, List.set_cons_succ]
        refine hand_take (i := 6) (v := ?_) rfl (by kernel_rfl) (by kernel_rfl) (by kernel_rfl) (fun _ _ _ h => h) (Or.inl ⟨by rfl, ?_⟩) (by assumption) ?_
        rotate_left
        · intro w hSw
          clear hSw
          go_simp
          try with_reducible rfl
        try simp only [Act.put, List.setIfInBounds_toArray, List.set_cons_zero, List.set_cons_succ]
        refine wpAnyH_ready (rs := [7]) (by kernel_rfl) (by simp) ?_
        refine hand_cons rfl (fun KK hK => ?_) AllReadyH.nil
        go_simp
        go_at_call 26
        refine HCALL.out.mono ?_
        rintro e w6 ⟨g6, rfl, hk6, hl6, hb6⟩
        have HK6 := Lib.hid hk6
        have HB6 := Lib.hid hb6
        clear hk6 hl6 hb6
        go_wp2_with fail
        refine hK.out _ _ (HB6) (fun hHeld => ?_)
        clear hK KK
        try simp only [Act.put, List.setIfInBounds_toArray, List.set_cons_zero, List.set_cons_succ]
        refine wpAnyH_ready (rs := [8]) (by kernel_rfl) (by simp) ?_
        refine hand_cons rfl (fun KK hK => ?_) AllReadyH.nil
        go_simp
        go_at_call 25
        refine (HEQ.out g6 w6 HK6.out HB6.out).mono ?_
        rintro e w7 ⟨rfl, rfl⟩
        go_wp2_with fail
        refine hK.out _ _ (HB6) (fun hHeld => ?_)
        clear hK KK
        try simp only [Act.put, List.setIfInBounds_toArray, List.set_cons_zero, List.set_cons_succ]
        refine hand_take (i := 9) (v := ?_) rfl (by kernel_rfl) (by kernel_rfl) (by kernel_rfl) (fun _ _ _ h => h) (Or.inl ⟨by rfl, ?_⟩) (by assumption) ?_
        rotate_left
        · intro w hSw
          clear hSw
          go_simp
          try with_reducible rfl
        try simp only [Act.put, List.setIfInBounds_toArray, List.set_cons_zero, List.set_cons_succ]
        refine wpAnyH_done (by kernel_rfl) ?_ _
        go_wp2
        go_ret2
        exact ⟨.inr ⟨fun hF => HDE.out (hF s (List.mem_of_getElem? HSK.out)), rfl⟩, hbw5.out.trans (HB6.out.mono hw5.out)⟩
    · have j1 : ¬ (k : Int) < (M : Int) := by omega
      have hkM : k = M := by omega
      have HCALL : Hid (Calls Try.prog 26 #[.slice (some ⟨b, off, none⟩) need cap, .int .u8 0, .func (.func 27) #[.pointer (some ⟨F, 0, none⟩)] #[], .func (.func 28) #[.pointer (some ⟨F, 0, none⟩)] #[]] wo
          fun e w' => ∃ g, e = .returned (.slice (some ⟨g, 0, none⟩) n n) ∧ Blk w' g (interpB (l.take need) 0 n) ∧ wo.heap.size ≤ g ∧ Below wo.heap.size wo w') := HIN.out 0 F wo hbw.out hfb.out
      go_wp2_with (first | (go_at_call 26; refine HCALL.out.mono ?_; rintro e w6 ⟨g6, rfl, hk6, hl6, hb6⟩; have HK6 := Lib.hid hk6; have HB6 := Lib.hid hb6; have HL6 := Lib.hid hl6; clear hk6 hb6 hl6))
      go_ret2
      refine ⟨.inl ⟨?_, g6, rfl, HK6.out, Nat.le_trans hbw.out.size HL6.out⟩, hbw.out.trans (HB6.out.mono hbw.out.size)⟩
      intro s hs
      refine hfit.out s ?_
      rw [hkM, HM.out, HN.out, List.take_of_length_le (by rw [List.length_drop]; exact Nat.le_refl _)]
      exact hs
end Go.Proofs.Yteaaadccjnmacaa
