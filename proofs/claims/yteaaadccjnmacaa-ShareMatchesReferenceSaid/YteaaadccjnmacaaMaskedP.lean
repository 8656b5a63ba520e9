/-
  The program's masked, by a contract: the walk.
-/
import Derived.Test.YteaaadccjnmacaaMadeP
import Derived.Test.YteaaadccjnmacaaHand
namespace Go.Proofs.Yteaaadccjnmacaa
open Go.RowKit
attribute [local go_sem] u8_xor zero56
attribute [local simp] Z56_ne

/-- the state of masked's outer loop -/
structure MO (w wr : World) (F M N k : Nat) (res : List Sh) : Prop where
  fb : FB wr F
  sg : SG wr M N k res
  bel : Below w.heap.size w wr
/-- the state of the inner loop -/
structure MI (w5 wq : World) (B K : Nat) (A5 : Option Addr) (c5 : Nat) (x : UInt8) (m : Nat) (r b : List UInt8) (j : Nat) (Rj : Option Addr) (cj : Nat) : Prop where
  own : Owns wq K (.slice A5 b.length c5) (curB x m r b j)
  sh : Shows wq B Rj (r.drop (j * m))
  le : (r.drop (j * m)).length ≤ cj ∧ cj ≤ 9223372036854775807
  bel : Below K w5 wq

set_option maxHeartbeats 4000000 in
set_option maxRecDepth 20000 in
theorem masked_any (A : Option Addr) (cap : Nat) (l : List Sh) (R : Option Addr) (rcap : Nat) (r : List UInt8) (need : Nat) (w : World) (hs : ShL w w.heap.size A l) (hl : l.length ≤ 1000000) (hn : ∀ s ∈ l, s.2.length ≤ 140737488351232)
    (hr : Shows w w.heap.size R r) (hrl : r.length ≤ 140737488351232) (hrc : r.length ≤ rcap ∧ rcap ≤ 9223372036854775807) (h1 : 1 ≤ need) (h2 : need ≤ 255) :
    Calls Try.prog 20 #[.slice A l.length cap, .slice R r.length rcap, .int .i64 (need : Int)] w fun e w' => ∃ g, e = .returned (.slice (some ⟨g, 0, none⟩) l.length l.length) ∧ ShL w' w'.heap.size (some ⟨g, 0, none⟩) (masks (need - 1) r l) ∧ Below w.heap.size w w' := by
  have zn := Z56_ne
  have HS := Lib.hid hs
  have HR := Lib.hid hr
  obtain ⟨N, hN⟩ : ∃ N, N = l.length := ⟨_, rfl⟩
  obtain ⟨rl0, hrl0⟩ : ∃ n, n = r.length := ⟨_, rfl⟩
  obtain ⟨m, hm⟩ : ∃ m, need = m + 1 := ⟨need - 1, by omega⟩
  subst hm
  have HN := Lib.hid hN
  have HRL := Lib.hid hrl0
  have HL := Lib.hid hn
  have HB := Lib.hid (And.intro hrl hrc)
  have hm255 : m ≤ 254 := by omega
  rw [← hN] at hl ⊢
  rw [← hrl0] at hrl ⊢
  clear hs hr hn hN hrl0 hrc h1 h2
  rw [show m + 1 - 1 = m from rfl]
  obtain ⟨res, hres⟩ : ∃ res, res = masks m r l := ⟨_, rfl⟩
  have HRES := Lib.hid hres
  rw [← hres]
  clear hres
  go_enter Try.func20, Try.ntmps20
  go_wp2_with (first
    | (go_at_call 24; refine (newField_any _).mono ?_; rintro e w1 ⟨rfl, hb1⟩; have HB1 := Lib.hid hb1; clear hb1)
    | ((with_reducible show wpList _ _ _ _ _ _); refine wpList_store_all rfl 55 (.tmp 7) (.tmp 15) rfl w1.heap.size (cb tabs) rfl rfl 55 Z56 511 (heap_alloc_new w1 _) infoF Z56_size (by rw [cb_len, tabs_len]) (cb_one _) ?_; intro w2 hf2 hg2 hz2; have HF2 := Lib.hid (fb_new hf2); have HB2 := Lib.hid (made_f HB1.out hg2); have HZ2 : Hid (w2.heap.size = w1.heap.size + 1) := (hz2.trans (by simp)); clear hf2 hg2 hz2)
    | ((with_reducible show wpList _ _ _ _ _ _); refine wpList_make_sh w2 rfl (.tmp 17) rfl N rfl (by omega) res ?_; intro w3 hs3 hb3 hz3; have H3 : Hid (MO w w3 w1.heap.size w2.heap.size N 0 res) := ⟨HF2.out.up hb3, hs3.out, HB2.out.trans (hb3.mono HB2.out.size)⟩; clear hs3 hb3 hz3))
  generalize hF : w1.heap.size = F at *
  generalize hM : w2.heap.size = M at *
  have HFM : Hid (w.heap.size ≤ F ∧ M = F + 1) := by
    have := HB1.out.size
    have := HZ2.out
    exact ⟨by omega, by omega⟩
  clear hF hM HB1 HF2 HB2 HZ2
  go_loopw [21] (fun i wr => ∃ k : Nat, k ≤ N ∧ i = .int .i64 k ∧ Hid (MO w wr F M N k res)) (fun i _ => N - (intOf i).toNat)
  case atStart => exact ⟨0, by omega, rfl, H3⟩
  case round =>
    clear H3
    obtain ⟨k, hk, rfl, ho⟩ := hrel
    obtain ⟨wo, hwo⟩ : ∃ wo : World, wo = wr := ⟨_, rfl⟩
    subst hwo
    by_cases hlt : k < N
    · have i1 : (k : Int) < (N : Int) := by omega
      obtain ⟨s, hsk⟩ : ∃ s, l[k]? = some s := ⟨l[k]'(by rw [← HN.out]; exact hlt), by simp⟩
      obtain ⟨b, off, rfl, hbB, c1, A1, n1, c2, hsh1, hle1, hmx1⟩ := (HS.out.below ho.out.bel).one hsk
      have hsl := HL.out s (List.mem_of_getElem? hsk)
      have HSK := Lib.hid hsk
      have hlt2 := ho.out.sg.lt
      have hBM : w.heap.size ≤ wo.heap.size := ho.out.bel.size
      have HS1 := Lib.hid hsh1
      clear hsh1 hsk
      go_wp2_with (go_at_call 34; refine (clone_any A1 n1 s.2 _ ((HS1.out.more hBM).up (below_alloc _)) hsl).mono ?_; rintro e w5 ⟨A5, c5, rfl, ho5, hb5⟩)
      have hsz : (wo.alloc (.cells #[.int .u8 (s.1.toNat : Int), .slice A1 s.2.length n1] 29)).heap.size = wo.heap.size + 1 := by simp
      have hnew := heap_alloc_new wo (.cells #[.int .u8 (s.1.toNat : Int), .slice A1 s.2.length n1] 29)
      have hbx : Hid (w5.cell? ⟨wo.heap.size, 0, none⟩ = some (.int .u8 (s.1.toNat : Int))) := by
        have h0 := cell_of_row _ wo.heap.size 0 _ _ (0, 0) hnew
        exact (hb5.cell (p := ⟨wo.heap.size, 0, none⟩) (by show wo.heap.size < _; rw [hsz]; omega)).trans h0
      have hbr : Hid (Below wo.heap.size wo w5) := (below_alloc _).trans (hb5.mono (by rw [hsz]; omega))
      rw [hsz] at ho5 hb5
      have HO5 := Lib.hid ho5
      have HB5 := Lib.hid hb5
      have hsz5 : Hid (wo.heap.size + 1 ≤ w5.heap.size) := by have := hb5.size; rw [hsz] at this; exact this
      clear ho5 hb5 hsz hnew
      obtain ⟨L, hL⟩ : ∃ L, L = s.2.length := ⟨_, rfl⟩
      have HLL := Lib.hid hL
      rw [← hL] at c2 hle1 hsl ⊢
      clear hL
      generalize hK : wo.heap.size = S at *
      have HK := Lib.hid hK
      clear hK
      have hmi : Hid (MI w5 w5 w.heap.size (S + 1) A5 c5 s.1 m r s.2 0 R rcap) := by
        refine ⟨?_, ?_, ?_, Below.refl _ _⟩
        · rw [curB_zero]
          exact HO5.out
        · rw [Nat.zero_mul, List.drop_zero]
          exact HR.out.below (ho.out.bel.trans (hbr.out.mono hBM))
        · rw [Nat.zero_mul, List.drop_zero]
          exact HB.out.2
      go_loopw [12, 32] (fun rest i wq => ∃ (j q : Nat) (Rj : Option Addr) (cj : Nat), j ≤ L ∧ i = .int .i64 j ∧ rest = .slice Rj q cj ∧ Hid (q = (r.drop (j * m)).length) ∧ Hid (MI w5 wq w.heap.size (S + 1) A5 c5 s.1 m r s.2 j Rj cj)) (fun _ i _ => L - (intOf i).toNat)
      case atStart => exact ⟨0, rl0, R, rcap, by omega, rfl, rfl, (show _ = _ by rw [Nat.zero_mul, List.drop_zero]; exact HRL.out), hmi⟩
      case round =>
        clear hmi
        obtain ⟨j, q, Rj, cj, hj, rfl, rfl, hq, hi⟩ := hrel
        obtain ⟨wi, hwi⟩ : ∃ wi : World, wi = wr := ⟨_, rfl⟩
        subst hwi
        have hS0 : wi.cell? ⟨S, 0, none⟩ = some (.int .u8 (s.1.toNat : Int)) := (hi.out.bel.cell (p := ⟨S, 0, none⟩) (Nat.lt_succ_self S)).trans hbx.out
        have hb : Hid (Below S wo wi) := hbr.out.trans (hi.out.bel.mono (Nat.le_succ S))
        by_cases hjl : j < L
        · have j1 : (j : Int) < (L : Int) := by omega
          obtain ⟨g, rfl, hgS, hgl, hgc⟩ : ∃ g, A5 = some ⟨g, 0, none⟩ ∧ S + 1 ≤ g ∧ g < wi.heap.size ∧ L ≤ c5 := by
            rcases hi.out.own.shape with ⟨_, e⟩ | ⟨g, cap', e, h1, h2, h3⟩
            · have h4 := congrArg List.length e
              rw [curB_len, List.length_nil] at h4
              have := HLL.out
              omega
            · injection e with e1 e2 e3
              subst e1 e3
              rw [curB_len] at h3
              exact ⟨g, rfl, h1, h2, by have := HLL.out; omega⟩
          have d1 : wi.cell? ⟨g, j, none⟩ = some (.int .u8 ((byte s.2 j).toNat : Int)) := by
            have h1 := hi.out.own
            unfold Owns at h1
            rw [curB_len] at h1
            have h2 := World.ownsRow.cellAt h1 j (by have := HLL.out; omega)
            rw [h2]
            simp only [cb, List.getElem?_map, curB_at _ _ _ _ _ (show j < s.2.length by have := HLL.out; omega)]
            rfl
          have f1 : wi.frozen? ⟨g, j, none⟩ = false := by
            have h1 := hi.out.own
            unfold Owns at h1
            rw [curB_len] at h1
            exact World.ownsRow.frozenAt h1 j
          obtain ⟨nn, hnn, e1, e2, e3, e4⟩ : ∃ nn : Nat, Hid (nn = min m q) ∧ min (m : Int) (q : Int) = (nn : Int) ∧ nn ≤ q ∧ nn ≤ cj ∧ (nn : Int) ≤ (cj : Int) := by
            have h1 := hq.out
            have h2 := hi.out.le.1
            exact ⟨min m q, rfl, by omega, by omega, by omega, by omega⟩
          have hlo : F < S := by have := HFM.out; omega
          have hfb : Hid (FB wi F) := ho.out.fb.below hb.out hlo
          have hzi : w.heap.size ≤ wi.heap.size := by have := ho.out.bel.size; have := hb.out.size; omega
          have hsh : Hid (Shows wi wi.heap.size Rj ((r.drop (j * m)).take m)) := (hi.out.sh.first).more hzi
          have hnl : Hid (nn = ((r.drop (j * m)).take m).length ∧ ((r.drop (j * m)).take m).length ≤ 140737488351232) := by
            have h1 := hq.out
            have h2 := hnn.out
            have h3 := HB.out.1
            have h4 : q ≤ r.length := by rw [h1, List.length_drop]; omega
            rw [List.length_take, ← h1]
            exact ⟨by omega, by omega⟩
          obtain ⟨bj, hbj⟩ : ∃ x, x = byte s.2 j := ⟨_, rfl⟩
          rw [← hbj] at d1
          have HBJ := Lib.hid hbj
          obtain ⟨mv, hmv⟩ : ∃ x, x = maskV s.1 ((r.drop (j * m)).take m) := ⟨_, rfl⟩
          have HMV := Lib.hid hmv
          clear hbj hmv
          have hSg : S < g := by omega
          have hstep : ∀ w6 : World, Below wi.heap.size wi w6 → MI w5 (w6.setCell ⟨g, j, none⟩ (.int .u8 ((bj ^^^ mv).toNat : Int))) w.heap.size (S + 1) (some ⟨g, 0, none⟩) c5 s.1 m r s.2 (j + 1) (if cj = nn then Rj else Rj.map (·.add nn)) (cj - nn) := by
            intro w6 hb6
            have hle := hi.out.le
            have hq' := hq.out
            have hnn' := hnn.out
            have hgr := grown_set w6 g j (.int .u8 ((bj ^^^ mv).toNat : Int))
            have hbb : Below (S + 1) w6 (w6.setCell ⟨g, j, none⟩ (.int .u8 ((bj ^^^ mv).toNat : Int))) := (Below.refl _ _).grown hgr (by have := hb6.size; omega) (fun k hk => by injection hk with hk; omega)
            have hb7 : Below (S + 1) wi (w6.setCell ⟨g, j, none⟩ (.int .u8 ((bj ^^^ mv).toNat : Int))) := (hb6.mono (by omega)).trans hbb
            have hdd : r.drop ((j + 1) * m) = (r.drop (j * m)).drop m := by rw [List.drop_drop, Nat.add_mul, Nat.one_mul]
            have hld : ((r.drop (j * m)).drop m).length = q - nn := by rw [List.length_drop, ← hq']; omega
            refine ⟨?_, ?_, ?_, hi.out.bel.trans hb7⟩
            · have h1 : Owns w6 (S + 1) (.slice (some ⟨g, 0, none⟩) s.2.length c5) (curB s.1 m r s.2 j) := by
                have h2 := hi.out.own
                unfold Owns at h2 ⊢
                obtain ⟨e1, h3⟩ := h2
                refine ⟨e1, ?_⟩
                rcases h3 with ⟨e, _⟩ | ⟨g', cap', cur, e, r1, r2, r3⟩
                · cases e
                · injection e with e1 e2 e3
                  injection e1 with e1
                  injection e1 with e1
                  subst e1 e3
                  exact .inr ⟨g, c5, cur, by rw [curB_len], r1, (hb6.block g hgl).trans r2, r3⟩
              unfold Owns at h1 ⊢
              rw [curB_len] at h1 ⊢
              have h4 := (World.ownsRow.stored h1 j (.int .u8 ((bj ^^^ mv).toNat : Int))).1
              rw [← cb_set, HBJ.out, HMV.out, curB_set _ _ _ _ _ (by have := HLL.out; omega)] at h4
              rw [HBJ.out, HMV.out]
              exact h4
            · rw [hdd]
              have h1 := hi.out.sh.below (hb7.mono (by have := hBM; omega))
              have hd2 : ((r.drop (j * m)).drop nn).take (q - nn) = (r.drop (j * m)).drop m := by
                have : (r.drop (j * m)).drop nn = (r.drop (j * m)).drop m := by
                  by_cases hmq : m ≤ q
                  · rw [show nn = m by omega]
                  · rw [List.drop_of_length_le (by rw [← hq']; omega), List.drop_of_length_le (by rw [← hq']; omega)]
                rw [this, List.take_of_length_le (by omega)]
              have h2 := h1.cut (k := nn) (n := q - nn) (cap := cj) (by rw [← hq']; omega) hle.1
              rwa [hd2] at h2
            · rw [hdd, hld]
              omega
          have HST := Lib.hid hstep
          clear hstep
          have HCALL : Hid (Calls Try.prog 35 #[.int .u8 (s.1.toNat : Int), .slice Rj nn cj, .func (.func 27) #[.pointer (some ⟨F, 0, none⟩)] #[]] wi.drew fun e w6 => e = .returned (.int .u8 (mv.toNat : Int)) ∧ Below wi.heap.size wi w6) := by
            show Calls _ _ _ _ _
            rw [HMV.out]
            exact (maskAt_is s.1 Rj nn cj ((r.drop (j * m)).take m) F _ wi.drew rfl hnl.out.1 hfb.out hsh.out hnl.out.2).mono fun e w6 h => ⟨h.1, (Below.drew (Below.refl _ wi)).trans h.2⟩
          have HFZ : Hid (∀ w6 : World, Below wi.heap.size wi w6 → w6.frozen? ⟨g, j, none⟩ = wi.frozen? ⟨g, j, none⟩) := by
            intro w6 hb6
            unfold World.frozen?
            simp only [hb6.block g hgl]
          have hSz : Hid (S + 1 ≤ wi.heap.size) := Nat.le_trans hgS (Nat.le_of_lt hgl)
          have HB8 : Hid (∀ w6 : World, Below wi.heap.size wi w6 → Below (S + 1) wi (w6.setCell ⟨g, j, none⟩ (.int .u8 ((bj.toNat ^^^ mv.toNat : Nat) : Int)))) := by
            intro w6 hb6
            exact (hb6.mono hSz.out).setCell (p := ⟨g, j, none⟩) hgS _
          have HQ : Hid (q - nn = (r.drop ((j + 1) * m)).length) := by
            have h1 := hq.out
            have h2 := hnn.out
            show _ = _
            rw [show (j + 1) * m = j * m + m by rw [Nat.add_mul, Nat.one_mul], ← List.drop_drop, List.length_drop, ← h1]
            omega
          have hs0 : Hid (Below (S + 1) wi wi.drew) := Below.drew (Below.refl _ _)
          clear hfb hsh hnl hb
          go_wp2
          refine wp_region_held_drew (S := fun w' => Hid (Below (S + 1) wi w')) (by kernel_rfl) hs0 (fun hHeld => ?_)
          refine hand_take (i := 0) (v := ?_) rfl (by kernel_rfl) (by kernel_rfl) (by kernel_rfl) (fun _ _ _ h => h) (Or.inl ⟨by rfl, ?_⟩) (by assumption) ?_
          rotate_left
          · intro w hSw
            clear hSw
            go_simp
            try with_reducible rfl
          try simp only [Act.put, List.setIfInBounds_toArray, List.set_cons_zero, List.set_cons_succ]
          refine hand_take (i := 1) (v := ?_) rfl (by kernel_rfl) (by kernel_rfl) (by kernel_rfl) (fun _ _ _ h => h) (Or.inl ⟨by rfl, ?_⟩) (by assumption) ?_
          rotate_left
          · intro w hSw
            clear hSw
            go_simp
            try with_reducible rfl
          try simp only [Act.put, List.setIfInBounds_toArray, List.set_cons_zero, List.set_cons_succ]
          refine hand_take (i := 2) (v := ?_) rfl (by kernel_rfl) (by kernel_rfl) (by kernel_rfl) (fun _ _ _ h => h) (Or.inl ⟨by rfl, ?_⟩) (by assumption) ?_
          rotate_left
          · intro w hSw
            clear hSw
            go_simp
            try with_reducible rfl
          try simp only [Act.put, List.setIfInBounds_toArray, List.set_cons_zero, List.set_cons_succ]
          refine hand_take (i := 4) (v := ?_) rfl (by kernel_rfl) (by kernel_rfl) (by kernel_rfl) (fun _ _ _ h => h) (Or.inl ⟨by rfl, ?_⟩) (by assumption) ?_
          rotate_left
          · intro w hSw
            clear hSw
            go_simp
            try with_reducible rfl
          try simp only [Act.put, List.setIfInBounds_toArray, List.set_cons_zero, List.set_cons_succ]
          refine hand_take (i := 5) (v := ?_) rfl (by kernel_rfl) (by kernel_rfl) (by kernel_rfl) (fun _ _ _ h => h) (Or.inl ⟨by rfl, ?_⟩) (by assumption) ?_
          rotate_left
          · intro w hSw
            have hx := (hSw.out.cell (p := ⟨S, 0, none⟩) (Nat.lt_succ_self S)).trans hS0
            clear hSw
            go_simp
            try with_reducible rfl
          try simp only [Act.put, List.setIfInBounds_toArray, List.set_cons_zero, List.set_cons_succ]
          refine hand_take (i := 6) (v := ?_) rfl (by kernel_rfl) (by kernel_rfl) (by kernel_rfl) (fun _ _ _ h => h) (Or.inl ⟨by rfl, ?_⟩) (by assumption) ?_
          rotate_left
          · intro w hSw
            clear hSw
            go_simp
            try with_reducible rfl
          try simp only [Act.put, List.setIfInBounds_toArray, List.set_cons_zero, List.set_cons_succ]
          refine hand_take (i := 7) (v := ?_) rfl (by kernel_rfl) (by kernel_rfl) (by kernel_rfl) (fun _ _ _ h => h) (Or.inl ⟨by rfl, ?_⟩) (by assumption) ?_
          rotate_left
          · intro w hSw
            clear hSw
            go_simp
            try with_reducible rfl
          try simp only [Act.put, List.setIfInBounds_toArray, List.set_cons_zero, List.set_cons_succ]
          refine hand_take (i := 8) (v := ?_) rfl (by kernel_rfl) (by kernel_rfl) (by kernel_rfl) (fun _ _ _ h => h) (Or.inl ⟨by rfl, ?_⟩) (by assumption) ?_
          rotate_left
          · intro w hSw
            clear hSw
            go_simp
            try with_reducible rfl
          try simp only [Act.put, List.setIfInBounds_toArray, List.set_cons_zero, List.set_cons_succ]
          refine hand_take (i := 9) (v := ?_) rfl (by kernel_rfl) (by kernel_rfl) (by kernel_rfl) (fun _ _ _ h => h) (Or.inl ⟨by rfl, ?_⟩) (by assumption) ?_
          rotate_left
          · intro w hSw
            clear hSw
            go_simp
            try with_reducible rfl
          try simp only [Act.put, List.setIfInBounds_toArray, List.set_cons_zero, List.set_cons_succ]
          refine wpAnyH_ready (rs := [3, 10]) (by kernel_rfl) (by simp) ?_
          refine (hand_cons rfl (fun KK hK => ?_) (hand_cons rfl (fun KK hK => ?_) AllReadyH.nil))
          · go_simp
            skip
            refine hK.out _ _ (hHeld) (fun hHeld => ?_)
            clear hK KK
            try simp only [Act.put, List.setIfInBounds_toArray, List.set_cons_zero, List.set_cons_succ]
            refine wpAnyH_ready (rs := [10]) (by kernel_rfl) (by simp) ?_
            refine hand_cons rfl (fun KK hK => ?_) AllReadyH.nil
            go_simp
            go_at_call 35
            refine HCALL.out.mono ?_
            rintro e w6 ⟨rfl, hb6⟩
            have g2 := (hb6.cell (p := ⟨g, j, none⟩) hgl).trans d1
            have f2 := (HFZ.out w6 hb6).trans f1
            have HB6 := Lib.hid hb6
            clear hb6
            go_wp2_with fail
            refine hK.out _ _ (Lib.hid (HB6.out.mono hSz.out)) (fun hHeld => ?_)
            clear hK KK
            try simp only [Act.put, List.setIfInBounds_toArray, List.set_cons_zero, List.set_cons_succ]
            refine hand_take (i := 11) (v := ?_) rfl (by kernel_rfl) (by kernel_rfl) (by kernel_rfl) (fun _ _ _ h => h) (Or.inl ⟨by rfl, ?_⟩) (by assumption) ?_
            rotate_left
            · intro w hSw
              clear hSw
              go_simp
              try with_reducible rfl
            try simp only [Act.put, List.setIfInBounds_toArray, List.set_cons_zero, List.set_cons_succ]
            refine hand_take (i := 12) (v := ?_) rfl (by kernel_rfl) (by kernel_rfl) (by kernel_rfl) (fun _ _ _ h => h) (Or.inl ⟨by rfl, ?_⟩) (by assumption) ?_
            rotate_left
            · intro w hSw
              clear hSw
              go_simp
              try with_reducible rfl
            try simp only [Act.put, List.setIfInBounds_toArray, List.set_cons_zero, List.set_cons_succ]
            refine wpAnyH_ready (rs := [13]) (by kernel_rfl) (by simp) ?_
            refine hand_cons rfl (fun KK hK => ?_) AllReadyH.nil
            go_simp
            skip
            refine hK.out _ _ (Lib.hid (HB8.out w6 HB6.out)) (fun hHeld => ?_)
            clear hK KK
            try simp only [Act.put]
            refine wpAnyH_done (by kernel_rfl) ?_ _
            by_cases hcn : cj = nn
            · have hcn2 : (cj : Int) = (nn : Int) := by omega
              have h9 := Lib.hid (HST.out w6 HB6.out)
              rw [if_pos hcn, show cj - nn = 0 by omega] at h9
              go_wp2
              go_roundw
              case rel =>
                refine ⟨j + 1, q - nn, _, _, by omega, by go_num, rfl, HQ.out, ?_⟩
                rw [← UInt8.toNat_xor]
                exact h9
              case measure => simp [intOf]; omega
            · have hcn2 : ¬ (cj : Int) = (nn : Int) := by omega
              have h9 := Lib.hid (HST.out w6 HB6.out)
              rw [if_neg hcn] at h9
              go_wp2
              go_roundw
              case rel =>
                refine ⟨j + 1, q - nn, _, _, by omega, by go_num, rfl, HQ.out, ?_⟩
                rw [← UInt8.toNat_xor]
                exact h9
              case measure => simp [intOf]; omega
          · go_simp
            go_at_call 35
            refine HCALL.out.mono ?_
            rintro e w6 ⟨rfl, hb6⟩
            have g2 := (hb6.cell (p := ⟨g, j, none⟩) hgl).trans d1
            have f2 := (HFZ.out w6 hb6).trans f1
            have HB6 := Lib.hid hb6
            clear hb6
            go_wp2_with fail
            refine hK.out _ _ (Lib.hid (HB6.out.mono hSz.out)) (fun hHeld => ?_)
            clear hK KK
            try simp only [Act.put, List.setIfInBounds_toArray, List.set_cons_zero, List.set_cons_succ]
            refine wpAnyH_ready (rs := [3]) (by kernel_rfl) (by simp) ?_
            refine hand_cons rfl (fun KK hK => ?_) AllReadyH.nil
            go_simp
            skip
            refine hK.out _ _ (hHeld) (fun hHeld => ?_)
            clear hK KK
            try simp only [Act.put, List.setIfInBounds_toArray, List.set_cons_zero, List.set_cons_succ]
            refine hand_take (i := 11) (v := ?_) rfl (by kernel_rfl) (by kernel_rfl) (by kernel_rfl) (fun _ _ _ h => h) (Or.inl ⟨by rfl, ?_⟩) (by assumption) ?_
            rotate_left
            · intro w hSw
              clear hSw
              go_simp
              try with_reducible rfl
            try simp only [Act.put, List.setIfInBounds_toArray, List.set_cons_zero, List.set_cons_succ]
            refine hand_take (i := 12) (v := ?_) rfl (by kernel_rfl) (by kernel_rfl) (by kernel_rfl) (fun _ _ _ h => h) (Or.inl ⟨by rfl, ?_⟩) (by assumption) ?_
            rotate_left
            · intro w hSw
              clear hSw
              go_simp
              try with_reducible rfl
            try simp only [Act.put, List.setIfInBounds_toArray, List.set_cons_zero, List.set_cons_succ]
            refine wpAnyH_ready (rs := [13]) (by kernel_rfl) (by simp) ?_
            refine hand_cons rfl (fun KK hK => ?_) AllReadyH.nil
            go_simp
            skip
            refine hK.out _ _ (Lib.hid (HB8.out w6 HB6.out)) (fun hHeld => ?_)
            clear hK KK
            try simp only [Act.put]
            refine wpAnyH_done (by kernel_rfl) ?_ _
            by_cases hcn : cj = nn
            · have hcn2 : (cj : Int) = (nn : Int) := by omega
              have h9 := Lib.hid (HST.out w6 HB6.out)
              rw [if_pos hcn, show cj - nn = 0 by omega] at h9
              go_wp2
              go_roundw
              case rel =>
                refine ⟨j + 1, q - nn, _, _, by omega, by go_num, rfl, HQ.out, ?_⟩
                rw [← UInt8.toNat_xor]
                exact h9
              case measure => simp [intOf]; omega
            · have hcn2 : ¬ (cj : Int) = (nn : Int) := by omega
              have h9 := Lib.hid (HST.out w6 HB6.out)
              rw [if_neg hcn] at h9
              go_wp2
              go_roundw
              case rel =>
                refine ⟨j + 1, q - nn, _, _, by omega, by go_num, rfl, HQ.out, ?_⟩
                rw [← UInt8.toNat_xor]
                exact h9
              case measure => simp [intOf]; omega
        · have j1 : ¬ (j : Int) < (L : Int) := by omega
          have hjL : j = L := by omega
          have hsg : Hid (SG wi M N k res) := ho.out.sg.below (by rw [HK.out]; exact hb.out)
          obtain ⟨v1, d1⟩ := hsg.out.there (k * 2) (by omega)
          obtain ⟨v2, d2⟩ := hsg.out.there (k * 2 + 1) (by omega)
          have f1 := hsg.out.frozen (k * 2)
          have f2 := hsg.out.frozen (k * 2 + 1)
          clear hS0
          have hS0 : wi.cell? ⟨S, 0, none⟩ = some (.int .u8 (s.1.toNat : Int)) := (hi.out.bel.cell (p := ⟨S, 0, none⟩) (Nat.lt_succ_self S)).trans hbx.out
          go_wp2
          go_roundw
          case rel =>
            refine ⟨k + 1, by omega, by go_num, ?_⟩
            have hs' : res[k]? = some (s.1, maskB s.1 m r s.2) := by
              rw [HRES.out]
              unfold masks
              rw [List.getElem?_map, HSK.out]
              rfl
            have hown := hi.out.own
            rw [hjL, HLL.out, curB_all] at hown
            have hl5 : (maskB s.1 m r s.2).length = L := by rw [maskB_len, HLL.out]
            have hput := hsg.out.put hlt hs' A5 c5 (by
              rcases hown.shape with ⟨e, e2⟩ | ⟨g, cap', e, h1, h2, h3⟩
              · rw [e2]
                simp
              · injection e with e1 e2 e3
                rw [e3]
                exact h3) (Owns.cap_le (by rw [hl5, ← HLL.out] at *; exact hown)) (fun hpos => by
              rcases hown.shape with ⟨e, e2⟩ | ⟨g, cap', e, h1, h2, h3⟩
              · rw [e2] at hpos
                exact absurd hpos (by simp)
              · injection e with e1 e2 e3
                refine ⟨g, e1, by have := HFM.out; omega, h2, fun i c hic => ?_⟩
                have hw := hown
                rw [e1] at hw
                unfold Owns at hw
                rw [← HLL.out, ← hl5] at hw
                have hic' : (maskB s.1 m r s.2)[i]? = some c := hic
                rw [World.ownsRow.cellAt hw i (by have := (List.getElem?_eq_some_iff.1 hic').1; omega)]
                simp only [cb, List.getElem?_map, hic']
                rfl)
            have hput2 := hput
            simp only [hl5] at hput2
            refine ⟨?_, hput2, ?_⟩
            · refine ((ho.out.fb.below hb.out (by have := HFM.out; omega)).grown (grown_set _ _ _ _) ?_).grown (grown_set _ _ _ _) ?_
              · have := HFM.out; simp; omega
              · have := HFM.out; simp; omega
            · have hbw : Below w.heap.size w wi := ho.out.bel.trans (hb.out.mono hBM)
              exact (hbw.setCell (p := ⟨M, k * 2, none⟩) (by have := HFM.out; show w.heap.size ≤ M; omega) _).setCell (p := ⟨M, k * 2 + 1, none⟩) (by have := HFM.out; show w.heap.size ≤ M; omega) _
          case measure => simp [intOf]; omega
    · have i1 : ¬ (k : Int) < (N : Int) := by omega
      have hkN : k = N := by omega
      go_wp2
      go_ret
      refine ⟨M, rfl, ho.out.sg.shl ?_, ho.out.bel⟩
      rw [hkN, HRES.out, HN.out]
      simp [masks]
end Go.Proofs.Yteaaadccjnmacaa
