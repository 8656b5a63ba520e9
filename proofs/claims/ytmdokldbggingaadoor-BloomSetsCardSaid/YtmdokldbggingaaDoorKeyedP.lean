/-
  The program's Keyed, by a contract.
-/
import Derived.Test.YtmdokldbggingaaDoorDigest
import Derived.Test.YtmdokldbggingaaDoorFin
import Derived.Deep.RegionWith
import Derived.Deep.RegionHeld3
namespace Go.Proofs.YtmdokldbggingaaDoor
open Go.RowKit

attribute [local go_sem] wd_add wd_addw wd_xor wd_or wd_not wd_mod wd_wrap

def lenOf : Value → Nat | .slice _ n _ => n | _ => 0

/-- the state of Keyed's loop -/
structure SK (w wr : World) (B r q : Nat) (h : List UInt32) : Prop where
  rr : BT wr r 68 (List.replicate 32 0)
  hh : WB wr q 79 h
  hl : h.length = 8
  bel : Below B w wr
  low : B ≤ r ∧ r < q ∧ q < wr.heap.size
theorem SK.up {w wr w' : World} {B r q : Nat} {h : List UInt32} (s : SK w wr B r q h) (hb : Below wr.heap.size wr w') : SK w w' B r q h := by
  have l := s.low
  exact ⟨s.rr.up hb, s.hh.up hb, s.hl, s.bel.trans (hb.mono (by omega)), by have := hb.size; omega⟩
theorem SK.put {w wr w' : World} {B r q : Nat} {h h' : List UInt32} (s : SK w wr B r q h) (hg : wr.grownBy w' (some q)) (hw : WB w' q 79 h') (hl : h'.length = 8) : SK w w' B r q h' := by
  have l := s.low
  exact ⟨s.rr.grown hg (by simp; omega), hw, hl, s.bel.grown hg (by omega) (fun k hk => by injection hk with hk; omega), by have := hg.size; omega⟩
theorem drewN_below (w : World) (n : Nat) : Below w.heap.size w (w.drewN n) := ⟨rfl, rfl, rfl, Nat.le_refl _, fun _ _ => rfl⟩
theorem Glob.ivr {w : World} (G : Glob w) : w.rangeAt 0 0 (cw IV) := fun j v hv => by
  have hj : j < 8 := by have := (List.getElem?_eq_some_iff.1 hv).1; rwa [cw_len, IV_len] at this
  rw [Nat.zero_add, G.iv j hj, ← hv, cw_get IV j (by rw [IV_len]; exact hj)]

theorem cut_is (A : Option Addr) (n cap : Nat) (l : List UInt8) (w : World) (hn : n = l.length) (hc : l.length ≤ cap) (hm : cap ≤ 9223372036854775807) :
    Calls Tryd.prog 54 #[.slice A n cap] w fun e w' => ∃ A2 c2 x y, Hid (x = l.take 64 ∧ y = l.drop 64) ∧ e = .returned (.tuple #[.slice A x.length cap, .slice A2 y.length c2]) ∧ Hid (y.length ≤ c2 ∧ c2 ≤ cap) ∧ Hid (∀ W B, Shows W B A l → Shows W B A x ∧ Shows W B A2 y) ∧ Below w.heap.size w w' := by
  subst hn
  refine (cut_any A cap l w hc hm).mono fun e w' ⟨A2, c2, he, h2, h3, k, hw⟩ => ?_
  subst hw
  exact ⟨A2, c2, l.take 64, l.drop 64, ⟨rfl, rfl⟩, he, h2, fun W B hs => ⟨hs.first, h3 W B hs⟩, drewN_below w k⟩
theorem cells8 {w : World} {g : Nat} {t : TypeId} {v : List UInt32} (h : WB w g t v) (hl : v.length = 8) : w.cell? ⟨g, 0, none⟩ = some (.int .u32 (wd (at_ v 0))) ∧ w.cell? ⟨g, 1, none⟩ = some (.int .u32 (wd (at_ v 1))) ∧ w.cell? ⟨g, 2, none⟩ = some (.int .u32 (wd (at_ v 2))) ∧ w.cell? ⟨g, 3, none⟩ = some (.int .u32 (wd (at_ v 3))) ∧
    w.cell? ⟨g, 4, none⟩ = some (.int .u32 (wd (at_ v 4))) ∧ w.cell? ⟨g, 5, none⟩ = some (.int .u32 (wd (at_ v 5))) ∧ w.cell? ⟨g, 6, none⟩ = some (.int .u32 (wd (at_ v 6))) ∧ w.cell? ⟨g, 7, none⟩ = some (.int .u32 (wd (at_ v 7))) := by
  refine ⟨?_, ?_, ?_, ?_, ?_, ?_, ?_, ?_⟩ <;> exact h.cell _ (by omega)
theorem SK.drew {w wr : World} {B r q : Nat} {h : List UInt32} (s : SK w wr B r q h) : SK w wr.drew B r q h := ⟨s.rr, s.hh, s.hl, s.bel.drew, s.low⟩
theorem compP_lit (a0 a1 a2 a3 a4 a5 a6 a7 b0 b1 b2 b3 b4 b5 b6 b7 : UInt32) (m : List UInt32) (t : Nat) (last : Bool) (w : World) (hb : compressed [a0, a1, a2, a3, a4, a5, a6, a7] m t last = [b0, b1, b2, b3, b4, b5, b6, b7]) (hm : m.length = 16) (G : Glob w) :
    Calls Tryd.prog 55 #[.agg #[.int .u32 (wd a0), .int .u32 (wd a1), .int .u32 (wd a2), .int .u32 (wd a3), .int .u32 (wd a4), .int .u32 (wd a5), .int .u32 (wd a6), .int .u32 (wd a7)], .agg (cw m).toArray, .int .u64 t, .bool last] w fun e w' => e = .returned (.agg #[.int .u32 (wd b0), .int .u32 (wd b1), .int .u32 (wd b2), .int .u32 (wd b3), .int .u32 (wd b4), .int .u32 (wd b5), .int .u32 (wd b6), .int .u32 (wd b7)]) ∧ Below w.heap.size w w' := by
  have h := compP_any [a0, a1, a2, a3, a4, a5, a6, a7] m t last w rfl hm G
  rw [hb] at h
  exact h
theorem digest_lit (b0 b1 b2 b3 b4 b5 b6 b7 : UInt32) (w : World) : Calls Tryd.prog 57 #[.agg #[.int .u32 (wd b0), .int .u32 (wd b1), .int .u32 (wd b2), .int .u32 (wd b3), .int .u32 (wd b4), .int .u32 (wd b5), .int .u32 (wd b6), .int .u32 (wd b7)]] w fun e w' => e = .returned (.agg (cb (bytesOf [b0, b1, b2, b3, b4, b5, b6, b7])).toArray) ∧ Below w.heap.size w w' :=
  digest_any [b0, b1, b2, b3, b4, b5, b6, b7] w rfl
theorem bt_there {w : World} {g : Nat} {t : TypeId} {l : List UInt8} {n : Nat} (h : BT w g t l) (hn : n = l.length) : w.there g 0 n := fun j hj => by
  rw [Nat.zero_add, h.cell j (by omega), h.frozen j]
  exact ⟨rfl, rfl⟩
theorem store_cb {P : Program} {w : World} {g : Nat} {t : TypeId} {l : List UInt8} (h : BT w g t (List.replicate 32 0)) (hl : l.length = 32) : (storeCells ⟨g, 0, none⟩ (cb l)).run P w = .ok () (w.setCells g 0 (cb l)) := by
  have ht := bt_there (n := (cb l).length) h (by rw [cb_len, hl]; simp)
  have := run_storeCells_cells (P := P) g 0 (cb l) 0 w (fun j hj => by simpa using (ht j (by simpa using hj)).1) (fun j hj => by simpa using (ht j (by simpa using hj)).2) (cb_one l)
  simpa using this
theorem shows_move {w wo w' : World} {B : Nat} {A : Option Addr} {l : List UInt8} (h : Shows wo B A l) (h1 : Below B w wo) (h2 : Below B w w') : Shows w' B A l := h.keep fun _ hp => (h2.cell hp).trans (h1.cell hp).symm
theorem stored8 {w : World} {g : Nat} {t : TypeId} {a0 a1 a2 a3 a4 a5 a6 a7 b0 b1 b2 b3 b4 b5 b6 b7 : UInt32} (h : WB w g t [a0, a1, a2, a3, a4, a5, a6, a7]) : WB (((((((((w.setCell ⟨g, 0, none⟩ (.int .u32 (wd b0))).setCell ⟨g, 1, none⟩ (.int .u32 (wd b1))).setCell ⟨g, 2, none⟩ (.int .u32 (wd b2))).setCell ⟨g, 3, none⟩ (.int .u32 (wd b3))).setCell ⟨g, 4, none⟩ (.int .u32 (wd b4))).setCell ⟨g, 5, none⟩ (.int .u32 (wd b5))).setCell ⟨g, 6, none⟩ (.int .u32 (wd b6))).setCell ⟨g, 7, none⟩ (.int .u32 (wd b7)))) g t [b0, b1, b2, b3, b4, b5, b6, b7] :=
  ((((((((h.set_ 0 b0).set_ 1 b1).set_ 2 b2).set_ 3 b3).set_ 4 b4).set_ 5 b5).set_ 6 b6).set_ 7 b7)
theorem grown8 (w : World) (g : Nat) (u0 u1 u2 u3 u4 u5 u6 u7 : Value) : w.grownBy (((((((((w.setCell ⟨g, 0, none⟩ u0).setCell ⟨g, 1, none⟩ u1).setCell ⟨g, 2, none⟩ u2).setCell ⟨g, 3, none⟩ u3).setCell ⟨g, 4, none⟩ u4).setCell ⟨g, 5, none⟩ u5).setCell ⟨g, 6, none⟩ u6).setCell ⟨g, 7, none⟩ u7)) (some g) :=
  grown_step (grown_step (grown_step (grown_step (grown_step (grown_step (grown_step (grown_set _ _ _ _) (grown_set _ _ _ _)) (grown_set _ _ _ _)) (grown_set _ _ _ _)) (grown_set _ _ _ _)) (grown_set _ _ _ _)) (grown_set _ _ _ _)) (grown_set _ _ _ _)
theorem x64 {x y l : List UInt8} (h : x = l.take 64 ∧ y = l.drop 64) : x.length ≤ 64 ∧ x.length + y.length = l.length ∧ (y.length = 0 ∨ x.length = 64) := by
  obtain ⟨rfl, rfl⟩ := h
  simp
  omega

set_option maxHeartbeats 4000000 in
set_option maxRecDepth 20000 in
theorem keyedP_any (K : Option Addr) (capk : Nat) (key : List UInt8) (A : Option Addr) (cap : Nat) (b : List UInt8) (w : World) (G : Glob w) (hk : Shows w w.heap.size K key) (hb : Shows w w.heap.size A b) (hkc : key.length ≤ capk) (hbc : b.length ≤ cap)
    (hck : capk ≤ 9223372036854775807) (hc : cap ≤ 9223372036854775807) (hbl : b.length ≤ 140737488355328) :
    Calls Tryd.prog 51 #[.slice K key.length capk, .slice A b.length cap] w fun e w' => e = .returned (.agg (cb (digestOf key b)).toArray) ∧ Below w.heap.size w w' := by
  have HG := Lib.hid G
  have HA := Lib.hid hb
  obtain ⟨k, hkk⟩ : ∃ k : List UInt8, k = key.take 32 := ⟨_, rfl⟩
  have hks : Hid (Shows w w.heap.size K k) := by rw [hkk]; exact hk.first
  have hmin : Hid (k.length = min key.length 32) := by show _ = _; rw [hkk, List.length_take, Nat.min_comm]
  have HD : Hid (digestOf key b = bytesOf (if k.length = 0 then fin (head 0) (b.take 64) (b.drop 64) (b.take 64).length else fin (head k.length) k b 64)) := by show _ = _; rw [hkk]; rfl
  have HK32 : Hid (k.length ≤ 32) := by have := hmin.out; show _ ≤ _; omega
  clear hkk hk hb G
  obtain ⟨n, hn⟩ : ∃ n, n = key.length := ⟨_, rfl⟩
  rw [← hn] at hkc hmin ⊢
  clear hn
  by_cases h0 : k.length = 0
  · skip
    have hn0 : n = 0 := by have := hmin.out; omega
    subst hn0
    have HF : Hid (digestOf key b = bytesOf (fin (head 0) (b.take 64) (b.drop 64) (b.take 64).length)) := by show _ = _; rw [HD.out, if_pos h0]
    have hp : (16842784 : Int) = wd (param 0) := wd_param 0 (by decide)
    clear hmin h0 hkc hks HD
    go_enter Tryd.func51, Tryd.ntmps51
    go_wp2_with (first
      | ((with_reducible show wpList _ _ _ _ _ _); refine wpList_load_mid rfl 79 _ rfl 0 0 rfl (cw IV) (.array 8 74) (HG.out.up (below_alloc _)).ivr Tryd.underlying79 rfl (by rw [info41, cw_len, IV_len]) ?_)
      | ((with_reducible show wpList _ _ _ _ _ _); refine wpList_store_all rfl 79 (.tmp 5) (.tmp 14) rfl (w.heap.size + 1) (cw IV) rfl rfl 79 (cw (List.replicate 8 0)).toArray 8 (wb_new rfl (by simp)) info41 (by simp [cw]) (by rw [cw_len, IV_len]) (cw_one _) ?_; intro w5 hb5 hg5 hz5; have HZ5 := Lib.hid hz5; clear hz5; have HB5 : Hid (WB w5 (w.heap.size + 1) 79 IV) := hb5; clear hb5; have c0 := HB5.out.cell 0 (by decide); have f0 := HB5.out.frozen 0)
      | (go_at_call 54; refine (cut_is A b.length cap b _ rfl hbc (by omega)).mono ?_; rintro e w6 ⟨A2, c2, x, y, hxy, rfl, hc2, hsh2, hb6⟩; have hx64 := (x64 hxy.out).1))
    have hsk : SK w w6 w.heap.size w.heap.size (w.heap.size + 1) (head 0) := by
      have s0 : SK w (w5.setCell ⟨w.heap.size + 1, 0, none⟩ (.int .u32 (wd (at_ IV 0 ^^^ param 0)))) w.heap.size w.heap.size (w.heap.size + 1) (head 0) := by
        have z : ∀ (w : World) (o : Obj), (w.alloc o).heap.size = w.heap.size + 1 := fun w o => by simp
        have hzz : w5.heap.size = w.heap.size + 1 + 1 := by rw [HZ5.out, z, z]
        have r0 : BT w5 w.heap.size 68 (List.replicate 32 0) := ((bt_new rfl rfl).alloc _).grown hg5 (by simp)
        have b0 : Below w.heap.size w w5 := ((below_alloc _).alloc (by simp) _).grown hg5 (by simp; omega) (fun k hk => by injection hk with hk; omega)
        have s1 : SK w w5 w.heap.size w.heap.size (w.heap.size + 1) IV := ⟨r0, HB5.out, rfl, b0, by omega⟩
        exact s1.put (grown_set _ _ _ _) (HB5.out.set_ 0 _) (head_len _)
      exact s0.up hb6
    have hsA : Shows w6 w.heap.size A b := HA.out.below hsk.bel
    have hxl := x64 hxy.out
    obtain ⟨F, hF⟩ : ∃ F, F = fin (head 0) x y x.length := ⟨_, rfl⟩
    have HF2 : Hid (digestOf key b = bytesOf F) := by show _ = _; rw [HF.out, hF, hxy.out.1, hxy.out.2]
    have HS := Lib.hid hsk
    have HX : Hid (Shows w6 w.heap.size A x ∧ Shows w6 w.heap.size A2 y) := hsh2.out _ _ hsA
    have HL : Hid (x.length ≤ 64 ∧ y.length ≤ c2 ∧ c2 ≤ 9223372036854775807 ∧ x.length + y.length ≤ 1000000000000000) := by have := hc2.out; show _ ∧ _; omega
    have hf : Hid (fin (head 0) x y x.length = F) := hF.symm
    clear hg5 HZ5 HB5 hb6 hsk hsA hxl hc2 hsh2 hxy hF HF c0 f0
    generalize hB : w.heap.size = B at HS HX ⊢
    have HB := Lib.hid hB
    clear hB
    go_loopw [6, 7, 8] (fun u6 u7 u8 wr => ∃ (blk rest : List UInt8) (A6 A7 : Option Addr) (c6 c7 t : Nat) (hc : List UInt32), u6 = .slice A6 blk.length c6 ∧ u7 = .slice A7 rest.length c7 ∧ u8 = .int .u64 t ∧ Hid (SK w wr B B (B + 1) hc) ∧ Hid (Shows wr B A6 blk) ∧ Hid (Shows wr B A7 rest) ∧ Hid (blk.length ≤ 64 ∧ rest.length ≤ c7 ∧ c7 ≤ 9223372036854775807 ∧ t + rest.length ≤ 1000000000000000) ∧ Hid (fin hc blk rest t = F)) (fun _ u7 _ _ => lenOf u7)
    case atStart => exact ⟨x, y, A, A2, cap, c2, x.length, head 0, rfl, rfl, rfl, HS, HX.out.1, HX.out.2, HL, hf⟩
    case round =>
      clear HS HX HL hf
      obtain ⟨blk, rest, A6, A7, c6, c7, t, hc, rfl, rfl, rfl, hs, h6, h7, hl, hf⟩ := hrel
      obtain ⟨wo, hwo⟩ : ∃ wo : World, wo = wr := ⟨_, rfl⟩
      subst hwo
      have hgl : Hid (Glob wo) := HG.out.below hs.out.bel (HB.out ▸ HG.out.size)
      have hgd : Hid (Glob wo.drew) := ⟨hgl.out.iv, hgl.out.order, hgl.out.size⟩
      have hW6 : Hid (Shows wo.drew wo.drew.heap.size A6 blk) := (show Shows wo wo.heap.size A6 blk from h6.out.more (by have := hs.out.low; omega))
      by_cases hr : rest.length = 0
      · skip
        rw [fin_last hr] at hf
        obtain ⟨a0, a1, a2, a3, a4, a5, a6, a7, rfl⟩ := list8 hs.out.hl
        obtain ⟨b0, b1, b2, b3, b4, b5, b6, b7, hbb⟩ := list8 (compressed_len [a0, a1, a2, a3, a4, a5, a6, a7] (wordsOf blk) t true)
        rw [hbb] at hf
        have HBB := Lib.hid hbb
        clear hbb
        obtain ⟨cc0, cc1, cc2, cc3, cc4, cc5, cc6, cc7⟩ := cells8 hs.out.hh hs.out.hl
        simp only [at_, List.getD_cons_zero, List.getD_cons_succ] at cc0 cc1 cc2 cc3 cc4 cc5 cc6 cc7
        go_wp2
        go_region_with (first
          | (go_at_call 56; refine (words_any A6 c6 blk wo.drew hW6.out hl.out.1).mono ?_; rintro e w7 ⟨rfl, hb7⟩; have hh7 : Hid (WB w7 (B + 1) 79 [a0, a1, a2, a3, a4, a5, a6, a7]) := (WB.drew hs.out.hh).up hb7; obtain ⟨dd0, dd1, dd2, dd3, dd4, dd5, dd6, dd7⟩ := cells8 hh7.out rfl; simp only [at_, List.getD_cons_zero, List.getD_cons_succ] at dd0 dd1 dd2 dd3 dd4 dd5 dd6 dd7)
          | (go_at_call 55; refine (compP_lit a0 a1 a2 a3 a4 a5 a6 a7 b0 b1 b2 b3 b4 b5 b6 b7 (wordsOf blk) t true w7 HBB.out (wordsOf_len _) (Glob.up hgd.out hb7)).mono ?_; rintro e w8 ⟨rfl, hb8⟩)
          | (go_at_call 57; refine (digest_lit b0 b1 b2 b3 b4 b5 b6 b7 w8).mono ?_; rintro e w9 ⟨rfl, hb9⟩; have hs9 := Lib.hid (((hs.out.drew.up hb7).up hb8).up hb9); have hst := store_cb (P := Tryd.prog) hs9.out.rr (bytesOf_len [b0, b1, b2, b3, b4, b5, b6, b7])))
        all_goals
          have hb5 : (w9.setCells B 0 (cb (bytesOf [b0, b1, b2, b3, b4, b5, b6, b7]))).heap[B]? = some (.cells (cb (bytesOf [b0, b1, b2, b3, b4, b5, b6, b7])).toArray 68 (0, 0)) := setCells_block hs9.out.rr (by rw [List.size_toArray, cb_len, cb_len, bytesOf_len, List.length_replicate])
          have hbel : Below B w (w9.setCells B 0 (cb (bytesOf [b0, b1, b2, b3, b4, b5, b6, b7]))) := hs9.out.bel.grown (setCells_grown B _ 0 _) (by have := hs9.out.low; omega) (fun k hk => by injection hk with hk; omega)
          generalize w9.setCells B 0 (cb (bytesOf [b0, b1, b2, b3, b4, b5, b6, b7])) = w11 at hb5 hbel ⊢
          clear hst cc0 cc1 cc2 cc3 cc4 cc5 cc6 cc7 dd0 dd1 dd2 dd3 dd4 dd5 dd6 dd7 hh7
          go_wp2
          refine bodyPost_ret (v := .agg (cb (bytesOf [b0, b1, b2, b3, b4, b5, b6, b7])).toArray) (results_cell_row Tryd.results51 _ w11 B 68 _ (0, 0) _ rfl hb5 Tryd.underlying68 rfl (by rw [info24D]; simp [cb_len, bytesOf_len])) rfl ⟨by rw [HF2.out, ← hf.out], by rw [HB.out]; exact hbel⟩
      · skip
        have hpos : 0 < (rest.length : Int) := by omega
        rw [fin_more hr] at hf
        obtain ⟨a0, a1, a2, a3, a4, a5, a6, a7, rfl⟩ := list8 hs.out.hl
        obtain ⟨b0, b1, b2, b3, b4, b5, b6, b7, hbb⟩ := list8 (compressed_len [a0, a1, a2, a3, a4, a5, a6, a7] (wordsOf blk) t false)
        rw [hbb] at hf
        have HBB := Lib.hid hbb
        clear hbb
        obtain ⟨cc0, cc1, cc2, cc3, cc4, cc5, cc6, cc7⟩ := cells8 hs.out.hh hs.out.hl
        have ff := fun i => hs.out.hh.frozen i
        simp only [at_, List.getD_cons_zero, List.getD_cons_succ] at cc0 cc1 cc2 cc3 cc4 cc5 cc6 cc7
        go_wp2
        go_region_with (first
          | (go_at_call 56; refine (words_any A6 c6 blk wo.drew hW6.out hl.out.1).mono ?_; rintro e w7 ⟨rfl, hb7⟩; have hh7 : Hid (WB w7 (B + 1) 79 [a0, a1, a2, a3, a4, a5, a6, a7]) := (WB.drew hs.out.hh).up hb7; obtain ⟨dd0, dd1, dd2, dd3, dd4, dd5, dd6, dd7⟩ := cells8 hh7.out rfl; simp only [at_, List.getD_cons_zero, List.getD_cons_succ] at dd0 dd1 dd2 dd3 dd4 dd5 dd6 dd7)
          | (go_at_call 55; refine (compP_lit a0 a1 a2 a3 a4 a5 a6 a7 b0 b1 b2 b3 b4 b5 b6 b7 (wordsOf blk) t false w7 HBB.out (wordsOf_len _) (Glob.up hgd.out hb7)).mono ?_; rintro e w8 ⟨rfl, hb8⟩; have hh8 : Hid (WB w8 (B + 1) 79 [a0, a1, a2, a3, a4, a5, a6, a7]) := hh7.out.up hb8; obtain ⟨ee0, ee1, ee2, ee3, ee4, ee5, ee6, ee7⟩ := cells8 hh8.out rfl; simp only [at_, List.getD_cons_zero, List.getD_cons_succ] at ee0 ee1 ee2 ee3 ee4 ee5 ee6 ee7; have fe := fun i => hh8.out.frozen i))
        all_goals
          have hs8 : SK w (((((((((w8.setCell ⟨B + 1, 0, none⟩ (.int .u32 (wd b0))).setCell ⟨B + 1, 1, none⟩ (.int .u32 (wd b1))).setCell ⟨B + 1, 2, none⟩ (.int .u32 (wd b2))).setCell ⟨B + 1, 3, none⟩ (.int .u32 (wd b3))).setCell ⟨B + 1, 4, none⟩ (.int .u32 (wd b4))).setCell ⟨B + 1, 5, none⟩ (.int .u32 (wd b5))).setCell ⟨B + 1, 6, none⟩ (.int .u32 (wd b6))).setCell ⟨B + 1, 7, none⟩ (.int .u32 (wd b7)))) B B (B + 1) [b0, b1, b2, b3, b4, b5, b6, b7] := (((hs.out.drew.up hb7).up hb8).put (grown8 _ _ _ _ _ _ _ _ _ _) (stored8 hh8.out) rfl)
          generalize (((((((((w8.setCell ⟨B + 1, 0, none⟩ (.int .u32 (wd b0))).setCell ⟨B + 1, 1, none⟩ (.int .u32 (wd b1))).setCell ⟨B + 1, 2, none⟩ (.int .u32 (wd b2))).setCell ⟨B + 1, 3, none⟩ (.int .u32 (wd b3))).setCell ⟨B + 1, 4, none⟩ (.int .u32 (wd b4))).setCell ⟨B + 1, 5, none⟩ (.int .u32 (wd b5))).setCell ⟨B + 1, 6, none⟩ (.int .u32 (wd b6))).setCell ⟨B + 1, 7, none⟩ (.int .u32 (wd b7)))) = w9 at hs8 ⊢
          have h79 : Hid (Shows w9 B A7 rest) := shows_move h7.out hs.out.bel hs8.bel
          have HS8 := Lib.hid hs8
          obtain ⟨hl1, hl2, hl3, hl4⟩ := hl.out
          clear hs8 cc0 cc1 cc2 cc3 cc4 cc5 cc6 cc7 dd0 dd1 dd2 dd3 dd4 dd5 dd6 dd7 ee0 ee1 ee2 ee3 ee4 ee5 ee6 ee7 ff fe hh7 hh8 hb7 hb8 HBB
          go_wp2_with (go_at_call 54; refine (cut_is A7 rest.length c7 rest w9 rfl hl2 (by omega)).mono ?_; rintro e w10 ⟨A10, c10, x', y', hxy', rfl, hc10, hsh10, hb10⟩; have hx' := (x64 hxy'.out).1)
          have hxl' := Lib.hid (x64 hxy'.out)
          have hs10 : Hid (SK w w10 B B (B + 1) [b0, b1, b2, b3, b4, b5, b6, b7]) := HS8.out.up hb10
          have h710 : Hid (Shows w10 B A7 rest) := shows_move h79.out HS8.out.bel hs10.out.bel
          have hL' : Hid (x'.length ≤ 64 ∧ y'.length ≤ c10 ∧ c10 ≤ 9223372036854775807 ∧ t + x'.length + y'.length ≤ 1000000000000000) := by have := hc10.out; have := hxl'.out; show _ ∧ _; omega
          have hf' : Hid (fin [b0, b1, b2, b3, b4, b5, b6, b7] x' y' (t + x'.length) = F) := by show _ = _; rw [hxy'.out.1, hxy'.out.2]; exact hf.out
          have hmm : Hid (y'.length < rest.length) := by have := hxl'.out; show _ < _; omega
          clear hb10 hl1 hl2 hl3 hl4
          go_roundw
          case rel => exact ⟨x', y', A7, A10, c7, c10, t + x'.length, [b0, b1, b2, b3, b4, b5, b6, b7], rfl, rfl, by go_num, hs10, (hsh10.out _ _ h710.out).1, (hsh10.out _ _ h710.out).2, hL', hf'⟩
          case measure => simpa [lenOf] using hmm.out
  · by_cases h32 : n ≤ 32
    · skip
      have i1 : (n : Int) ≤ 32 := by omega
      have i2 : (n : Int) ≤ (capk : Int) := by omega
      have i3 : (0 : Int) < (n : Int) := by have := hmin.out; omega
      have i4 : decide (0 < n) = true := by have := hmin.out; simp; omega
      have hp := wd_param n h32
      have HN : Hid (n = k.length) := by have := hmin.out; show _ = _; omega
      have HF : Hid (digestOf key b = bytesOf (fin (head n) k b 64)) := by show _ = _; rw [HD.out, if_neg h0, HN.out]
      clear hmin h0 h32 HD
      go_enter Tryd.func51, Tryd.ntmps51
      go_wp2_with (first
        | ((with_reducible show wpList _ _ _ _ _ _); refine wpList_load_mid rfl 79 _ rfl 0 0 rfl (cw IV) (.array 8 74) (HG.out.up (below_alloc _)).ivr Tryd.underlying79 rfl (by rw [info41, cw_len, IV_len]) ?_)
        | ((with_reducible show wpList _ _ _ _ _ _); refine wpList_store_all rfl 79 (.tmp 5) (.tmp 14) rfl (w.heap.size + 1) (cw IV) rfl rfl 79 (cw (List.replicate 8 0)).toArray 8 (wb_new rfl (by simp)) info41 (by simp [cw]) (by rw [cw_len, IV_len]) (cw_one _) ?_; intro w5 hb5 hg5 hz5; have HZ5 := Lib.hid hz5; clear hz5; have HB5 : Hid (WB w5 (w.heap.size + 1) 79 IV) := hb5; clear hb5; have c0 := HB5.out.cell 0 (by decide); have f0 := HB5.out.frozen 0)
        | (go_at_call 54; refine (cut_is A b.length cap b _ rfl hbc (by omega)).mono ?_; rintro e w6 ⟨A2, c2, x, y, hxy, rfl, hc2, hsh2, hb6⟩; have hx64 := (x64 hxy.out).1))
      have hsk : SK w w6 w.heap.size w.heap.size (w.heap.size + 1) (head n) := by
        have s0 : SK w (w5.setCell ⟨w.heap.size + 1, 0, none⟩ (.int .u32 (wd (at_ IV 0 ^^^ param n)))) w.heap.size w.heap.size (w.heap.size + 1) (head n) := by
          have z : ∀ (w : World) (o : Obj), (w.alloc o).heap.size = w.heap.size + 1 := fun w o => by simp
          have hzz : w5.heap.size = w.heap.size + 1 + 1 := by rw [HZ5.out, z, z]
          have r0 : BT w5 w.heap.size 68 (List.replicate 32 0) := ((bt_new rfl rfl).alloc _).grown hg5 (by simp)
          have b0 : Below w.heap.size w w5 := ((below_alloc _).alloc (by simp) _).grown hg5 (by simp; omega) (fun k hk => by injection hk with hk; omega)
          have s1 : SK w w5 w.heap.size w.heap.size (w.heap.size + 1) IV := ⟨r0, HB5.out, rfl, b0, by omega⟩
          exact s1.put (grown_set _ _ _ _) (HB5.out.set_ 0 _) (head_len _)
        exact s0.up hb6
      have hsA : Shows w6 w.heap.size A b := HA.out.below hsk.bel
      have hxl := x64 hxy.out
      obtain ⟨F, hF⟩ : ∃ F, F = fin (head n) k b 64 := ⟨_, rfl⟩
      have HF2 : Hid (digestOf key b = bytesOf F) := by show _ = _; rw [HF.out, hF]
      have HS := Lib.hid hsk
      have HX : Hid (Shows w6 w.heap.size K k ∧ Shows w6 w.heap.size A b) := ⟨hks.out.below hsk.bel, hsA⟩
      have HL : Hid (k.length ≤ 64 ∧ b.length ≤ cap ∧ cap ≤ 9223372036854775807 ∧ 64 + b.length ≤ 1000000000000000) := by have := HK32.out; show _ ∧ _; omega
      have hf : Hid (fin (head n) k b 64 = F) := hF.symm
      clear hg5 HZ5 HB5 hb6 hsk hsA hxl hc2 hsh2 hxy hF HF c0 f0
      generalize hB : w.heap.size = B at HS HX ⊢
      have HB := Lib.hid hB
      clear hB
      go_loopw [6, 7, 8] (fun u6 u7 u8 wr => ∃ (blk rest : List UInt8) (A6 A7 : Option Addr) (c6 c7 t : Nat) (hc : List UInt32), u6 = .slice A6 blk.length c6 ∧ u7 = .slice A7 rest.length c7 ∧ u8 = .int .u64 t ∧ Hid (SK w wr B B (B + 1) hc) ∧ Hid (Shows wr B A6 blk) ∧ Hid (Shows wr B A7 rest) ∧ Hid (blk.length ≤ 64 ∧ rest.length ≤ c7 ∧ c7 ≤ 9223372036854775807 ∧ t + rest.length ≤ 1000000000000000) ∧ Hid (fin hc blk rest t = F)) (fun _ u7 _ _ => lenOf u7)
      case atStart => exact ⟨k, b, K, A, capk, cap, 64, head n, by rw [← HN.out], rfl, rfl, HS, HX.out.1, HX.out.2, HL, hf⟩
      case round =>
        clear HS HX HL hf
        obtain ⟨blk, rest, A6, A7, c6, c7, t, hc, rfl, rfl, rfl, hs, h6, h7, hl, hf⟩ := hrel
        obtain ⟨wo, hwo⟩ : ∃ wo : World, wo = wr := ⟨_, rfl⟩
        subst hwo
        have hgl : Hid (Glob wo) := HG.out.below hs.out.bel (HB.out ▸ HG.out.size)
        have hgd : Hid (Glob wo.drew) := ⟨hgl.out.iv, hgl.out.order, hgl.out.size⟩
        have hW6 : Hid (Shows wo.drew wo.drew.heap.size A6 blk) := (show Shows wo wo.heap.size A6 blk from h6.out.more (by have := hs.out.low; omega))
        by_cases hr : rest.length = 0
        · skip
          rw [fin_last hr] at hf
          obtain ⟨a0, a1, a2, a3, a4, a5, a6, a7, rfl⟩ := list8 hs.out.hl
          obtain ⟨b0, b1, b2, b3, b4, b5, b6, b7, hbb⟩ := list8 (compressed_len [a0, a1, a2, a3, a4, a5, a6, a7] (wordsOf blk) t true)
          rw [hbb] at hf
          have HBB := Lib.hid hbb
          clear hbb
          obtain ⟨cc0, cc1, cc2, cc3, cc4, cc5, cc6, cc7⟩ := cells8 hs.out.hh hs.out.hl
          simp only [at_, List.getD_cons_zero, List.getD_cons_succ] at cc0 cc1 cc2 cc3 cc4 cc5 cc6 cc7
          go_wp2
          go_region_with (first
            | (go_at_call 56; refine (words_any A6 c6 blk wo.drew hW6.out hl.out.1).mono ?_; rintro e w7 ⟨rfl, hb7⟩; have hh7 : Hid (WB w7 (B + 1) 79 [a0, a1, a2, a3, a4, a5, a6, a7]) := (WB.drew hs.out.hh).up hb7; obtain ⟨dd0, dd1, dd2, dd3, dd4, dd5, dd6, dd7⟩ := cells8 hh7.out rfl; simp only [at_, List.getD_cons_zero, List.getD_cons_succ] at dd0 dd1 dd2 dd3 dd4 dd5 dd6 dd7)
            | (go_at_call 55; refine (compP_lit a0 a1 a2 a3 a4 a5 a6 a7 b0 b1 b2 b3 b4 b5 b6 b7 (wordsOf blk) t true w7 HBB.out (wordsOf_len _) (Glob.up hgd.out hb7)).mono ?_; rintro e w8 ⟨rfl, hb8⟩)
            | (go_at_call 57; refine (digest_lit b0 b1 b2 b3 b4 b5 b6 b7 w8).mono ?_; rintro e w9 ⟨rfl, hb9⟩; have hs9 := Lib.hid (((hs.out.drew.up hb7).up hb8).up hb9); have hst := store_cb (P := Tryd.prog) hs9.out.rr (bytesOf_len [b0, b1, b2, b3, b4, b5, b6, b7])))
          all_goals
            have hb5 : (w9.setCells B 0 (cb (bytesOf [b0, b1, b2, b3, b4, b5, b6, b7]))).heap[B]? = some (.cells (cb (bytesOf [b0, b1, b2, b3, b4, b5, b6, b7])).toArray 68 (0, 0)) := setCells_block hs9.out.rr (by rw [List.size_toArray, cb_len, cb_len, bytesOf_len, List.length_replicate])
            have hbel : Below B w (w9.setCells B 0 (cb (bytesOf [b0, b1, b2, b3, b4, b5, b6, b7]))) := hs9.out.bel.grown (setCells_grown B _ 0 _) (by have := hs9.out.low; omega) (fun k hk => by injection hk with hk; omega)
            generalize w9.setCells B 0 (cb (bytesOf [b0, b1, b2, b3, b4, b5, b6, b7])) = w11 at hb5 hbel ⊢
            clear hst cc0 cc1 cc2 cc3 cc4 cc5 cc6 cc7 dd0 dd1 dd2 dd3 dd4 dd5 dd6 dd7 hh7
            go_wp2
            refine bodyPost_ret (v := .agg (cb (bytesOf [b0, b1, b2, b3, b4, b5, b6, b7])).toArray) (results_cell_row Tryd.results51 _ w11 B 68 _ (0, 0) _ rfl hb5 Tryd.underlying68 rfl (by rw [info24D]; simp [cb_len, bytesOf_len])) rfl ⟨by rw [HF2.out, ← hf.out], by rw [HB.out]; exact hbel⟩
        · skip
          have hpos : 0 < (rest.length : Int) := by omega
          rw [fin_more hr] at hf
          obtain ⟨a0, a1, a2, a3, a4, a5, a6, a7, rfl⟩ := list8 hs.out.hl
          obtain ⟨b0, b1, b2, b3, b4, b5, b6, b7, hbb⟩ := list8 (compressed_len [a0, a1, a2, a3, a4, a5, a6, a7] (wordsOf blk) t false)
          rw [hbb] at hf
          have HBB := Lib.hid hbb
          clear hbb
          obtain ⟨cc0, cc1, cc2, cc3, cc4, cc5, cc6, cc7⟩ := cells8 hs.out.hh hs.out.hl
          have ff := fun i => hs.out.hh.frozen i
          simp only [at_, List.getD_cons_zero, List.getD_cons_succ] at cc0 cc1 cc2 cc3 cc4 cc5 cc6 cc7
          go_wp2
          go_region_with (first
            | (go_at_call 56; refine (words_any A6 c6 blk wo.drew hW6.out hl.out.1).mono ?_; rintro e w7 ⟨rfl, hb7⟩; have hh7 : Hid (WB w7 (B + 1) 79 [a0, a1, a2, a3, a4, a5, a6, a7]) := (WB.drew hs.out.hh).up hb7; obtain ⟨dd0, dd1, dd2, dd3, dd4, dd5, dd6, dd7⟩ := cells8 hh7.out rfl; simp only [at_, List.getD_cons_zero, List.getD_cons_succ] at dd0 dd1 dd2 dd3 dd4 dd5 dd6 dd7)
            | (go_at_call 55; refine (compP_lit a0 a1 a2 a3 a4 a5 a6 a7 b0 b1 b2 b3 b4 b5 b6 b7 (wordsOf blk) t false w7 HBB.out (wordsOf_len _) (Glob.up hgd.out hb7)).mono ?_; rintro e w8 ⟨rfl, hb8⟩; have hh8 : Hid (WB w8 (B + 1) 79 [a0, a1, a2, a3, a4, a5, a6, a7]) := hh7.out.up hb8; obtain ⟨ee0, ee1, ee2, ee3, ee4, ee5, ee6, ee7⟩ := cells8 hh8.out rfl; simp only [at_, List.getD_cons_zero, List.getD_cons_succ] at ee0 ee1 ee2 ee3 ee4 ee5 ee6 ee7; have fe := fun i => hh8.out.frozen i))
          all_goals
            have hs8 : SK w (((((((((w8.setCell ⟨B + 1, 0, none⟩ (.int .u32 (wd b0))).setCell ⟨B + 1, 1, none⟩ (.int .u32 (wd b1))).setCell ⟨B + 1, 2, none⟩ (.int .u32 (wd b2))).setCell ⟨B + 1, 3, none⟩ (.int .u32 (wd b3))).setCell ⟨B + 1, 4, none⟩ (.int .u32 (wd b4))).setCell ⟨B + 1, 5, none⟩ (.int .u32 (wd b5))).setCell ⟨B + 1, 6, none⟩ (.int .u32 (wd b6))).setCell ⟨B + 1, 7, none⟩ (.int .u32 (wd b7)))) B B (B + 1) [b0, b1, b2, b3, b4, b5, b6, b7] := (((hs.out.drew.up hb7).up hb8).put (grown8 _ _ _ _ _ _ _ _ _ _) (stored8 hh8.out) rfl)
            generalize (((((((((w8.setCell ⟨B + 1, 0, none⟩ (.int .u32 (wd b0))).setCell ⟨B + 1, 1, none⟩ (.int .u32 (wd b1))).setCell ⟨B + 1, 2, none⟩ (.int .u32 (wd b2))).setCell ⟨B + 1, 3, none⟩ (.int .u32 (wd b3))).setCell ⟨B + 1, 4, none⟩ (.int .u32 (wd b4))).setCell ⟨B + 1, 5, none⟩ (.int .u32 (wd b5))).setCell ⟨B + 1, 6, none⟩ (.int .u32 (wd b6))).setCell ⟨B + 1, 7, none⟩ (.int .u32 (wd b7)))) = w9 at hs8 ⊢
            have h79 : Hid (Shows w9 B A7 rest) := shows_move h7.out hs.out.bel hs8.bel
            have HS8 := Lib.hid hs8
            obtain ⟨hl1, hl2, hl3, hl4⟩ := hl.out
            clear hs8 cc0 cc1 cc2 cc3 cc4 cc5 cc6 cc7 dd0 dd1 dd2 dd3 dd4 dd5 dd6 dd7 ee0 ee1 ee2 ee3 ee4 ee5 ee6 ee7 ff fe hh7 hh8 hb7 hb8 HBB
            go_wp2_with (go_at_call 54; refine (cut_is A7 rest.length c7 rest w9 rfl hl2 (by omega)).mono ?_; rintro e w10 ⟨A10, c10, x', y', hxy', rfl, hc10, hsh10, hb10⟩; have hx' := (x64 hxy'.out).1)
            have hxl' := Lib.hid (x64 hxy'.out)
            have hs10 : Hid (SK w w10 B B (B + 1) [b0, b1, b2, b3, b4, b5, b6, b7]) := HS8.out.up hb10
            have h710 : Hid (Shows w10 B A7 rest) := shows_move h79.out HS8.out.bel hs10.out.bel
            have hL' : Hid (x'.length ≤ 64 ∧ y'.length ≤ c10 ∧ c10 ≤ 9223372036854775807 ∧ t + x'.length + y'.length ≤ 1000000000000000) := by have := hc10.out; have := hxl'.out; show _ ∧ _; omega
            have hf' : Hid (fin [b0, b1, b2, b3, b4, b5, b6, b7] x' y' (t + x'.length) = F) := by show _ = _; rw [hxy'.out.1, hxy'.out.2]; exact hf.out
            have hmm : Hid (y'.length < rest.length) := by have := hxl'.out; show _ < _; omega
            clear hb10 hl1 hl2 hl3 hl4
            go_roundw
            case rel => exact ⟨x', y', A7, A10, c7, c10, t + x'.length, [b0, b1, b2, b3, b4, b5, b6, b7], rfl, rfl, by go_num, hs10, (hsh10.out _ _ h710.out).1, (hsh10.out _ _ h710.out).2, hL', hf'⟩
            case measure => simpa [lenOf] using hmm.out
    · skip
      have i1 : ¬ (n : Int) ≤ 32 := by omega
      have i2 : (n : Int) ≤ (capk : Int) := by omega
      have i3 : (32 : Int) ≤ (capk : Int) := by omega
      have hp : (16850976 : Int) = wd (param 32) := wd_param 32 (by decide)
      have HN : Hid (32 = k.length) := by have := hmin.out; show _ = _; omega
      have HF : Hid (digestOf key b = bytesOf (fin (head 32) k b 64)) := by show _ = _; rw [HD.out, if_neg h0, ← HN.out]
      clear hmin h0 h32 HD
      go_enter Tryd.func51, Tryd.ntmps51
      go_wp2_with (first
        | ((with_reducible show wpList _ _ _ _ _ _); refine wpList_load_mid rfl 79 _ rfl 0 0 rfl (cw IV) (.array 8 74) (HG.out.up (below_alloc _)).ivr Tryd.underlying79 rfl (by rw [info41, cw_len, IV_len]) ?_)
        | ((with_reducible show wpList _ _ _ _ _ _); refine wpList_store_all rfl 79 (.tmp 5) (.tmp 14) rfl (w.heap.size + 1) (cw IV) rfl rfl 79 (cw (List.replicate 8 0)).toArray 8 (wb_new rfl (by simp)) info41 (by simp [cw]) (by rw [cw_len, IV_len]) (cw_one _) ?_; intro w5 hb5 hg5 hz5; have HZ5 := Lib.hid hz5; clear hz5; have HB5 : Hid (WB w5 (w.heap.size + 1) 79 IV) := hb5; clear hb5; have c0 := HB5.out.cell 0 (by decide); have f0 := HB5.out.frozen 0)
        | (go_at_call 54; refine (cut_is A b.length cap b _ rfl hbc (by omega)).mono ?_; rintro e w6 ⟨A2, c2, x, y, hxy, rfl, hc2, hsh2, hb6⟩; have hx64 := (x64 hxy.out).1))
      have hsk : SK w w6 w.heap.size w.heap.size (w.heap.size + 1) (head 32) := by
        have s0 : SK w (w5.setCell ⟨w.heap.size + 1, 0, none⟩ (.int .u32 (wd (at_ IV 0 ^^^ param 32)))) w.heap.size w.heap.size (w.heap.size + 1) (head 32) := by
          have z : ∀ (w : World) (o : Obj), (w.alloc o).heap.size = w.heap.size + 1 := fun w o => by simp
          have hzz : w5.heap.size = w.heap.size + 1 + 1 := by rw [HZ5.out, z, z]
          have r0 : BT w5 w.heap.size 68 (List.replicate 32 0) := ((bt_new rfl rfl).alloc _).grown hg5 (by simp)
          have b0 : Below w.heap.size w w5 := ((below_alloc _).alloc (by simp) _).grown hg5 (by simp; omega) (fun k hk => by injection hk with hk; omega)
          have s1 : SK w w5 w.heap.size w.heap.size (w.heap.size + 1) IV := ⟨r0, HB5.out, rfl, b0, by omega⟩
          exact s1.put (grown_set _ _ _ _) (HB5.out.set_ 0 _) (head_len _)
        exact s0.up hb6
      have hsA : Shows w6 w.heap.size A b := HA.out.below hsk.bel
      have hxl := x64 hxy.out
      obtain ⟨F, hF⟩ : ∃ F, F = fin (head 32) k b 64 := ⟨_, rfl⟩
      have HF2 : Hid (digestOf key b = bytesOf F) := by show _ = _; rw [HF.out, hF]
      have HS := Lib.hid hsk
      have HX : Hid (Shows w6 w.heap.size K k ∧ Shows w6 w.heap.size A b) := ⟨hks.out.below hsk.bel, hsA⟩
      have HL : Hid (k.length ≤ 64 ∧ b.length ≤ cap ∧ cap ≤ 9223372036854775807 ∧ 64 + b.length ≤ 1000000000000000) := by have := HK32.out; show _ ∧ _; omega
      have hf : Hid (fin (head 32) k b 64 = F) := hF.symm
      clear hg5 HZ5 HB5 hb6 hsk hsA hxl hc2 hsh2 hxy hF HF c0 f0
      generalize hB : w.heap.size = B at HS HX ⊢
      have HB := Lib.hid hB
      clear hB
      go_loopw [6, 7, 8] (fun u6 u7 u8 wr => ∃ (blk rest : List UInt8) (A6 A7 : Option Addr) (c6 c7 t : Nat) (hc : List UInt32), u6 = .slice A6 blk.length c6 ∧ u7 = .slice A7 rest.length c7 ∧ u8 = .int .u64 t ∧ Hid (SK w wr B B (B + 1) hc) ∧ Hid (Shows wr B A6 blk) ∧ Hid (Shows wr B A7 rest) ∧ Hid (blk.length ≤ 64 ∧ rest.length ≤ c7 ∧ c7 ≤ 9223372036854775807 ∧ t + rest.length ≤ 1000000000000000) ∧ Hid (fin hc blk rest t = F)) (fun _ u7 _ _ => lenOf u7)
      case atStart => exact ⟨k, b, K, A, capk, cap, 64, head 32, by rw [← HN.out], rfl, rfl, HS, HX.out.1, HX.out.2, HL, hf⟩
      case round =>
        clear HS HX HL hf
        obtain ⟨blk, rest, A6, A7, c6, c7, t, hc, rfl, rfl, rfl, hs, h6, h7, hl, hf⟩ := hrel
        obtain ⟨wo, hwo⟩ : ∃ wo : World, wo = wr := ⟨_, rfl⟩
        subst hwo
        have hgl : Hid (Glob wo) := HG.out.below hs.out.bel (HB.out ▸ HG.out.size)
        have hgd : Hid (Glob wo.drew) := ⟨hgl.out.iv, hgl.out.order, hgl.out.size⟩
        have hW6 : Hid (Shows wo.drew wo.drew.heap.size A6 blk) := (show Shows wo wo.heap.size A6 blk from h6.out.more (by have := hs.out.low; omega))
        by_cases hr : rest.length = 0
        · skip
          rw [fin_last hr] at hf
          obtain ⟨a0, a1, a2, a3, a4, a5, a6, a7, rfl⟩ := list8 hs.out.hl
          obtain ⟨b0, b1, b2, b3, b4, b5, b6, b7, hbb⟩ := list8 (compressed_len [a0, a1, a2, a3, a4, a5, a6, a7] (wordsOf blk) t true)
          rw [hbb] at hf
          have HBB := Lib.hid hbb
          clear hbb
          obtain ⟨cc0, cc1, cc2, cc3, cc4, cc5, cc6, cc7⟩ := cells8 hs.out.hh hs.out.hl
          simp only [at_, List.getD_cons_zero, List.getD_cons_succ] at cc0 cc1 cc2 cc3 cc4 cc5 cc6 cc7
          go_wp2
          go_region_with (first
            | (go_at_call 56; refine (words_any A6 c6 blk wo.drew hW6.out hl.out.1).mono ?_; rintro e w7 ⟨rfl, hb7⟩; have hh7 : Hid (WB w7 (B + 1) 79 [a0, a1, a2, a3, a4, a5, a6, a7]) := (WB.drew hs.out.hh).up hb7; obtain ⟨dd0, dd1, dd2, dd3, dd4, dd5, dd6, dd7⟩ := cells8 hh7.out rfl; simp only [at_, List.getD_cons_zero, List.getD_cons_succ] at dd0 dd1 dd2 dd3 dd4 dd5 dd6 dd7)
            | (go_at_call 55; refine (compP_lit a0 a1 a2 a3 a4 a5 a6 a7 b0 b1 b2 b3 b4 b5 b6 b7 (wordsOf blk) t true w7 HBB.out (wordsOf_len _) (Glob.up hgd.out hb7)).mono ?_; rintro e w8 ⟨rfl, hb8⟩)
            | (go_at_call 57; refine (digest_lit b0 b1 b2 b3 b4 b5 b6 b7 w8).mono ?_; rintro e w9 ⟨rfl, hb9⟩; have hs9 := Lib.hid (((hs.out.drew.up hb7).up hb8).up hb9); have hst := store_cb (P := Tryd.prog) hs9.out.rr (bytesOf_len [b0, b1, b2, b3, b4, b5, b6, b7])))
          all_goals
            have hb5 : (w9.setCells B 0 (cb (bytesOf [b0, b1, b2, b3, b4, b5, b6, b7]))).heap[B]? = some (.cells (cb (bytesOf [b0, b1, b2, b3, b4, b5, b6, b7])).toArray 68 (0, 0)) := setCells_block hs9.out.rr (by rw [List.size_toArray, cb_len, cb_len, bytesOf_len, List.length_replicate])
            have hbel : Below B w (w9.setCells B 0 (cb (bytesOf [b0, b1, b2, b3, b4, b5, b6, b7]))) := hs9.out.bel.grown (setCells_grown B _ 0 _) (by have := hs9.out.low; omega) (fun k hk => by injection hk with hk; omega)
            generalize w9.setCells B 0 (cb (bytesOf [b0, b1, b2, b3, b4, b5, b6, b7])) = w11 at hb5 hbel ⊢
            clear hst cc0 cc1 cc2 cc3 cc4 cc5 cc6 cc7 dd0 dd1 dd2 dd3 dd4 dd5 dd6 dd7 hh7
            go_wp2
            refine bodyPost_ret (v := .agg (cb (bytesOf [b0, b1, b2, b3, b4, b5, b6, b7])).toArray) (results_cell_row Tryd.results51 _ w11 B 68 _ (0, 0) _ rfl hb5 Tryd.underlying68 rfl (by rw [info24D]; simp [cb_len, bytesOf_len])) rfl ⟨by rw [HF2.out, ← hf.out], by rw [HB.out]; exact hbel⟩
        · skip
          have hpos : 0 < (rest.length : Int) := by omega
          rw [fin_more hr] at hf
          obtain ⟨a0, a1, a2, a3, a4, a5, a6, a7, rfl⟩ := list8 hs.out.hl
          obtain ⟨b0, b1, b2, b3, b4, b5, b6, b7, hbb⟩ := list8 (compressed_len [a0, a1, a2, a3, a4, a5, a6, a7] (wordsOf blk) t false)
          rw [hbb] at hf
          have HBB := Lib.hid hbb
          clear hbb
          obtain ⟨cc0, cc1, cc2, cc3, cc4, cc5, cc6, cc7⟩ := cells8 hs.out.hh hs.out.hl
          have ff := fun i => hs.out.hh.frozen i
          simp only [at_, List.getD_cons_zero, List.getD_cons_succ] at cc0 cc1 cc2 cc3 cc4 cc5 cc6 cc7
          go_wp2
          go_region_with (first
            | (go_at_call 56; refine (words_any A6 c6 blk wo.drew hW6.out hl.out.1).mono ?_; rintro e w7 ⟨rfl, hb7⟩; have hh7 : Hid (WB w7 (B + 1) 79 [a0, a1, a2, a3, a4, a5, a6, a7]) := (WB.drew hs.out.hh).up hb7; obtain ⟨dd0, dd1, dd2, dd3, dd4, dd5, dd6, dd7⟩ := cells8 hh7.out rfl; simp only [at_, List.getD_cons_zero, List.getD_cons_succ] at dd0 dd1 dd2 dd3 dd4 dd5 dd6 dd7)
            | (go_at_call 55; refine (compP_lit a0 a1 a2 a3 a4 a5 a6 a7 b0 b1 b2 b3 b4 b5 b6 b7 (wordsOf blk) t false w7 HBB.out (wordsOf_len _) (Glob.up hgd.out hb7)).mono ?_; rintro e w8 ⟨rfl, hb8⟩; have hh8 : Hid (WB w8 (B + 1) 79 [a0, a1, a2, a3, a4, a5, a6, a7]) := hh7.out.up hb8; obtain ⟨ee0, ee1, ee2, ee3, ee4, ee5, ee6, ee7⟩ := cells8 hh8.out rfl; simp only [at_, List.getD_cons_zero, List.getD_cons_succ] at ee0 ee1 ee2 ee3 ee4 ee5 ee6 ee7; have fe := fun i => hh8.out.frozen i))
          all_goals
            have hs8 : SK w (((((((((w8.setCell ⟨B + 1, 0, none⟩ (.int .u32 (wd b0))).setCell ⟨B + 1, 1, none⟩ (.int .u32 (wd b1))).setCell ⟨B + 1, 2, none⟩ (.int .u32 (wd b2))).setCell ⟨B + 1, 3, none⟩ (.int .u32 (wd b3))).setCell ⟨B + 1, 4, none⟩ (.int .u32 (wd b4))).setCell ⟨B + 1, 5, none⟩ (.int .u32 (wd b5))).setCell ⟨B + 1, 6, none⟩ (.int .u32 (wd b6))).setCell ⟨B + 1, 7, none⟩ (.int .u32 (wd b7)))) B B (B + 1) [b0, b1, b2, b3, b4, b5, b6, b7] := (((hs.out.drew.up hb7).up hb8).put (grown8 _ _ _ _ _ _ _ _ _ _) (stored8 hh8.out) rfl)
            generalize (((((((((w8.setCell ⟨B + 1, 0, none⟩ (.int .u32 (wd b0))).setCell ⟨B + 1, 1, none⟩ (.int .u32 (wd b1))).setCell ⟨B + 1, 2, none⟩ (.int .u32 (wd b2))).setCell ⟨B + 1, 3, none⟩ (.int .u32 (wd b3))).setCell ⟨B + 1, 4, none⟩ (.int .u32 (wd b4))).setCell ⟨B + 1, 5, none⟩ (.int .u32 (wd b5))).setCell ⟨B + 1, 6, none⟩ (.int .u32 (wd b6))).setCell ⟨B + 1, 7, none⟩ (.int .u32 (wd b7)))) = w9 at hs8 ⊢
            have h79 : Hid (Shows w9 B A7 rest) := shows_move h7.out hs.out.bel hs8.bel
            have HS8 := Lib.hid hs8
            obtain ⟨hl1, hl2, hl3, hl4⟩ := hl.out
            clear hs8 cc0 cc1 cc2 cc3 cc4 cc5 cc6 cc7 dd0 dd1 dd2 dd3 dd4 dd5 dd6 dd7 ee0 ee1 ee2 ee3 ee4 ee5 ee6 ee7 ff fe hh7 hh8 hb7 hb8 HBB
            go_wp2_with (go_at_call 54; refine (cut_is A7 rest.length c7 rest w9 rfl hl2 (by omega)).mono ?_; rintro e w10 ⟨A10, c10, x', y', hxy', rfl, hc10, hsh10, hb10⟩; have hx' := (x64 hxy'.out).1)
            have hxl' := Lib.hid (x64 hxy'.out)
            have hs10 : Hid (SK w w10 B B (B + 1) [b0, b1, b2, b3, b4, b5, b6, b7]) := HS8.out.up hb10
            have h710 : Hid (Shows w10 B A7 rest) := shows_move h79.out HS8.out.bel hs10.out.bel
            have hL' : Hid (x'.length ≤ 64 ∧ y'.length ≤ c10 ∧ c10 ≤ 9223372036854775807 ∧ t + x'.length + y'.length ≤ 1000000000000000) := by have := hc10.out; have := hxl'.out; show _ ∧ _; omega
            have hf' : Hid (fin [b0, b1, b2, b3, b4, b5, b6, b7] x' y' (t + x'.length) = F) := by show _ = _; rw [hxy'.out.1, hxy'.out.2]; exact hf.out
            have hmm : Hid (y'.length < rest.length) := by have := hxl'.out; show _ < _; omega
            clear hb10 hl1 hl2 hl3 hl4
            go_roundw
            case rel => exact ⟨x', y', A7, A10, c7, c10, t + x'.length, [b0, b1, b2, b3, b4, b5, b6, b7], rfl, rfl, by go_num, hs10, (hsh10.out _ _ h710.out).1, (hsh10.out _ _ h710.out).2, hL', hf'⟩
            case measure => simpa [lenOf] using hmm.out
end Go.Proofs.YtmdokldbggingaaDoor
