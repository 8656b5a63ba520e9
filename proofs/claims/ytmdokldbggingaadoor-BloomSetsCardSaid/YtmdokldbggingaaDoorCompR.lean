/-
  The reference's compression, by a contract.
-/
import Derived.Test.YtmdokldbggingaaDoorRefA
import Derived.Test.YtmdokldbggingaaDoorCompP
import Derived.Test.YtmdokldbggingaaDoorBytes
import Derived.Test.YtmdokldbggingaaDoorWords
import Derived.LoopTactic
import Derived.Deep.LoopGhost
import Derived.StillTailTactics
import Derived.Deep.DeepMust
import Derived.Outline
namespace Go.Proofs.YtmdokldbggingaaDoor
open Go.RowKit

attribute [local go_sem] wd_add wd_addw wd_xor wd_or wd_not

/-- The reference's Block in block q. -/
def KB (w : World) (q gb t : Nat) (last : Bool) : Prop := w.heap[q]? = some (.cells #[.slice (some ⟨gb, 0, none⟩) 64 64, .int .u64 t, .bool last] 90 (0, 0))
theorem KB.cells {w : World} {q gb t : Nat} {last : Bool} (h : KB w q gb t last) : w.cell? ⟨q, 0, none⟩ = some (.slice (some ⟨gb, 0, none⟩) 64 64) ∧ w.cell? ⟨q, 1, none⟩ = some (.int .u64 t) ∧ w.cell? ⟨q, 2, none⟩ = some (.bool last) := by
  refine ⟨?_, ?_, ?_⟩ <;> exact cell_of_row _ _ _ _ _ (0, 0) h

/-- The blocks of a call of the reference's compress. -/
structure SR (w wr : World) (B q gh gb gm : Nat) (h : List UInt32) (bs : List UInt8) (m : List UInt32) (t : Nat) (last : Bool) : Prop where
  bx : KB wr q gb t last
  hh : WB wr gh 74 h
  bb : Blk wr gb bs
  mm : WB wr gm 74 m
  hl : h.length = 8
  bl : bs.length = 64
  ml : m.length = 16
  bel : Below B w wr
  low : gh < B ∧ gb < B ∧ B ≤ q ∧ q < gm ∧ gm < wr.heap.size
section
variable {w wr w' : World} {B q gh gb gm : Nat} {h : List UInt32} {bs : List UInt8} {m : List UInt32} {t : Nat} {last : Bool}
theorem SR.drew (s : SR w wr B q gh gb gm h bs m t last) : SR w wr.drew B q gh gb gm h bs m t last := ⟨s.bx, s.hh, s.bb, s.mm, s.hl, s.bl, s.ml, s.bel.drew, s.low⟩
theorem SR.up (s : SR w wr B q gh gb gm h bs m t last) (hb : Below wr.heap.size wr w') : SR w w' B q gh gb gm h bs m t last := by
  have l := s.low
  exact ⟨(hb.block q (by omega)).trans s.bx, s.hh.below hb (by omega), s.bb.below hb (by omega), s.mm.below hb (by omega), s.hl, s.bl, s.ml, s.bel.trans (hb.mono (by omega)), by have := hb.size; omega⟩
theorem SR.alloc (s : SR w wr B q gh gb gm h bs m t last) (o : Obj) : SR w (wr.alloc o) B q gh gb gm h bs m t last := s.up ((Below.refl _ _).alloc (Nat.le_refl _) o)
theorem SR.other (s : SR w wr B q gh gb gm h bs m t last) {S : Nat} (hg : wr.grownBy w' (some S)) (hS : gm < S) : SR w w' B q gh gb gm h bs m t last := by
  have l := s.low
  exact ⟨(hg.block q (by omega) (by simp; omega)).trans s.bx, s.hh.grown hg (by simp; omega), (hg.block gb (by omega) (by simp; omega)).trans s.bb, s.mm.grown hg (by simp; omega), s.hl, s.bl, s.ml, s.bel.grown hg (by omega) (fun k hk => by injection hk with hk; omega), by have := hg.size; omega⟩
theorem SR.setM (s : SR w wr B q gh gb gm h bs m t last) (i : Nat) (x : UInt32) : SR w (wr.setCell ⟨gm, i, none⟩ (.int .u32 (wd x))) B q gh gb gm h bs (m.set i x) t last := by
  have l := s.low
  have hg := grown_set wr gm i (.int .u32 (wd x))
  exact ⟨(hg.block q (by omega) (by simp; omega)).trans s.bx, s.hh.grown hg (by simp; omega), (hg.block gb (by omega) (by simp; omega)).trans s.bb, s.mm.set_ i x, s.hl, s.bl, by simp [s.ml], s.bel.grown hg (by omega) (fun k hk => by injection hk with hk; omega), by have := hg.size; omega⟩
end
theorem blk_cell {w : World} {g : Nat} {l : List UInt8} (h : Blk w g l) (i : Nat) (hi : i < l.length) : w.cell? ⟨g, i, none⟩ = some (.int .u8 ((byte l i).toNat : Int)) := by
  rw [cell_of_row w g i _ _ (0, 0) h]
  simp [cb, byte, hi]

theorem gather_facts (i : Nat) (hi : i < 64) : ∃ d r : Nat, Hid (d = i / 4) ∧ Hid (r = i % 4) ∧ d < 16 ∧ r < 4 ∧ (i : Int).tdiv 4 = d ∧ (i : Int).tmod 4 = r ∧ IntKind.i64.wrap (d : Int) = d ∧ IntKind.i64.wrap (r : Int) = r ∧
    IntKind.i64.wrap (8 * (r : Int)) = 8 * (r : Int) ∧ IntKind.u64.wrap (8 * (r : Int)) = 8 * (r : Int) ∧ (8 * (r : Int)).toNat = 8 * r ∧ 0 ≤ 8 * (r : Int) ∧ 8 * (r : Int) ≤ 32 ∧ (d : Int) < 16 := by
  refine ⟨i / 4, i % 4, rfl, rfl, by omega, by omega, by rw [Int.tdiv_eq_ediv_of_nonneg (by omega)]; omega, by rw [Int.tmod_eq_emod_of_nonneg (by omega)]; omega, IntWalk.i64_in _ ⟨by omega, by omega⟩, IntWalk.i64_in _ ⟨by omega, by omega⟩, IntWalk.i64_in _ ⟨by omega, by omega⟩, IntWalk.u64_in _ ⟨by omega, by omega⟩, by omega, by omega, by omega, by omega⟩
theorem u8_mod (c : UInt8) : (c.toNat : Int) % 4294967296 = (c.toNat : Int) := by have := c.toNat_lt; omega
theorem u8_wrap (c : UInt8) : IntKind.u32.wrap (c.toNat : Int) = (c.toNat : Int) := by rw [IntKind.wrap_u32, u8_mod]
theorem shl_u8 (n : Nat) (c : UInt8) : ((c.toNat : Int) * 2 ^ n) % 4294967296 = wd (shl n (u8w c)) := by rw [← wd_u8w, wd_shl']
theorem shl_u8w (n : Nat) (c : UInt8) : IntKind.u32.wrap ((c.toNat : Int) * 2 ^ n) = wd (shl n (u8w c)) := by rw [IntKind.wrap_u32, shl_u8]

theorem owns_up {w w' : World} {B : Nat} {v : Value} {l : List UInt32} (h : Owns32 w B v l) (hb : Below w.heap.size w w') : Owns32 w' B v l := by
  refine ⟨h.1, ?_⟩
  have h2 := h.2
  rcases h2 with h0 | ⟨g, cap, cur, e, r⟩
  · exact .inl h0
  · exact .inr ⟨g, cap, cur, e, r.1, (hb.block g (Array.getElem?_eq_some_iff.1 r.2.1).1).trans r.2.1, r.2.2⟩

theorem TB.drew {w : World} {g base : Nat} (h : TB w g base) : TB w.drew g base := ⟨fun r hr => h.rows r hr, fun r i hr hi => h.cells r i hr hi⟩
theorem mixR_at (g cap a b c d : Nat) (A B C D : Int) (t : TypeId) (v : List UInt32) (tail : List Value) (x y : UInt32) (w : World) (hA : A = a) (hB : B = b) (hC : C = c) (hD : D = d) (h : WR w g t v tail) (hv : v.length = 16) (ha : a < 16) (hb : b < 16) (hc : c < 16) (hd : d < 16) :
    Calls Tryd.prog 62 #[.slice (some ⟨g, 0, none⟩) 16 cap, .agg #[.int .i64 A, .int .i64 B, .int .i64 C, .int .i64 D, .int .u32 (wd x), .int .u32 (wd y)]] w
      fun e w' => e = .returned (.tuple #[]) ∧ WR w' g t (mixed v a b c d x y) tail ∧ w.grownBy w' (some g) := by
  subst hA hB hC hD
  exact mixR_any g cap a b c d t v tail x y w h hv ha hb hc hd
theorem own_le {g k n c : Nat} (h : (Value.slice (some ⟨g, 0, none⟩) n c).ownBlock = some k) : g ≤ k := by
  have e : g = k := by simpa [Value.ownBlock] using h
  omega
theorem lt_16 {i : Nat} (h : i < 4) : i < 16 := by omega
theorem lt_16p {p c : Nat} (hp : p < 4) (hc : c ≤ 12) : c + p < 16 := by omega
theorem lt_of_11 {tb n : Nat} (h : tb + 11 ≤ n) : tb + 10 < n := by omega
theorem le_of_11 {tb n : Nat} (h : tb + 11 ≤ n) : tb + 10 ≤ n := by omega
theorem tick2_14 (v : List UInt32) (t : Nat) : at_ (tick2 v t) 14 = at_ v 14 := by simp [tick2, at_]
theorem col_facts (i : Nat) (hi : i < 4) : IntKind.i64.wrap (4 + (i : Int)) = 4 + (i : Int) ∧ 0 ≤ 4 + (i : Int) ∧ (4 + (i : Int)).toNat = 4 + i ∧ 4 + (i : Int) < 16 ∧ IntKind.i64.wrap (8 + (i : Int)) = 8 + (i : Int) ∧ 0 ≤ 8 + (i : Int) ∧ (8 + (i : Int)).toNat = 8 + i ∧ 8 + (i : Int) < 16 ∧
    IntKind.i64.wrap (12 + (i : Int)) = 12 + (i : Int) ∧ 0 ≤ 12 + (i : Int) ∧ (12 + (i : Int)).toNat = 12 + i ∧ 12 + (i : Int) < 16 ∧ IntKind.i64.wrap (2 * (i : Int)) = 2 * (i : Int) ∧ 0 ≤ 2 * (i : Int) ∧ (2 * (i : Int)).toNat = 2 * i ∧ 2 * (i : Int) < 16 ∧
    IntKind.i64.wrap (2 * (i : Int) + 1) = 2 * (i : Int) + 1 ∧ 0 ≤ 2 * (i : Int) + 1 ∧ (2 * (i : Int) + 1).toNat = 2 * i + 1 ∧ 2 * (i : Int) + 1 < 16 := by
  refine ⟨IntWalk.i64_in _ ⟨by omega, by omega⟩, by omega, by omega, by omega, IntWalk.i64_in _ ⟨by omega, by omega⟩, by omega, by omega, by omega, IntWalk.i64_in _ ⟨by omega, by omega⟩, by omega, by omega, by omega, IntWalk.i64_in _ ⟨by omega, by omega⟩, by omega, by omega, by omega, IntWalk.i64_in _ ⟨by omega, by omega⟩, by omega, by omega, by omega⟩

set_option maxHeartbeats 4000000 in
set_option maxRecDepth 20000 in
theorem compR_any (gh gb : Nat) (h : List UInt32) (bs : List UInt8) (t : Nat) (last : Bool) (w : World) (hh : WB w gh 74 h) (hb : Blk w gb bs) (hl : h.length = 8) (bl : bs.length = 64) :
    Calls Tryd.prog 59 #[.slice (some ⟨gh, 0, none⟩) 8 8, .agg #[.slice (some ⟨gb, 0, none⟩) 64 64, .int .u64 t, .bool last]] w
      fun e w' => ∃ g, e = .returned (.slice (some ⟨g, 0, none⟩) 8 8) ∧ WB w' g 74 (compressed h (wordsOf bs) t last) ∧ Below w.heap.size w w' := by
  have lh := hh.lt
  have lb := hb.lt
  have hst : Hid (SR w ((w.alloc (.cells #[.slice (some ⟨gb, 0, none⟩) 64 64, .int .u64 t, .bool last] 90)).alloc (.cells (cw (List.replicate 16 0)).toArray 74)) w.heap.size w.heap.size gh gb (w.heap.size + 1) h bs (gather bs 0) t last) := by
    have e2 := heap_alloc_new (w.alloc (.cells #[.slice (some ⟨gb, 0, none⟩) 64 64, .int .u64 t, .bool last] 90)) (.cells (cw (List.replicate 16 0)).toArray 74)
    have z : ∀ (w : World) (o : Obj), (w.alloc o).heap.size = w.heap.size + 1 := fun w o => by simp
    rw [z] at e2
    exact ⟨(Below.heap_alloc _ _ _ (by simp)).trans (heap_alloc_new w _), (hh.alloc _).alloc _, (Below.heap_alloc _ _ _ (by simp; omega)).trans ((Below.heap_alloc _ _ _ lb).trans hb), e2, hl, bl, by simp [gather], ((Below.refl _ _).alloc (Nat.le_refl _) _).alloc (by simp) _, by rw [z, z]; omega⟩
  clear hh hb lh lb
  have HL := Lib.hid hl
  have BL := Lib.hid bl
  clear hl bl
  go_enter Tryd.func59, Tryd.ntmps59
  go_wp2_with (at_make; refine wpList_make32 _ rfl _ _ _ rfl Tryd.underlying86 info40 .i64 .i64 _ 16 rfl rfl rfl (by decide) ?_)

  generalize hB : w.heap.size = B at hst ⊢
  generalize B + 1 = gm at hst ⊢
  have HB := Lib.hid hB
  clear hB
  go_loopw [6] (fun i wr => ∃ k : Nat, k ≤ 64 ∧ i = .int .i64 k ∧ Hid (SR w wr B B gh gb gm h bs (gather bs k) t last)) (fun i _ => 64 - (intOf i).toNat)
  case atStart => exact ⟨0, by omega, rfl, hst⟩
  case round =>
    obtain ⟨k, hk, rfl, hs⟩ := hrel
    clear hst
    by_cases hlt : k < 64
    · obtain ⟨d, r, hd, hr, d16, r4, f1, f2, f3, f4, f5, f6, f7, f8, f9, f10⟩ := gather_facts k hlt
      obtain ⟨q0, q1, q2⟩ := hs.out.bx.cells
      have cm := hs.out.mm.cell d (by rw [hs.out.ml]; exact d16)
      have fm := hs.out.mm.frozen d
      have cb := blk_cell hs.out.bb k (by rw [BL.out]; exact hlt)
      have s1 := shl_u8w (8 * r) (byte bs k)
      have s2 := shl_u8 (8 * r) (byte bs k)
      have s0 := u8_mod (byte bs k)
      have s3 := u8_wrap (byte bs k)
      have k1 : (k : Int) < 64 := by omega
      go_wp2
      go_still_tail 21, (by kernel_rfl)
      change wpList _ _ _ _ _ wr.drew
      go_wp2
      go_roundw
      case rel =>
        have h2 := (hs.out.setM d (at_ (gather bs k) d ||| shl (8 * r) (u8w (byte bs k)))).drew
        refine ⟨k + 1, by omega, by go_num, ?_⟩
        obtain rfl := hd.out
        obtain rfl := hr.out
        exact h2
      case measure => simp [intOf]; omega
    · have hk64 : k = 64 := by omega
      rw [hk64, gather_64] at hs
      clear hk64 hk
      obtain ⟨wo, hwo⟩ : ∃ wo : World, wo = wr := ⟨_, rfl⟩
      subst hwo
      go_wp2_with (first
        | (at_builtin; refine wpList_grow32 rfl (.tmp 41) (.tmp 42) _ rfl Tryd.underlying86 info40 wo.heap.size (.slice (some ⟨wo.heap.size, 0, none⟩) 0 0) [] gh h 8 rfl (show _ = Value.slice _ _ _ by rw [HL.out]; rfl) (owns32_empty wo _ rfl) (hs.out.hh.alloc _) (by rw [HL.out]; decide) (by simp) ?_; intro v1 w1 ho1 hg1)
        | (go_at_call 58; refine (start_any w1).mono ?_; rintro e w2 ⟨rfl, hiv, hb2, hz2⟩)
        | (at_builtin; refine wpList_grow32 rfl (.tmp 43) (.tmp 44) _ rfl Tryd.underlying86 info40 wo.heap.size v1 ([] ++ h) w1.heap.size IV 8 rfl rfl (owns_up ho1 hb2) hiv (by simp [HL.out, IV_len]) (Nat.le_trans (by have := hg1.size; simp at this; omega) hb2.size) ?_; intro v2 w3 ho2 hg2))
      have hb3 : Below wo.heap.size wo w3 := by
        have b1 : Below wo.heap.size wo w1 := ((Below.refl _ _).alloc (Nat.le_refl _) _).grown hg1 (by simp) (fun k hk => own_le hk)
        exact (b1.trans (hb2.mono b1.size)).grown hg2 (Nat.le_trans b1.size hb2.size) (fun k hk => (World.ownsRow.lt (owns_up ho1 hb2) k hk).1)
      obtain ⟨gv, cap, tail, rfl, hgv0, hv3⟩ := ho2.shape (by simp [HL.out, IV_len])
      have hs3 := hs.out.up hb3
      have hgv : gm < gv := Nat.lt_of_lt_of_le hs.out.low.2.2.2.2 hgv0
      have hne : B ≠ gv := by have := hs.out.low; omega
      have e16 : ([] ++ h ++ IV).length = 16 := by simp [HL.out, IV_len]
      rw [e16]
      have hc3 : ([] ++ h ++ IV) = h ++ IV := rfl
      rw [hc3] at hv3
      have HC : ∀ b, Hid (compressed h (wordsOf bs) t b = folded h (rnds (wordsOf bs) (ticked (h ++ IV) t b) 10)) := fun b => rfl
      have hl3 : (h ++ IV).length = 16 := e16
      generalize h ++ IV = v at hv3 HC hl3
      have hlo := (wd_lo t).symm
      have hhi := (wd_hi t).symm
      have hlo' : IntKind.u32.wrap (t : Int) = wd (lo32 t) := by rw [IntKind.wrap_u32, wd_lo]
      have hhi' : IntKind.u32.wrap ((t : Int) / 4294967296) = wd (hi32 t) := by rw [IntKind.wrap_u32, wd_hi]
      have hsg : IntKind.u32.signed = false := rfl
      clear ho1 hg1 hiv hb2 hz2 ho2 hg2 hc3 e16 hgv0 hs
      cases last
      case false =>
        obtain ⟨q0, q1, q2⟩ := hs3.bx.cells
        have c12 := hv3.cell 12 (by rw [hl3]; decide)
        have f12 := hv3.frozen 12
        go_still_tail 9, (by kernel_rfl)
        change wpList _ _ _ _ _ w3.drew
        go_wp2
        have hs4 : SR w (w3.setCell ⟨gv, 12, none⟩ (.int .u32 (wd (at_ v 12 ^^^ lo32 t)))).drew B B gh gb gm h bs (wordsOf bs) t false := (hs3.other (grown_set _ _ _ _) hgv).drew
        have hv4 : WR (w3.setCell ⟨gv, 12, none⟩ (.int .u32 (wd (at_ v 12 ^^^ lo32 t)))).drew gv 74 (tick1 v t) tail := (hv3.set_ 12 _ (by rw [hl3]; decide)).drew
        have hl4 : (tick1 v t).length = 16 := by simp [tick1, hl3]
        generalize (w3.setCell ⟨gv, 12, none⟩ (.int .u32 (wd (at_ v 12 ^^^ lo32 t)))).drew = w4 at hs4 hv4 ⊢
        clear q0 q1 q2 c12 f12 hs3 hv3
        obtain ⟨q0, q1, q2⟩ := hs4.bx.cells
        have c13 := hv4.cell 13 (by rw [hl4]; decide)
        have f13 := hv4.frozen 13
        go_still_tail 10, (by kernel_rfl)
        change wpList _ _ _ _ _ w4.drew
        have q2' : (w4.setCell ⟨gv, 13, none⟩ (.int .u32 (wd (at_ (tick1 v t) 13 ^^^ hi32 t)))).cell? ⟨B, 2, none⟩ = some (.bool false) := (World.cell?_setCell_other w4 _ _ _ (fun e => hne (congrArg Addr.block e).symm)).trans q2
        have c14 := hv4.cell 14 (by rw [hl4]; decide)
        have f14 := hv4.frozen 14
        have HS4 := Lib.hid hs4
        have HV4 := Lib.hid hv4
        clear hs4 hv4 q0 q1
        go_wp2_with (go_at_call 61; refine (rows_any (w4.setCell ⟨gv, 13, none⟩ (.int .u32 (wd (at_ (tick1 v t) 13 ^^^ hi32 t)))).drew).mono ?_; rintro e w7 ⟨rfl, htb, hb7, hz7⟩)
        have hs6 : SR w (w4.setCell ⟨gv, 13, none⟩ (.int .u32 (wd (at_ (tick1 v t) 13 ^^^ hi32 t)))).drew B B gh gb gm h bs (wordsOf bs) t false := (HS4.out.other (grown_set _ _ _ _) hgv).drew
        have hv6 : WR (w4.setCell ⟨gv, 13, none⟩ (.int .u32 (wd (at_ (tick1 v t) 13 ^^^ hi32 t)))).drew gv 74 (ticked v t false) tail := (HV4.out.set_ 13 (at_ (tick1 v t) 13 ^^^ hi32 t) (by rw [hl4]; decide)).drew
        have hs7 : SR w w7 B B gh gb gm h bs (wordsOf bs) t false := hs6.up hb7
        have hv7 : WR w7 gv 74 (ticked v t false) tail := hv6.up hb7
        have lv7 := hv6.lt
        have hl7 : (ticked v t false).length = 16 := by rw [ticked_len, hl3]
        have HC7 := HC false
        clear q2 q2' c13 f13 c14 f14 hs6 hv6 HS4 HV4 HC hlo hhi hlo' hhi' hsg hl4
        have zz : ((w4.setCell ⟨gv, 13, none⟩ (.int .u32 (wd (at_ (tick1 v t) 13 ^^^ hi32 t)))).drew).heap.size = w4.heap.size := by simp [World.setCell]
        rw [zz] at htb lv7 hz7
        generalize w4.heap.size = tb at htb lv7 hz7 ⊢
        generalize ticked v t false = v1 at hv7 hl7 HC7
        have HT := Lib.hid htb
        have hz8 : tb + 11 ≤ w7.heap.size := by omega
        clear htb hb7 hz7 zz
        have HS7 := Lib.hid hs7
        have HV7 := Lib.hid hv7
        have HL7 := Lib.hid hl7
        have HZ := Lib.hid hz8
        have HLV := Lib.hid lv7
        clear hs7 hv7 hl7 hz8 lv7
        go_loopw [9] (fun i wr => ∃ k : Nat, k ≤ 10 ∧ i = .int .i64 k ∧ Hid (SR w wr B B gh gb gm h bs (wordsOf bs) t false) ∧ Hid (WR wr gv 74 (rnds (wordsOf bs) v1 k) tail) ∧ Hid (TB wr (tb + 10) tb) ∧ Hid (tb + 11 ≤ wr.heap.size)) (fun i _ => 10 - (intOf i).toNat)
        case atStart => exact ⟨0, by omega, rfl, HS7, HV7, HT, HZ⟩
        case round =>
          clear HS7 HV7 HT HZ
          obtain ⟨k, hk, rfl, hs, hv, ht, hz⟩ := hrel
          obtain ⟨wo, hwo⟩ : ∃ wo : World, wo = wr := ⟨_, rfl⟩
          subst hwo
          by_cases hlt : k < 10
          · have HR := Lib.hid (row_ok k hlt)
            have crow := ht.out.rows k hlt
            have i1 : (k : Int) < 10 := by omega
            go_wp2
            go_loopw [11] (fun i wr => ∃ n : Nat, n ≤ 4 ∧ i = .int .i64 n ∧ Hid (SR w wr B B gh gb gm h bs (wordsOf bs) t false) ∧ Hid (WR wr gv 74 (cols (wordsOf bs) (row k) (rnds (wordsOf bs) v1 k) n) tail) ∧ Hid (TB wr (tb + 10) tb) ∧ Hid (tb + 11 ≤ wr.heap.size)) (fun i _ => 4 - (intOf i).toNat)
            case atStart => exact ⟨0, by omega, rfl, hs, hv, ht, hz⟩
            case round =>
              clear hs hv ht hz crow
              obtain ⟨i, hi, rfl, hs, hv, ht, hz⟩ := hrel
              obtain ⟨wr2, hwr2⟩ : ∃ wr2 : World, wr2 = wr := ⟨_, rfl⟩
              subst hwr2
              have LV : Hid ((cols (wordsOf bs) (row k) (rnds (wordsOf bs) v1 k) i).length = 16) := by show _ = _; rw [cols_len, rnds_len, HL7.out]
              by_cases hlt4 : i < 4
              · have cs1 := ht.out.cells k (2 * i) hlt (by omega)
                have cs2 := ht.out.cells k (2 * i + 1) hlt (by omega)
                have r1 := HR.out.2 (2 * i) (by omega)
                have r2 := HR.out.2 (2 * i + 1) (by omega)
                have cm1 := hs.out.mm.cell (pick (row k) (2 * i)) (by rw [hs.out.ml]; exact r1)
                have cm2 := hs.out.mm.cell (pick (row k) (2 * i + 1)) (by rw [hs.out.ml]; exact r2)
                have x1 : ((pick (row k) (2 * i) : Nat) : Int) < 16 := by omega
                have x2 : ((pick (row k) (2 * i + 1) : Nat) : Int) < 16 := by omega
                have j1 : (i : Int) < 16 := by omega
                obtain ⟨a1, a2, a3, a4, b1, b2, b3, b4, c1, c2, c3, c4, d1, d2, d3, d4, e1, e2, e3, e4⟩ := col_facts i hlt4
                have cg : wr2.cell? ⟨tb + k, 2 * i, none⟩ = _ := cs1
                clear cg r1 r2
                go_wp2
                go_still_tail 26, (by kernel_rfl)
                change wpList _ _ _ _ _ wr2.drew
                go_wp2_with (go_at_call 62; refine (mixR_at gv cap i (4 + i) (8 + i) (12 + i) _ _ _ _ 74 (cols (wordsOf bs) (row k) (rnds (wordsOf bs) v1 k) i) tail (at_ (wordsOf bs) (pick (row k) (2 * i))) (at_ (wordsOf bs) (pick (row k) (2 * i + 1))) wr2.drew rfl (by rfl) (by rfl) (by rfl) hv.out.drew LV.out (lt_16 hlt4) (lt_16p hlt4 (by decide)) (lt_16p hlt4 (by decide)) (lt_16p hlt4 (by decide))).mono ?_; rintro e w6 ⟨rfl, hw6, hg6⟩)
                have hs6 : Hid (SR w w6 B B gh gb gm h bs (wordsOf bs) t false) := hs.out.drew.other hg6 hgv
                have hv6 : Hid (WR w6 gv 74 (cols (wordsOf bs) (row k) (rnds (wordsOf bs) v1 k) (i + 1)) tail) := hw6
                have ht6 : Hid (TB w6 (tb + 10) tb) := TB.grown (w := wr2.drew) ht.out.drew hg6 (lt_of_11 hz.out) (le_of_11 hz.out) HLV.out (Nat.le_add_right _ _)
                have hz6 : Hid (tb + 11 ≤ w6.heap.size) := Nat.le_trans hz.out hg6.size
                clear hw6 hg6 a1 a2 a3 a4 b1 b2 b3 b4 c1 c2 c3 c4 d1 d2 d3 d4 e1 e2 e3 e4 LV
                go_roundw
                case rel => exact ⟨i + 1, by omega, by go_num, hs6, hv6, ht6, hz6⟩
                case measure => simp [intOf]; omega
              · have hi4 : i = 4 := by omega
                rw [hi4] at hv
                clear hi4 hi LV
                go_wp2
                go_loopw [12] (fun i wr => ∃ n : Nat, n ≤ 4 ∧ i = .int .i64 n ∧ Hid (SR w wr B B gh gb gm h bs (wordsOf bs) t false) ∧ Hid (WR wr gv 74 (dias (wordsOf bs) (row k) (cols (wordsOf bs) (row k) (rnds (wordsOf bs) v1 k) 4) n) tail) ∧ Hid (TB wr (tb + 10) tb) ∧ Hid (tb + 11 ≤ wr.heap.size)) (fun i _ => 4 - (intOf i).toNat)
                case atStart => exact ⟨0, by omega, rfl, hs, hv, ht, hz⟩
                case round =>
                  clear hs hv ht hz
                  obtain ⟨i, hi, rfl, hs, hv, ht, hz⟩ := hrel
                  obtain ⟨wr3, hwr3⟩ : ∃ wr3 : World, wr3 = wr := ⟨_, rfl⟩
                  subst hwr3
                  have LV : Hid ((dias (wordsOf bs) (row k) (cols (wordsOf bs) (row k) (rnds (wordsOf bs) v1 k) 4) i).length = 16) := by show _ = _; rw [dias_len, cols_len, rnds_len, HL7.out]
                  by_cases hlt4 : i < 4
                  · have cs1 := ht.out.cells k (8 + 2 * i) hlt (by omega)
                    have cs2 := ht.out.cells k (9 + 2 * i) hlt (by omega)
                    have r1 := HR.out.2 (8 + 2 * i) (by omega)
                    have r2 := HR.out.2 (9 + 2 * i) (by omega)
                    have cm1 := hs.out.mm.cell (pick (row k) (8 + 2 * i)) (by rw [hs.out.ml]; exact r1)
                    have cm2 := hs.out.mm.cell (pick (row k) (9 + 2 * i)) (by rw [hs.out.ml]; exact r2)
                    have x1 : ((pick (row k) (8 + 2 * i) : Nat) : Int) < 16 := by omega
                    have x2 : ((pick (row k) (9 + 2 * i) : Nat) : Int) < 16 := by omega
                    have j1 : (i : Int) < 16 := by omega
                    obtain ⟨d1, e01, e02, e03, e04, e11, e12, e13, e14⟩ := dia_facts i hlt4
                    obtain ⟨p1, hp1, u01, u02, u03, u04, u05, u06, u07⟩ := rem_facts i 1 4 1 4 hlt4 (by decide) (by decide) rfl rfl
                    obtain ⟨p2, hp2, u11, u12, u13, u14, u15, u16, u17⟩ := rem_facts i 2 8 2 8 hlt4 (by decide) (by decide) rfl rfl
                    obtain ⟨p3, hp3, u21, u22, u23, u24, u25, u26, u27⟩ := rem_facts i 3 12 3 12 hlt4 (by decide) (by decide) rfl rfl
                    clear r1 r2
                    go_wp2
                    go_still_tail 33, (by kernel_rfl)
                    change wpList _ _ _ _ _ wr3.drew
                    go_wp2_with (go_at_call 62; refine (mixR_at gv cap i (4 + p1) (8 + p2) (12 + p3) _ _ _ _ 74 (dias (wordsOf bs) (row k) (cols (wordsOf bs) (row k) (rnds (wordsOf bs) v1 k) 4) i) tail (at_ (wordsOf bs) (pick (row k) (8 + 2 * i))) (at_ (wordsOf bs) (pick (row k) (9 + 2 * i))) wr3.drew rfl (by rfl) (by rfl) (by rfl) hv.out.drew LV.out (lt_16 hlt4) (lt_16p hp1.2 (by decide)) (lt_16p hp2.2 (by decide)) (lt_16p hp3.2 (by decide))).mono ?_; rintro e w6 ⟨rfl, hw6, hg6⟩)
                    have hs6 : Hid (SR w w6 B B gh gb gm h bs (wordsOf bs) t false) := hs.out.drew.other hg6 hgv
                    have hv6 : Hid (WR w6 gv 74 (dias (wordsOf bs) (row k) (cols (wordsOf bs) (row k) (rnds (wordsOf bs) v1 k) 4) (i + 1)) tail) := by
                      rw [hp1.1.out, hp2.1.out, hp3.1.out] at hw6
                      exact hw6
                    have ht6 : Hid (TB w6 (tb + 10) tb) := TB.grown (w := wr3.drew) ht.out.drew hg6 (lt_of_11 hz.out) (le_of_11 hz.out) HLV.out (Nat.le_add_right _ _)
                    have hz6 : Hid (tb + 11 ≤ w6.heap.size) := Nat.le_trans hz.out hg6.size
                    clear hw6 hg6 LV d1 e01 e02 e03 e04 e11 e12 e13 e14 u01 u02 u03 u04 u05 u06 u07 u11 u12 u13 u14 u15 u16 u17 u21 u22 u23 u24 u25 u26 u27 hp1 hp2 hp3
                    go_roundw
                    case rel => exact ⟨i + 1, by omega, by go_num, hs6, hv6, ht6, hz6⟩
                    case measure => simp [intOf]; omega
                  · have hi4 : i = 4 := by omega
                    rw [hi4] at hv
                    clear hi4 hi LV
                    go_wp2
                    go_roundw
                    case rel => exact ⟨k + 1, by omega, by go_num, hs, hv, ht, hz⟩
                    case measure => simp [intOf]; omega
          · have hk10 : k = 10 := by omega
            rw [hk10] at hv
            clear hk10 hk ht hz
            have HV2 : Hid ((rnds (wordsOf bs) v1 10).length = 16) := by show _ = _; rw [rnds_len, HL7.out]
            generalize rnds (wordsOf bs) v1 10 = v2 at hv HC7 HV2
            go_wp2_with (at_make; refine wpList_make32 _ rfl _ _ _ rfl Tryd.underlying86 info40 .i64 .i64 _ 8 rfl rfl rfl (by decide) ?_)
            have lgo : Hid (gm < wo.heap.size ∧ gv < wo.heap.size) := ⟨hs.out.low.2.2.2.2, hv.out.lt⟩
            have hs8 : Hid (SR w (wo.alloc (.cells (cw (List.replicate 8 0)).toArray 74)) B B gh gb gm h bs (wordsOf bs) t false) := hs.out.alloc _
            have hv8 : Hid (WR (wo.alloc (.cells (cw (List.replicate 8 0)).toArray 74)) gv 74 v2 tail) := hv.out.alloc _
            have ho8 : Hid (WB (wo.alloc (.cells (cw (List.replicate 8 0)).toArray 74)) wo.heap.size 74 (foldR h v2 0)) := heap_alloc_new wo _
            generalize wo.heap.size = go at lgo ho8 ⊢
            go_loopw [14] (fun i wr => ∃ n : Nat, n ≤ 8 ∧ i = .int .i64 n ∧ Hid (SR w wr B B gh gb gm h bs (wordsOf bs) t false) ∧ Hid (WR wr gv 74 v2 tail) ∧ Hid (WB wr go 74 (foldR h v2 n))) (fun i _ => 8 - (intOf i).toNat)
            case atStart => exact ⟨0, by omega, rfl, hs8, hv8, ho8⟩
            case round =>
              clear hs hv hs8 hv8 ho8
              obtain ⟨i, hi, rfl, hs, hv, ho⟩ := hrel
              obtain ⟨wr4, hwr4⟩ : ∃ wr4 : World, wr4 = wr := ⟨_, rfl⟩
              subst hwr4
              by_cases hlt8 : i < 8
              · have ch := hs.out.hh.cell i (by rw [HL.out]; exact hlt8)
                have cv1 := hv.out.cell i (by rw [HV2.out]; omega)
                have cv2 := hv.out.cell (i + 8) (by rw [HV2.out]; omega)
                have co := ho.out.cell i (by rw [foldR_len]; exact hlt8)
                have fo := ho.out.frozen i
                have i1 : (i : Int) < 8 := by omega
                have i2 : (i : Int) < 16 := by omega
                have b1 : IntKind.i64.wrap ((i : Int) + 8) = (i : Int) + 8 := IntWalk.i64_in _ ⟨by omega, by omega⟩
                have b2 : (0 : Int) ≤ (i : Int) + 8 := by omega
                have b3 : ((i : Int) + 8).toNat = i + 8 := by omega
                have b4 : (i : Int) + 8 < 16 := by omega
                go_wp2
                go_still_tail 18, (by kernel_rfl)
                change wpList _ _ _ _ _ wr4.drew
                go_wp2
                go_roundw
                case rel => exact ⟨i + 1, by omega, by go_num, ((hs.out.other (grown_set _ _ _ _) lgo.out.1).drew), ((hv.out.grown (grown_set _ _ _ _) (fun e => Nat.ne_of_lt lgo.out.2 (Option.some.inj e))).drew), ((ho.out.set_ i _).drew)⟩
                case measure => simp [intOf]; omega
              · have hi8 : i = 8 := by omega
                rw [hi8, foldR_8 HL.out] at ho
                clear hi8 hi
                go_wp2
                go_ret
                refine ⟨go, rfl, ?_, ?_⟩
                · rw [HC7.out]
                  exact ho.out
                · rw [HB.out]
                  exact hs.out.bel
      case true =>
        obtain ⟨q0, q1, q2⟩ := hs3.bx.cells
        have c12 := hv3.cell 12 (by rw [hl3]; decide)
        have f12 := hv3.frozen 12
        go_still_tail 9, (by kernel_rfl)
        change wpList _ _ _ _ _ w3.drew
        go_wp2
        have hs4 : SR w (w3.setCell ⟨gv, 12, none⟩ (.int .u32 (wd (at_ v 12 ^^^ lo32 t)))).drew B B gh gb gm h bs (wordsOf bs) t true := (hs3.other (grown_set _ _ _ _) hgv).drew
        have hv4 : WR (w3.setCell ⟨gv, 12, none⟩ (.int .u32 (wd (at_ v 12 ^^^ lo32 t)))).drew gv 74 (tick1 v t) tail := (hv3.set_ 12 _ (by rw [hl3]; decide)).drew
        have hl4 : (tick1 v t).length = 16 := by simp [tick1, hl3]
        generalize (w3.setCell ⟨gv, 12, none⟩ (.int .u32 (wd (at_ v 12 ^^^ lo32 t)))).drew = w4 at hs4 hv4 ⊢
        clear q0 q1 q2 c12 f12 hs3 hv3
        obtain ⟨q0, q1, q2⟩ := hs4.bx.cells
        have c13 := hv4.cell 13 (by rw [hl4]; decide)
        have f13 := hv4.frozen 13
        go_still_tail 10, (by kernel_rfl)
        change wpList _ _ _ _ _ w4.drew
        have q2' : (w4.setCell ⟨gv, 13, none⟩ (.int .u32 (wd (at_ (tick1 v t) 13 ^^^ hi32 t)))).cell? ⟨B, 2, none⟩ = some (.bool true) := (World.cell?_setCell_other w4 _ _ _ (fun e => hne (congrArg Addr.block e).symm)).trans q2
        have c14 := hv4.cell 14 (by rw [hl4]; decide)
        have f14 := hv4.frozen 14
        have HS4 := Lib.hid hs4
        have HV4 := Lib.hid hv4
        clear hs4 hv4 q0 q1
        go_wp2_with (go_at_call 61; refine (rows_any ((w4.setCell ⟨gv, 13, none⟩ (.int .u32 (wd (at_ (tick1 v t) 13 ^^^ hi32 t)))).setCell ⟨gv, 14, none⟩ (.int .u32 (wd (~~~ (at_ (tick1 v t) 14))))).drew).mono ?_; rintro e w7 ⟨rfl, htb, hb7, hz7⟩)
        have hs6 : SR w ((w4.setCell ⟨gv, 13, none⟩ (.int .u32 (wd (at_ (tick1 v t) 13 ^^^ hi32 t)))).setCell ⟨gv, 14, none⟩ (.int .u32 (wd (~~~ (at_ (tick1 v t) 14))))).drew B B gh gb gm h bs (wordsOf bs) t true := ((HS4.out.other (grown_set _ _ _ _) hgv).other (grown_set _ _ _ _) hgv).drew
        have hv6 : WR ((w4.setCell ⟨gv, 13, none⟩ (.int .u32 (wd (at_ (tick1 v t) 13 ^^^ hi32 t)))).setCell ⟨gv, 14, none⟩ (.int .u32 (wd (~~~ (at_ (tick1 v t) 14))))).drew gv 74 (ticked v t true) tail := by
          have hh := ((HV4.out.set_ 13 (at_ (tick1 v t) 13 ^^^ hi32 t) (by rw [hl4]; decide)).set_ 14 (~~~ (at_ (tick1 v t) 14)) (by rw [List.length_set, hl4]; decide)).drew
          rw [← tick2_14 (tick1 v t) t] at hh ⊢
          exact hh
        have hs7 : SR w w7 B B gh gb gm h bs (wordsOf bs) t true := hs6.up hb7
        have hv7 : WR w7 gv 74 (ticked v t true) tail := hv6.up hb7
        have lv7 := hv6.lt
        have hl7 : (ticked v t true).length = 16 := by rw [ticked_len, hl3]
        have HC7 := HC true
        clear q2 q2' c13 f13 c14 f14 hs6 hv6 HS4 HV4 HC hlo hhi hlo' hhi' hsg hl4
        have zz : (((w4.setCell ⟨gv, 13, none⟩ (.int .u32 (wd (at_ (tick1 v t) 13 ^^^ hi32 t)))).setCell ⟨gv, 14, none⟩ (.int .u32 (wd (~~~ (at_ (tick1 v t) 14))))).drew).heap.size = w4.heap.size := by simp [World.setCell]
        rw [zz] at htb lv7 hz7
        generalize w4.heap.size = tb at htb lv7 hz7 ⊢
        generalize ticked v t true = v1 at hv7 hl7 HC7
        have HT := Lib.hid htb
        have hz8 : tb + 11 ≤ w7.heap.size := by omega
        clear htb hb7 hz7 zz
        have HS7 := Lib.hid hs7
        have HV7 := Lib.hid hv7
        have HL7 := Lib.hid hl7
        have HZ := Lib.hid hz8
        have HLV := Lib.hid lv7
        clear hs7 hv7 hl7 hz8 lv7
        go_loopw [9] (fun i wr => ∃ k : Nat, k ≤ 10 ∧ i = .int .i64 k ∧ Hid (SR w wr B B gh gb gm h bs (wordsOf bs) t true) ∧ Hid (WR wr gv 74 (rnds (wordsOf bs) v1 k) tail) ∧ Hid (TB wr (tb + 10) tb) ∧ Hid (tb + 11 ≤ wr.heap.size)) (fun i _ => 10 - (intOf i).toNat)
        case atStart => exact ⟨0, by omega, rfl, HS7, HV7, HT, HZ⟩
        case round =>
          clear HS7 HV7 HT HZ
          obtain ⟨k, hk, rfl, hs, hv, ht, hz⟩ := hrel
          obtain ⟨wo, hwo⟩ : ∃ wo : World, wo = wr := ⟨_, rfl⟩
          subst hwo
          by_cases hlt : k < 10
          · have HR := Lib.hid (row_ok k hlt)
            have crow := ht.out.rows k hlt
            have i1 : (k : Int) < 10 := by omega
            go_wp2
            go_loopw [11] (fun i wr => ∃ n : Nat, n ≤ 4 ∧ i = .int .i64 n ∧ Hid (SR w wr B B gh gb gm h bs (wordsOf bs) t true) ∧ Hid (WR wr gv 74 (cols (wordsOf bs) (row k) (rnds (wordsOf bs) v1 k) n) tail) ∧ Hid (TB wr (tb + 10) tb) ∧ Hid (tb + 11 ≤ wr.heap.size)) (fun i _ => 4 - (intOf i).toNat)
            case atStart => exact ⟨0, by omega, rfl, hs, hv, ht, hz⟩
            case round =>
              clear hs hv ht hz crow
              obtain ⟨i, hi, rfl, hs, hv, ht, hz⟩ := hrel
              obtain ⟨wr2, hwr2⟩ : ∃ wr2 : World, wr2 = wr := ⟨_, rfl⟩
              subst hwr2
              have LV : Hid ((cols (wordsOf bs) (row k) (rnds (wordsOf bs) v1 k) i).length = 16) := by show _ = _; rw [cols_len, rnds_len, HL7.out]
              by_cases hlt4 : i < 4
              · have cs1 := ht.out.cells k (2 * i) hlt (by omega)
                have cs2 := ht.out.cells k (2 * i + 1) hlt (by omega)
                have r1 := HR.out.2 (2 * i) (by omega)
                have r2 := HR.out.2 (2 * i + 1) (by omega)
                have cm1 := hs.out.mm.cell (pick (row k) (2 * i)) (by rw [hs.out.ml]; exact r1)
                have cm2 := hs.out.mm.cell (pick (row k) (2 * i + 1)) (by rw [hs.out.ml]; exact r2)
                have x1 : ((pick (row k) (2 * i) : Nat) : Int) < 16 := by omega
                have x2 : ((pick (row k) (2 * i + 1) : Nat) : Int) < 16 := by omega
                have j1 : (i : Int) < 16 := by omega
                obtain ⟨a1, a2, a3, a4, b1, b2, b3, b4, c1, c2, c3, c4, d1, d2, d3, d4, e1, e2, e3, e4⟩ := col_facts i hlt4
                have cg : wr2.cell? ⟨tb + k, 2 * i, none⟩ = _ := cs1
                clear cg r1 r2
                go_wp2
                go_still_tail 26, (by kernel_rfl)
                change wpList _ _ _ _ _ wr2.drew
                go_wp2_with (go_at_call 62; refine (mixR_at gv cap i (4 + i) (8 + i) (12 + i) _ _ _ _ 74 (cols (wordsOf bs) (row k) (rnds (wordsOf bs) v1 k) i) tail (at_ (wordsOf bs) (pick (row k) (2 * i))) (at_ (wordsOf bs) (pick (row k) (2 * i + 1))) wr2.drew rfl (by rfl) (by rfl) (by rfl) hv.out.drew LV.out (lt_16 hlt4) (lt_16p hlt4 (by decide)) (lt_16p hlt4 (by decide)) (lt_16p hlt4 (by decide))).mono ?_; rintro e w6 ⟨rfl, hw6, hg6⟩)
                have hs6 : Hid (SR w w6 B B gh gb gm h bs (wordsOf bs) t true) := hs.out.drew.other hg6 hgv
                have hv6 : Hid (WR w6 gv 74 (cols (wordsOf bs) (row k) (rnds (wordsOf bs) v1 k) (i + 1)) tail) := hw6
                have ht6 : Hid (TB w6 (tb + 10) tb) := TB.grown (w := wr2.drew) ht.out.drew hg6 (lt_of_11 hz.out) (le_of_11 hz.out) HLV.out (Nat.le_add_right _ _)
                have hz6 : Hid (tb + 11 ≤ w6.heap.size) := Nat.le_trans hz.out hg6.size
                clear hw6 hg6 a1 a2 a3 a4 b1 b2 b3 b4 c1 c2 c3 c4 d1 d2 d3 d4 e1 e2 e3 e4 LV
                go_roundw
                case rel => exact ⟨i + 1, by omega, by go_num, hs6, hv6, ht6, hz6⟩
                case measure => simp [intOf]; omega
              · have hi4 : i = 4 := by omega
                rw [hi4] at hv
                clear hi4 hi LV
                go_wp2
                go_loopw [12] (fun i wr => ∃ n : Nat, n ≤ 4 ∧ i = .int .i64 n ∧ Hid (SR w wr B B gh gb gm h bs (wordsOf bs) t true) ∧ Hid (WR wr gv 74 (dias (wordsOf bs) (row k) (cols (wordsOf bs) (row k) (rnds (wordsOf bs) v1 k) 4) n) tail) ∧ Hid (TB wr (tb + 10) tb) ∧ Hid (tb + 11 ≤ wr.heap.size)) (fun i _ => 4 - (intOf i).toNat)
                case atStart => exact ⟨0, by omega, rfl, hs, hv, ht, hz⟩
                case round =>
                  clear hs hv ht hz
                  obtain ⟨i, hi, rfl, hs, hv, ht, hz⟩ := hrel
                  obtain ⟨wr3, hwr3⟩ : ∃ wr3 : World, wr3 = wr := ⟨_, rfl⟩
                  subst hwr3
                  have LV : Hid ((dias (wordsOf bs) (row k) (cols (wordsOf bs) (row k) (rnds (wordsOf bs) v1 k) 4) i).length = 16) := by show _ = _; rw [dias_len, cols_len, rnds_len, HL7.out]
                  by_cases hlt4 : i < 4
                  · have cs1 := ht.out.cells k (8 + 2 * i) hlt (by omega)
                    have cs2 := ht.out.cells k (9 + 2 * i) hlt (by omega)
                    have r1 := HR.out.2 (8 + 2 * i) (by omega)
                    have r2 := HR.out.2 (9 + 2 * i) (by omega)
                    have cm1 := hs.out.mm.cell (pick (row k) (8 + 2 * i)) (by rw [hs.out.ml]; exact r1)
                    have cm2 := hs.out.mm.cell (pick (row k) (9 + 2 * i)) (by rw [hs.out.ml]; exact r2)
                    have x1 : ((pick (row k) (8 + 2 * i) : Nat) : Int) < 16 := by omega
                    have x2 : ((pick (row k) (9 + 2 * i) : Nat) : Int) < 16 := by omega
                    have j1 : (i : Int) < 16 := by omega
                    obtain ⟨d1, e01, e02, e03, e04, e11, e12, e13, e14⟩ := dia_facts i hlt4
                    obtain ⟨p1, hp1, u01, u02, u03, u04, u05, u06, u07⟩ := rem_facts i 1 4 1 4 hlt4 (by decide) (by decide) rfl rfl
                    obtain ⟨p2, hp2, u11, u12, u13, u14, u15, u16, u17⟩ := rem_facts i 2 8 2 8 hlt4 (by decide) (by decide) rfl rfl
                    obtain ⟨p3, hp3, u21, u22, u23, u24, u25, u26, u27⟩ := rem_facts i 3 12 3 12 hlt4 (by decide) (by decide) rfl rfl
                    clear r1 r2
                    go_wp2
                    go_still_tail 33, (by kernel_rfl)
                    change wpList _ _ _ _ _ wr3.drew
                    go_wp2_with (go_at_call 62; refine (mixR_at gv cap i (4 + p1) (8 + p2) (12 + p3) _ _ _ _ 74 (dias (wordsOf bs) (row k) (cols (wordsOf bs) (row k) (rnds (wordsOf bs) v1 k) 4) i) tail (at_ (wordsOf bs) (pick (row k) (8 + 2 * i))) (at_ (wordsOf bs) (pick (row k) (9 + 2 * i))) wr3.drew rfl (by rfl) (by rfl) (by rfl) hv.out.drew LV.out (lt_16 hlt4) (lt_16p hp1.2 (by decide)) (lt_16p hp2.2 (by decide)) (lt_16p hp3.2 (by decide))).mono ?_; rintro e w6 ⟨rfl, hw6, hg6⟩)
                    have hs6 : Hid (SR w w6 B B gh gb gm h bs (wordsOf bs) t true) := hs.out.drew.other hg6 hgv
                    have hv6 : Hid (WR w6 gv 74 (dias (wordsOf bs) (row k) (cols (wordsOf bs) (row k) (rnds (wordsOf bs) v1 k) 4) (i + 1)) tail) := by
                      rw [hp1.1.out, hp2.1.out, hp3.1.out] at hw6
                      exact hw6
                    have ht6 : Hid (TB w6 (tb + 10) tb) := TB.grown (w := wr3.drew) ht.out.drew hg6 (lt_of_11 hz.out) (le_of_11 hz.out) HLV.out (Nat.le_add_right _ _)
                    have hz6 : Hid (tb + 11 ≤ w6.heap.size) := Nat.le_trans hz.out hg6.size
                    clear hw6 hg6 LV d1 e01 e02 e03 e04 e11 e12 e13 e14 u01 u02 u03 u04 u05 u06 u07 u11 u12 u13 u14 u15 u16 u17 u21 u22 u23 u24 u25 u26 u27 hp1 hp2 hp3
                    go_roundw
                    case rel => exact ⟨i + 1, by omega, by go_num, hs6, hv6, ht6, hz6⟩
                    case measure => simp [intOf]; omega
                  · have hi4 : i = 4 := by omega
                    rw [hi4] at hv
                    clear hi4 hi LV
                    go_wp2
                    go_roundw
                    case rel => exact ⟨k + 1, by omega, by go_num, hs, hv, ht, hz⟩
                    case measure => simp [intOf]; omega
          · have hk10 : k = 10 := by omega
            rw [hk10] at hv
            clear hk10 hk ht hz
            have HV2 : Hid ((rnds (wordsOf bs) v1 10).length = 16) := by show _ = _; rw [rnds_len, HL7.out]
            generalize rnds (wordsOf bs) v1 10 = v2 at hv HC7 HV2
            go_wp2_with (at_make; refine wpList_make32 _ rfl _ _ _ rfl Tryd.underlying86 info40 .i64 .i64 _ 8 rfl rfl rfl (by decide) ?_)
            have lgo : Hid (gm < wo.heap.size ∧ gv < wo.heap.size) := ⟨hs.out.low.2.2.2.2, hv.out.lt⟩
            have hs8 : Hid (SR w (wo.alloc (.cells (cw (List.replicate 8 0)).toArray 74)) B B gh gb gm h bs (wordsOf bs) t true) := hs.out.alloc _
            have hv8 : Hid (WR (wo.alloc (.cells (cw (List.replicate 8 0)).toArray 74)) gv 74 v2 tail) := hv.out.alloc _
            have ho8 : Hid (WB (wo.alloc (.cells (cw (List.replicate 8 0)).toArray 74)) wo.heap.size 74 (foldR h v2 0)) := heap_alloc_new wo _
            generalize wo.heap.size = go at lgo ho8 ⊢
            go_loopw [14] (fun i wr => ∃ n : Nat, n ≤ 8 ∧ i = .int .i64 n ∧ Hid (SR w wr B B gh gb gm h bs (wordsOf bs) t true) ∧ Hid (WR wr gv 74 v2 tail) ∧ Hid (WB wr go 74 (foldR h v2 n))) (fun i _ => 8 - (intOf i).toNat)
            case atStart => exact ⟨0, by omega, rfl, hs8, hv8, ho8⟩
            case round =>
              clear hs hv hs8 hv8 ho8
              obtain ⟨i, hi, rfl, hs, hv, ho⟩ := hrel
              obtain ⟨wr4, hwr4⟩ : ∃ wr4 : World, wr4 = wr := ⟨_, rfl⟩
              subst hwr4
              by_cases hlt8 : i < 8
              · have ch := hs.out.hh.cell i (by rw [HL.out]; exact hlt8)
                have cv1 := hv.out.cell i (by rw [HV2.out]; omega)
                have cv2 := hv.out.cell (i + 8) (by rw [HV2.out]; omega)
                have co := ho.out.cell i (by rw [foldR_len]; exact hlt8)
                have fo := ho.out.frozen i
                have i1 : (i : Int) < 8 := by omega
                have i2 : (i : Int) < 16 := by omega
                have b1 : IntKind.i64.wrap ((i : Int) + 8) = (i : Int) + 8 := IntWalk.i64_in _ ⟨by omega, by omega⟩
                have b2 : (0 : Int) ≤ (i : Int) + 8 := by omega
                have b3 : ((i : Int) + 8).toNat = i + 8 := by omega
                have b4 : (i : Int) + 8 < 16 := by omega
                go_wp2
                go_still_tail 18, (by kernel_rfl)
                change wpList _ _ _ _ _ wr4.drew
                go_wp2
                go_roundw
                case rel => exact ⟨i + 1, by omega, by go_num, ((hs.out.other (grown_set _ _ _ _) lgo.out.1).drew), ((hv.out.grown (grown_set _ _ _ _) (fun e => Nat.ne_of_lt lgo.out.2 (Option.some.inj e))).drew), ((ho.out.set_ i _).drew)⟩
                case measure => simp [intOf]; omega
              · have hi8 : i = 8 := by omega
                rw [hi8, foldR_8 HL.out] at ho
                clear hi8 hi
                go_wp2
                go_ret
                refine ⟨go, rfl, ?_, ?_⟩
                · rw [HC7.out]
                  exact ho.out
                · rw [HB.out]
                  exact hs.out.bel

end Go.Proofs.YtmdokldbggingaaDoor
