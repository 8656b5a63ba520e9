/-
  The program's words, digest and cut, by contracts.
-/
import Derived.Test.YtmdokldbggingaaDoorCompP
import Derived.Test.YtmdokldbggingaaDoorBytes
import Derived.WalkLawsBesides
import Derived.WalkSpells
import Derived.Deep.QuietTactic
import Derived.BigQuiet
import Derived.Outline
namespace Go.Proofs.YtmdokldbggingaaDoor
open Go.RowKit

attribute [local go_sem] wd_add wd_addw wd_xor wd_or wd_not

theorem info47 : (Tryd.prog.info? 83).map (·.size) = some 16 := by kernel_rfl
theorem info24 : (Tryd.prog.info? 67).map (·.size) = some 32 := by kernel_rfl
theorem info5 : (Tryd.prog.info? 5).map (fun i => (i.zero, i.size, i.bytes)) = some (some (.int .u8 0), 1, 1) := by kernel_rfl

/-- Block g holds just the bytes l, and is not frozen. -/
def BT (w : World) (g : Nat) (t : TypeId) (l : List UInt8) : Prop := w.heap[g]? = some (.cells (cb l).toArray t (0, 0))
theorem cb_set (l : List UInt8) (i : Nat) (c : UInt8) : cb (l.set i c) = (cb l).set i (.int .u8 (c.toNat : Int)) := by simp [cb, List.map_set]
section
variable {w w' : World} {g : Nat} {t : TypeId} {l : List UInt8}
theorem BT.lt (h : BT w g t l) : g < w.heap.size := (Array.getElem?_eq_some_iff.1 h).1
theorem BT.cell (h : BT w g t l) (i : Nat) (hi : i < l.length) : w.cell? ⟨g, i, none⟩ = some (.int .u8 ((byte l i).toNat : Int)) := by
  rw [cell_of_row w g i _ _ (0, 0) h]
  simp [cb, byte, hi]
theorem BT.cellw (h : BT w g t l) (i : Nat) (hi : i < l.length) : w.cell? ⟨g, i, none⟩ = some (.int .u8 (wd (u8w (byte l i)))) := by
  rw [h.cell i hi, wd_u8w]
theorem BT.frozen (h : BT w g t l) (i : Nat) : w.frozen? ⟨g, i, none⟩ = false := by
  unfold BT at h
  simp [World.frozen?, h]
theorem BT.drew (h : BT w g t l) : BT w.drew g t l := h
theorem BT.alloc (h : BT w g t l) (o : Obj) : BT (w.alloc o) g t l := (Below.heap_alloc w o g h.lt).trans h
theorem BT.set_ (h : BT w g t l) (i : Nat) (c : UInt8) : BT (w.setCell ⟨g, i, none⟩ (.int .u8 (c.toNat : Int))) g t (l.set i c) := by
  unfold BT at h ⊢
  simp [World.setCell, Array.getElem?_modify, h, cb_set]
theorem BT.below {B : Nat} (h : BT w g t l) (hb : Below B w w') (hg : g < B) : BT w' g t l := (hb.block g hg).trans h
theorem BT.up (h : BT w g t l) (hb : Below w.heap.size w w') : BT w' g t l := h.below hb h.lt
theorem BT.grown {row : Option Nat} (h : BT w g t l) (hb : w.grownBy w' row) (hg : some g ≠ row) : BT w' g t l := (hb.block g h.lt hg).trans h
theorem BT.shows (h : BT w g t l) {B : Nat} (hB : g < B) : Shows w B (some ⟨g, 0, none⟩) l := fun _ => ⟨g, 0, rfl, hB, fun i c hi => by
  have hl := (List.getElem?_eq_some_iff.1 hi).1
  rw [Nat.zero_add, h.cell i hl]
  simp [byte, hi]⟩
end

theorem grown_setRow (w : World) (g : Nat) (cs : Array Value) : w.grownBy (w.setRow g cs) (some g) :=
  ⟨rfl, rfl, rfl, by simp [World.setRow], fun k _ hk => setRow_other w g k cs (fun e => hk (by rw [e]))⟩

/-- copy(row, src): the row is a block of bytes of the call's own, as long as the destination; src shows bytes, no more than those. -/
theorem wpList_copy_bt {P : Program} {w : World} {ops : Array Oper} {rest : List Oper} {o : Oper} {a : Act} {Q : Exit → Act → World → Prop} (hgd : o.guard = none) (d s : Operand) (dT sT : TypeId)
    (ho : o.op = .call { callee := .builtin .copy, args := #[d, s], argTypes := #[dT, sT] }) (hu : P.underlying dT = some (.slice 5)) (h2 : (P.info? 5).map (fun i => (i.zero, i.size, i.bytes)) = some (some (.int .u8 0), 1, 1))
    (sp : Option Addr) (dLen dCap sCap : Nat) (g : Nat) (t : TypeId) (hd : a.eval d = .slice (some ⟨g, 0, none⟩) dLen dCap) (l : List UInt8) (hs : a.eval s = .slice sp l.length sCap)
    (cur : List UInt8) (hg : BT w g t cur) (B : Nat) (hsh : Shows w B sp l) (hlen : l.length ≤ dLen) (hfit : dLen ≤ cur.length)
    (h : ∀ w' v, BT w' g t (l ++ cur.drop l.length) → w.grownBy w' (some g) → w'.heap.size = w.heap.size → wpList P ops Q rest (a.put o.dst v) w') :
    wpList P ops Q (o :: rest) a w := by
  have hsz := byte_info h2
  rcases Nat.eq_zero_or_pos l.length with h0 | hpos
  · obtain rfl : l = [] := List.eq_nil_of_length_eq_zero h0
    refine wpList_copy_nothing hgd d s dT sT ho 5 hu hsz _ sp dLen dCap _ sCap hd hs (by simp) ?_
    exact h w _ hg (World.grownBy.refl _ _) rfl
  · obtain ⟨b, off, rfl, hlt, hc⟩ := hsh hpos
    refine wpList_copy_own hgd d s dT sT ho 5 hu hsz g 0 dLen dCap ⟨b, off, none⟩ l.length sCap hd hs (cb cur).toArray t hg (cb l) (by rw [cb_len]; exact (Nat.min_eq_left hlen).symm) ?_ (by simp [cb_len]; omega) (cb_one l) ?_
    · intro j v hj
      obtain ⟨c, hc1, rfl⟩ := cb_get hj
      simpa [Addr.add_lit] using hc j c hc1
    · refine h _ _ ?_ (grown_setRow _ _ _) (by simp [World.setRow])
      unfold BT
      rw [setRow_heap w g _ _ t _ hg]
      congr 2
      simp [cb, List.map_drop]

theorem byte_pad (l : List UInt8) (n i : Nat) : byte (l ++ List.replicate n 0) i = byte l i := by
  unfold byte
  rw [List.getD_eq_getElem?_getD, List.getD_eq_getElem?_getD]
  by_cases h : i < l.length
  · rw [List.getElem?_append_left h]
  · rw [List.getElem?_append_right (by omega), List.getElem?_eq_none (by omega : l.length ≤ i), List.getElem?_replicate]
    split <;> rfl
theorem wordsOf_pad (l : List UInt8) (n : Nat) : wordsOf (l ++ List.replicate n 0) = wordsOf l := by
  unfold wordsOf word4
  simp only [byte_pad]

theorem wd_mod (x : UInt32) : wd x % 4294967296 = wd x := by have := wd_lt x; omega
theorem wd_wrap (x : UInt32) : IntKind.u32.wrap (wd x) = wd x := by rw [IntKind.wrap_u32, wd_mod]
theorem wd_shl8 (x : UInt32) : wd x * 256 % 4294967296 = wd (shl 8 x) := wd_shl' 8 x
theorem wd_shl16 (x : UInt32) : wd x * 65536 % 4294967296 = wd (shl 16 x) := wd_shl' 16 x
theorem wd_shl24 (x : UInt32) : wd x * 16777216 % 4294967296 = wd (shl 24 x) := wd_shl' 24 x
theorem wd_shl8w (x : UInt32) : IntKind.u32.wrap (wd x * 256) = wd (shl 8 x) := by rw [IntKind.wrap_u32, wd_shl8]
theorem wd_shl16w (x : UInt32) : IntKind.u32.wrap (wd x * 65536) = wd (shl 16 x) := by rw [IntKind.wrap_u32, wd_shl16]
theorem wd_shl24w (x : UInt32) : IntKind.u32.wrap (wd x * 16777216) = wd (shl 24 x) := by rw [IntKind.wrap_u32, wd_shl24]
theorem low8_0 (x : UInt32) : wd x % 256 = ((low8 0 x).toNat : Int) := by rw [low8_int]; simp
theorem low8_8 (x : UInt32) : wd x / 256 % 256 = ((low8 8 x).toNat : Int) := by rw [low8_int]; rfl
theorem low8_16 (x : UInt32) : wd x / 65536 % 256 = ((low8 16 x).toNat : Int) := by rw [low8_int]; rfl
theorem low8_24 (x : UInt32) : wd x / 16777216 % 256 = ((low8 24 x).toNat : Int) := by rw [low8_int]; rfl

theorem cut_any (A : Option Addr) (cap : Nat) (l : List UInt8) (w : World) (hn : l.length ≤ cap) (hc : cap ≤ 9223372036854775807) :
    Calls Tryd.prog 54 #[.slice A l.length cap] w fun e w' => ∃ A2 c2, e = .returned (.tuple #[.slice A (l.take 64).length cap, .slice A2 (l.drop 64).length c2]) ∧ ((l.drop 64).length ≤ c2 ∧ c2 ≤ cap) ∧ (∀ W B, Shows W B A l → Shows W B A2 (l.drop 64)) ∧ ∃ k, w' = w.drewN k := by
  by_cases h : l.length ≤ 64
  · have e1 : Hid ((l.take 64).length = l.length) := by show _ = _; rw [List.length_take]; omega
    have e2 : Hid (l.drop 64 = []) := List.drop_eq_nil_of_le h
    obtain ⟨n, hl⟩ : ∃ n, n = l.length := ⟨_, rfl⟩
    rw [← hl] at h hn ⊢
    have HL := Lib.hid hl
    clear hl
    have i1 : (n : Int) ≤ 64 := by omega
    have i2 : (n : Int) ≤ (cap : Int) := by omega
    by_cases hcn : cap = n
    · subst hcn
      go_enter Tryd.func54, Tryd.ntmps54
      go_wp2
      go_quiet (fail)
      go_wp2
      go_ret2
      refine ⟨A, 0, ?_, ?_, ?_, _, rfl⟩
      · rw [e1.out, e2.out, ← HL.out]
        simp
      · rw [e2.out]; simp
      · intro W B _
        rw [e2.out]
        exact Shows.nil
    · go_enter Tryd.func54, Tryd.ntmps54
      go_wp2
      go_quiet (fail)
      go_wp2
      go_ret2
      refine ⟨A.map (fun x => x.add n), cap - n, ?_, ?_, ?_, _, rfl⟩
      · rw [e1.out, e2.out, ← HL.out]
        simp
      · rw [e2.out]; simp
      · intro W B _
        rw [e2.out]
        exact Shows.nil
  · have e1 : Hid ((l.take 64).length = 64) := by show _ = _; rw [List.length_take]; omega
    have e2 : Hid ((l.drop 64).length = l.length - 64) := List.length_drop
    have hcap : ¬ cap = 64 := by omega
    have hsh : Hid (∀ W B, Shows W B A l → Shows W B (A.map (fun x => x.add 64)) (l.drop 64)) := fun W B hs => by
      have := hs.cutAt (k := 64) (n := l.length - 64) (by omega) hn hcap
      rw [List.take_of_length_le (by rw [List.length_drop]; omega)] at this
      exact this
    obtain ⟨n, hl⟩ : ∃ n, n = l.length := ⟨_, rfl⟩
    rw [← hl] at h hn e2 ⊢
    have HL := Lib.hid hl
    clear hl
    have i1 : ¬ (n : Int) ≤ 64 := by omega
    have i2 : (n : Int) ≤ (cap : Int) := by omega
    have i3 : (64 : Int) ≤ (n : Int) := by omega
    have i4 : (64 : Int) ≤ (cap : Int) := by omega
    have hc64 : 64 ≤ cap ∧ 64 ≤ n := by omega
    go_enter Tryd.func54, Tryd.ntmps54
    go_wp2
    go_quiet (fail)
    go_wp2
    go_ret2
    refine ⟨A.map (fun x => x.add 64), cap - 64, ?_, ?_, hsh.out, _, rfl⟩
    · rw [e1.out, e2.out]
      rfl
    · rw [e2.out]
      omega

/-- the state of words' loop -/
structure SW (w wr : World) (B r p m : Nat) (P : List UInt8) (v : List UInt32) : Prop where
  rr : WB wr r 83 (List.replicate 16 0)
  pp : BT wr p 95 P
  mm : WB wr m 83 v
  bel : Below B w wr
  low : B ≤ r ∧ r < p ∧ p < m ∧ m < wr.heap.size
theorem SW.setM {w wr : World} {B r p m : Nat} {P : List UInt8} {v : List UInt32} (s : SW w wr B r p m P v) (i : Nat) (x : UInt32) : SW w (wr.setCell ⟨m, i, none⟩ (.int .u32 (wd x))).drew B r p m P (v.set i x) := by
  have l := s.low
  have hg := grown_setd wr m i (.int .u32 (wd x))
  exact ⟨s.rr.grown hg (by simp; omega), s.pp.grown hg (by simp; omega), (s.mm.set_ i x).drew, s.bel.grown hg (by omega) (fun k hk => by injection hk with hk; omega), by have := hg.size; omega⟩
theorem word_facts (i : Nat) (hi : i < 16) : IntKind.i64.wrap ((i : Int) * 4) = (i : Int) * 4 ∧ 0 ≤ (i : Int) * 4 ∧ ((i : Int) * 4).toNat = i * 4 ∧ (i : Int) * 4 < 64 ∧
    IntKind.i64.wrap ((i : Int) * 4 + 1) = (i : Int) * 4 + 1 ∧ 0 ≤ (i : Int) * 4 + 1 ∧ ((i : Int) * 4 + 1).toNat = i * 4 + 1 ∧ (i : Int) * 4 + 1 < 64 ∧
    IntKind.i64.wrap ((i : Int) * 4 + 2) = (i : Int) * 4 + 2 ∧ 0 ≤ (i : Int) * 4 + 2 ∧ ((i : Int) * 4 + 2).toNat = i * 4 + 2 ∧ (i : Int) * 4 + 2 < 64 ∧
    IntKind.i64.wrap ((i : Int) * 4 + 3) = (i : Int) * 4 + 3 ∧ 0 ≤ (i : Int) * 4 + 3 ∧ ((i : Int) * 4 + 3).toNat = i * 4 + 3 ∧ (i : Int) * 4 + 3 < 64 := by
  refine ⟨IntWalk.i64_in _ ⟨by omega, by omega⟩, by omega, by omega, by omega, IntWalk.i64_in _ ⟨by omega, by omega⟩, by omega, by omega, by omega, IntWalk.i64_in _ ⟨by omega, by omega⟩, by omega, by omega, by omega, IntWalk.i64_in _ ⟨by omega, by omega⟩, by omega, by omega, by omega⟩

attribute [local go_sem] wd_mod wd_wrap wd_shl8 wd_shl16 wd_shl24 wd_shl8w wd_shl16w wd_shl24w

theorem bt_new {w : World} {c : Array Value} {n g : Nat} {t : TypeId} (hc : c = (cb (List.replicate n 0)).toArray) (hg : g = w.heap.size) : BT (w.alloc (.cells c t)) g t (List.replicate n 0) := by
  subst hc hg
  exact heap_alloc_new w _
theorem wb_new {w : World} {c : Array Value} {n g : Nat} {t : TypeId} (hc : c = (cw (List.replicate n 0)).toArray) (hg : g = w.heap.size) : WB (w.alloc (.cells c t)) g t (List.replicate n 0) := by
  subst hc hg
  exact heap_alloc_new w _
theorem below_alloc {w : World} (o : Obj) : Below w.heap.size w (w.alloc o) := (Below.refl _ _).alloc (Nat.le_refl _) o

set_option maxHeartbeats 2000000 in
set_option maxRecDepth 20000 in
theorem words_any (A : Option Addr) (cap : Nat) (l : List UInt8) (w : World) (hs : Shows w w.heap.size A l) (hl : l.length ≤ 64) :
    Calls Tryd.prog 56 #[.slice A l.length cap] w fun e w' => e = .returned (.agg (cw (wordsOf l)).toArray) ∧ Below w.heap.size w w' := by
  have HL := Lib.hid hl
  clear hl
  go_enter Tryd.func56, Tryd.ntmps56
  go_wp2_with ((with_reducible show wpList _ _ _ _ _ _); refine wpList_copy_bt rfl (.tmp 7) (.tmp 8) _ _ rfl Tryd.underlying22 info5 A 64 64 cap (w.heap.size + 1) 95 rfl l rfl (List.replicate 64 0) (bt_new rfl (by simp)) w.heap.size (hs.below ((below_alloc _).alloc (by simp) _)) HL.out (by simp) ?_; intro w3 v3 hb3 hg3 hz3; have HZ3 := Lib.hid hz3; clear hz3)
  have hst : Hid (SW w (w3.alloc (.cells (cw (List.replicate 16 0)).toArray 83)) w.heap.size w.heap.size (w.heap.size + 1) w3.heap.size (l ++ List.replicate (64 - l.length) 0) (laidW (l ++ List.replicate (64 - l.length) 0) 0)) := by
    have hz : w3.heap.size = w.heap.size + 1 + 1 := by rw [HZ3.out]; simp
    have e : List.drop l.length (List.replicate 64 (0 : UInt8)) = List.replicate (64 - l.length) 0 := by rw [List.drop_replicate]
    rw [e] at hb3
    have r0 := (wb_new (w := w) (c := (cw (List.replicate 16 0)).toArray) (n := 16) (t := 83) rfl rfl)
    exact ⟨((r0.alloc _).grown hg3 (by simp)).alloc _, hb3.alloc _, heap_alloc_new w3 _, ((((below_alloc _).alloc (by simp) _).grown hg3 (by simp; omega) (fun k hk => by injection hk with hk; omega)).alloc (by omega) _), by simp; omega⟩
  clear hs hb3 hg3 HZ3
  generalize w3.heap.size = m at hst ⊢
  generalize w.heap.size + 1 = p at hst ⊢
  generalize hB : w.heap.size = r at hst ⊢
  have HB := Lib.hid hB
  clear hB
  generalize hP : l ++ List.replicate (64 - l.length) 0 = P at hst
  have HP : Hid (P.length = 64 ∧ wordsOf P = wordsOf l) := by
    subst hP
    exact ⟨by have := HL.out; simp; omega, wordsOf_pad _ _⟩
  clear hP
  go_loopw [10] (fun i wr => ∃ k : Nat, k ≤ 16 ∧ i = .int .i64 k ∧ Hid (SW w wr r r p m P (laidW P k))) (fun i _ => 16 - (intOf i).toNat)
  case atStart => exact ⟨0, by omega, rfl, hst⟩
  case round =>
    clear hst
    obtain ⟨k, hk, rfl, hs⟩ := hrel
    obtain ⟨wo, hwo⟩ : ∃ wo : World, wo = wr := ⟨_, rfl⟩
    subst hwo
    by_cases hlt : k < 16
    · have c0 := hs.out.pp.cellw (k * 4) (by rw [HP.out.1]; omega)
      have c1 := hs.out.pp.cellw (k * 4 + 1) (by rw [HP.out.1]; omega)
      have c2 := hs.out.pp.cellw (k * 4 + 2) (by rw [HP.out.1]; omega)
      have c3 := hs.out.pp.cellw (k * 4 + 3) (by rw [HP.out.1]; omega)
      have cm := hs.out.mm.cell k (by rw [laidW_len]; exact hlt)
      have fm := hs.out.mm.frozen k
      have i1 : (k : Int) < 16 := by omega
      obtain ⟨a1, a2, a3, a4, b1, b2, b3, b4, d1, d2, d3, d4, e1, e2, e3, e4⟩ := word_facts k hlt
      go_wp2
      go_still_tail 27, (by kernel_rfl)
      change wpList _ _ _ _ _ wo.drew
      go_wp2
      clear a1 a2 a3 a4 b1 b2 b3 b4 d1 d2 d3 d4 e1 e2 e3 e4
      go_roundw
      case rel => exact ⟨k + 1, by omega, by go_num, hs.out.setM k _⟩
      case measure => simp [intOf]; omega
    · have hk16 : k = 16 := by omega
      rw [hk16, laidW_16, HP.out.2] at hs
      clear hk16 hk
      go_wp2_with (first
        | ((with_reducible show wpList _ _ _ _ _ _); refine wpList_load_all rfl 83 (.tmp 4) rfl m rfl 83 (cw (wordsOf l)) 74 16 hs.out.mm Tryd.underlying83 info47 (by rw [cw_len, wordsOf_len]) ?_)
        | ((with_reducible show wpList _ _ _ _ _ _); refine wpList_store_all rfl 83 (.tmp 2) (.tmp 43) rfl r (cw (wordsOf l)) rfl rfl 83 _ 16 hs.out.rr info47 (by simp [cw]) (by rw [cw_len, wordsOf_len]) (cw_one _) ?_; intro w5 hb5 hg5 hz5))
      have hbel : Below r w w5 := hs.out.bel.grown hg5 (by have := hs.out.low; omega) (fun k hk => by injection hk with hk; omega)
      refine bodyPost_ret (v := .agg (cw (wordsOf l)).toArray) (results_cell_row Tryd.results56 _ w5 r 83 _ (0, 0) _ rfl hb5 Tryd.underlying83 rfl (by rw [info47]; simp [cw_len, wordsOf_len])) rfl ⟨rfl, ?_⟩
      rw [HB.out]
      exact hbel
end Go.Proofs.YtmdokldbggingaaDoor
