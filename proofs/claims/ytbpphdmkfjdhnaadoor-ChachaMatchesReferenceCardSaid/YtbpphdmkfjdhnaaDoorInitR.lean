/-
  The reference's Quarters and Initial, by contracts.
-/
import Derived.Test.YtbpphdmkfjdhnaaDoorWordR
namespace Go.Proofs.YtbpphdmkfjdhnaaDoor
open Go.RowKit

attribute [local go_sem] wd_add wd_addw wd_xor wd_or wd_not wd_mod wd_wrap
def qints : List Value := (List.range 32).map fun j => Value.int .i64 (pick (q4 (j / 4)) (j % 4))
/-- the table of the reference in block g -/
def QT (w : World) (g : Nat) : Prop := w.heap[g]? = some (.cells qints.toArray 46 (0, 0))
theorem QT.lt {w : World} {g : Nat} (h : QT w g) : g < w.heap.size := (Array.getElem?_eq_some_iff.1 h).1
theorem QT.up {w w' : World} {g : Nat} (h : QT w g) (hb : Below w.heap.size w w') : QT w' g := (hb.block g h.lt).trans h
theorem QT.grown {w w' : World} {g : Nat} {row : Option Nat} (h : QT w g) (hb : w.grownBy w' row) (hg : some g ≠ row) : QT w' g := (hb.block g h.lt hg).trans h
theorem QT.drew {w : World} {g : Nat} (h : QT w g) : QT w.drew g := h
theorem QT.cell {w : World} {g : Nat} (h : QT w g) (k i : Nat) (hk : k < 8) (hi : i < 4) : w.cell? ⟨g, k * 4 + i, none⟩ = some (.int .i64 (pick (q4 k) i)) := by
  rw [cell_of_row w g (k * 4 + i) _ _ (0, 0) h]
  have : k * 4 + i < 32 := by omega
  simp [qints, this, show (k * 4 + i) / 4 = k by omega, show (k * 4 + i) % 4 = i by omega]
set_option maxHeartbeats 1000000 in
set_option maxRecDepth 20000 in
theorem quartersR_any (w : World) : Calls Tryd.prog 20 #[] w fun e w' => e = .returned (.slice (some ⟨w.heap.size, 0, none⟩) 8 8) ∧ QT w' w.heap.size ∧ Below w.heap.size w w' := by
  go_enter Tryd.func20, Tryd.ntmps20
  go_wp2
  go_ret
  exact ⟨rfl, heap_alloc_new w _, below_alloc _⟩

/-- the words that Initial gathers -/
def initK (key : List UInt8) (k : Nat) : List UInt32 := C4 ++ wordsN key k
theorem initK_succ (key : List UInt8) (k : Nat) : initK key (k + 1) = initK key k ++ [word4 key (k * 4)] := by simp [initK, wordsN_succ]
theorem initK_len (key : List UInt8) (k : Nat) : (initK key k).length = 4 + k := by simp [initK, wordsN_len, C4]; omega
def initN (key nonce : List UInt8) (n : UInt32) (k : Nat) : List UInt32 := initK key 8 ++ [n] ++ wordsN nonce k
theorem initN_succ (key nonce : List UInt8) (n : UInt32) (k : Nat) : initN key nonce n (k + 1) = initN key nonce n k ++ [word4 nonce (k * 4)] := by simp [initN, wordsN_succ]
theorem initN_len (key nonce : List UInt8) (n : UInt32) (k : Nat) : (initN key nonce n k).length = 13 + k := by simp [initN, wordsN_len, initK_len]; omega
theorem initN_3 (key nonce : List UInt8) (n : UInt32) : initN key nonce n 3 = initS key nonce n := rfl
theorem four_facts (k N : Nat) (hk : k < N) (hN : N ≤ 8) : IntKind.i64.wrap (4 * (k : Int)) = 4 * (k : Int) ∧ IntKind.i64.wrap (4 * (k : Int) + 4) = 4 * (k : Int) + 4 ∧ 0 ≤ 4 * (k : Int) ∧ 0 ≤ 4 * (k : Int) + 4 ∧ (4 * (k : Int)).toNat = 4 * k ∧ (4 * (k : Int) + 4).toNat = 4 * k + 4 ∧ 4 * (k : Int) ≤ 4 * (k : Int) + 4 ∧ 4 * (k : Int) + 4 ≤ 4 * (N : Int) := by
  refine ⟨IntWalk.i64_in _ ⟨by omega, by omega⟩, IntWalk.i64_in _ ⟨by omega, by omega⟩, by omega, by omega, by omega, by omega, by omega, by omega⟩
theorem owns32_base {w : World} {B b : Nat} {v : Value} {l : List UInt32} (h : Owns32 w b v l) (hb : B ≤ b) : Owns32 w B v l := by
  refine ⟨h.1, ?_⟩
  rcases h.2 with h2 | ⟨g, cap, cur, e, hg, r⟩
  · exact .inl h2
  · exact .inr ⟨g, cap, cur, e, Nat.le_trans hb hg, r⟩
/-- the state of Initial's loops: the key, the nonce -/
structure SRi (w wr : World) (B p base : Nat) (key nonce : List UInt8) : Prop where
  kk : BT wr B 26 key
  nn : BT wr p 27 nonce
  bel : Below B w wr
  low : B < p ∧ p < base
  top : base ≤ wr.heap.size
section
variable {w wr w' : World} {B p base : Nat} {key nonce : List UInt8}
theorem SRi.drew (h : SRi w wr B p base key nonce) : SRi w wr.drew B p base key nonce := ⟨h.kk, h.nn, h.bel.drew, h.low, h.top⟩
theorem SRi.up (h : SRi w wr B p base key nonce) (hb : Below base wr w') : SRi w w' B p base key nonce := by
  have l := h.low
  exact ⟨h.kk.below hb (by omega), h.nn.below hb l.2, h.bel.trans (hb.mono (by omega)), l, Nat.le_trans h.top hb.size⟩
end
theorem bt_four {w : World} {g : Nat} {t : TypeId} {l : List UInt8} (h : BT w g t l) (k : Nat) (hk : k * 4 + 4 ≤ l.length) :
    w.cell? ⟨g, 4 * k, none⟩ = some (.int .u8 ((byte l (k * 4)).toNat : Int)) ∧ w.cell? ⟨g, 4 * k + 1, none⟩ = some (.int .u8 ((byte l (k * 4 + 1)).toNat : Int)) ∧ w.cell? ⟨g, 4 * k + 2, none⟩ = some (.int .u8 ((byte l (k * 4 + 2)).toNat : Int)) ∧ w.cell? ⟨g, 4 * k + 3, none⟩ = some (.int .u8 ((byte l (k * 4 + 3)).toNat : Int)) := by
  rw [Nat.mul_comm 4 k]
  exact ⟨h.cell _ (by omega), h.cell _ (by omega), h.cell _ (by omega), h.cell _ (by omega)⟩
set_option maxHeartbeats 4000000 in
set_option maxRecDepth 20000 in
theorem initialR_any (key nonce : List UInt8) (n : UInt32) (w : World) (hk : key.length = 32) (hn : nonce.length = 12) :
    Calls Tryd.prog 19 #[.agg (cb key).toArray, .agg (cb nonce).toArray, .int .u32 (wd n)] w
      fun e w' => ∃ v, e = .returned v ∧ Owns32 w' w.heap.size v (initS key nonce n) ∧ Below w.heap.size w w' := by
  have HL := Lib.hid (And.intro hk hn)
  have hs := Lib.hid (kn_new w key nonce)
  clear hk hn
  go_enter Tryd.func19, Tryd.ntmps19
  generalize hw0 : (w.alloc (.cells (cb key).toArray 26)).alloc (.cells (cb nonce).toArray 27) = w0 at *
  go_wp2_with fail
  have hz0 : w0.heap.size = w.heap.size + 1 + 1 := by rw [← hw0]; simp
  have ho0 : Hid (Owns32 (w0.alloc (.cells #[Value.int IntKind.u32 1634760805, Value.int IntKind.u32 857760878, Value.int IntKind.u32 2036477234, Value.int IntKind.u32 1797285236] 23)) w0.heap.size (.slice (some ⟨w0.heap.size, 0, none⟩) 4 4) (initK key 0)) := owns32_new w0 (initK key 0) _ rfl (by rw [initK_len]; decide)
  have hr0 : Hid (SRi w (w0.alloc (.cells #[Value.int IntKind.u32 1634760805, Value.int IntKind.u32 857760878, Value.int IntKind.u32 2036477234, Value.int IntKind.u32 1797285236] 23)) w.heap.size (w.heap.size + 1) w0.heap.size key nonce) :=
    ⟨hs.out.1.alloc _, hs.out.2.1.alloc _, hs.out.2.2.alloc (by omega) _, by omega, by simp⟩
  clear hw0 hs
  have HB : Hid (w.heap.size ≤ w0.heap.size) := by show _ ≤ _; omega
  generalize w0.heap.size = base at *
  generalize hB : w.heap.size = B at *
  have HBB := Lib.hid hB
  clear hB hz0
  generalize B + 1 = p at *
  go_loopw [7, 8] (fun u i wr => ∃ (k : Nat) (v : Value), k ≤ 8 ∧ i = .int .i64 k ∧ u = v ∧ Hid (Owns32 wr base v (initK key k)) ∧ Hid (SRi w wr B p base key nonce)) (fun _ i _ => 8 - (intOf i).toNat)
  case atStart => exact ⟨0, _, by omega, rfl, rfl, ho0, hr0⟩
  case round =>
    clear ho0 hr0
    obtain ⟨k, v, hk, rfl, rfl, ho, hr⟩ := hrel
    obtain ⟨wo, hwo⟩ : ∃ wo : World, wo = wr := ⟨_, rfl⟩
    subst hwo
    by_cases hlt : k < 8
    · have i1 : (k : Int) < 8 := by omega
      obtain ⟨e1, e2, e3, e4, e5, e6, e7, e8⟩ := four_facts k 8 hlt (by decide)
      have e9 : 4 * (k : Int) + 4 ≤ 32 := by omega
      have e10 : 4 * k + 4 - 4 * k = 4 := by omega
      obtain ⟨c0, c1, c2, c3⟩ := bt_four hr.out.kk k (by rw [HL.out.1]; omega)
      have C := Lib.hid (And.intro c0 (And.intro c1 (And.intro c2 c3)))
      clear c0 c1 c2 c3
      go_wp2_with (first
        | (go_at_call 28; refine (word_any B (4 * k) _ key (k * 4) wo C.out.1 C.out.2.1 C.out.2.2.1 C.out.2.2.2).mono ?_; rintro e w2 ⟨rfl, rfl⟩)
        | (at_builtin; (with_reducible show wpList _ _ _ _ _ _); refine wpList_one32 (wr := wo) rfl (.tmp 15) (.tmp 23) rfl base _ (initK key k) (word4 key (k * 4)) rfl rfl (Or.inr rfl) ho ?_ ?_ ?_; (rw [initK_len]; omega); exact hr.out.top; intro v3 w3 ho3 hb3))
      go_roundw
      case rel => exact ⟨k + 1, v3, by omega, by go_num, rfl, by rw [initK_succ]; exact ho3, hr.out.up (hb3.out _ _ (Below.refl _ _) (Nat.le_refl _))⟩
      case measure => simp [intOf]; omega
    · have hk8 : k = 8 := by omega
      rw [hk8] at ho
      clear hk8 hk
      go_wp2_with (at_builtin; (with_reducible show wpList _ _ _ _ _ _); refine wpList_one32 (wr := wo) rfl (.tmp 25) (.tmp 27) rfl base _ (initK key 8) n rfl rfl (Or.inl rfl) ho ?_ ?_ ?_; (rw [initK_len]; decide); exact hr.out.top; intro v3 w3 ho3 hb3)
      have hr3 : Hid (SRi w w3 B p base key nonce) := hr.out.up (hb3.out _ _ (Below.refl _ _) (Nat.le_refl _))
      have ho4 : Hid (Owns32 w3 base v3 (initN key nonce n 0)) := by
        have e : initN key nonce n 0 = initK key 8 ++ [n] := by simp [initN, wordsN]
        rw [e]
        exact ho3
      clear ho3 hb3 hr ho
      go_loopw [7, 9] (fun u i wr => ∃ (k : Nat) (v : Value), k ≤ 3 ∧ i = .int .i64 k ∧ u = v ∧ Hid (Owns32 wr base v (initN key nonce n k)) ∧ Hid (SRi w wr B p base key nonce)) (fun _ i _ => 3 - (intOf i).toNat)
      case atStart => exact ⟨0, _, by omega, rfl, rfl, ho4, hr3⟩
      case round =>
        clear ho4 hr3
        obtain ⟨k, v, hk, rfl, rfl, ho, hr⟩ := hrel
        obtain ⟨wo, hwo⟩ : ∃ wo : World, wo = wr := ⟨_, rfl⟩
        subst hwo
        by_cases hlt : k < 3
        · have i1 : (k : Int) < 3 := by omega
          obtain ⟨e1, e2, e3, e4, e5, e6, e7, e8⟩ := four_facts k 3 hlt (by decide)
          have e9 : 4 * (k : Int) + 4 ≤ 12 := by omega
          have e10 : 4 * k + 4 - 4 * k = 4 := by omega
          obtain ⟨c0, c1, c2, c3⟩ := bt_four hr.out.nn k (by rw [HL.out.2]; omega)
          have C := Lib.hid (And.intro c0 (And.intro c1 (And.intro c2 c3)))
          clear c0 c1 c2 c3
          go_wp2_with (first
            | (go_at_call 28; refine (word_any p (4 * k) _ nonce (k * 4) wo C.out.1 C.out.2.1 C.out.2.2.1 C.out.2.2.2).mono ?_; rintro e w2 ⟨rfl, rfl⟩)
            | (at_builtin; (with_reducible show wpList _ _ _ _ _ _); refine wpList_one32 (wr := wo) rfl (.tmp 33) (.tmp 41) rfl base _ (initN key nonce n k) (word4 nonce (k * 4)) rfl rfl (Or.inr rfl) ho ?_ ?_ ?_; (rw [initN_len]; omega); exact hr.out.top; intro v4 w4 ho4 hb4))
          go_roundw
          case rel => exact ⟨k + 1, v4, by omega, by go_num, rfl, by rw [initN_succ]; exact ho4, hr.out.up (hb4.out _ _ (Below.refl _ _) (Nat.le_refl _))⟩
          case measure => simp [intOf]; omega
        · have hk3 : k = 3 := by omega
          rw [hk3, initN_3] at ho
          go_wp2
          go_ret
          refine ⟨_, rfl, ?_, ?_⟩
          · have h := ho.out
            have hbb := HBB.out
            have hb0 := HB.out
            rw [hbb]
            exact owns32_base h hb0
          · rw [HBB.out]
            exact hr.out.bel
/-- Initial's result as a block of words. -/
theorem initialR_at (key nonce : List UInt8) (n : UInt32) (w : World) (hk : key.length = 32) (hn : nonce.length = 12) :
    Calls Tryd.prog 19 #[.agg (cb key).toArray, .agg (cb nonce).toArray, .int .u32 (wd n)] w
      fun e w' => ∃ g c tl, e = .returned (.slice (some ⟨g, 0, none⟩) 16 c) ∧ WR w' g 23 (initS key nonce n) tl ∧ w.heap.size ≤ g ∧ Below w.heap.size w w' := by
  refine (initialR_any key nonce n w hk hn).mono fun e w' ⟨v, he, ho, hb⟩ => ?_
  obtain ⟨g, c, tl, rfl, hg, hr⟩ := ho.shape (by rw [initS_len]; decide)
  rw [initS_len] at he
  exact ⟨g, c, tl, he, hr, hg, hb⟩
end Go.Proofs.YtbpphdmkfjdhnaaDoor
