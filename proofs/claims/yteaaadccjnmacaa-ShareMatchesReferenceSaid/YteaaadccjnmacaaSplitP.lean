/-
  The program's Split and Refresh, by contracts.
-/
import Derived.Test.YteaaadccjnmacaaMaskedP
import Derived.Test.YteaaadccjnmacaaWellP
namespace Go.Proofs.Yteaaadccjnmacaa
open Go.RowKit

theorem masked_is (A : Option Addr) (N cap : Nat) (l : List Sh) (R : Option Addr) (q rcap : Nat) (r : List UInt8) (need : Int) (w : World) (hN : N = l.length) (hq : q = r.length) (hs : ShL w w.heap.size A l) (hl : l.length ≤ 1000000) (hn : ∀ s ∈ l, s.2.length ≤ 140737488351232)
    (hr : Shows w w.heap.size R r) (hrl : r.length ≤ 140737488351232) (hrc : r.length ≤ rcap ∧ rcap ≤ 9223372036854775807) (h1 : 1 ≤ need) (h2 : need ≤ 255) :
    Calls Try.prog 20 #[.slice A N cap, .slice R q rcap, .int .i64 need] w fun e w' => ∃ g, e = .returned (.slice (some ⟨g, 0, none⟩) N N) ∧ ShL w' w'.heap.size (some ⟨g, 0, none⟩) (masks (need.toNat - 1) r l) ∧ Below w.heap.size w w' := by
  obtain ⟨k, rfl⟩ := Int.eq_ofNat_of_zero_le (show 0 ≤ need by omega)
  subst hN hq
  exact masked_any A cap l R rcap r k w hs hl hn hr hrl hrc (by omega) (by omega)

/-- the shares with the secret everywhere -/
def flat (secret : List UInt8) (n : Nat) : List Sh := (List.range n).map fun i => (UInt8.ofNat (i + 1), secret)
theorem flat_len (secret : List UInt8) (n : Nat) : (flat secret n).length = n := by simp [flat]
def splitL (secret r : List UInt8) (need n : Nat) : List Sh := masks (need - 1) r (flat secret n)
theorem splitL_len (secret r : List UInt8) (need n : Nat) : (splitL secret r need n).length = n := by simp [splitL, masks, flat_len]

/-- The call's own row of n shares; the first k of them bear the same bytes. -/
structure SR (w : World) (g n k : Nat) (A : Option Addr) (len cap : Nat) : Prop where
  row : ∃ cs : Array Value, w.heap[g]? = some (.cells cs 29 (0, 0)) ∧ cs.size = n * 2
  at_ : ∀ i, i < k → w.cell? ⟨g, i * 2, none⟩ = some (.int .u8 ((UInt8.ofNat (i + 1)).toNat : Int)) ∧ w.cell? ⟨g, i * 2 + 1, none⟩ = some (.slice A len cap)
section
variable {w w' : World} {g n k len cap : Nat} {A : Option Addr}
theorem SR.lt (h : SR w g n k A len cap) : g < w.heap.size := by
  obtain ⟨cs, h, _⟩ := h.row
  exact (Array.getElem?_eq_some_iff.1 h).1
theorem SR.there (h : SR w g n k A len cap) (i : Nat) (hi : i < n * 2) : ∃ v, w.cell? ⟨g, i, none⟩ = some v := by
  obtain ⟨cs, h1, h2⟩ := h.row
  refine ⟨cs[i]'(by omega), ?_⟩
  rw [cell_of_row w g i _ _ (0, 0) h1]
  simp
theorem SR.frozen (h : SR w g n k A len cap) (i : Nat) : w.frozen? ⟨g, i, none⟩ = false := by
  obtain ⟨cs, h1, _⟩ := h.row
  simp [World.frozen?, h1]
theorem SR.put (h : SR w g n k A len cap) (hk : k < n) : SR ((w.setCell ⟨g, k * 2, none⟩ (.int .u8 ((UInt8.ofNat (k + 1)).toNat : Int))).setCell ⟨g, k * 2 + 1, none⟩ (.slice A len cap)) g n (k + 1) A len cap := by
  have hv1 := h.there (k * 2) (by omega)
  have hv2 := h.there (k * 2 + 1) (by omega)
  obtain ⟨cs, h1, h2⟩ := h.row
  have e1 := setCell_cells (o := k * 2) (.int .u8 ((UInt8.ofNat (k + 1)).toNat : Int)) h1
  have e2 := setCell_cells (o := k * 2 + 1) (.slice A len cap) e1
  refine ⟨⟨_, e2, by simp [h2]⟩, fun i hi => ?_⟩
  by_cases hik : i = k
  · subst hik
    refine ⟨?_, ?_⟩
    · rw [World.cell?_setCell_other _ _ _ _ (fun e => by have := congrArg Addr.off e; simp at this)]
      exact World.cell?_setCell_same' _ _ _ (by obtain ⟨v, hv⟩ := hv1; rw [hv]; rfl)
    · refine World.cell?_setCell_same' _ _ _ ?_
      rw [World.cell?_setCell_other _ _ _ _ (fun e => by have := congrArg Addr.off e; simp at this)]
      obtain ⟨v, hv⟩ := hv2
      rw [hv]
      rfl
  · obtain ⟨h3, h4⟩ := h.at_ i (by omega)
    refine ⟨?_, ?_⟩
    · rw [World.cell?_setCell_other _ _ _ _ (fun e => by have := congrArg Addr.off e; simp at this; omega), World.cell?_setCell_other _ _ _ _ (fun e => by have := congrArg Addr.off e; simp at this; omega)]
      exact h3
    · rw [World.cell?_setCell_other _ _ _ _ (fun e => by have := congrArg Addr.off e; simp at this; omega), World.cell?_setCell_other _ _ _ _ (fun e => by have := congrArg Addr.off e; simp at this; omega)]
      exact h4
theorem SR.shl (h : SR w g n n A len cap) {secret : List UInt8} (hl : len = secret.length) (hs : Shows w w.heap.size A secret) (h1 : len ≤ cap) (h2 : cap ≤ 9223372036854775807) : ShL w w.heap.size (some ⟨g, 0, none⟩) (flat secret n) := fun _ => by
  refine ⟨g, 0, rfl, h.lt, fun i s hi => ?_⟩
  have hil := (List.getElem?_eq_some_iff.1 hi).1
  rw [flat_len] at hil
  have e : s = (UInt8.ofNat (i + 1), secret) := by
    unfold flat at hi
    rw [List.getElem?_map, List.getElem?_range hil] at hi
    exact (Option.some.inj hi).symm
  subst e hl
  obtain ⟨h3, h4⟩ := h.at_ i hil
  rw [Nat.zero_add]
  exact ⟨h3, A, cap, h4, hs, h1, h2⟩
end

set_option maxHeartbeats 4000000 in
set_option maxRecDepth 20000 in
theorem split_any (A : Option Addr) (cap : Nat) (secret : List UInt8) (R : Option Addr) (rcap : Nat) (r : List UInt8) (a b : Int) (w : World) (hs : Shows w w.heap.size A secret) (hsl : secret.length ≤ 140737488351232) (hsc : secret.length ≤ cap ∧ cap ≤ 9223372036854775807)
    (hr : Shows w w.heap.size R r) (hrl : r.length ≤ 140737488351232) (hrc : r.length ≤ rcap ∧ rcap ≤ 9223372036854775807) (hok : 1 ≤ a ∧ a ≤ b ∧ b ≤ 255) :
    Calls Try.prog 7 #[.slice A secret.length cap, .slice R r.length rcap, .agg #[.int .i64 a, .int .i64 b]] w
      fun e w' => ∃ g, e = .returned (.tuple #[.slice (some ⟨g, 0, none⟩) b.toNat b.toNat, .int .i64 0]) ∧ ShL w' w'.heap.size (some ⟨g, 0, none⟩) (splitL secret r a.toNat b.toNat) ∧ Below w.heap.size w w' := by
  obtain ⟨h1, h2, h3⟩ := hok
  obtain ⟨n, rfl⟩ := Int.eq_ofNat_of_zero_le (show 0 ≤ b by omega)
  obtain ⟨need, rfl⟩ := Int.eq_ofNat_of_zero_le (show 0 ≤ a by omega)
  rw [Int.toNat_natCast, Int.toNat_natCast]
  have HS := Lib.hid hs
  have HR := Lib.hid hr
  have HC := Lib.hid (And.intro hsl hsc)
  have HD := Lib.hid (And.intro hrl hrc)
  obtain ⟨L, hL⟩ : ∃ L, L = secret.length := ⟨_, rfl⟩
  obtain ⟨q, hq⟩ : ∃ L, L = r.length := ⟨_, rfl⟩
  have HL := Lib.hid hL
  have HQ := Lib.hid hq
  rw [← hL, ← hq]
  clear hs hr hsl hsc hrl hrc hL hq
  have i1 : ¬ (need : Int) < 1 := by omega
  have i2 : ¬ (need : Int) > (n : Int) := by omega
  have i3 : ¬ (n : Int) > 255 := by omega
  go_enter Try.func7, Try.ntmps7
  go_wp2
  go_quiet (fail)
  go_wp2_with ((with_reducible show wpList _ _ _ _ _ _); refine wpList_make_sh _ rfl (.tmp 27) rfl n rfl (by omega) [] ?_; intro w3 hs3 hb3 hz3)
  have hz0 : Hid (((w.alloc (.cells #[.int .i64 (need : Int), .int .i64 (n : Int)] 25)).drewN nq).heap.size = w.heap.size + 1) := by
    show (w.alloc (.cells #[.int .i64 (need : Int), .int .i64 (n : Int)] 25)).heap.size = _
    simp
  have hb0 : Hid (Below w.heap.size w w3) := (below_drewN (below_alloc (w := w) (.cells #[.int .i64 (need : Int), .int .i64 (n : Int)] 25)) nq).trans (hb3.mono (by rw [hz0.out]; omega))
  have hr0 : Hid (SR w3 (w.heap.size + 1) n 0 A L cap) := by
    have := hs3.out.row
    rw [hz0.out] at this
    exact ⟨this, fun i hi => absurd hi (by omega)⟩
  clear hs3 hb3 hz3 hz0
  generalize hM : w.heap.size + 1 = M at *
  have hz0 := Lib.hid hM
  clear hM
  go_loopw [31] (fun i wr => ∃ k : Nat, k ≤ n ∧ i = .int .i64 k ∧ Hid (SR wr M n k A L cap) ∧ Hid (Below w.heap.size w wr)) (fun i _ => n - (intOf i).toNat)
  case atStart => exact ⟨0, by omega, rfl, hr0, hb0⟩
  case round =>
    clear hr0 hb0
    obtain ⟨k, hk, rfl, hr, hb⟩ := hrel
    obtain ⟨wo, hwo⟩ : ∃ wo : World, wo = wr := ⟨_, rfl⟩
    subst hwo
    by_cases hlt : k < n
    · have j1 : (k : Int) < (n : Int) := by omega
      obtain ⟨v1, d1⟩ := hr.out.there (k * 2) (by omega)
      obtain ⟨v2, d2⟩ := hr.out.there (k * 2 + 1) (by omega)
      have f1 := hr.out.frozen (k * 2)
      have f2 := hr.out.frozen (k * 2 + 1)
      obtain ⟨X, hX, e1, e2⟩ : ∃ X : UInt8, Hid (X = UInt8.ofNat (k + 1)) ∧ IntKind.u8.wrap ((k : Int) + 1) = (X.toNat : Int) ∧ ((k : Int) + 1) % 256 = (X.toNat : Int) := by
        have e : ((UInt8.ofNat (k + 1)).toNat : Int) = ((k + 1 : Nat) : Int) := by rw [UInt8.toNat_ofNat_of_lt' (by simpa using (by omega : k + 1 < 256))]
        exact ⟨_, rfl, by rw [IntKind.wrap_u8, e]; omega, by rw [e]; omega⟩
      go_wp2
      go_roundw
      case rel =>
        refine ⟨k + 1, by omega, by go_num, ?_, ?_⟩
        · rw [hX.out]
          exact hr.out.put hlt
        · have hMl : w.heap.size ≤ M := by have := hz0.out; omega
          exact (hb.out.setCell (p := ⟨M, k * 2, none⟩) hMl _).setCell (p := ⟨M, k * 2 + 1, none⟩) hMl _
      case measure => simp [intOf]; omega
    · have j1 : ¬ (k : Int) < (n : Int) := by omega
      have hkn : k = n := by omega
      rw [hkn] at hr
      have hsh : Hid (ShL wo wo.heap.size (some ⟨M, 0, none⟩) (flat secret n)) := hr.out.shl HL.out (HS.out.up hb.out) (by rw [HL.out]; exact HC.out.2.1) HC.out.2.2
      clear hk
      have hfl : Hid (∀ s ∈ flat secret n, s.2.length ≤ 140737488351232) := fun s hs => by
        obtain ⟨i, _, rfl⟩ := List.mem_map.1 hs
        exact HC.out.1
      have HM : Hid (Calls Try.prog 20 #[.slice (some ⟨M, 0, none⟩) n n, .slice R q rcap, .int .i64 (need : Int)] wo fun e w' => ∃ g, e = .returned (.slice (some ⟨g, 0, none⟩) n n) ∧ ShL w' w'.heap.size (some ⟨g, 0, none⟩) (splitL secret r need n) ∧ Below wo.heap.size wo w') := by
        have h := masked_is (some ⟨M, 0, none⟩) n n (flat secret n) R q rcap r (need : Int) wo (flat_len _ _).symm HQ.out hsh.out (by rw [flat_len]; omega) hfl.out (HR.out.up hb.out) HD.out.1 HD.out.2 (by omega) (by omega)
        rw [Int.toNat_natCast] at h
        exact h
      go_wp2_with (go_at_call 20; refine HM.out.mono ?_; rintro e w6 ⟨g, rfl, hs6, hb6⟩)
      go_ret2
      exact ⟨g, rfl, hs6, hb.out.trans (hb6.mono hb.out.size)⟩

end Go.Proofs.Yteaaadccjnmacaa
