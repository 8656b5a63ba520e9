/-
 Go's slices.Equal of cells, the reference's SameRow, by contracts.
-/
import Derived.Test.YtfeemipnalgjnaaGreatHb
import Derived.Test.YtfeemipnalgjnaaGreatFwM
namespace Go.Proofs.YtfeemipnalgjnaaGreat
open Go.RowKit

theorem run_ne_ce (w : World) (i j : Int) (b b' : Bool) (n n' : Int) (s s' : ByteArray) : (binOp .neq 66 (.agg #[.int .i64 i, .bool b, .int .i64 n, .string s]) (.agg #[.int .i64 j, .bool b', .int .i64 n', .string s'])).run Tryz.prog w = .ok (.bool (!(eqCe ⟨i, b, n, s⟩ ⟨j, b', n', s'⟩))) w := by
 unfold eqCe
 simp [go_sem]
 by_cases h1 : i = j <;> cases b <;> cases b' <;> by_cases h2 : s.toList = s'.toList <;> by_cases h3 : n = n' <;> simp [h1, h2, h3]
theorem run_ne_ce_no (w : World) (i j : Int) (b b' : Bool) (n n' : Int) (s s' : ByteArray) (h : eqCe ⟨i, b, n, s⟩ ⟨j, b', n', s'⟩ = false) : (binOp .neq 66 (.agg #[.int .i64 i, .bool b, .int .i64 n, .string s]) (.agg #[.int .i64 j, .bool b', .int .i64 n', .string s'])).run Tryz.prog w = .ok (.bool true) w := by
 rw [run_ne_ce, h]
 rfl
theorem run_ne_ce_self (w : World) (i : Int) (b : Bool) (n : Int) (s : ByteArray) : (binOp .neq 66 (.agg #[.int .i64 i, .bool b, .int .i64 n, .string s]) (.agg #[.int .i64 i, .bool b, .int .i64 n, .string s])).run Tryz.prog w = .ok (.bool false) w := by
 rw [run_ne_ce, (eqCe_iff _ _).2 rfl]
 rfl
theorem eqs_no {l q : List Ce} {k : Nat} {f g : Ce} {z : Bool} (hd : l.drop k = f :: l.drop (k + 1)) (he : q.drop k = g :: q.drop (k + 1)) (h : eqCs (l.drop k) (q.drop k) = z) (hne : eqCe f g = false) : z = false := by
 rw [← h, hd, he, eqCs, hne]
 rfl
theorem eqs_go {l q : List Ce} {k : Nat} {f g : Ce} {z : Bool} (hd : l.drop k = f :: l.drop (k + 1)) (he : q.drop k = g :: q.drop (k + 1)) (h : eqCs (l.drop k) (q.drop k) = z) (hne : eqCe f g = true) : eqCs (l.drop (k + 1)) (q.drop (k + 1)) = z := by
 rw [← h, hd, he, eqCs, hne]
 rfl
theorem eqs_len {l q : List Ce} (h : l.length ≠ q.length) : eqCs l q = false := by
 cases e : eqCs l q with
 | false => rfl
 | true => exact absurd (congrArg List.length (eqCs_iff.1 e)) h

set_option maxHeartbeats 2000000 in
set_option maxRecDepth 20000 in
attribute [local go_sem high] run_ne_ce_self run_ne_ce_no in
theorem Equal_any (A : Option Addr) (n c : Nat) (l : List Ce) (A' : Option Addr) (n' c' : Nat) (q : List Ce) (w : World) (hn : n = l.length) (hs : Ces w w.heap.size A l) (hn' : n' = q.length) (hs' : Ces w w.heap.size A' q) (hl : n ≤ 9223372036854775807) (hl' : n' ≤ 9223372036854775807) :
  Calls Tryz.prog 44 #[.slice A n c, .slice A' n' c'] w fun e w' => e = .returned (.bool (eqCs l q)) ∧ Below w.heap.size w w' := by
 have HN := Li hn
 have HS := Li hs
 have HN2 := Li hn'
 have HS2 := Li hs'
 obtain ⟨z, hz⟩ : ∃ z, eqCs l q = z := ⟨_, rfl⟩
 rw [hz]
 by_cases hln : n = n'
 ·
  subst hln
  have HZ := Li hz
  clear hn hs hn' hs' hz
  go_enter Tryz.func44, Tryz.ntmps44
  go_wp2
  go_loopw [13] (fun j wr => ∃ k : Nat, k ≤ n ∧ j = .int .i64 k ∧ Hid (Below w.heap.size w wr) ∧ Hid (eqCs (l.drop k) (q.drop k) = z)) (fun j _ => n - (intOf j).toNat)
  case atStart => exact ⟨0, by omega, rfl, Below.refl _ _, HZ⟩
  case round =>
   obtain ⟨k, hk, rfl, hbel, hgo⟩ := hrel
   by_cases hlt : k < n
   ·
    have i1 : (k : Int) < (n : Int) := by omega
    obtain ⟨f, hf⟩ := getE_of (l := l) (k := k) (by rw [← HN.out]; exact hlt)
    obtain ⟨g, hg⟩ := getE_of (l := q) (k := k) (by rw [← HN2.out]; omega)
    obtain ⟨b, off, rfl, hb, c0, c1, c2, c3⟩ := (HS.out.below hbel.out).one hf
    obtain ⟨b', off', rfl, hb', d0, d1, d2, d3⟩ := (HS2.out.below hbel.out).one hg
    have hd := Li (drop_cons hf)
    have hd' := Li (drop_cons hg)
    clear hf hg
    cases he : eqCe f g with
    | false =>
     have HG := Li (eqs_no hd.out hd'.out hgo.out he)
     go_wp2
     go_quiet (fail)
     go_wp2
     go_ret
     refine ⟨?_, below_drewN hbel.out _⟩
     rw [HG.out]
     rfl
    | true =>
     have HG := Li (eqs_go hd.out hd'.out hgo.out he)
     have hfg := (eqCe_iff _ _).1 he
     subst hfg
     go_wp2
     go_quiet (fail)
     go_wp2
     go_roundw
     case rel => exact ⟨k + 1, by omega, by go_num, Li (below_drewN hbel.out _), HG⟩
     case measure => simp [intOf]; omega
   ·
    have i1 : ¬ (k : Int) < (n : Int) := by omega
    have hz : z = true := by
     rw [← hgo.out, List.drop_of_length_le (by rw [← HN.out]; omega), List.drop_of_length_le (by rw [← HN2.out]; omega)]
     rfl
    have HZ2 := Li hz
    clear hz
    go_wp2
    go_ret
    exact ⟨by rw [HZ2.out]; rfl, hbel.out⟩
 ·
  have HZ := Li (show z = false by rw [← hz]; exact eqs_len (by rw [← hn, ← hn']; exact hln))
  have i0 : ¬ (n : Int) = (n' : Int) := by omega
  clear hn hs hn' hs' hz
  go_enter Tryz.func44, Tryz.ntmps44
  go_wp2
  go_ret
  exact ⟨by rw [HZ.out]; rfl, Below.refl _ _⟩

set_option maxHeartbeats 2000000 in
set_option maxRecDepth 20000 in
attribute [local go_sem high] run_ne_ce_self run_ne_ce_no in
theorem RSameRow_any (A : Option Addr) (n c : Nat) (l : List Ce) (A' : Option Addr) (n' c' : Nat) (q : List Ce) (w : World) (hn : n = l.length) (hs : Ces w w.heap.size A l) (hn' : n' = q.length) (hs' : Ces w w.heap.size A' q) (hl : n ≤ 9223372036854775807) (hl' : n' ≤ 9223372036854775807) :
  Calls Tryz.prog 15 #[.agg #[.slice A n c], .agg #[.slice A' n' c']] w fun e w' => e = .returned (.bool (eqCs l q)) ∧ Below w.heap.size w w' := by
 have HN := Li hn
 have HS := Li hs
 have HN2 := Li hn'
 have HS2 := Li hs'
 obtain ⟨z, hz⟩ : ∃ z, eqCs l q = z := ⟨_, rfl⟩
 rw [hz]
 have S0 := Li ((CB.new w 30 [.slice A n c]).alloc (.cells #[.slice A' n' c'] 30))
 have T0 := Li (CB.new1 w (.cells #[.slice A n c] 30) 30 [.slice A' n' c'])
 have B0 := Li (al2 w (.cells #[.slice A n c] 30) (.cells #[.slice A' n' c'] 30))
 by_cases hln : n = n'
 ·
  subst hln
  have HZ := Li hz
  clear hn hs hn' hs' hz
  go_enter Tryz.func15, Tryz.ntmps15
  go_wp2
  go_loopw [5] (fun j wr => ∃ k : Nat, k ≤ n ∧ j = .int .i64 k ∧ Hid (CB wr w.heap.size 30 [.slice A n c]) ∧ Hid (CB wr (w.heap.size + 1) 30 [.slice A' n c']) ∧ Hid (Below w.heap.size w wr) ∧ Hid (eqCs (l.drop k) (q.drop k) = z)) (fun j _ => n - (intOf j).toNat)
  case atStart => exact ⟨0, by omega, rfl, S0, T0, B0, HZ⟩
  case round =>
   obtain ⟨k, hk, rfl, hs0, ht0, hbel, hgo⟩ := hrel
   have s0 := hs0.out.cell 0 rfl
   have t0 := ht0.out.cell 0 rfl
   by_cases hlt : k < n
   ·
    have i1 : (k : Int) < (n : Int) := by omega
    obtain ⟨f, hf⟩ := getE_of (l := l) (k := k) (by rw [← HN.out]; exact hlt)
    obtain ⟨g, hg⟩ := getE_of (l := q) (k := k) (by rw [← HN2.out]; omega)
    obtain ⟨b, off, rfl, hb, c0, c1, c2, c3⟩ := (HS.out.below hbel.out).one hf
    obtain ⟨b', off', rfl, hb', d0, d1, d2, d3⟩ := (HS2.out.below hbel.out).one hg
    have hd := Li (drop_cons hf)
    have hd' := Li (drop_cons hg)
    clear hf hg
    cases he : eqCe f g with
    | false =>
     have HG := Li (eqs_no hd.out hd'.out hgo.out he)
     go_wp2
     go_quiet (fail)
     go_wp2
     go_ret
     refine ⟨?_, below_drewN hbel.out _⟩
     rw [HG.out]
     rfl
    | true =>
     have HG := Li (eqs_go hd.out hd'.out hgo.out he)
     have hfg := (eqCe_iff _ _).1 he
     subst hfg
     go_wp2
     go_quiet (fail)
     go_wp2
     go_roundw
     case rel => exact ⟨k + 1, by omega, by go_num, Li (show CB _ _ _ _ from hs0.out), Li (show CB _ _ _ _ from ht0.out), Li (below_drewN hbel.out _), HG⟩
     case measure => simp [intOf]; omega
   ·
    have i1 : ¬ (k : Int) < (n : Int) := by omega
    have hz : z = true := by
     rw [← hgo.out, List.drop_of_length_le (by rw [← HN.out]; omega), List.drop_of_length_le (by rw [← HN2.out]; omega)]
     rfl
    have HZ2 := Li hz
    clear hz
    go_wp2
    go_ret
    exact ⟨by rw [HZ2.out]; rfl, hbel.out⟩
 ·
  have HZ := Li (show z = false by rw [← hz]; exact eqs_len (by rw [← hn, ← hn']; exact hln))
  have i0 : ¬ (n : Int) = (n' : Int) := by omega
  clear hn hs hn' hs' hz
  go_enter Tryz.func15, Tryz.ntmps15
  go_wp2
  go_ret
  exact ⟨by rw [HZ.out]; rfl, B0.out⟩
end Go.Proofs.YtfeemipnalgjnaaGreat
