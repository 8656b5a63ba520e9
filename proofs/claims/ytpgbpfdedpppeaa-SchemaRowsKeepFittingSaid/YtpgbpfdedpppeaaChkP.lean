/-
  The program's numbered, typed, placed, by contracts.
-/
import Derived.Test.YtpgbpfdedpppeaaAncP
import Derived.Test.YtpgbpfdedpppeaaNamP
namespace Go.Proofs.Ytpgbpfdedpppeaa
open Go.RowKit

/-- numbers increase from last on, and end below nx -/
def numGo (nx : Int) : Int → List Fd → Bool
  | last, [] => decide (last < nx)
  | last, f :: r => if f.id ≤ last then false else numGo nx f.id r
def typsB (l : List Fd) : Bool := l.all fun f => typB f.ty
def plcB (l : List Fd) (f : Fd) : Bool := decide ((anc l 8 true f.id).2 = 0)
def plcsB (l : List Fd) : Bool := l.all (plcB l)
theorem alls_step {p : Fd → Bool} {r : List Fd} {k : Nat} {f : Fd} (hd : r.drop k = f :: r.drop (k + 1)) (h : (r.drop k).all p = r.all p) (hc : p f = true) : (r.drop (k + 1)).all p = r.all p := by
  rw [← h, hd, List.all_cons, hc, Bool.true_and]
theorem alls_stop {p : Fd → Bool} {r : List Fd} {k : Nat} {f : Fd} (hd : r.drop k = f :: r.drop (k + 1)) (h : (r.drop k).all p = r.all p) (hc : p f = false) : r.all p = false := by
  rw [← h, hd, List.all_cons, hc, Bool.false_and]
theorem alls_end {p : Fd → Bool} {r : List Fd} {k : Nat} (hk : r.length ≤ k) (h : (r.drop k).all p = r.all p) : r.all p = true := by
  rw [← h, List.drop_of_length_le hk]
  rfl

set_option maxHeartbeats 1000000 in
set_option maxRecDepth 20000 in
theorem typed_any (A : Option Addr) (n c : Nat) (l : List Fd) (w : World) (hn : n = l.length) (hs : Fds w w.heap.size A l) (hl : n ≤ 9223372036854775807) :
    Calls Try.prog 53 #[.slice A n c] w fun e w' => e = .returned (.bool (typsB l)) ∧ Below w.heap.size w w' := by
  have HN := Lib.hid hn
  have HS := Lib.hid hs
  clear hn hs
  go_enter Try.func53, Try.ntmps53
  go_wp2
  go_loopw [7] (fun j wr => ∃ k : Nat, k ≤ n ∧ j = .int .i64 k ∧ Hid (Below w.heap.size w wr) ∧ Hid (w.heap.size ≤ wr.heap.size) ∧ Hid ((l.drop k).all (fun f => typB f.ty) = l.all (fun f => typB f.ty))) (fun j _ => n - (intOf j).toNat)
  case atStart => exact ⟨0, by omega, rfl, Below.refl _ _, Nat.le_refl _, rfl⟩
  case round =>
    obtain ⟨k, hk, rfl, hbel, hsz, hgo⟩ := hrel
    by_cases hlt : k < n
    · have i1 : (k : Int) < (n : Int) := by omega
      obtain ⟨f, hf⟩ := getD_of (l := l) (k := k) (by rw [← HN.out]; exact hlt)
      obtain ⟨b, off, rfl, hb, c0, c1, c2, c3⟩ := (HS.out.below hbel.out).one hf
      have hd := Lib.hid (drop_cons hf)
      have hz := hsz.out
      cases ht : typB f.ty with
      | true =>
        have HT := Lib.hid ht
        clear ht hf
        go_wp2_with (go_at_call 74; refine (schType_any _ true _ HT.out).mono ?_; rintro e w' ⟨rfl, rfl⟩)
        go_roundw
        case rel => exact ⟨k + 1, by omega, by go_num, hbel.out.alloc hz _, by show _ ≤ _; rw [asz]; omega, alls_step hd.out hgo.out HT.out⟩
        case measure => simp [intOf]; omega
      | false =>
        have HT := Lib.hid ht
        clear ht hf
        go_wp2_with (go_at_call 74; refine (schType_any _ false _ HT.out).mono ?_; rintro e w' ⟨rfl, rfl⟩)
        go_ret
        refine ⟨?_, hbel.out.alloc hz _⟩
        unfold typsB
        rw [alls_stop hd.out hgo.out HT.out]
        rfl
    · have i1 : ¬ (k : Int) < (n : Int) := by omega
      go_wp2
      go_ret
      refine ⟨?_, hbel.out⟩
      unfold typsB
      rw [alls_end (by rw [← HN.out]; omega) hgo.out]
      rfl

set_option maxHeartbeats 1000000 in
set_option maxRecDepth 20000 in
theorem placed_any (A : Option Addr) (n c : Nat) (l : List Fd) (w : World) (hn : n = l.length) (hs : Fds w w.heap.size A l) (hl : n ≤ 9223372036854775807) :
    Calls Try.prog 33 #[.slice A n c] w fun e w' => e = .returned (.bool (plcsB l)) ∧ Below w.heap.size w w' := by
  have HN := Lib.hid hn
  have HS := Lib.hid hs
  clear hn hs
  go_enter Try.func33, Try.ntmps33
  go_wp2
  go_loopw [9] (fun j wr => ∃ k : Nat, k ≤ n ∧ j = .int .i64 k ∧ Hid (Below w.heap.size w wr) ∧ Hid (w.heap.size ≤ wr.heap.size) ∧ Hid ((l.drop k).all (plcB l) = l.all (plcB l))) (fun j _ => n - (intOf j).toNat)
  case atStart => exact ⟨0, by omega, rfl, Below.refl _ _, Nat.le_refl _, rfl⟩
  case round =>
    obtain ⟨k, hk, rfl, hbel, hsz, hgo⟩ := hrel
    by_cases hlt : k < n
    · have i1 : (k : Int) < (n : Int) := by omega
      obtain ⟨f, hf⟩ := getD_of (l := l) (k := k) (by rw [← HN.out]; exact hlt)
      obtain ⟨b, off, rfl, hb, c0, c1, c2, c3⟩ := (HS.out.below hbel.out).one hf
      have hd := Lib.hid (drop_cons hf)
      have hz := hsz.out
      have HS2 := Lib.hid ((HS.out.below (hbel.out.alloc hz (.cells #[.int .i64 f.id, .string f.nm, .int .i64 f.ty, .int .i64 f.pa] 41))).more (show w.heap.size ≤ (wr.alloc (.cells #[.int .i64 f.id, .string f.nm, .int .i64 f.ty, .int .i64 f.pa] 41)).heap.size by rw [asz]; omega))
      cases ht : plcB l f with
      | true =>
        have HT := Lib.hid ht
        have HZ := Lib.hid (show decide ((anc l 8 true f.id).2 = 0) = true from ht)
        clear ht hf
        go_wp2_with (go_at_call 44; refine (ancestry_any _ n c l f.id _ HN.out HS2.out hl).mono ?_; rintro e w5 ⟨⟨A5, c5, rfl, hf5⟩, hb5⟩; rw [HZ.out]; have HB5 := Lib.hid hb5; clear hf5 hb5)
        go_roundw
        case rel => exact ⟨k + 1, by omega, by go_num, below_step (hbel.out.alloc hz _) (by rw [asz]; omega) HB5.out, by show _ ≤ _; have := HB5.out.size; rw [asz] at this; omega, alls_step hd.out hgo.out HT.out⟩
        case measure => simp [intOf]; omega
      | false =>
        have HT := Lib.hid ht
        have HZ := Lib.hid (show decide ((anc l 8 true f.id).2 = 0) = false from ht)
        clear ht hf
        go_wp2_with (go_at_call 44; refine (ancestry_any _ n c l f.id _ HN.out HS2.out hl).mono ?_; rintro e w5 ⟨⟨A5, c5, rfl, hf5⟩, hb5⟩; rw [HZ.out]; have HB5 := Lib.hid hb5; clear hf5 hb5)
        go_ret
        refine ⟨?_, below_step (hbel.out.alloc hz _) (by rw [asz]; omega) HB5.out⟩
        unfold plcsB
        rw [alls_stop hd.out hgo.out HT.out]
        rfl
    · have i1 : ¬ (k : Int) < (n : Int) := by omega
      go_wp2
      go_ret
      refine ⟨?_, hbel.out⟩
      unfold plcsB
      rw [alls_end (by rw [← HN.out]; omega) hgo.out]
      rfl

set_option maxHeartbeats 1000000 in
set_option maxRecDepth 20000 in
theorem numbered_any (A : Option Addr) (n c : Nat) (x : Int) (l : List Fd) (w : World) (hn : n = l.length) (hs : Fds w w.heap.size A l) (hl : n ≤ 9223372036854775807) :
    Calls Try.prog 52 #[.agg #[.slice A n c, .int .i64 x]] w fun e w' => e = .returned (.bool (numGo x 0 l)) ∧ Below w.heap.size w w' := by
  have HN := Lib.hid hn
  have HS := Lib.hid hs
  clear hn hs
  go_enter Try.func52, Try.ntmps52
  go_wp2
  go_loopw [3, 9] (fun la j wr => ∃ (k : Nat) (last : Int), k ≤ n ∧ la = .int .i64 last ∧ j = .int .i64 k ∧ Hid (CB wr w.heap.size 30 [.slice A n c, .int .i64 x]) ∧ Hid (Below w.heap.size w wr) ∧ Hid (numGo x last (l.drop k) = numGo x 0 l)) (fun _ j _ => n - (intOf j).toNat)
  case atStart => exact ⟨0, 0, by omega, rfl, rfl, CB.new _ _ _, al1 _ _, rfl⟩
  case round =>
    obtain ⟨k, last, hk, rfl, rfl, hcb, hbel, hgo⟩ := hrel
    have hz := hcb.out.lt
    have d1 := hcb.out.cell 1 rfl
    by_cases hlt : k < n
    · have i1 : (k : Int) < (n : Int) := by omega
      obtain ⟨f, hf⟩ := getD_of (l := l) (k := k) (by rw [← HN.out]; exact hlt)
      obtain ⟨b, off, rfl, hb, c0, c1, c2, c3⟩ := (HS.out.below hbel.out).one hf
      have hd := Lib.hid (drop_cons hf)
      clear hf
      by_cases he : f.id ≤ last
      · go_wp2
        go_ret
        refine ⟨?_, hbel.out.alloc (by omega) _⟩
        rw [← hgo.out, hd.out, numGo, if_pos he]
        rfl
      · go_wp2
        go_roundw
        case rel => exact ⟨k + 1, f.id, by omega, rfl, by go_num, hcb.out.alloc _, hbel.out.alloc (by omega) _, by show _ = _; rw [← hgo.out, hd.out, numGo, if_neg he]⟩
        case measure => simp [intOf]; omega
    · have i1 : ¬ (k : Int) < (n : Int) := by omega
      have HE := Lib.hid (show numGo x 0 l = decide (last < x) by rw [← hgo.out, List.drop_of_length_le (by rw [← HN.out]; omega), numGo])
      by_cases he : last < x
      · go_wp2
        go_ret
        exact ⟨by rw [HE.out, decide_eq_true he]; rfl, hbel.out⟩
      · go_wp2
        go_ret
        exact ⟨by rw [HE.out, decide_eq_false (by omega)]; rfl, hbel.out⟩
end Go.Proofs.Ytpgbpfdedpppeaa
