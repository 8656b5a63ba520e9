/-
  The reference's Same, by a contract.
-/
import Derived.Test.YtiafcdaephcfeaaGD
import Derived.Lib.Strings
import Derived.Deep.QuietTactic
import Derived.BigQuiet
namespace Go.Proofs.Ytiafcdaephcfeaa
open Go.RowKit

def eqFd (a b : Fd) : Bool := a.id == b.id && (a.nm.toList == b.nm.toList && (a.ty == b.ty && a.pa == b.pa))
theorem eqFd_iff (a b : Fd) : eqFd a b = true ↔ a = b := by
  obtain ⟨i, s, t, p⟩ := a
  obtain ⟨j, s', t', p'⟩ := b
  unfold eqFd
  simp only [Bool.and_eq_true, beq_iff_eq, Lib.toList_data, Fd.mk.injEq]
  constructor
  · rintro ⟨rfl, h, rfl, rfl⟩
    exact ⟨rfl, by rw [← Lib.mk_data s, h, Lib.mk_data], rfl, rfl⟩
  · rintro ⟨rfl, rfl, rfl, rfl⟩
    exact ⟨rfl, rfl, rfl, rfl⟩
theorem run_ne_fd (w : World) (i j : Int) (s s' : ByteArray) (t t' p p' : Int) : (binOp .neq 50 (.agg #[.int .i64 i, .string s, .int .i64 t, .int .i64 p]) (.agg #[.int .i64 j, .string s', .int .i64 t', .int .i64 p'])).run Try.prog w = .ok (.bool (!(eqFd ⟨i, s, t, p⟩ ⟨j, s', t', p'⟩))) w := by
  unfold eqFd
  simp [go_sem]
  by_cases h1 : i = j <;> by_cases h2 : s.toList = s'.toList <;> by_cases h3 : t = t' <;> by_cases h4 : p = p' <;> simp [h1, h2, h3, h4]
theorem run_ne_fd_no (w : World) (i j : Int) (s s' : ByteArray) (t t' p p' : Int) (h : eqFd ⟨i, s, t, p⟩ ⟨j, s', t', p'⟩ = false) : (binOp .neq 50 (.agg #[.int .i64 i, .string s, .int .i64 t, .int .i64 p]) (.agg #[.int .i64 j, .string s', .int .i64 t', .int .i64 p'])).run Try.prog w = .ok (.bool true) w := by
  rw [run_ne_fd, h]
  rfl
theorem run_ne_fd_self (w : World) (i : Int) (s : ByteArray) (t p : Int) : (binOp .neq 50 (.agg #[.int .i64 i, .string s, .int .i64 t, .int .i64 p]) (.agg #[.int .i64 i, .string s, .int .i64 t, .int .i64 p])).run Try.prog w = .ok (.bool false) w := by
  rw [run_ne_fd, (eqFd_iff _ _).2 rfl]
  rfl
def sameL : List Fd → List Fd → Bool
  | [], _ => true
  | _ :: _, [] => true
  | f :: r, g :: q => if eqFd f g then sameL r q else false
def sameS (a b : Sc) : Bool := a.next == b.next && (a.fs.length == b.fs.length && sameL a.fs b.fs)
theorem sameL_eq : ∀ {l q : List Fd}, l.length = q.length → (sameL l q = true ↔ l = q)
  | [], [], _ => by simp [sameL]
  | [], _ :: _, h => by simp at h
  | _ :: _, [], h => by simp at h
  | f :: r, g :: q, h => by
    unfold sameL
    by_cases he : eqFd f g = true
    · rw [if_pos he, sameL_eq (by simpa using h), (eqFd_iff _ _).1 he]
      simp
    · rw [if_neg he]
      constructor
      · intro h; cases h
      · intro h; injection h with h1 _; exact absurd ((eqFd_iff _ _).2 h1) he
theorem sameS_iff (a b : Sc) : sameS a b = true ↔ a = b := by
  obtain ⟨l, x⟩ := a
  obtain ⟨q, y⟩ := b
  unfold sameS
  simp only [Bool.and_eq_true, beq_iff_eq, Sc.mk.injEq]
  constructor
  · rintro ⟨rfl, h1, h2⟩
    exact ⟨(sameL_eq h1).1 h2, rfl⟩
  · rintro ⟨rfl, rfl⟩
    exact ⟨rfl, rfl, (sameL_eq rfl).2 rfl⟩
theorem same_no {l q : List Fd} {k : Nat} {f g : Fd} {z : Bool} (hd : l.drop k = f :: l.drop (k + 1)) (he : q.drop k = g :: q.drop (k + 1)) (h : sameL (l.drop k) (q.drop k) = z) (hne : eqFd f g = false) : z = false := by
  rw [← h, hd, he, sameL, if_neg (by rw [hne]; decide)]
theorem same_go {l q : List Fd} {k : Nat} {f g : Fd} {z : Bool} (hd : l.drop k = f :: l.drop (k + 1)) (he : q.drop k = g :: q.drop (k + 1)) (h : sameL (l.drop k) (q.drop k) = z) (hne : eqFd f g = true) : sameL (l.drop (k + 1)) (q.drop (k + 1)) = z := by
  rw [← h, hd, he, sameL, if_pos hne]

set_option maxHeartbeats 2000000 in
set_option maxRecDepth 20000 in
attribute [local go_sem high] run_ne_fd_self run_ne_fd_no in
theorem RSame_any (A : Option Addr) (n c : Nat) (x : Int) (l : List Fd) (A' : Option Addr) (n' c' : Nat) (x' : Int) (l' : List Fd) (w : World) (hn : n = l.length) (hs : Fds w w.heap.size A l) (hn' : n' = l'.length) (hs' : Fds w w.heap.size A' l') (hl : n ≤ 9223372036854775807) (hl' : n' ≤ 9223372036854775807) :
    Calls Try.prog 13 #[.agg #[.slice A n c, .int .i64 x], .agg #[.slice A' n' c', .int .i64 x']] w fun e w' => e = .returned (.bool (sameS ⟨l, x⟩ ⟨l', x'⟩)) ∧ Below w.heap.size w w' := by
  have HN := Lib.hid hn
  have HS := Lib.hid hs
  have HN2 := Lib.hid hn'
  have HS2 := Lib.hid hs'
  obtain ⟨z, hz⟩ : ∃ z, sameS ⟨l, x⟩ ⟨l', x'⟩ = z := ⟨_, rfl⟩
  rw [hz]
  have S0 := Lib.hid ((CB.new w 31 [.slice A n c, .int .i64 x]).alloc (.cells #[.slice A' n' c', .int .i64 x'] 31))
  have T0 := Lib.hid (CB.new1 w (.cells #[.slice A n c, .int .i64 x] 31) 31 [.slice A' n' c', .int .i64 x'])
  have B0 := Lib.hid (al2 w (.cells #[.slice A n c, .int .i64 x] 31) (.cells #[.slice A' n' c', .int .i64 x'] 31))
  by_cases hx : x = x'
  · subst hx
    by_cases hln : n = n'
    · subst hln
      have HZ : Hid (sameL l l' = z) := by
        show _ = _
        rw [← hz]
        unfold sameS
        simp only
        rw [show (x == x) = true by simp, show (l.length == l'.length) = true by rw [← hn, ← hn']; simp]
        rfl
      clear hn hs hn' hs' hz
      go_enter Try.func13, Try.ntmps13
      go_wp2
      go_loopw [5] (fun j wr => ∃ k : Nat, k ≤ n ∧ j = .int .i64 k ∧ Hid (CB wr w.heap.size 31 [.slice A n c, .int .i64 x]) ∧ Hid (CB wr (w.heap.size + 1) 31 [.slice A' n c', .int .i64 x]) ∧ Hid (Below w.heap.size w wr) ∧ Hid (sameL (l.drop k) (l'.drop k) = z)) (fun j _ => n - (intOf j).toNat)
      case atStart => exact ⟨0, by omega, rfl, S0, T0, B0, HZ⟩
      case round =>
        obtain ⟨k, hk, rfl, hs0, ht0, hbel, hgo⟩ := hrel
        have s0 := hs0.out.cell 0 rfl
        have t0 := ht0.out.cell 0 rfl
        by_cases hlt : k < n
        · have i1 : (k : Int) < (n : Int) := by omega
          obtain ⟨f, hf⟩ := getD_of (l := l) (k := k) (by rw [← HN.out]; exact hlt)
          obtain ⟨g, hg⟩ := getD_of (l := l') (k := k) (by rw [← HN2.out]; omega)
          obtain ⟨b, off, rfl, hb, c0, c1, c2, c3⟩ := (HS.out.below hbel.out).one hf
          obtain ⟨b', off', rfl, hb', d0, d1, d2, d3⟩ := (HS2.out.below hbel.out).one hg
          have hd := Lib.hid (drop_cons hf)
          have hd' := Lib.hid (drop_cons hg)
          clear hf hg
          cases he : eqFd f g with
          | false =>
            have HG := Lib.hid (same_no hd.out hd'.out hgo.out he)
            go_wp2
            go_quiet (fail)
            go_wp2
            go_ret
            refine ⟨?_, below_drewN hbel.out _⟩
            rw [HG.out]
            rfl
          | true =>
            have HG := Lib.hid (same_go hd.out hd'.out hgo.out he)
            have hfg := (eqFd_iff _ _).1 he
            subst hfg
            go_wp2
            go_quiet (fail)
            go_wp2
            go_roundw
            case rel => exact ⟨k + 1, by omega, by go_num, Lib.hid (show CB _ _ _ _ from hs0.out), Lib.hid (show CB _ _ _ _ from ht0.out), Lib.hid (below_drewN hbel.out _), HG⟩
            case measure => simp [intOf]; omega
        · have i1 : ¬ (k : Int) < (n : Int) := by omega
          have hz : z = true := by
            rw [← hgo.out, List.drop_of_length_le (by rw [← HN.out]; omega)]
            rfl
          subst hz
          go_wp2
          go_ret
          exact ⟨rfl, hbel.out⟩
    · have e2 : ((n : Int) != (n' : Int)) = true := by simp; omega
      have hz' : z = false := by
        rw [← hz]
        unfold sameS
        simp only
        rw [show (l.length == l'.length) = false by rw [← hn, ← hn']; simpa using hln]
        simp
      subst hz'
      clear hn hs hn' hs' hz
      go_enter Try.func13, Try.ntmps13
      go_wp2
      go_ret
      exact ⟨rfl, B0.out⟩
  · have e1 : (x != x') = true := by simpa using hx
    have hz' : z = false := by
      rw [← hz]
      unfold sameS
      simp only
      rw [show (x == x') = false by simpa using hx]
      rfl
    subst hz'
    clear hn hs hn' hs' hx hz
    go_enter Try.func13, Try.ntmps13
    go_wp2
    go_ret
    exact ⟨rfl, B0.out⟩
end Go.Proofs.Ytiafcdaephcfeaa
