/-
  The reference's group, depth, inside, by contracts.
-/
import Derived.Test.YtpgbpfdedpppeaaRFld
namespace Go.Proofs.Ytpgbpfdedpppeaa
open Go.RowKit

/-- the number 0, or a group's -/
def grpB (l : List Fd) (i : Int) : Bool := decide (i = 0) || (hasF l i && decide ((fieldD l i).ty = 6))
/-- how deep a field lies; 9 where it has no depth -/
def depG (l : List Fd) : Nat → Int → Int → Int
  | 0, _, n => n
  | m + 1, i, n => if i = 0 then n else if hasF l i then depG l m (fieldD l i).pa (n + 1) else 9
def depL (l : List Fd) (i : Int) : Int := depG l 9 i 0
def insG (l : List Fd) (g : Int) : Nat → Int → Bool
  | 0, _ => false
  | m + 1, i => if i = 0 then false else if i = g then true else insG l g m (fieldD l i).pa
def insB (l : List Fd) (i g : Int) : Bool := insG l g 9 i

set_option maxHeartbeats 1000000 in
set_option maxRecDepth 20000 in
theorem Rgroup_any (A : Option Addr) (n c : Nat) (x : Int) (l : List Fd) (i : Int) (w : World) (hn : n = l.length) (hs : Fds w w.heap.size A l) (hl : n ≤ 9223372036854775807) :
    Calls Try.prog 43 #[.agg #[.slice A n c, .int .i64 x], .int .i64 i] w fun e w' => e = .returned (.bool (grpB l i)) ∧ Below w.heap.size w w' := by
  have HN := Lib.hid hn
  have HS := Lib.hid hs
  clear hn hs
  obtain ⟨z, hz⟩ : ∃ z, grpB l i = z := ⟨_, rfl⟩
  rw [hz]
  unfold grpB at hz
  obtain ⟨f, hf⟩ : ∃ f, fieldD l i = f := ⟨_, rfl⟩
  obtain ⟨b, hb⟩ : ∃ b, hasF l i = b := ⟨_, rfl⟩
  rw [hf, hb] at hz
  have HF := Lib.hid hf
  have HB := Lib.hid hb
  clear hf hb
  by_cases h0 : i = 0
  · obtain rfl : z = true := by rw [← hz]; simp [h0]
    have e0 : (i == 0) = true := by simpa using h0
    have H0 := Lib.hid h0
    clear hz h0
    go_enter Try.func43, Try.ntmps43
    go_wp2_with (go_at_call 20; refine (RField_any _ n c x l i _ HN.out (HS.out.up (al1 _ _)) hl).mono ?_; rintro e w5 ⟨rfl, hb5⟩; rw [HF.out, HB.out]; have HB5 := Lib.hid ((al1 w _).trans (hb5.mono (al1 w _).size)); clear hb5)
    go_ret
    exact ⟨rfl, HB5.out.alloc HB5.out.size _⟩
  · have e0 : (i == 0) = false := by simpa using h0
    cases b with
    | false =>
      obtain rfl : z = false := by rw [← hz]; simp [h0]
      have H0 := Lib.hid h0
      clear hz h0
      go_enter Try.func43, Try.ntmps43
      go_wp2_with (go_at_call 20; refine (RField_any _ n c x l i _ HN.out (HS.out.up (al1 _ _)) hl).mono ?_; rintro e w5 ⟨rfl, hb5⟩; rw [HF.out, HB.out]; have HB5 := Lib.hid ((al1 w _).trans (hb5.mono (al1 w _).size)); clear hb5)
      go_ret
      exact ⟨rfl, HB5.out.alloc HB5.out.size _⟩
    | true =>
      by_cases h6 : f.ty = 6
      · obtain rfl : z = true := by rw [← hz]; simp [h0, h6]
        have e6 : (f.ty == 6) = true := by simpa using h6
        have H0 := Lib.hid h0
        clear hz h0 h6
        go_enter Try.func43, Try.ntmps43
        go_wp2_with (go_at_call 20; refine (RField_any _ n c x l i _ HN.out (HS.out.up (al1 _ _)) hl).mono ?_; rintro e w5 ⟨rfl, hb5⟩; rw [HF.out, HB.out]; have HB5 := Lib.hid ((al1 w _).trans (hb5.mono (al1 w _).size)); clear hb5)
        go_ret
        exact ⟨rfl, HB5.out.alloc HB5.out.size _⟩
      · obtain rfl : z = false := by rw [← hz]; simp [h0, h6]
        have e6 : (f.ty == 6) = false := by simpa using h6
        have H0 := Lib.hid h0
        clear hz h0 h6
        go_enter Try.func43, Try.ntmps43
        go_wp2_with (go_at_call 20; refine (RField_any _ n c x l i _ HN.out (HS.out.up (al1 _ _)) hl).mono ?_; rintro e w5 ⟨rfl, hb5⟩; rw [HF.out, HB.out]; have HB5 := Lib.hid ((al1 w _).trans (hb5.mono (al1 w _).size)); clear hb5)
        go_ret
        exact ⟨rfl, HB5.out.alloc HB5.out.size _⟩

theorem dep_stop {l : List Fd} {m : Nat} {i n d : Int} (h : depG l m i n = d) (h0 : i = 0) : d = n := by
  subst h0
  cases m <;> simpa [depG] using h.symm
theorem dep_no {l : List Fd} {m : Nat} {i n d : Int} (h : depG l (m + 1) i n = d) (h0 : ¬ i = 0) (hb : hasF l i = false) : d = 9 := by
  rw [← h, depG, if_neg h0, hb]
  rfl
theorem dep_yes {l : List Fd} {m : Nat} {i n d : Int} (h : depG l (m + 1) i n = d) (h0 : ¬ i = 0) (hb : hasF l i = true) : depG l m (fieldD l i).pa (n + 1) = d := by
  rw [← h, depG, if_neg h0, if_pos hb]

set_option maxHeartbeats 1000000 in
set_option maxRecDepth 20000 in
theorem Rdepth_any (A : Option Addr) (n c : Nat) (x : Int) (l : List Fd) (i : Int) (w : World) (hn : n = l.length) (hs : Fds w w.heap.size A l) (hl : n ≤ 9223372036854775807) :
    Calls Try.prog 48 #[.agg #[.slice A n c, .int .i64 x], .int .i64 i] w fun e w' => e = .returned (.int .i64 (depL l i)) ∧ Below w.heap.size w w' := by
  have HN := Lib.hid hn
  have HS := Lib.hid hs
  clear hn hs
  go_enter Try.func48, Try.ntmps48
  go_wp2
  go_loopw [1, 5] (fun v j wr => ∃ (k : Nat) (m : Int), k ≤ 9 ∧ v = .int .i64 m ∧ j = .int .i64 k ∧ Hid (CB wr w.heap.size 30 [.slice A n c, .int .i64 x]) ∧ Hid (Below w.heap.size w wr) ∧ Hid (depG l (9 - k) m k = depL l i)) (fun _ j _ => 9 - (intOf j).toNat)
  case atStart => exact ⟨0, i, by omega, rfl, rfl, CB.new _ _ _, al1 _ _, rfl⟩
  case round =>
    obtain ⟨k, m, hk, rfl, rfl, hq, hbel, hgo⟩ := hrel
    have hz := hq.out.lt
    by_cases h0 : m = 0
    · have HE := Lib.hid (dep_stop hgo.out h0)
      have e0 : (m != 0) = false := by simpa using h0
      have H0 := Lib.hid h0
      clear h0
      go_wp2
      go_ret
      exact ⟨by rw [HE.out]; rfl, hbel.out⟩
    · have e0 : (m != 0) = true := by simpa using h0
      by_cases hlt : k < 9
      · have i1 : (k : Int) ≤ 8 := by omega
        obtain ⟨r, hr⟩ : ∃ r, 9 - k = r + 1 := ⟨8 - k, by omega⟩
        have q0 := hq.out.cell 0 rfl
        have q1 := hq.out.cell 1 rfl
        have hgo' := hgo.out
        rw [hr] at hgo'
        obtain ⟨f, hf⟩ : ∃ f, fieldD l m = f := ⟨_, rfl⟩
        have HF := Lib.hid hf
        have HS2 := Lib.hid ((HS.out.below hbel.out).more (show w.heap.size ≤ wr.heap.size by omega))
        cases hb : hasF l m with
        | false =>
          have HB := Lib.hid hb
          have HE := Lib.hid (dep_no hgo' h0 hb)
          have H0 := Lib.hid h0
          clear h0 hb hf hgo' hr
          go_wp2_with (go_at_call 20; refine (RField_any _ n c x l m _ HN.out HS2.out hl).mono ?_; rintro e w5 ⟨rfl, hb5⟩; rw [HF.out, HB.out]; have HB5 := Lib.hid (below_step hbel.out (by omega) hb5); have hz5 := hb5.size; clear hb5)
          go_ret
          exact ⟨by rw [HE.out]; rfl, HB5.out.alloc (by omega) _⟩
        | true =>
          have HB := Lib.hid hb
          have HE := Lib.hid (dep_yes hgo' h0 hb)
          have hr2 : Hid (r = 9 - (k + 1)) := by show _ = _; omega
          have H0 := Lib.hid h0
          clear h0 hb hf hgo' hr
          go_wp2_with (go_at_call 20; refine (RField_any _ n c x l m _ HN.out HS2.out hl).mono ?_; rintro e w5 ⟨rfl, hb5⟩; rw [HF.out, HB.out]; have HB5 := Lib.hid (below_step hbel.out (by omega) hb5); have HQ5 := Lib.hid (hq.out.up hb5); have hz5 := hb5.size; clear hb5)
          go_roundw
          case rel => exact ⟨k + 1, f.pa, by omega, rfl, by go_num, HQ5.out.alloc _, HB5.out.alloc (by omega) _, by show _ = _; rw [← hr2.out, ← HF.out]; have h := HE.out; push_cast; exact h⟩
          case measure => simp [intOf]; omega
      · have i1 : ¬ (k : Int) ≤ 8 := by omega
        have HE : Hid (depL l i = k) := by
          show _ = _
          rw [← hgo.out, show 9 - k = 0 by omega, depG]
        have H0 := Lib.hid h0
        clear h0
        go_wp2
        go_ret
        exact ⟨by rw [HE.out]; rfl, hbel.out⟩

theorem ins_stop {l : List Fd} {m : Nat} {i g : Int} {d : Bool} (h : insG l g m i = d) (h0 : i = 0) : d = false := by
  subst h0
  cases m <;> simpa [insG] using h.symm
theorem ins_yes {l : List Fd} {m : Nat} {i g : Int} {d : Bool} (h : insG l g (m + 1) i = d) (h0 : ¬ i = 0) (hb : i = g) : d = true := by
  rw [← h, insG, if_neg h0, if_pos hb]
theorem ins_go {l : List Fd} {m : Nat} {i g : Int} {d : Bool} (h : insG l g (m + 1) i = d) (h0 : ¬ i = 0) (hb : ¬ i = g) : insG l g m (fieldD l i).pa = d := by
  rw [← h, insG, if_neg h0, if_neg hb]

set_option maxHeartbeats 1000000 in
set_option maxRecDepth 20000 in
theorem Rinside_any (A : Option Addr) (n c : Nat) (x : Int) (l : List Fd) (i g : Int) (w : World) (hn : n = l.length) (hs : Fds w w.heap.size A l) (hl : n ≤ 9223372036854775807) :
    Calls Try.prog 79 #[.agg #[.slice A n c, .int .i64 x], .int .i64 i, .int .i64 g] w fun e w' => e = .returned (.bool (insB l i g)) ∧ Below w.heap.size w w' := by
  have HN := Lib.hid hn
  have HS := Lib.hid hs
  clear hn hs
  go_enter Try.func79, Try.ntmps79
  go_wp2
  go_loopw [1, 7] (fun v j wr => ∃ (k : Nat) (m : Int), k ≤ 9 ∧ v = .int .i64 m ∧ j = .int .i64 k ∧ Hid (CB wr w.heap.size 30 [.slice A n c, .int .i64 x]) ∧ Hid (Below w.heap.size w wr) ∧ Hid (insG l g (9 - k) m = insB l i g)) (fun _ j _ => 9 - (intOf j).toNat)
  case atStart => exact ⟨0, i, by omega, rfl, rfl, CB.new _ _ _, al1 _ _, rfl⟩
  case round =>
    obtain ⟨k, m, hk, rfl, rfl, hq, hbel, hgo⟩ := hrel
    have hz := hq.out.lt
    by_cases h0 : m = 0
    · have HE := Lib.hid (ins_stop hgo.out h0)
      have e0 : (m != 0) = false := by simpa using h0
      have H0 := Lib.hid h0
      clear h0
      go_wp2
      go_ret
      exact ⟨by rw [HE.out]; rfl, hbel.out⟩
    · have e0 : (m != 0) = true := by simpa using h0
      by_cases hlt : k < 9
      · have i1 : (k : Int) ≤ 8 := by omega
        obtain ⟨r, hr⟩ : ∃ r, 9 - k = r + 1 := ⟨8 - k, by omega⟩
        have q0 := hq.out.cell 0 rfl
        have q1 := hq.out.cell 1 rfl
        have hgo' := hgo.out
        rw [hr] at hgo'
        obtain ⟨f, hf⟩ : ∃ f, fieldD l m = f := ⟨_, rfl⟩
        have HF := Lib.hid hf
        have HS2 := Lib.hid ((HS.out.below hbel.out).more (show w.heap.size ≤ wr.heap.size by omega))
        by_cases hb : m = g
        · have eg : (m == g) = true := by simpa using hb
          have HB := Lib.hid hb
          have HE := Lib.hid (ins_yes hgo' h0 hb)
          have H0 := Lib.hid h0
          clear h0 hb hf hgo' hr
          go_wp2
          go_ret
          exact ⟨by rw [HE.out]; rfl, hbel.out⟩
        · have eg : (m == g) = false := by simpa using hb
          have HB := Lib.hid hb
          have HE := Lib.hid (ins_go hgo' h0 hb)
          have hr2 : Hid (r = 9 - (k + 1)) := by show _ = _; omega
          have H0 := Lib.hid h0
          clear h0 hb hf hgo' hr
          go_wp2_with (go_at_call 20; refine (RField_any _ n c x l m _ HN.out HS2.out hl).mono ?_; rintro e w5 ⟨rfl, hb5⟩; rw [HF.out]; have HB5 := Lib.hid (below_step hbel.out (by omega) hb5); have HQ5 := Lib.hid (hq.out.up hb5); have hz5 := hb5.size; clear hb5)
          go_roundw
          case rel => exact ⟨k + 1, f.pa, by omega, rfl, by go_num, HQ5.out.alloc _, HB5.out.alloc (by omega) _, by show _ = _; rw [← hr2.out, ← HF.out]; exact HE.out⟩
          case measure => simp [intOf]; omega
      · have i1 : ¬ (k : Int) ≤ 8 := by omega
        have HE : Hid (insB l i g = false) := by
          show _ = _
          rw [← hgo.out, show 9 - k = 0 by omega, insG]
        have H0 := Lib.hid h0
        clear h0
        go_wp2
        go_ret
        exact ⟨by rw [HE.out]; rfl, hbel.out⟩
end Go.Proofs.Ytpgbpfdedpppeaa
