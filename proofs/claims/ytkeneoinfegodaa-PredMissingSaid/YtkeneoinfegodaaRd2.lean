/-
  The reader of the program's Decode: small, count, number, id, text, by contracts.
-/
import Derived.Test.YtkeneoinfegodaaRdr
namespace Go.Proofs.Ytkeneoinfegodaa
open Go.RowKit
def pB (l : List UInt8) (a e : Nat) : Nat × Nat × Nat := if e = 0 then rdB l a else (0, a, e)
def pU (l : List UInt8) (a e : Nat) : Nat × Nat × Nat := if e = 0 then Num.readU l a else (0, a, e)
def pT (l : List UInt8) (a e : Nat) : List UInt8 × Nat × Nat := if e = 0 then (Num.taken l a, (Num.span l a).2.1, (Num.span l a).2.2) else ([], a, e)
def rqN (ok : Bool) (e err : Nat) : Nat := if ok = false ∧ e = 0 then err else e
def smL (l : List UInt8) (most : Int) (a e : Nat) : Nat × Nat × Nat := ((pB l a e).1, (pB l a e).2.1, rqN (decide (((pB l a e).1 : Int) ≤ most)) (pB l a e).2.2 5)
def cntL (l : List UInt8) (a e : Nat) : Nat × Nat × Nat := if 16 < (pU l a e).1 then (0, (pU l a e).2.1, rqN false (pU l a e).2.2 2) else pU l a e
def txL (l : List UInt8) (a e : Nat) : List UInt8 × Nat × Nat := ((pT l a e).1, (pT l a e).2.1, rqN (decide ((((pT l a e).1.length : Nat) : Int) ≤ 200)) (pT l a e).2.2 2)
theorem rqE_cast (ok : Bool) (e err : Nat) : rqE ok (e : Int) (err : Int) = ((rqN ok e err : Nat) : Int) := by
  unfold rqE rqN
  by_cases h : ok = false ∧ e = 0
  · rw [if_pos h, if_pos ⟨h.1, by rw [h.2]; rfl⟩]
  · rw [if_neg h, if_neg (fun k => h ⟨k.1, by have := k.2; omega⟩)]
theorem pB_le (l : List UInt8) (a e : Nat) : (pB l a e).1 ≤ 255 := by
  unfold pB rdB
  split
  · split
    · rename_i b _
      have := b.toNat_lt
      show b.toNat ≤ 255
      omega
    · exact Nat.zero_le _
  · exact Nat.zero_le _
theorem pB_any (A : Option Addr) (c : Nat) (l : List UInt8) (g B : Nat) (a e : Nat) (w : World) (hg : CB w g 81 [.slice A l.length c, .int .i64 (a : Nat), .int .i64 (e : Nat)]) (hs : Shows w B A l) (hB : B ≤ g) (hl : l.length ≤ c ∧ c ≤ 9223372036854775806) (ha : e = 0 → a ≤ l.length) :
    Calls Try.prog 83 #[.pointer (some ⟨g, 0, none⟩), .func (.func 84) #[] #[]] w fun x w' => x = .returned (.int .u8 (pB l a e).1) ∧ CB w' g 81 [.slice A l.length c, .int .i64 (pB l a e).2.1, .int .i64 (pB l a e).2.2] ∧ w.grownBy w' (some g) := by
  refine (partB_any A c l g B a e (rdB l a).2.1 (rdB l a).2.2 (.int .u8 (rdB l a).1) w hg hs hB (fun h0 X hX => (readByte_any A c l a X hX (ha (by omega)) (by omega)).mono fun x w' h => ⟨h.1, h.2⟩)).mono fun x w' h => ?_
  unfold pB
  by_cases h0 : e = 0
  · subst h0
    simpa using h
  · rw [if_neg h0]
    rw [if_neg (by omega), if_neg (by omega), if_neg (by omega)] at h
    exact h
theorem pU_any (A : Option Addr) (c : Nat) (l : List UInt8) (g B : Nat) (a e : Nat) (w : World) (hg : CB w g 81 [.slice A l.length c, .int .i64 (a : Nat), .int .i64 (e : Nat)]) (hs : Shows w B A l) (hB : B ≤ g) (hl : l.length ≤ c ∧ c ≤ 9223372036854775806) :
    Calls Try.prog 87 #[.pointer (some ⟨g, 0, none⟩), .func (.func 88) #[] #[]] w fun x w' => x = .returned (.int .u64 (pU l a e).1) ∧ CB w' g 81 [.slice A l.length c, .int .i64 (pU l a e).2.1, .int .i64 (pU l a e).2.2] ∧ w.grownBy w' (some g) := by
  refine (partU_any A c l g B a e (Num.readU l a).2.1 (Num.readU l a).2.2 (.int .u64 (Num.readU l a).1) w hg hs hB (fun h0 X hX => (ReadU_any A c l a X hX (by omega)).mono fun x w' h => ⟨h.1, h.2.symm⟩)).mono fun x w' h => ?_
  unfold pU
  by_cases h0 : e = 0
  · subst h0
    simpa using h
  · rw [if_neg h0]
    rw [if_neg (by omega), if_neg (by omega), if_neg (by omega)] at h
    exact h
theorem pS_any (A : Option Addr) (c : Nat) (l : List UInt8) (g B : Nat) (a e : Nat) (w : World) (hg : CB w g 81 [.slice A l.length c, .int .i64 (a : Nat), .int .i64 (e : Nat)]) (hs : Shows w B A l) (hB : B ≤ g) (hl : l.length ≤ c ∧ c ≤ 9223372036854775806) :
    Calls Try.prog 85 #[.pointer (some ⟨g, 0, none⟩), .func (.func 86) #[] #[]] w fun x w' => x = .returned (.int .i64 (Num.zag (pU l a e).1)) ∧ CB w' g 81 [.slice A l.length c, .int .i64 (pU l a e).2.1, .int .i64 (pU l a e).2.2] ∧ w.grownBy w' (some g) := by
  refine (partS_any A c l g B a e (Num.readU l a).2.1 (Num.readU l a).2.2 (.int .i64 (Num.zag (Num.readU l a).1)) w hg hs hB (fun h0 X hX => (ReadS_any A c l a X hX (by omega)).mono fun x w' h => ⟨h.1, h.2.symm⟩)).mono fun x w' h => ?_
  unfold pU
  by_cases h0 : e = 0
  · subst h0
    simpa using h
  · rw [if_neg h0]
    rw [if_neg (by omega), if_neg (by omega), if_neg (by omega)] at h
    simp only [show Num.zag 0 = 0 from by decide]
    exact h
theorem pT_any (A : Option Addr) (c : Nat) (l : List UInt8) (g B : Nat) (a e : Nat) (w : World) (hg : CB w g 81 [.slice A l.length c, .int .i64 (a : Nat), .int .i64 (e : Nat)]) (hs : Shows w B A l) (hB : B ≤ g) (hl : l.length ≤ c ∧ c ≤ 9223372036854775806) :
    Calls Try.prog 89 #[.pointer (some ⟨g, 0, none⟩), .func (.func 90) #[] #[]] w fun x w' => x = .returned (.string ⟨(pT l a e).1.toArray⟩) ∧ CB w' g 81 [.slice A l.length c, .int .i64 (pT l a e).2.1, .int .i64 (pT l a e).2.2] ∧ w.grownBy w' (some g) := by
  refine (partT_any A c l g B a e (Num.span l a).2.1 (Num.span l a).2.2 (.string ⟨(Num.taken l a).toArray⟩) w hg hs hB (fun h0 X hX => (ReadText_any A c l a X hX hl.1 (by omega)).mono fun x w' h => ⟨h.1, h.2.symm⟩)).mono fun x w' h => ?_
  unfold pT
  by_cases h0 : e = 0
  · subst h0
    simpa using h
  · rw [if_neg h0]
    rw [if_neg (by omega), if_neg (by omega), if_neg (by omega)] at h
    exact h
set_option maxHeartbeats 4000000 in
set_option maxRecDepth 20000 in
theorem small_any (A : Option Addr) (c : Nat) (l : List UInt8) (g B : Nat) (a e : Nat) (most : Int) (w : World) (hg : CB w g 81 [.slice A l.length c, .int .i64 (a : Nat), .int .i64 (e : Nat)]) (hs : Shows w B A l) (hB : B ≤ g) (hl : l.length ≤ c ∧ c ≤ 9223372036854775806) (ha : e = 0 → a ≤ l.length) :
    Calls Try.prog 52 #[.pointer (some ⟨g, 0, none⟩), .int .i64 most] w fun x w' => x = .returned (.int .i64 (smL l most a e).1) ∧ CB w' g 81 [.slice A l.length c, .int .i64 (smL l most a e).2.1, .int .i64 (smL l most a e).2.2] ∧ w.grownBy w' (some g) := by
  have HL := Li hl
  have HG := Li hg
  have HS := Li hs
  have HB := Li hB
  have HA := Li ha
  have hle := pB_le l a e
  obtain ⟨⟨v, a2, e2⟩, hp⟩ : ∃ r, pB l a e = r := ⟨_, rfl⟩
  have HP := Li hp
  obtain ⟨⟨z1, z2, z3⟩, hz⟩ : ∃ r, smL l most a e = r := ⟨_, rfl⟩
  rw [hz]
  unfold smL at hz
  rw [hp] at hz hle
  injection hz with h1 h2
  injection h2 with h2 h3
  simp only at h1 h2 h3 hle
  subst h1 h2
  obtain ⟨b, hb⟩ : ∃ b, decide ((v : Int) ≤ most) = b := ⟨_, rfl⟩
  rw [hb] at h3
  have H3 := Li (show rqE b (e2 : Int) (5 : Int) = (z3 : Int) from by rw [← h3]; exact rqE_cast b e2 5)
  have HW := Li hle
  have hw : IntKind.i64.wrap (v : Int) = (v : Int) := by rw [IntKind.wrap_i64]; omega
  clear hl hg hs hB ha hp hle h3
  go_enter Try.func52, Try.ntmps52
  go_wp2_with (first | (go_at_call 83; refine (pB_any A c l g B a e _ HG.out HS.out HB.out HL.out HA.out).mono ?_; rintro x1 w1 ⟨rfl, hg1, hr1⟩; rw [HP.out] at hg1 ⊢; have G1 := Li hg1; have R1 := Li hr1; clear hg1 hr1) | (go_at_call 59; refine (require_any A c l g a2 e2 5 b _ G1.out).mono ?_; rintro x2 w2 ⟨rfl, hg2, hr2⟩; have G2 := Li hg2; have R2 := Li (grown_step R1.out hr2); clear hg2 hr2))
  go_ret
  exact ⟨rfl, by rw [← H3.out]; exact G2.out, R2.out⟩
theorem number_any (A : Option Addr) (c : Nat) (l : List UInt8) (g B : Nat) (a e : Nat) (w : World) (hg : CB w g 81 [.slice A l.length c, .int .i64 (a : Nat), .int .i64 (e : Nat)]) (hs : Shows w B A l) (hB : B ≤ g) (hl : l.length ≤ c ∧ c ≤ 9223372036854775806) :
    Calls Try.prog 54 #[.pointer (some ⟨g, 0, none⟩)] w fun x w' => x = .returned (.int .i64 (Num.zag (pU l a e).1)) ∧ CB w' g 81 [.slice A l.length c, .int .i64 (pU l a e).2.1, .int .i64 (pU l a e).2.2] ∧ w.grownBy w' (some g) := by
  have HL := Li hl
  have HG := Li hg
  have HS := Li hs
  have HB := Li hB
  obtain ⟨⟨v, a2, e2⟩, hp⟩ : ∃ r, pU l a e = r := ⟨_, rfl⟩
  have HP := Li hp
  rw [hp]
  clear hl hg hs hB hp
  go_enter Try.func54, Try.ntmps54
  go_wp2_with (go_at_call 85; refine (pS_any A c l g B a e _ HG.out HS.out HB.out HL.out).mono ?_; rintro x1 w1 ⟨rfl, hg1, hr1⟩; rw [HP.out] at hg1 ⊢; have G1 := Li hg1; have R1 := Li hr1; clear hg1 hr1)
  go_ret
  exact ⟨rfl, G1.out, R1.out⟩
theorem id_any (A : Option Addr) (c : Nat) (l : List UInt8) (g B : Nat) (a e : Nat) (w : World) (hg : CB w g 81 [.slice A l.length c, .int .i64 (a : Nat), .int .i64 (e : Nat)]) (hs : Shows w B A l) (hB : B ≤ g) (hl : l.length ≤ c ∧ c ≤ 9223372036854775806) :
    Calls Try.prog 53 #[.pointer (some ⟨g, 0, none⟩)] w fun x w' => x = .returned (.int .i64 (Num.zag (pU l a e).1)) ∧ CB w' g 81 [.slice A l.length c, .int .i64 (pU l a e).2.1, .int .i64 (pU l a e).2.2] ∧ w.grownBy w' (some g) := by
  have HL := Li hl
  have HG := Li hg
  have HS := Li hs
  have HB := Li hB
  obtain ⟨⟨v, a2, e2⟩, hp⟩ : ∃ r, pU l a e = r := ⟨_, rfl⟩
  have HP := Li hp
  rw [hp]
  clear hl hg hs hB hp
  go_enter Try.func53, Try.ntmps53
  go_wp2_with (go_at_call 54; refine (number_any A c l g B a e _ HG.out HS.out HB.out HL.out).mono ?_; rintro x1 w1 ⟨rfl, hg1, hr1⟩; rw [HP.out] at hg1 ⊢; have G1 := Li hg1; have R1 := Li hr1; clear hg1 hr1)
  go_ret
  exact ⟨rfl, G1.out, R1.out⟩
set_option maxHeartbeats 4000000 in
set_option maxRecDepth 20000 in
theorem count_any (A : Option Addr) (c : Nat) (l : List UInt8) (g B : Nat) (a e : Nat) (w : World) (hg : CB w g 81 [.slice A l.length c, .int .i64 (a : Nat), .int .i64 (e : Nat)]) (hs : Shows w B A l) (hB : B ≤ g) (hl : l.length ≤ c ∧ c ≤ 9223372036854775806) :
    Calls Try.prog 56 #[.pointer (some ⟨g, 0, none⟩)] w fun x w' => x = .returned (.int .i64 (cntL l a e).1) ∧ CB w' g 81 [.slice A l.length c, .int .i64 (cntL l a e).2.1, .int .i64 (cntL l a e).2.2] ∧ w.grownBy w' (some g) := by
  have HL := Li hl
  have HG := Li hg
  have HS := Li hs
  have HB := Li hB
  obtain ⟨⟨v, a2, e2⟩, hp⟩ : ∃ r, pU l a e = r := ⟨_, rfl⟩
  have HP := Li hp
  obtain ⟨⟨z1, z2, z3⟩, hz⟩ : ∃ r, cntL l a e = r := ⟨_, rfl⟩
  rw [hz]
  unfold cntL at hz
  rw [hp] at hz
  simp only at hz
  by_cases h16 : 16 < v
  · rw [if_pos h16] at hz
    injection hz with h1 h2
    injection h2 with h2 h3
    subst h1 h2
    have H3 := Li (show rqE false (e2 : Int) (2 : Int) = (z3 : Int) from by rw [← h3]; exact rqE_cast false e2 2)
    have e16 : decide ((16 : Int) < (v : Int)) = true := decide_eq_true (by omega)
    clear hl hg hs hB hp h3 h16
    go_enter Try.func56, Try.ntmps56
    go_wp2_with (first | (go_at_call 87; refine (pU_any A c l g B a e _ HG.out HS.out HB.out HL.out).mono ?_; rintro x1 w1 ⟨rfl, hg1, hr1⟩; rw [HP.out] at hg1 ⊢; have G1 := Li hg1; have R1 := Li hr1; clear hg1 hr1) | (go_at_call 59; refine (require_any A c l g a2 e2 2 false _ G1.out).mono ?_; rintro x2 w2 ⟨rfl, hg2, hr2⟩; have G2 := Li hg2; have R2 := Li (grown_step R1.out hr2); clear hg2 hr2))
    go_ret
    exact ⟨rfl, by rw [← H3.out]; exact G2.out, R2.out⟩
  · rw [if_neg h16] at hz
    injection hz with h1 h2
    injection h2 with h2 h3
    subst h1 h2 h3
    have e16 : decide ((16 : Int) < (v : Int)) = false := decide_eq_false (by omega)
    have hw : IntKind.i64.wrap (v : Int) = (v : Int) := by rw [IntKind.wrap_i64]; omega
    clear hl hg hs hB hp h16
    go_enter Try.func56, Try.ntmps56
    go_wp2_with (go_at_call 87; refine (pU_any A c l g B a e _ HG.out HS.out HB.out HL.out).mono ?_; rintro x1 w1 ⟨rfl, hg1, hr1⟩; rw [HP.out] at hg1 ⊢; have G1 := Li hg1; have R1 := Li hr1; clear hg1 hr1)
    go_ret
    exact ⟨rfl, G1.out, R1.out⟩
set_option maxHeartbeats 4000000 in
set_option maxRecDepth 20000 in
theorem text_any (A : Option Addr) (c : Nat) (l : List UInt8) (g B : Nat) (a e : Nat) (w : World) (hg : CB w g 81 [.slice A l.length c, .int .i64 (a : Nat), .int .i64 (e : Nat)]) (hs : Shows w B A l) (hB : B ≤ g) (hl : l.length ≤ c ∧ c ≤ 9223372036854775806) :
    Calls Try.prog 58 #[.pointer (some ⟨g, 0, none⟩)] w fun x w' => x = .returned (.string ⟨(txL l a e).1.toArray⟩) ∧ CB w' g 81 [.slice A l.length c, .int .i64 (txL l a e).2.1, .int .i64 (txL l a e).2.2] ∧ w.grownBy w' (some g) := by
  have HL := Li hl
  have HG := Li hg
  have HS := Li hs
  have HB := Li hB
  obtain ⟨⟨v, a2, e2⟩, hp⟩ : ∃ r, pT l a e = r := ⟨_, rfl⟩
  have HP := Li hp
  obtain ⟨⟨z1, z2, z3⟩, hz⟩ : ∃ r, txL l a e = r := ⟨_, rfl⟩
  rw [hz]
  unfold txL at hz
  rw [hp] at hz
  injection hz with h1 h2
  injection h2 with h2 h3
  simp only at h1 h2 h3
  subst h1 h2
  obtain ⟨s, hs9⟩ : ∃ s : ByteArray, s = ⟨v.toArray⟩ := ⟨_, rfl⟩
  obtain ⟨b, hb⟩ : ∃ b, decide ((((v.length : Nat)) : Int) ≤ 200) = b := ⟨_, rfl⟩
  rw [hb] at h3
  rw [← hs9]
  have hb2 : decide (((s.size : Nat) : Int) ≤ 200) = b := by rw [hs9]; exact hb
  have HV := Li hs9
  have H3 := Li (show rqE b (e2 : Int) (2 : Int) = (z3 : Int) from by rw [← h3]; exact rqE_cast b e2 2)
  clear hl hg hs hB hp h3 hb hs9
  go_enter Try.func58, Try.ntmps58
  go_wp2_with (first | (go_at_call 89; refine (pT_any A c l g B a e _ HG.out HS.out HB.out HL.out).mono ?_; rintro x1 w1 ⟨rfl, hg1, hr1⟩; rw [HP.out] at hg1 ⊢; simp only [← HV.out]; have G1 := Li hg1; have R1 := Li hr1; clear hg1 hr1) | (go_at_call 59; refine (require_any A c l g a2 e2 2 b _ G1.out).mono ?_; rintro x2 w2 ⟨rfl, hg2, hr2⟩; have G2 := Li hg2; have R2 := Li (grown_step R1.out hr2); clear hg2 hr2))
  go_ret
  exact ⟨rfl, by rw [← H3.out]; exact G2.out, R2.out⟩
end Go.Proofs.Ytkeneoinfegodaa
