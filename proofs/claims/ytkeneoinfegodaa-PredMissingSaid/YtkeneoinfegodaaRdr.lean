/-
  The reader of the program's Decode: require, readByte, part, by contracts.
-/
import Derived.Test.YtkeneoinfegodaaHd
import Derived.Test.YtkeneoinfegodaaReadB
import Derived.Test.YtkeneoinfegodaaSet
namespace Go.Proofs.Ytkeneoinfegodaa
open Go.RowKit
theorem Shows.grownG {w w' : World} {B : Nat} {A : Option Addr} {l : List UInt8} {g : Nat} (h : Shows w B A l) (hg : w.grownBy w' (some g)) (hB : B ≤ g) (hs : B ≤ w.heap.size) : Shows w' B A l :=
  h.keep fun p hp => by
    have e := hg.block p.block (Nat.lt_of_lt_of_le hp hs) (by intro e; injection e with e; omega)
    simp only [World.cell?, e]
/-- what require leaves of an error -/
def rqE (ok : Bool) (e err : Int) : Int := if ok = false ∧ e = 0 then err else e
set_option maxHeartbeats 4000000 in
set_option maxRecDepth 20000 in
theorem require_any (A : Option Addr) (c : Nat) (l : List UInt8) (g : Nat) (a e err : Int) (ok : Bool) (w : World) (hg : CB w g 81 [.slice A l.length c, .int .i64 a, .int .i64 e]) :
    Calls Try.prog 59 #[.pointer (some ⟨g, 0, none⟩), .bool ok, .int .i64 err] w fun x w' => x = .returned (.tuple #[]) ∧ CB w' g 81 [.slice A l.length c, .int .i64 a, .int .i64 (rqE ok e err)] ∧ w.grownBy w' (some g) := by
  have HG := Li hg
  have g0 := hg.c3
  have gz := hg.lt
  have gf := hg.frozen 2
  obtain ⟨z, hz⟩ : ∃ z, rqE ok e err = z := ⟨_, rfl⟩
  rw [hz]
  unfold rqE at hz
  clear hg
  cases ok with
  | true =>
    rw [if_neg (by simp)] at hz
    subst hz
    go_enter Try.func59, Try.ntmps59
    go_wp2
    refine bodyPost_end (results_none rfl _ _ _) rfl ?_
    exact ⟨rfl, HG.out, World.grownBy.refl _ _⟩
  | false =>
    by_cases h0 : e = 0
    · subst h0
      rw [if_pos ⟨rfl, rfl⟩] at hz
      subst hz
      go_enter Try.func59, Try.ntmps59
      go_wp2
      refine bodyPost_end (results_none rfl _ _ _) rfl ?_
      exact ⟨rfl, HG.out.set_ 2 _, grown_set _ _ _ _⟩
    · have e0 : (e == 0) = false := by simpa using h0
      rw [if_neg (fun h => h0 h.2)] at hz
      subst hz
      clear h0
      go_enter Try.func59, Try.ntmps59
      go_wp2
      refine bodyPost_end (results_none rfl _ _ _) rfl ?_
      exact ⟨rfl, HG.out, World.grownBy.refl _ _⟩
/-- what readByte reads: the byte, the place behind it, the error -/
def rdB (l : List UInt8) (k : Nat) : Nat × Nat × Nat := match l[k]? with | some b => (b.toNat, k + 1, 0) | none => (0, 0, 6)
def retB (r : Nat × Nat × Nat) : Ending := .returned (.tuple #[.int .u8 r.1, .int .i64 r.2.1, .int .i64 r.2.2])
set_option maxHeartbeats 4000000 in
set_option maxRecDepth 20000 in
theorem readByte_any (A : Option Addr) (c : Nat) (l : List UInt8) (k : Nat) (w : World) (hs : Shows w w.heap.size A l) (hk : k ≤ l.length) (hl : l.length ≤ 9223372036854775806) :
    Calls Try.prog 84 #[.slice A l.length c, .int .i64 k] w fun e w' => e = retB (rdB l k) ∧ w' = w := by
  have HS := Li hs
  obtain ⟨n, hn⟩ : ∃ n, l.length = n := ⟨_, rfl⟩
  have HN := Li hn
  obtain ⟨z, hz⟩ : ∃ z, rdB l k = z := ⟨_, rfl⟩
  rw [hz, hn]
  unfold rdB at hz
  by_cases he : k = n
  · subst he
    rw [List.getElem?_eq_none (by omega)] at hz
    subst hz
    clear hs hn hk hl
    go_enter Try.func84, Try.ntmps84
    go_wp2
    go_ret3
    exact ⟨rfl, rfl⟩
  · obtain ⟨b, hb⟩ : ∃ b, l[k]? = some b := ⟨_, List.getElem?_eq_getElem (by omega)⟩
    rw [hb] at hz
    subst hz
    obtain ⟨g, off, rfl, hg, hc⟩ := hs (by omega)
    have c0 := hc k b hb
    have e0 : ((k : Int) == (n : Int)) = false := by simp; omega
    have i0 : (0 : Int) ≤ (k : Int) := by omega
    have i1 : (k : Int) < (n : Int) := by omega
    have e1 : IntKind.i64.wrap ((k : Int) + 1) = (k : Int) + 1 := by rw [IntKind.wrap_i64]; omega
    clear hs hn hk hl hc he
    go_enter Try.func84, Try.ntmps84
    go_wp2
    go_ret3
    exact ⟨by simp [retB], rfl⟩
set_option maxHeartbeats 8000000 in
set_option maxRecDepth 20000 in
theorem partB_any (A : Option Addr) (c : Nat) (l : List UInt8) (g B : Nat) (a e a2 e2 : Int) (v : Value) (w : World) (hg : CB w g 81 [.slice A l.length c, .int .i64 a, .int .i64 e]) (hs : Shows w B A l) (hB : B ≤ g)
    (hR : e = 0 → ∀ X, Shows X X.heap.size A l → Calls Try.prog 84 #[.slice A l.length c, .int .i64 a] X fun e w' => e = .returned (.tuple #[v, .int .i64 a2, .int .i64 e2]) ∧ w' = X) :
    Calls Try.prog 83 #[.pointer (some ⟨g, 0, none⟩), .func (.func 84) #[] #[]] w fun x w' => x = .returned (if e = 0 then v else .int .u8 0) ∧ CB w' g 81 [.slice A l.length c, .int .i64 (if e = 0 then a2 else a), .int .i64 (if e = 0 then e2 else e)] ∧ w.grownBy w' (some g) := by
  have HG := Li hg
  have HS := Li hs
  have g0 := hg.c3
  have gz := hg.lt
  by_cases h0 : e = 0
  · subst h0
    rw [if_pos rfl, if_pos rfl, if_pos rfl]
    replace hR := hR rfl
    clear hg hs
    go_enter Try.func83, Try.ntmps83
    go_upto_region 3 with fail
    have PP := Li (show (fun X : World => CB X g 81 [.slice A l.length c, .int .i64 a, .int .i64 0] ∧ Shows X B A l ∧ w.grownBy X (some g)) w from ⟨HG.out, HS.out, World.grownBy.refl _ _⟩)
    replace PP : Hid ((fun X : World => CB X g 81 [.slice A l.length c, .int .i64 a, .int .i64 0] ∧ Shows X B A l ∧ w.grownBy X (some g)) w.drew) := Li ⟨PP.out.1.dr, PP.out.2.1, ⟨rfl, rfl, rfl, Nat.le_refl _, fun _ _ _ => rfl⟩⟩
    clear g0 gz HG HS
    refine wp_region_held_drew (S := fun w' => Hid (CB w' g 81 [.slice A l.length c, .int .i64 a, .int .i64 0] ∧ Shows w' B A l ∧ w.grownBy w' (some g))) (by kernel_rfl) PP (fun hHeld => ?_)
    revert hHeld PP
    generalize w.drew = X0
    intro PP hHeld
    refine htk 0 ?_
    refine htk 1 ?_
    refine htk 2 ?_
    refine htk 3 ?_
    refine htf 4 (fun _ h => And.intro h.out.1.c3 h.out.1.lt) ?_
    refine htk 5 ?_
    refine htk 6 ?_
    refine htk 7 ?_
    refine htf 8 (fun _ h => And.intro h.out.1.c3 h.out.1.lt) ?_
    refine rd1 9 fun KK hK => ?_
    go_simp
    go_at_call 84
    refine (hR _ (Shows.more PP.out.2.1 (Nat.le_trans hB (Nat.le_of_lt PP.out.1.lt)))).mono ?_
    rintro e w9 ⟨rfl, rfl⟩
    go_wp2_with fail
    refine hK.out _ _ (PP) (fun hHeld => ?_)
    clear hK KK
    try simp only [pnz]
    refine htk 10 ?_
    refine htk 11 ?_
    refine htk 12 ?_
    refine htk 13 ?_
    refine htk 14 ?_
    refine htk 15 ?_
    refine htk 16 ?_
    refine wpAnyH_done (by kernel_rfl) ?_ _
    have g0 := PP.out.1.c3
    have gz := PP.out.1.lt
    have gf1 := PP.out.1.frozen 1
    have gf2 := (PP.out.1.set_ 1 (.int .i64 a2)).frozen 2
    go_wp2
    go_ret
    exact ⟨rfl, (PP.out.1.set_ 1 _).set_ 2 _, grown_step (grown_step PP.out.2.2 (grown_set _ _ _ _)) (grown_set _ _ _ _)⟩
  · rw [if_neg h0, if_neg h0, if_neg h0]
    have e0 : (e == 0) = false := by simpa using h0
    clear h0 hR hg
    go_enter Try.func83, Try.ntmps83
    go_wp2
    go_ret
    exact ⟨rfl, HG.out, World.grownBy.refl _ _⟩
set_option maxHeartbeats 8000000 in
set_option maxRecDepth 20000 in
theorem partS_any (A : Option Addr) (c : Nat) (l : List UInt8) (g B : Nat) (a e a2 e2 : Int) (v : Value) (w : World) (hg : CB w g 81 [.slice A l.length c, .int .i64 a, .int .i64 e]) (hs : Shows w B A l) (hB : B ≤ g)
    (hR : e = 0 → ∀ X, Shows X X.heap.size A l → Calls Try.prog 86 #[.slice A l.length c, .int .i64 a] X fun e w' => e = .returned (.tuple #[v, .int .i64 a2, .int .i64 e2]) ∧ w' = X) :
    Calls Try.prog 85 #[.pointer (some ⟨g, 0, none⟩), .func (.func 86) #[] #[]] w fun x w' => x = .returned (if e = 0 then v else .int .i64 0) ∧ CB w' g 81 [.slice A l.length c, .int .i64 (if e = 0 then a2 else a), .int .i64 (if e = 0 then e2 else e)] ∧ w.grownBy w' (some g) := by
  have HG := Li hg
  have HS := Li hs
  have g0 := hg.c3
  have gz := hg.lt
  by_cases h0 : e = 0
  · subst h0
    rw [if_pos rfl, if_pos rfl, if_pos rfl]
    replace hR := hR rfl
    clear hg hs
    go_enter Try.func85, Try.ntmps85
    go_upto_region 3 with fail
    have PP := Li (show (fun X : World => CB X g 81 [.slice A l.length c, .int .i64 a, .int .i64 0] ∧ Shows X B A l ∧ w.grownBy X (some g)) w from ⟨HG.out, HS.out, World.grownBy.refl _ _⟩)
    replace PP : Hid ((fun X : World => CB X g 81 [.slice A l.length c, .int .i64 a, .int .i64 0] ∧ Shows X B A l ∧ w.grownBy X (some g)) w.drew) := Li ⟨PP.out.1.dr, PP.out.2.1, ⟨rfl, rfl, rfl, Nat.le_refl _, fun _ _ _ => rfl⟩⟩
    clear g0 gz HG HS
    refine wp_region_held_drew (S := fun w' => Hid (CB w' g 81 [.slice A l.length c, .int .i64 a, .int .i64 0] ∧ Shows w' B A l ∧ w.grownBy w' (some g))) (by kernel_rfl) PP (fun hHeld => ?_)
    revert hHeld PP
    generalize w.drew = X0
    intro PP hHeld
    refine htk 0 ?_
    refine htk 1 ?_
    refine htk 2 ?_
    refine htk 3 ?_
    refine htf 4 (fun _ h => And.intro h.out.1.c3 h.out.1.lt) ?_
    refine htk 5 ?_
    refine htk 6 ?_
    refine htk 7 ?_
    refine htf 8 (fun _ h => And.intro h.out.1.c3 h.out.1.lt) ?_
    refine rd1 9 fun KK hK => ?_
    go_simp
    go_at_call 86
    refine (hR _ (Shows.more PP.out.2.1 (Nat.le_trans hB (Nat.le_of_lt PP.out.1.lt)))).mono ?_
    rintro e w9 ⟨rfl, rfl⟩
    go_wp2_with fail
    refine hK.out _ _ (PP) (fun hHeld => ?_)
    clear hK KK
    try simp only [pnz]
    refine htk 10 ?_
    refine htk 11 ?_
    refine htk 12 ?_
    refine htk 13 ?_
    refine htk 14 ?_
    refine htk 15 ?_
    refine htk 16 ?_
    refine wpAnyH_done (by kernel_rfl) ?_ _
    have g0 := PP.out.1.c3
    have gz := PP.out.1.lt
    have gf1 := PP.out.1.frozen 1
    have gf2 := (PP.out.1.set_ 1 (.int .i64 a2)).frozen 2
    go_wp2
    go_ret
    exact ⟨rfl, (PP.out.1.set_ 1 _).set_ 2 _, grown_step (grown_step PP.out.2.2 (grown_set _ _ _ _)) (grown_set _ _ _ _)⟩
  · rw [if_neg h0, if_neg h0, if_neg h0]
    have e0 : (e == 0) = false := by simpa using h0
    clear h0 hR hg
    go_enter Try.func85, Try.ntmps85
    go_wp2
    go_ret
    exact ⟨rfl, HG.out, World.grownBy.refl _ _⟩
set_option maxHeartbeats 8000000 in
set_option maxRecDepth 20000 in
theorem partU_any (A : Option Addr) (c : Nat) (l : List UInt8) (g B : Nat) (a e a2 e2 : Int) (v : Value) (w : World) (hg : CB w g 81 [.slice A l.length c, .int .i64 a, .int .i64 e]) (hs : Shows w B A l) (hB : B ≤ g)
    (hR : e = 0 → ∀ X, Shows X X.heap.size A l → Calls Try.prog 88 #[.slice A l.length c, .int .i64 a] X fun e w' => e = .returned (.tuple #[v, .int .i64 a2, .int .i64 e2]) ∧ w' = X) :
    Calls Try.prog 87 #[.pointer (some ⟨g, 0, none⟩), .func (.func 88) #[] #[]] w fun x w' => x = .returned (if e = 0 then v else .int .u64 0) ∧ CB w' g 81 [.slice A l.length c, .int .i64 (if e = 0 then a2 else a), .int .i64 (if e = 0 then e2 else e)] ∧ w.grownBy w' (some g) := by
  have HG := Li hg
  have HS := Li hs
  have g0 := hg.c3
  have gz := hg.lt
  by_cases h0 : e = 0
  · subst h0
    rw [if_pos rfl, if_pos rfl, if_pos rfl]
    replace hR := hR rfl
    clear hg hs
    go_enter Try.func87, Try.ntmps87
    go_upto_region 3 with fail
    have PP := Li (show (fun X : World => CB X g 81 [.slice A l.length c, .int .i64 a, .int .i64 0] ∧ Shows X B A l ∧ w.grownBy X (some g)) w from ⟨HG.out, HS.out, World.grownBy.refl _ _⟩)
    replace PP : Hid ((fun X : World => CB X g 81 [.slice A l.length c, .int .i64 a, .int .i64 0] ∧ Shows X B A l ∧ w.grownBy X (some g)) w.drew) := Li ⟨PP.out.1.dr, PP.out.2.1, ⟨rfl, rfl, rfl, Nat.le_refl _, fun _ _ _ => rfl⟩⟩
    clear g0 gz HG HS
    refine wp_region_held_drew (S := fun w' => Hid (CB w' g 81 [.slice A l.length c, .int .i64 a, .int .i64 0] ∧ Shows w' B A l ∧ w.grownBy w' (some g))) (by kernel_rfl) PP (fun hHeld => ?_)
    revert hHeld PP
    generalize w.drew = X0
    intro PP hHeld
    refine htk 0 ?_
    refine htk 1 ?_
    refine htk 2 ?_
    refine htk 3 ?_
    refine htf 4 (fun _ h => And.intro h.out.1.c3 h.out.1.lt) ?_
    refine htk 5 ?_
    refine htk 6 ?_
    refine htk 7 ?_
    refine htf 8 (fun _ h => And.intro h.out.1.c3 h.out.1.lt) ?_
    refine rd1 9 fun KK hK => ?_
    go_simp
    go_at_call 88
    refine (hR _ (Shows.more PP.out.2.1 (Nat.le_trans hB (Nat.le_of_lt PP.out.1.lt)))).mono ?_
    rintro e w9 ⟨rfl, rfl⟩
    go_wp2_with fail
    refine hK.out _ _ (PP) (fun hHeld => ?_)
    clear hK KK
    try simp only [pnz]
    refine htk 10 ?_
    refine htk 11 ?_
    refine htk 12 ?_
    refine htk 13 ?_
    refine htk 14 ?_
    refine htk 15 ?_
    refine htk 16 ?_
    refine wpAnyH_done (by kernel_rfl) ?_ _
    have g0 := PP.out.1.c3
    have gz := PP.out.1.lt
    have gf1 := PP.out.1.frozen 1
    have gf2 := (PP.out.1.set_ 1 (.int .i64 a2)).frozen 2
    go_wp2
    go_ret
    exact ⟨rfl, (PP.out.1.set_ 1 _).set_ 2 _, grown_step (grown_step PP.out.2.2 (grown_set _ _ _ _)) (grown_set _ _ _ _)⟩
  · rw [if_neg h0, if_neg h0, if_neg h0]
    have e0 : (e == 0) = false := by simpa using h0
    clear h0 hR hg
    go_enter Try.func87, Try.ntmps87
    go_wp2
    go_ret
    exact ⟨rfl, HG.out, World.grownBy.refl _ _⟩
set_option maxHeartbeats 8000000 in
set_option maxRecDepth 20000 in
theorem partT_any (A : Option Addr) (c : Nat) (l : List UInt8) (g B : Nat) (a e a2 e2 : Int) (v : Value) (w : World) (hg : CB w g 81 [.slice A l.length c, .int .i64 a, .int .i64 e]) (hs : Shows w B A l) (hB : B ≤ g)
    (hR : e = 0 → ∀ X, Shows X X.heap.size A l → Calls Try.prog 90 #[.slice A l.length c, .int .i64 a] X fun e w' => e = .returned (.tuple #[v, .int .i64 a2, .int .i64 e2]) ∧ w' = X) :
    Calls Try.prog 89 #[.pointer (some ⟨g, 0, none⟩), .func (.func 90) #[] #[]] w fun x w' => x = .returned (if e = 0 then v else .string ⟨#[]⟩) ∧ CB w' g 81 [.slice A l.length c, .int .i64 (if e = 0 then a2 else a), .int .i64 (if e = 0 then e2 else e)] ∧ w.grownBy w' (some g) := by
  have HG := Li hg
  have HS := Li hs
  have g0 := hg.c3
  have gz := hg.lt
  by_cases h0 : e = 0
  · subst h0
    rw [if_pos rfl, if_pos rfl, if_pos rfl]
    replace hR := hR rfl
    clear hg hs
    go_enter Try.func89, Try.ntmps89
    go_upto_region 3 with fail
    have PP := Li (show (fun X : World => CB X g 81 [.slice A l.length c, .int .i64 a, .int .i64 0] ∧ Shows X B A l ∧ w.grownBy X (some g)) w from ⟨HG.out, HS.out, World.grownBy.refl _ _⟩)
    replace PP : Hid ((fun X : World => CB X g 81 [.slice A l.length c, .int .i64 a, .int .i64 0] ∧ Shows X B A l ∧ w.grownBy X (some g)) w.drew) := Li ⟨PP.out.1.dr, PP.out.2.1, ⟨rfl, rfl, rfl, Nat.le_refl _, fun _ _ _ => rfl⟩⟩
    clear g0 gz HG HS
    refine wp_region_held_drew (S := fun w' => Hid (CB w' g 81 [.slice A l.length c, .int .i64 a, .int .i64 0] ∧ Shows w' B A l ∧ w.grownBy w' (some g))) (by kernel_rfl) PP (fun hHeld => ?_)
    revert hHeld PP
    generalize w.drew = X0
    intro PP hHeld
    refine htk 0 ?_
    refine htk 1 ?_
    refine htk 2 ?_
    refine htk 3 ?_
    refine htf 4 (fun _ h => And.intro h.out.1.c3 h.out.1.lt) ?_
    refine htk 5 ?_
    refine htk 6 ?_
    refine htk 7 ?_
    refine htf 8 (fun _ h => And.intro h.out.1.c3 h.out.1.lt) ?_
    refine rd1 9 fun KK hK => ?_
    go_simp
    go_at_call 90
    refine (hR _ (Shows.more PP.out.2.1 (Nat.le_trans hB (Nat.le_of_lt PP.out.1.lt)))).mono ?_
    rintro e w9 ⟨rfl, rfl⟩
    go_wp2_with fail
    refine hK.out _ _ (PP) (fun hHeld => ?_)
    clear hK KK
    try simp only [pnz]
    refine htk 10 ?_
    refine htk 11 ?_
    refine htk 12 ?_
    refine htk 13 ?_
    refine htk 14 ?_
    refine htk 15 ?_
    refine htk 16 ?_
    refine wpAnyH_done (by kernel_rfl) ?_ _
    have g0 := PP.out.1.c3
    have gz := PP.out.1.lt
    have gf1 := PP.out.1.frozen 1
    have gf2 := (PP.out.1.set_ 1 (.int .i64 a2)).frozen 2
    go_wp2
    go_ret
    exact ⟨rfl, (PP.out.1.set_ 1 _).set_ 2 _, grown_step (grown_step PP.out.2.2 (grown_set _ _ _ _)) (grown_set _ _ _ _)⟩
  · rw [if_neg h0, if_neg h0, if_neg h0]
    have e0 : (e == 0) = false := by simpa using h0
    clear h0 hR hg
    go_enter Try.func89, Try.ntmps89
    go_wp2
    go_ret
    exact ⟨rfl, HG.out, World.grownBy.refl _ _⟩
end Go.Proofs.Ytkeneoinfegodaa
