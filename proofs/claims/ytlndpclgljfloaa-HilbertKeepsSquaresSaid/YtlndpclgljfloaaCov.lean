/-
  The program's Cover and the closure in it: by contracts.
-/
import Derived.Test.YtlndpclgljfloaaEqW
import Derived.Test.YtlndpclgljfloaaScl
import Derived.Laws.EntriesVeiled
namespace Go.Proofs.Ytlndpclgljfloaa
open Go.RowKit

/-- what the visit leaves alone: all but the box of the ranges and rows of ranges -/
def VF (rb : Nat) (X X' : World) : Prop := X.heap.size ≤ X'.heap.size ∧ ∀ g t l, CB X g t l → g ≠ rb → t ≠ 58 → CB X' g t l
theorem VF.refl (rb : Nat) (X : World) : VF rb X X := ⟨Nat.le_refl _, fun _ _ _ h _ _ => h⟩
theorem VF.trans {rb : Nat} {X Y Z : World} (h : VF rb X Y) (k : VF rb Y Z) : VF rb X Z := ⟨Nat.le_trans h.1 k.1, fun g t l c n m => k.2 g t l (h.2 g t l c n m) n m⟩
theorem VF.of {rb : Nat} {X X' : World} (h : Below X.heap.size X X') : VF rb X X' := ⟨h.size, fun _ _ _ c _ _ => c.up h⟩
theorem VF.row {rb : Nat} {X X' : World} {B : Nat} {v : Value} {l : List (Nat × Nat)} (h : RgO X B v l) (hg : X.grownBy X' v.ownBlock) : VF rb X X' := ⟨hg.size, fun _ _ _ c _ m => c.grown hg (Own.ne h c m)⟩
theorem VF.box {rb : Nat} {X X' : World} (hg : X.grownBy X' (some rb)) : VF rb X X' := ⟨hg.size, fun _ _ _ c n _ => c.grown hg (by intro e; injection e with e; exact n e)⟩
structure CvS (w0 : World) (rb lb vb : Nat) (A : Option Addr) (n c : Nat) (acc : List (Nat × Nat)) (X : World) : Prop where
  bel : Below w0.heap.size w0 X
  r : CB X rb 54 [.slice A n c]
  o : RgO X w0.heap.size (.slice A n c) acc
  l : CB X lb 67 QS
  v : CB X vb 87 [.func (.func 38) #[] #[.pointer (some ⟨rb, 0, none⟩), .pointer (some ⟨lb, 0, none⟩), .pointer (some ⟨vb, 0, none⟩)]]
  rl : rb ≠ lb
  rv : rb ≠ vb
  r0 : w0.heap.size ≤ rb
theorem CvS.up {w0 X X' : World} {rb lb vb : Nat} {A : Option Addr} {n c : Nat} {acc : List (Nat × Nat)} (h : CvS w0 rb lb vb A n c acc X) (hb : Below X.heap.size X X') : CvS w0 rb lb vb A n c acc X' :=
  ⟨below_step h.bel h.bel.size hb, h.r.up hb, Own.up h.o hb, h.l.up hb, h.v.up hb, h.rl, h.rv, h.r0⟩
/-- the row has changed -/
theorem CvS.stored {w0 X X' Y : World} {rb lb vb : Nat} {A A' : Option Addr} {n c n' c' : Nat} {acc acc' : List (Nat × Nat)} (h : CvS w0 rb lb vb A n c acc X) (hg : X.grownBy Y (Value.slice A n c).ownBlock)
    (ho : RgO Y w0.heap.size (.slice A' n' c') acc') (hr : CB X' rb 54 [.slice A' n' c']) (hg2 : Y.grownBy X' (some rb)) : CvS w0 rb lb vb A' n' c' acc' X' ∧ VF rb X X' := by
  have f1 : VF rb X Y := VF.row h.o hg
  have f2 : VF rb Y X' := VF.box hg2
  have hr2 : CB Y rb 54 [.slice A n c] := h.r.grown hg (Own.ne h.o h.r (by decide))
  refine ⟨⟨?_, hr, ?_, ?_, ?_, h.rl, h.rv, h.r0⟩, f1.trans f2⟩
  · exact (h.bel.grown hg h.bel.size (fun g e => (Own.lt h.o g e).1)).grown hg2 (Nat.le_trans h.bel.size hg.size) (fun g e => by injection e with e; rw [← e]; exact h.r0)
  · exact Own.kept ho hg2 (.inr (fun e => Own.ne ho hr2 (by decide) e.symm))
  · exact (f1.trans f2).2 _ _ _ h.l h.rl.symm (by decide)
  · exact (f1.trans f2).2 _ _ _ h.v h.rv.symm (by decide)
set_option maxHeartbeats 4000000 in
set_option maxRecDepth 20000 in
theorem visit_whole (w0 : World) (rb lb vb : Nat) (k first : Nat) (acc : List (Nat × Nat)) (A : Option Addr) (n c : Nat) (X : World) (hk : k ≤ 5) (hf : first ≤ 2 ^ 40) (h : CvS w0 rb lb vb A n c acc X) (hq : ∀ x ∈ acc, x.2 < 2 ^ 62) (hl : acc.length ≤ 1000000) :
    Calls Try.prog 38 #[.agg (wdV (Hb.whole (2 ^ k))).toArray, .int .u32 (2 ^ k : Nat), .int .u64 first, .pointer (some ⟨rb, 0, none⟩), .pointer (some ⟨lb, 0, none⟩), .pointer (some ⟨vb, 0, none⟩)] X fun e X' => e = .returned (.tuple #[]) ∧ ∃ A' n' c', CvS w0 rb lb vb A' n' c' (Hb.joinL acc first (first + (2 ^ k * 2 ^ k - 1))) X' ∧ VF rb X X' := by
  have hb := p32 (k := k) (by omega)
  obtain ⟨S, hS⟩ : ∃ S, 2 ^ k = S := ⟨_, rfl⟩
  rw [hS] at hb ⊢
  obtain ⟨b1, b2⟩ := hb
  have e1 : (S : Int) - 1 = ((S - 1 : Nat) : Int) := by omega
  have hSS : S * S ≤ 65536 * 65536 := Nat.mul_le_mul b1 b1
  have hS0 : 0 < S * S := Nat.mul_pos b2 b2
  obtain ⟨E, hE⟩ : ∃ E, first + (S * S - 1) = E := ⟨_, rfl⟩
  have e2 : IntKind.u64.wrap ((first : Int) + (S : Int) * (S : Int)) = (first : Int) + (S : Int) * (S : Int) := by
    rw [← Int.natCast_mul, IntKind.wrap_u64]; omega
  have e3 : IntKind.u64.wrap ((first : Int) + (S : Int) * (S : Int) - 1) = (E : Int) := by
    rw [← Int.natCast_mul, IntKind.wrap_u64]; omega
  rw [hE]
  clear hSS hS0 hE
  have h1 : CvS w0 rb lb vb A n c acc (X.alloc (.cells #[.int .u32 0, .int .u32 0, .int .u32 (S - 1 : Nat), .int .u32 (S - 1 : Nat)] 88)).drew := h.up (bad X _)
  have HQ := Li hq
  have qw := eqw
  have qg := eqGuard_w
  clear h hq
  show Calls Try.prog 38 #[.agg #[.int .u32 (0 : Nat), .int .u32 (0 : Nat), .int .u32 (S - 1 : Nat), .int .u32 (S - 1 : Nat)], .int .u32 S, .int .u64 first, .pointer (some ⟨rb, 0, none⟩), .pointer (some ⟨lb, 0, none⟩), .pointer (some ⟨vb, 0, none⟩)] X _
  go_enter Try.func38, Try.ntmps38
  go_upto_region 2 with fail
  have PP := Li (h1.r)
  have HF := Li (show VF rb X (X.alloc (.cells #[.int .u32 0, .int .u32 0, .int .u32 (S - 1 : Nat), .int .u32 (S - 1 : Nat)] 88)).drew from VF.of (bad X _))
  have H1 := Li h1
  have h1l := h1.r.lt
  clear h1
  refine wp_region_held_drew (S := fun Z => Hid (rb < Z.heap.size)) (by kernel_rfl) (Li h1l) (fun hHeld => ?_)
  revert hHeld PP HF H1 h1l
  generalize (X.alloc (.cells #[.int .u32 0, .int .u32 0, .int .u32 (S - 1 : Nat), .int .u32 (S - 1 : Nat)] 88)).drew = Y
  intro PP HF H1 h1l hHeld
  have r1 := PP.out.c1
  have r2 := PP.out.lt
  refine htk 1 ?_
  refine htk 2 ?_
  refine htk 3 ?_
  refine rd2 0 4 (fun KK hK => ?_) (fun KK hK => ?_)
  · go_simp
    refine hK.out _ _ hHeld (fun hHeld => ?_)
    clear hK KK
    try simp only [pnz]
    refine rd1 4 fun KK hK => ?_
    go_simp
    go_at_call 40
    refine Calls.mono (square_any S Y (by omega)) ?_
    rintro e w6 ⟨rfl, hw6⟩
    subst w6
    go_wp2_with fail
    refine hK.out _ _ hHeld (fun hHeld => ?_)
    clear hK KK
    try simp only [pnz]
    refine htk 5 ?_
    refine htk 6 ?_
    refine htk 7 ?_
    refine rd1 8 fun KK hK => ?_
    go_simp
    go_at_call 39
    refine Calls.mono (join_any A n c acc first E w0.heap.size Y H1.out.o (by omega) HQ.out hl H1.out.bel.size) ?_
    rintro e Y2 ⟨⟨A', n', c', rfl, ho⟩, hg⟩
    have O2 := Li ho
    have G2 := Li hg
    have P2 := Li (H1.out.r.grown hg (Own.ne H1.out.o H1.out.r (by decide)))
    clear ho hg r1 r2
    have r0 := P2.out.c1
    have f0 := P2.out.frozen 0
    have zr := P2.out.lt
    go_wp2_with fail
    refine hK.out _ _ (Li zr) (fun hHeld => ?_)
    clear hK KK
    try simp only [pnz]
    refine rd1 9 fun KK hK => ?_
    go_simp
    have P3 := Li (show CB (Y2.setCell ⟨rb, 0, none⟩ (.slice A' n' c')) rb 54 [.slice A' n' c'] from P2.out.set_ 0 _)
    obtain ⟨k1, k2⟩ := CvS.stored H1.out G2.out O2.out P3.out (grown_set Y2 rb 0 _)
    have K1 := Li k1
    have K2 := Li (HF.out.trans k2)
    clear k1 k2
    refine hK.out _ _ (Li P3.out.lt) (fun hHeld => ?_)
    clear hK KK
    refine wpAnyH_done (by kernel_rfl) ?_ _
    go_wp2_with fail
    refine bodyPost_ret (results_none rfl _ _ _) rfl ?_
    exact ⟨rfl, A', n', c', K1.out, K2.out⟩
  · go_simp
    go_at_call 40
    refine Calls.mono (square_any S Y (by omega)) ?_
    rintro e w6 ⟨rfl, hw6⟩
    subst w6
    go_wp2_with fail
    refine hK.out _ _ hHeld (fun hHeld => ?_)
    clear hK KK
    try simp only [pnz]
    refine htk 5 ?_
    refine htk 6 ?_
    refine htk 7 ?_
    refine rd1 0 fun KK hK => ?_
    go_simp
    refine hK.out _ _ hHeld (fun hHeld => ?_)
    clear hK KK
    try simp only [pnz]
    refine rd1 8 fun KK hK => ?_
    go_simp
    go_at_call 39
    refine Calls.mono (join_any A n c acc first E w0.heap.size Y H1.out.o (by omega) HQ.out hl H1.out.bel.size) ?_
    rintro e Y2 ⟨⟨A', n', c', rfl, ho⟩, hg⟩
    have O2 := Li ho
    have G2 := Li hg
    have P2 := Li (H1.out.r.grown hg (Own.ne H1.out.o H1.out.r (by decide)))
    clear ho hg r1 r2
    have r0 := P2.out.c1
    have f0 := P2.out.frozen 0
    have zr := P2.out.lt
    go_wp2_with fail
    refine hK.out _ _ (Li zr) (fun hHeld => ?_)
    clear hK KK
    try simp only [pnz]
    refine rd1 9 fun KK hK => ?_
    go_simp
    have P3 := Li (show CB (Y2.setCell ⟨rb, 0, none⟩ (.slice A' n' c')) rb 54 [.slice A' n' c'] from P2.out.set_ 0 _)
    obtain ⟨k1, k2⟩ := CvS.stored H1.out G2.out O2.out P3.out (grown_set Y2 rb 0 _)
    have K1 := Li k1
    have K2 := Li (HF.out.trans k2)
    clear k1 k2
    refine hK.out _ _ (Li P3.out.lt) (fun hHeld => ?_)
    clear hK KK
    refine wpAnyH_done (by kernel_rfl) ?_ _
    go_wp2_with fail
    refine bodyPost_ret (results_none rfl _ _ _) rfl ?_
    exact ⟨rfl, A', n', c', K1.out, K2.out⟩
end Go.Proofs.Ytlndpclgljfloaa
