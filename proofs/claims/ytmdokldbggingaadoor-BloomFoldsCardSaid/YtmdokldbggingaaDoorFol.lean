/-
  BloomFolds, walked: the fold of a sketch is the sketch of the same keys with half the length; the fold of a union is the union of the folds.
-/
import Derived.Test.YtmdokldbggingaaDoorBlB
import Derived.Deep.CutRange
namespace Go.Proofs.YtmdokldbggingaaDoor
open Go.RowKit
namespace folds

set_option maxRecDepth 20000 in
theorem long1 (A B : Option Addr) (nk ck n k mk dk : Nat) (ks os : List Ky) (w : World) (hnk : nk = ks.length) (hks : KsAt w w.heap.size A ks) (hnl : nk ≤ 140737488351232) (hmk : mk = os.length) (hos : KsAt w w.heap.size B os) (_hml : mk ≤ 140737488351232) (G : Glob w) (h1 : longB ks = true) : Calls Tryd.prog 6 #[.agg #[.slice A nk ck, .int .u8 n, .int .u8 k], .slice B mk dk] w fun e w' => e = .returned (.bool true) ∧ Below w.heap.size w w' := by
  have HG := Li G
  have HKS := Li hks
  have HNK := Li hnk
  have HOS := Li hos
  have HMK := Li hmk
  have HL1 := Li h1
  clear G hks hnk hos hmk h1
  go_enter Tryd.func6, Tryd.ntmps6
  go_wp2_with (first | (go_at_call 8; refine (sanity_any _ (HG.out.up (al1 w _))).mono ?_; rintro e w1 ⟨rfl, hb⟩; have P1 := Li ((CB.new w 39 [.slice A nk ck, .int .u8 n, .int .u8 k]).up hb); have B1 := Li (below_step (al1 w _) (al1 w _).size hb); obtain ⟨s0, s1, s2⟩ := P1.out.c3; have zs := P1.out.lt; clear hb) | (go_at_call 20; (with_reducible show Calls _ _ #[.slice A _ _] _ _); refine (long_any A nk ck ks _ HNK.out (HKS.out.up B1.out) (by omega)).mono ?_; rintro e w1 ⟨rfl, rfl⟩; rw [HL1.out]))
  go_ret
  exact ⟨rfl, B1.out⟩
set_option maxRecDepth 20000 in
theorem long2 (A B : Option Addr) (nk ck n k mk dk : Nat) (ks os : List Ky) (w : World) (hnk : nk = ks.length) (hks : KsAt w w.heap.size A ks) (hnl : nk ≤ 140737488351232) (hmk : mk = os.length) (hos : KsAt w w.heap.size B os) (hml : mk ≤ 140737488351232) (G : Glob w) (h1 : longB ks = false) (h2 : longB os = true) : Calls Tryd.prog 6 #[.agg #[.slice A nk ck, .int .u8 n, .int .u8 k], .slice B mk dk] w fun e w' => e = .returned (.bool true) ∧ Below w.heap.size w w' := by
  have HG := Li G
  have HKS := Li hks
  have HNK := Li hnk
  have HOS := Li hos
  have HMK := Li hmk
  have HL1 := Li h1
  have HL2 := Li h2
  clear G hks hnk hos hmk h1 h2
  go_enter Tryd.func6, Tryd.ntmps6
  go_wp2_with (first | (go_at_call 8; refine (sanity_any _ (HG.out.up (al1 w _))).mono ?_; rintro e w1 ⟨rfl, hb⟩; have P1 := Li ((CB.new w 39 [.slice A nk ck, .int .u8 n, .int .u8 k]).up hb); have B1 := Li (below_step (al1 w _) (al1 w _).size hb); obtain ⟨s0, s1, s2⟩ := P1.out.c3; have zs := P1.out.lt; clear hb) | (go_at_call 20; (with_reducible show Calls _ _ #[.slice A _ _] _ _); refine (long_any A nk ck ks _ HNK.out (HKS.out.up B1.out) (by omega)).mono ?_; rintro e w1 ⟨rfl, rfl⟩; rw [HL1.out]) | (go_at_call 20; (with_reducible show Calls _ _ #[.slice B _ _] _ _); refine (long_any B mk dk os _ HMK.out (HOS.out.up B1.out) (by omega)).mono ?_; rintro e w1 ⟨rfl, rfl⟩; rw [HL2.out]))
  go_ret
  exact ⟨rfl, B1.out⟩
/-- a sketch's box, its bytes, its room -/
structure Sk (X : World) (p : Nat) (A : Option Addr) (c : Nat) (K : Int) (m : Nat) (l : List UInt8) : Prop where
  b : CB X p 24 [.int .i64 K, .slice A m c]
  s : Shows X X.heap.size A l
  q : m ≤ c ∧ c ≤ 9223372036854775807
theorem Sk.up {X X' : World} {p : Nat} {A : Option Addr} {c : Nat} {K : Int} {m : Nat} {l : List UInt8} (h : Sk X p A c K m l) (hb : Below X.heap.size X X') : Sk X' p A c K m l := ⟨h.b.up hb, h.s.up hb, h.q⟩
theorem owns_q {w : World} {B n c : Nat} {A : Option Addr} {l : List UInt8} (h : Owns w B (.slice A n c) l) : n ≤ c ∧ c ≤ 9223372036854775807 := by
  have h1 := Owns.shows h
  exact ⟨by rw [h1.1]; exact h1.2.1, Owns.cap_le h⟩
theorem sk_new {w1 w2 : World} {B : Nat} {A : Option Addr} {c : Nat} {K : Int} {m : Nat} {l : List UInt8} (ho : Owns w1 B (.slice A m c) l) (e : w2 = w1.alloc (.cells #[.int .i64 K, .slice A m c] 24)) : Sk w2 w1.heap.size A c K m l := by
  subst e
  exact ⟨CB.new w1 24 [.int .i64 K, .slice A m c], owns_sh ho (al1 w1 _), owns_q ho⟩
/-- what region 11 reads -/
structure SZ (w : World) (A : Option Addr) (nk ck n k : Nat) (p9 p15 p17 : Nat) (A9 A15 A17 : Option Addr) (c9 c15 c17 : Nat) (K : Int) (h : Nat) (la lx : List UInt8) (X : World) : Prop where
  b : CB X w.heap.size 39 [.slice A nk ck, .int .u8 n, .int .u8 k]
  x9 : Sk X p9 A9 c9 K h la
  x15 : Sk X p15 A15 c15 K h lx
  x17 : Sk X p17 A17 c17 K h lx
  d : Below w.heap.size w X
theorem SZ.up {w : World} {A : Option Addr} {nk ck n k p9 p15 p17 : Nat} {A9 A15 A17 : Option Addr} {c9 c15 c17 : Nat} {K : Int} {h : Nat} {la lx : List UInt8} {X X' : World} (z : SZ w A nk ck n k p9 p15 p17 A9 A15 A17 c9 c15 c17 K h la lx X) (hb : Below X.heap.size X X') : SZ w A nk ck n k p9 p15 p17 A9 A15 A17 c9 c15 c17 K h la lx X' := ⟨z.b.up hb, z.x9.up hb, z.x15.up hb, z.x17.up hb, below_step z.d z.d.size hb⟩
set_option maxHeartbeats 16000000 in
set_option maxRecDepth 40000 in
theorem main (A B : Option Addr) (nk ck n k mk dk : Nat) (ks os : List Ky) (w : World) (hnk : nk = ks.length) (hks : KsAt w w.heap.size A ks) (hnl : nk ≤ 140737488351232) (hmk : mk = os.length) (hos : KsAt w w.heap.size B os) (hml : mk ≤ 140737488351232) (G : Glob w) (hn : n < 256) (hk : k < 256) (h1 : longB ks = false) (h2 : longB os = false) : Calls Tryd.prog 6 #[.agg #[.slice A nk ck, .int .u8 n, .int .u8 k], .slice B mk dk] w fun e w' => e = .returned (.bool true) ∧ Below w.heap.size w w' := by
  obtain ⟨r1, hr1⟩ : ∃ r1, n % 10 = r1 := ⟨_, rfl⟩
  have hr10 : r1 < 10 := by omega
  have u1 : (n : Int) % 10 = (r1 : Int) := by omega
  have u2 : (n : Int).tmod 10 = (r1 : Int) := by rw [Int.tmod_eq_emod_of_nonneg (by omega)]; exact u1
  obtain ⟨r, hr⟩ : ∃ r, r1 + 1 = r := ⟨_, rfl⟩
  have u3 : (1 : Int) + (r1 : Int) = (r : Int) := by omega
  have u4 : (r1 : Int) + 1 = (r : Int) := by omega
  have u5 : (r : Int) - 1 = (r1 : Int) := by omega
  have u6 : IntKind.u8.wrap ((r : Int) - 1) = (r1 : Int) := by rw [IntKind.wrap_u8]; omega
  have u7 : IntKind.u8.wrap (1 + (r1 : Int)) = (r : Int) := by rw [IntKind.wrap_u8]; omega
  have hr256 : r < 256 := by omega
  have hr1256 : r1 < 256 := by omega
  have hnr : nOf r = 2 * nOf r1 := by
    unfold nOf
    rw [← hr, Nat.mod_eq_of_lt (by omega), Nat.mod_eq_of_lt (by omega), Nat.pow_succ]
    omega
  obtain ⟨a, ha⟩ : ∃ a, bldK k r ks = a := ⟨_, rfl⟩
  obtain ⟨b, hb⟩ : ∃ b, bldK k r os = b := ⟨_, rfl⟩
  obtain ⟨la, hla⟩ : ∃ la, bldK k r1 ks = la := ⟨_, rfl⟩
  obtain ⟨lb, hlb⟩ : ∃ lb, bldK k r1 os = lb := ⟨_, rfl⟩
  have hal : a.length = nOf r := by rw [← ha]; exact bldK_len k r ks
  have hbl : b.length = nOf r := by rw [← hb]; exact bldK_len k r os
  have hlal : la.length = nOf r1 := by rw [← hla]; exact bldK_len k r1 ks
  have hlbl : lb.length = nOf r1 := by rw [← hlb]; exact bldK_len k r1 os
  have fa : foldL a = la := by rw [← ha, ← hla]; unfold bldK; rw [hnr]; exact fold_bld _ _ _ (nOf_le r1).1
  have fb : foldL b = lb := by rw [← hb, ← hlb]; unfold bldK; rw [hnr]; exact fold_bld _ _ _ (nOf_le r1).1
  obtain ⟨ab, hab⟩ : ∃ ab, orL a b = ab := ⟨_, rfl⟩
  have habl : ab.length = nOf r := by rw [← hab, orL_len (by rw [hal, hbl]), hal]
  obtain ⟨lx, hlx⟩ : ∃ lx, orL la lb = lx := ⟨_, rfl⟩
  have hlxl : lx.length = nOf r1 := by rw [← hlx, orL_len (by rw [hlal, hlbl]), hlal]
  have fx : foldL ab = lx := by rw [← hab, ← hlx, fold_or (n := nOf r1) (by rw [hal, hnr]) (by rw [hbl, hnr]), fa, fb]
  have V1 := Li (valid_of k r)
  have V2 := Li (valid_of k r1)
  have hN := (nOf_le r).2
  have hN1 := (nOf_le r1).1
  obtain ⟨K, hK⟩ : ∃ K : Nat, kOf k = K := ⟨_, rfl⟩
  obtain ⟨m, hm⟩ : ∃ m : Nat, nOf r = m := ⟨_, rfl⟩
  obtain ⟨h, hh⟩ : ∃ h : Nat, nOf r1 = h := ⟨_, rfl⟩
  have HK := Li hK
  have HM := Li hm
  have HH := Li hh
  rw [hm] at hnr hal hbl habl hN V1
  rw [hh] at hnr hlal hlbl hlxl hN1 V2
  rw [hK] at V1 V2
  have HG := Li G
  have HKS := Li hks
  have HNK := Li hnk
  have HOS := Li hos
  have HMK := Li hmk
  have HL1 := Li h1
  have HL2 := Li h2
  have QA := Li ha
  have QB := Li hb
  have QLA := Li hla
  have EA := Li hal
  have EB := Li hbl
  have ELA := Li hlal
  have ELB := Li hlbl
  have EAB := Li habl
  have ELX := Li hlxl
  have FA := Li fa
  have FB := Li fb
  have FX := Li fx
  have OAB := Li hab
  have OLX := Li hlx
  have HNR := Li hnr
  have hm1024 : m ≤ 1024 := hN
  have hh1024 : h ≤ 1024 := by omega
  clear hr1 hr ha hb hla hlb hal hbl hlal hlbl fa fb hab habl hlx hlxl fx hN hK hm hh hnr G hks hnk hos hmk h1 h2
  go_enter Tryd.func6, Tryd.ntmps6
  go_upto_region 5 with (first | (go_at_call 8; refine (sanity_any _ (HG.out.up (al1 w _))).mono ?_; rintro e w1 ⟨rfl, hb⟩; have P1 := Li ((CB.new w 39 [.slice A nk ck, .int .u8 n, .int .u8 k]).up hb); have B1 := Li (below_step (al1 w _) (al1 w _).size hb); obtain ⟨s0, s1, s2⟩ := P1.out.c3; have zs := P1.out.lt; clear hb) | (go_at_call 20; (with_reducible show Calls _ _ #[.slice A _ _] _ _); refine (long_any A nk ck ks _ HNK.out (HKS.out.up B1.out) (by omega)).mono ?_; rintro e w1 ⟨rfl, rfl⟩; rw [HL1.out]) | (go_at_call 20; (with_reducible show Calls _ _ #[.slice B _ _] _ _); refine (long_any B mk dk os _ HMK.out (HOS.out.up B1.out) (by omega)).mono ?_; rintro e w1 ⟨rfl, rfl⟩; rw [HL2.out]))
  have PP := Li (show CB w1 w.heap.size 39 [.slice A nk ck, .int .u8 n, .int .u8 k] ∧ Below w.heap.size w w1 from ⟨P1.out, B1.out⟩)
  clear P1 B1 s0 s1 s2 zs
  go_cut [7, 8] from 7 to 44 (fun x y wx => ∃ (p7 p8 c7 c8 : Nat) (A7 A8 : Option Addr), x = .pointer (some ⟨p7, 0, none⟩) ∧ y = .pointer (some ⟨p8, 0, none⟩) ∧ Hid (Sk wx p7 A7 c7 (K : Int) m a) ∧ Hid (Sk wx p8 A8 c8 (K : Int) m b) ∧ Hid (CB wx w.heap.size 39 [.slice A nk ck, .int .u8 n, .int .u8 k] ∧ Below w.heap.size w wx))
  case first =>
    replace PP := Li (show CB w1.drew w.heap.size 39 [.slice A nk ck, .int .u8 n, .int .u8 k] ∧ Below w.heap.size w w1.drew from ⟨PP.out.1.dr, PP.out.2.drew⟩)
    refine wp_region_held_drew (S := fun X => Hid (CB X w.heap.size 39 [.slice A nk ck, .int .u8 n, .int .u8 k] ∧ Below w.heap.size w X)) (by kernel_rfl) PP (fun hHeld => ?_)
    revert hHeld PP
    generalize w1.drew = X4
    intro PP hHeld
    refine htk 0 ?_
    refine htf 1 (fun _ h => And.intro h.out.1.c3 h.out.1.lt) ?_
    refine htk 2 ?_
    refine htk 3 ?_
    refine htf 4 (fun _ h => And.intro h.out.1.c3 h.out.1.lt) ?_
    refine htk 5 ?_
    refine htk 7 ?_
    refine htk 8 ?_
    refine htk 9 ?_
    refine htf 10 (fun _ h => And.intro h.out.1.c3 h.out.1.lt) ?_
    refine htk 11 ?_
    refine rd3 6 13 14 (fun KK hK => ?_) (fun KK hK => ?_) (fun KK hK => ?_)
    · go_simp
      go_at_call 21
      refine (build_any A nk ck r k ks _ HNK.out (HKS.out.up PP.out.2) hr256 hk (HG.out.up PP.out.2) HL1.out).mono ?_
      rintro e v6 ⟨⟨A6, c6, rfl, ho⟩, hb⟩
      rw [QA.out, HM.out] at ho
      rw [HK.out, HM.out]
      have O6 := Li (owns_low ho PP.out.2.size)
      replace PP := Li (show CB v6 w.heap.size 39 [.slice A nk ck, .int .u8 n, .int .u8 k] ∧ Below w.heap.size w v6 from ⟨PP.out.1.up hb, below_step PP.out.2 PP.out.2.size hb⟩)
      clear hb ho
      go_wp2_with fail
      refine hK.out _ _ (PP) (fun hHeld => ?_)
      clear hK KK
      try simp only [pnz]
      refine rd3 12 13 14 (fun KK hK => ?_) (fun KK hK => ?_) (fun KK hK => ?_)
      · go_simp
        go_at_call 21
        refine (build_any B mk dk r k os _ HMK.out (HOS.out.up PP.out.2) hr256 hk (HG.out.up PP.out.2) HL2.out).mono ?_
        rintro e v12 ⟨⟨A12, c12, rfl, ho⟩, hb⟩
        rw [QB.out, HM.out] at ho
        rw [HK.out, HM.out]
        have O12 := Li (owns_low ho PP.out.2.size)
        replace O6 := Li (owns_upB O6.out hb)
        replace PP := Li (show CB v12 w.heap.size 39 [.slice A nk ck, .int .u8 n, .int .u8 k] ∧ Below w.heap.size w v12 from ⟨PP.out.1.up hb, below_step PP.out.2 PP.out.2.size hb⟩)
        clear hb ho
        go_wp2_with fail
        refine hK.out _ _ (PP) (fun hHeld => ?_)
        clear hK KK
        try simp only [pnz]
        refine rd2 13 14 (fun KK hK => ?_) (fun KK hK => ?_)
        · go_simp
          have q13 : w.heap.size < v12.heap.size := PP.out.1.lt
          have hbb := al1 v12 (.cells #[.int .i64 0, .slice none 0 0] 24)
          have K13 := Li (CB.new v12 24 [.int .i64 0, .slice none 0 0])
          replace O6 := Li (owns_upB O6.out hbb)
          replace O12 := Li (owns_upB O12.out hbb)
          replace PP := Li (show CB (v12.alloc (.cells #[.int .i64 0, .slice none 0 0] 24)) w.heap.size 39 [.slice A nk ck, .int .u8 n, .int .u8 k] ∧ Below w.heap.size w (v12.alloc (.cells #[.int .i64 0, .slice none 0 0] 24)) from ⟨PP.out.1.up hbb, below_step PP.out.2 PP.out.2.size hbb⟩)
          clear hbb
          refine hK.out _ _ (PP) (fun hHeld => ?_)
          clear hK KK
          try simp only [pnz]
          generalize v12.alloc (.cells #[.int .i64 0, .slice none 0 0] 24) = v13 at *
          refine rd1 14 fun KK hK => ?_
          go_simp
          have q14 : w.heap.size < v13.heap.size := PP.out.1.lt
          have q1314 : v12.heap.size < v13.heap.size := K13.out.lt
          have hbb := al1 v13 (.cells #[.int .i64 0, .slice none 0 0] 24)
          have K14 := Li (CB.new v13 24 [.int .i64 0, .slice none 0 0])
          replace K13 := Li (K13.out.up hbb)
          replace O6 := Li (owns_upB O6.out hbb)
          replace O12 := Li (owns_upB O12.out hbb)
          replace PP := Li (show CB (v13.alloc (.cells #[.int .i64 0, .slice none 0 0] 24)) w.heap.size 39 [.slice A nk ck, .int .u8 n, .int .u8 k] ∧ Below w.heap.size w (v13.alloc (.cells #[.int .i64 0, .slice none 0 0] 24)) from ⟨PP.out.1.up hbb, below_step PP.out.2 PP.out.2.size hbb⟩)
          clear hbb
          refine hK.out _ _ (PP) (fun hHeld => ?_)
          clear hK KK
          try simp only [pnz]
          generalize v13.alloc (.cells #[.int .i64 0, .slice none 0 0] 24) = v14 at *
          refine rd1 15 fun KK hK => ?_
          refine step_store_cb rfl 24 (.tmp 7) (.tmp 38) rfl (v12.heap.size) [.int .i64 K, .slice A6 m c6] rfl rfl 24 [.int .i64 0, .slice none 0 0] 2 K13.out infoB rfl rfl oneB ?_
          intro s15 hc hg hz
          replace O6 := Li (owns_kept O6.out hg (.inr (fun e => owns_ne O6.out K13.out (by decide) e.symm)))
          replace O12 := Li (owns_kept O12.out hg (.inr (fun e => owns_ne O12.out K13.out (by decide) e.symm)))
          replace K13 := Li hc
          replace K14 := Li (K14.out.grown hg (by intro h; injection h with h; omega))
          replace PP := Li (show CB s15 w.heap.size 39 [.slice A nk ck, .int .u8 n, .int .u8 k] ∧ Below w.heap.size w s15 from ⟨PP.out.1.grown hg (by intro h; injection h with h; omega), below_grownM PP.out.2 hg PP.out.2.size (by omega)⟩)
          clear hc hg hz
          refine hK.out _ _ (PP) (fun hHeld => ?_)
          clear hK KK
          try simp only [pnz]
          refine rd1 16 fun KK hK => ?_
          refine step_store_cb rfl 24 (.tmp 8) (.tmp 44) rfl (v13.heap.size) [.int .i64 K, .slice A12 m c12] rfl rfl 24 [.int .i64 0, .slice none 0 0] 2 K14.out infoB rfl rfl oneB ?_
          intro s16 hc hg hz
          replace O6 := Li (owns_kept O6.out hg (.inr (fun e => owns_ne O6.out K14.out (by decide) e.symm)))
          replace O12 := Li (owns_kept O12.out hg (.inr (fun e => owns_ne O12.out K14.out (by decide) e.symm)))
          replace K14 := Li hc
          replace K13 := Li (K13.out.grown hg (by intro h; injection h with h; omega))
          replace PP := Li (show CB s16 w.heap.size 39 [.slice A nk ck, .int .u8 n, .int .u8 k] ∧ Below w.heap.size w s16 from ⟨PP.out.1.grown hg (by intro h; injection h with h; omega), below_grownM PP.out.2 hg PP.out.2.size (by omega)⟩)
          clear hc hg hz
          refine hK.out _ _ (PP) (fun hHeld => ?_)
          clear hK KK
          try simp only [pnz]
          refine wpAnyH_done (by kernel_rfl) ?_ _
          go_wp2_with fail
          go_meet
          exact ⟨_, _, _, _, _, _, rfl, rfl, Li ⟨K13.out, (Owns.shows O6.out).2.2, owns_q O6.out⟩, Li ⟨K14.out, (Owns.shows O12.out).2.2, owns_q O12.out⟩, PP⟩
        · go_simp
          have q14 : w.heap.size < v12.heap.size := PP.out.1.lt
          have hbb := al1 v12 (.cells #[.int .i64 0, .slice none 0 0] 24)
          have K14 := Li (CB.new v12 24 [.int .i64 0, .slice none 0 0])
          replace O6 := Li (owns_upB O6.out hbb)
          replace O12 := Li (owns_upB O12.out hbb)
          replace PP := Li (show CB (v12.alloc (.cells #[.int .i64 0, .slice none 0 0] 24)) w.heap.size 39 [.slice A nk ck, .int .u8 n, .int .u8 k] ∧ Below w.heap.size w (v12.alloc (.cells #[.int .i64 0, .slice none 0 0] 24)) from ⟨PP.out.1.up hbb, below_step PP.out.2 PP.out.2.size hbb⟩)
          clear hbb
          refine hK.out _ _ (PP) (fun hHeld => ?_)
          clear hK KK
          try simp only [pnz]
          generalize v12.alloc (.cells #[.int .i64 0, .slice none 0 0] 24) = v14 at *
          refine rd1 13 fun KK hK => ?_
          go_simp
          have q13 : w.heap.size < v14.heap.size := PP.out.1.lt
          have q1413 : v12.heap.size < v14.heap.size := K14.out.lt
          have hbb := al1 v14 (.cells #[.int .i64 0, .slice none 0 0] 24)
          have K13 := Li (CB.new v14 24 [.int .i64 0, .slice none 0 0])
          replace K14 := Li (K14.out.up hbb)
          replace O6 := Li (owns_upB O6.out hbb)
          replace O12 := Li (owns_upB O12.out hbb)
          replace PP := Li (show CB (v14.alloc (.cells #[.int .i64 0, .slice none 0 0] 24)) w.heap.size 39 [.slice A nk ck, .int .u8 n, .int .u8 k] ∧ Below w.heap.size w (v14.alloc (.cells #[.int .i64 0, .slice none 0 0] 24)) from ⟨PP.out.1.up hbb, below_step PP.out.2 PP.out.2.size hbb⟩)
          clear hbb
          refine hK.out _ _ (PP) (fun hHeld => ?_)
          clear hK KK
          try simp only [pnz]
          generalize v14.alloc (.cells #[.int .i64 0, .slice none 0 0] 24) = v13 at *
          refine rd1 15 fun KK hK => ?_
          refine step_store_cb rfl 24 (.tmp 7) (.tmp 38) rfl (v14.heap.size) [.int .i64 K, .slice A6 m c6] rfl rfl 24 [.int .i64 0, .slice none 0 0] 2 K13.out infoB rfl rfl oneB ?_
          intro s15 hc hg hz
          replace O6 := Li (owns_kept O6.out hg (.inr (fun e => owns_ne O6.out K13.out (by decide) e.symm)))
          replace O12 := Li (owns_kept O12.out hg (.inr (fun e => owns_ne O12.out K13.out (by decide) e.symm)))
          replace K13 := Li hc
          replace K14 := Li (K14.out.grown hg (by intro h; injection h with h; omega))
          replace PP := Li (show CB s15 w.heap.size 39 [.slice A nk ck, .int .u8 n, .int .u8 k] ∧ Below w.heap.size w s15 from ⟨PP.out.1.grown hg (by intro h; injection h with h; omega), below_grownM PP.out.2 hg PP.out.2.size (by omega)⟩)
          clear hc hg hz
          refine hK.out _ _ (PP) (fun hHeld => ?_)
          clear hK KK
          try simp only [pnz]
          refine rd1 16 fun KK hK => ?_
          refine step_store_cb rfl 24 (.tmp 8) (.tmp 44) rfl (v12.heap.size) [.int .i64 K, .slice A12 m c12] rfl rfl 24 [.int .i64 0, .slice none 0 0] 2 K14.out infoB rfl rfl oneB ?_
          intro s16 hc hg hz
          replace O6 := Li (owns_kept O6.out hg (.inr (fun e => owns_ne O6.out K14.out (by decide) e.symm)))
          replace O12 := Li (owns_kept O12.out hg (.inr (fun e => owns_ne O12.out K14.out (by decide) e.symm)))
          replace K14 := Li hc
          replace K13 := Li (K13.out.grown hg (by intro h; injection h with h; omega))
          replace PP := Li (show CB s16 w.heap.size 39 [.slice A nk ck, .int .u8 n, .int .u8 k] ∧ Below w.heap.size w s16 from ⟨PP.out.1.grown hg (by intro h; injection h with h; omega), below_grownM PP.out.2 hg PP.out.2.size (by omega)⟩)
          clear hc hg hz
          refine hK.out _ _ (PP) (fun hHeld => ?_)
          clear hK KK
          try simp only [pnz]
          refine wpAnyH_done (by kernel_rfl) ?_ _
          go_wp2_with fail
          go_meet
          exact ⟨_, _, _, _, _, _, rfl, rfl, Li ⟨K13.out, (Owns.shows O6.out).2.2, owns_q O6.out⟩, Li ⟨K14.out, (Owns.shows O12.out).2.2, owns_q O12.out⟩, PP⟩
      · go_simp
        have q13 : w.heap.size < v6.heap.size := PP.out.1.lt
        have hbb := al1 v6 (.cells #[.int .i64 0, .slice none 0 0] 24)
        have K13 := Li (CB.new v6 24 [.int .i64 0, .slice none 0 0])
        replace O6 := Li (owns_upB O6.out hbb)
        replace PP := Li (show CB (v6.alloc (.cells #[.int .i64 0, .slice none 0 0] 24)) w.heap.size 39 [.slice A nk ck, .int .u8 n, .int .u8 k] ∧ Below w.heap.size w (v6.alloc (.cells #[.int .i64 0, .slice none 0 0] 24)) from ⟨PP.out.1.up hbb, below_step PP.out.2 PP.out.2.size hbb⟩)
        clear hbb
        refine hK.out _ _ (PP) (fun hHeld => ?_)
        clear hK KK
        try simp only [pnz]
        generalize v6.alloc (.cells #[.int .i64 0, .slice none 0 0] 24) = v13 at *
        refine rd2 12 14 (fun KK hK => ?_) (fun KK hK => ?_)
        · go_simp
          go_at_call 21
          refine (build_any B mk dk r k os _ HMK.out (HOS.out.up PP.out.2) hr256 hk (HG.out.up PP.out.2) HL2.out).mono ?_
          rintro e v12 ⟨⟨A12, c12, rfl, ho⟩, hb⟩
          rw [QB.out, HM.out] at ho
          rw [HK.out, HM.out]
          have O12 := Li (owns_low ho PP.out.2.size)
          replace K13 := Li (K13.out.up hb)
          replace O6 := Li (owns_upB O6.out hb)
          replace PP := Li (show CB v12 w.heap.size 39 [.slice A nk ck, .int .u8 n, .int .u8 k] ∧ Below w.heap.size w v12 from ⟨PP.out.1.up hb, below_step PP.out.2 PP.out.2.size hb⟩)
          clear hb ho
          go_wp2_with fail
          refine hK.out _ _ (PP) (fun hHeld => ?_)
          clear hK KK
          try simp only [pnz]
          refine rd1 14 fun KK hK => ?_
          go_simp
          have q14 : w.heap.size < v12.heap.size := PP.out.1.lt
          have q1314 : v6.heap.size < v12.heap.size := K13.out.lt
          have hbb := al1 v12 (.cells #[.int .i64 0, .slice none 0 0] 24)
          have K14 := Li (CB.new v12 24 [.int .i64 0, .slice none 0 0])
          replace K13 := Li (K13.out.up hbb)
          replace O6 := Li (owns_upB O6.out hbb)
          replace O12 := Li (owns_upB O12.out hbb)
          replace PP := Li (show CB (v12.alloc (.cells #[.int .i64 0, .slice none 0 0] 24)) w.heap.size 39 [.slice A nk ck, .int .u8 n, .int .u8 k] ∧ Below w.heap.size w (v12.alloc (.cells #[.int .i64 0, .slice none 0 0] 24)) from ⟨PP.out.1.up hbb, below_step PP.out.2 PP.out.2.size hbb⟩)
          clear hbb
          refine hK.out _ _ (PP) (fun hHeld => ?_)
          clear hK KK
          try simp only [pnz]
          generalize v12.alloc (.cells #[.int .i64 0, .slice none 0 0] 24) = v14 at *
          refine rd1 15 fun KK hK => ?_
          refine step_store_cb rfl 24 (.tmp 7) (.tmp 38) rfl (v6.heap.size) [.int .i64 K, .slice A6 m c6] rfl rfl 24 [.int .i64 0, .slice none 0 0] 2 K13.out infoB rfl rfl oneB ?_
          intro s15 hc hg hz
          replace O6 := Li (owns_kept O6.out hg (.inr (fun e => owns_ne O6.out K13.out (by decide) e.symm)))
          replace O12 := Li (owns_kept O12.out hg (.inr (fun e => owns_ne O12.out K13.out (by decide) e.symm)))
          replace K13 := Li hc
          replace K14 := Li (K14.out.grown hg (by intro h; injection h with h; omega))
          replace PP := Li (show CB s15 w.heap.size 39 [.slice A nk ck, .int .u8 n, .int .u8 k] ∧ Below w.heap.size w s15 from ⟨PP.out.1.grown hg (by intro h; injection h with h; omega), below_grownM PP.out.2 hg PP.out.2.size (by omega)⟩)
          clear hc hg hz
          refine hK.out _ _ (PP) (fun hHeld => ?_)
          clear hK KK
          try simp only [pnz]
          refine rd1 16 fun KK hK => ?_
          refine step_store_cb rfl 24 (.tmp 8) (.tmp 44) rfl (v12.heap.size) [.int .i64 K, .slice A12 m c12] rfl rfl 24 [.int .i64 0, .slice none 0 0] 2 K14.out infoB rfl rfl oneB ?_
          intro s16 hc hg hz
          replace O6 := Li (owns_kept O6.out hg (.inr (fun e => owns_ne O6.out K14.out (by decide) e.symm)))
          replace O12 := Li (owns_kept O12.out hg (.inr (fun e => owns_ne O12.out K14.out (by decide) e.symm)))
          replace K14 := Li hc
          replace K13 := Li (K13.out.grown hg (by intro h; injection h with h; omega))
          replace PP := Li (show CB s16 w.heap.size 39 [.slice A nk ck, .int .u8 n, .int .u8 k] ∧ Below w.heap.size w s16 from ⟨PP.out.1.grown hg (by intro h; injection h with h; omega), below_grownM PP.out.2 hg PP.out.2.size (by omega)⟩)
          clear hc hg hz
          refine hK.out _ _ (PP) (fun hHeld => ?_)
          clear hK KK
          try simp only [pnz]
          refine wpAnyH_done (by kernel_rfl) ?_ _
          go_wp2_with fail
          go_meet
          exact ⟨_, _, _, _, _, _, rfl, rfl, Li ⟨K13.out, (Owns.shows O6.out).2.2, owns_q O6.out⟩, Li ⟨K14.out, (Owns.shows O12.out).2.2, owns_q O12.out⟩, PP⟩
        · go_simp
          have q14 : w.heap.size < v13.heap.size := PP.out.1.lt
          have q1314 : v6.heap.size < v13.heap.size := K13.out.lt
          have hbb := al1 v13 (.cells #[.int .i64 0, .slice none 0 0] 24)
          have K14 := Li (CB.new v13 24 [.int .i64 0, .slice none 0 0])
          replace K13 := Li (K13.out.up hbb)
          replace O6 := Li (owns_upB O6.out hbb)
          replace PP := Li (show CB (v13.alloc (.cells #[.int .i64 0, .slice none 0 0] 24)) w.heap.size 39 [.slice A nk ck, .int .u8 n, .int .u8 k] ∧ Below w.heap.size w (v13.alloc (.cells #[.int .i64 0, .slice none 0 0] 24)) from ⟨PP.out.1.up hbb, below_step PP.out.2 PP.out.2.size hbb⟩)
          clear hbb
          refine hK.out _ _ (PP) (fun hHeld => ?_)
          clear hK KK
          try simp only [pnz]
          generalize v13.alloc (.cells #[.int .i64 0, .slice none 0 0] 24) = v14 at *
          refine rd1 12 fun KK hK => ?_
          go_simp
          go_at_call 21
          refine (build_any B mk dk r k os _ HMK.out (HOS.out.up PP.out.2) hr256 hk (HG.out.up PP.out.2) HL2.out).mono ?_
          rintro e v12 ⟨⟨A12, c12, rfl, ho⟩, hb⟩
          rw [QB.out, HM.out] at ho
          rw [HK.out, HM.out]
          have O12 := Li (owns_low ho PP.out.2.size)
          replace K13 := Li (K13.out.up hb)
          replace K14 := Li (K14.out.up hb)
          replace O6 := Li (owns_upB O6.out hb)
          replace PP := Li (show CB v12 w.heap.size 39 [.slice A nk ck, .int .u8 n, .int .u8 k] ∧ Below w.heap.size w v12 from ⟨PP.out.1.up hb, below_step PP.out.2 PP.out.2.size hb⟩)
          clear hb ho
          go_wp2_with fail
          refine hK.out _ _ (PP) (fun hHeld => ?_)
          clear hK KK
          try simp only [pnz]
          refine rd1 15 fun KK hK => ?_
          refine step_store_cb rfl 24 (.tmp 7) (.tmp 38) rfl (v6.heap.size) [.int .i64 K, .slice A6 m c6] rfl rfl 24 [.int .i64 0, .slice none 0 0] 2 K13.out infoB rfl rfl oneB ?_
          intro s15 hc hg hz
          replace O6 := Li (owns_kept O6.out hg (.inr (fun e => owns_ne O6.out K13.out (by decide) e.symm)))
          replace O12 := Li (owns_kept O12.out hg (.inr (fun e => owns_ne O12.out K13.out (by decide) e.symm)))
          replace K13 := Li hc
          replace K14 := Li (K14.out.grown hg (by intro h; injection h with h; omega))
          replace PP := Li (show CB s15 w.heap.size 39 [.slice A nk ck, .int .u8 n, .int .u8 k] ∧ Below w.heap.size w s15 from ⟨PP.out.1.grown hg (by intro h; injection h with h; omega), below_grownM PP.out.2 hg PP.out.2.size (by omega)⟩)
          clear hc hg hz
          refine hK.out _ _ (PP) (fun hHeld => ?_)
          clear hK KK
          try simp only [pnz]
          refine rd1 16 fun KK hK => ?_
          refine step_store_cb rfl 24 (.tmp 8) (.tmp 44) rfl (v13.heap.size) [.int .i64 K, .slice A12 m c12] rfl rfl 24 [.int .i64 0, .slice none 0 0] 2 K14.out infoB rfl rfl oneB ?_
          intro s16 hc hg hz
          replace O6 := Li (owns_kept O6.out hg (.inr (fun e => owns_ne O6.out K14.out (by decide) e.symm)))
          replace O12 := Li (owns_kept O12.out hg (.inr (fun e => owns_ne O12.out K14.out (by decide) e.symm)))
          replace K14 := Li hc
          replace K13 := Li (K13.out.grown hg (by intro h; injection h with h; omega))
          replace PP := Li (show CB s16 w.heap.size 39 [.slice A nk ck, .int .u8 n, .int .u8 k] ∧ Below w.heap.size w s16 from ⟨PP.out.1.grown hg (by intro h; injection h with h; omega), below_grownM PP.out.2 hg PP.out.2.size (by omega)⟩)
          clear hc hg hz
          refine hK.out _ _ (PP) (fun hHeld => ?_)
          clear hK KK
          try simp only [pnz]
          refine wpAnyH_done (by kernel_rfl) ?_ _
          go_wp2_with fail
          go_meet
          exact ⟨_, _, _, _, _, _, rfl, rfl, Li ⟨K13.out, (Owns.shows O6.out).2.2, owns_q O6.out⟩, Li ⟨K14.out, (Owns.shows O12.out).2.2, owns_q O12.out⟩, PP⟩
      · go_simp
        have q14 : w.heap.size < v6.heap.size := PP.out.1.lt
        have hbb := al1 v6 (.cells #[.int .i64 0, .slice none 0 0] 24)
        have K14 := Li (CB.new v6 24 [.int .i64 0, .slice none 0 0])
        replace O6 := Li (owns_upB O6.out hbb)
        replace PP := Li (show CB (v6.alloc (.cells #[.int .i64 0, .slice none 0 0] 24)) w.heap.size 39 [.slice A nk ck, .int .u8 n, .int .u8 k] ∧ Below w.heap.size w (v6.alloc (.cells #[.int .i64 0, .slice none 0 0] 24)) from ⟨PP.out.1.up hbb, below_step PP.out.2 PP.out.2.size hbb⟩)
        clear hbb
        refine hK.out _ _ (PP) (fun hHeld => ?_)
        clear hK KK
        try simp only [pnz]
        generalize v6.alloc (.cells #[.int .i64 0, .slice none 0 0] 24) = v14 at *
        refine rd2 12 13 (fun KK hK => ?_) (fun KK hK => ?_)
        · go_simp
          go_at_call 21
          refine (build_any B mk dk r k os _ HMK.out (HOS.out.up PP.out.2) hr256 hk (HG.out.up PP.out.2) HL2.out).mono ?_
          rintro e v12 ⟨⟨A12, c12, rfl, ho⟩, hb⟩
          rw [QB.out, HM.out] at ho
          rw [HK.out, HM.out]
          have O12 := Li (owns_low ho PP.out.2.size)
          replace K14 := Li (K14.out.up hb)
          replace O6 := Li (owns_upB O6.out hb)
          replace PP := Li (show CB v12 w.heap.size 39 [.slice A nk ck, .int .u8 n, .int .u8 k] ∧ Below w.heap.size w v12 from ⟨PP.out.1.up hb, below_step PP.out.2 PP.out.2.size hb⟩)
          clear hb ho
          go_wp2_with fail
          refine hK.out _ _ (PP) (fun hHeld => ?_)
          clear hK KK
          try simp only [pnz]
          refine rd1 13 fun KK hK => ?_
          go_simp
          have q13 : w.heap.size < v12.heap.size := PP.out.1.lt
          have q1413 : v6.heap.size < v12.heap.size := K14.out.lt
          have hbb := al1 v12 (.cells #[.int .i64 0, .slice none 0 0] 24)
          have K13 := Li (CB.new v12 24 [.int .i64 0, .slice none 0 0])
          replace K14 := Li (K14.out.up hbb)
          replace O6 := Li (owns_upB O6.out hbb)
          replace O12 := Li (owns_upB O12.out hbb)
          replace PP := Li (show CB (v12.alloc (.cells #[.int .i64 0, .slice none 0 0] 24)) w.heap.size 39 [.slice A nk ck, .int .u8 n, .int .u8 k] ∧ Below w.heap.size w (v12.alloc (.cells #[.int .i64 0, .slice none 0 0] 24)) from ⟨PP.out.1.up hbb, below_step PP.out.2 PP.out.2.size hbb⟩)
          clear hbb
          refine hK.out _ _ (PP) (fun hHeld => ?_)
          clear hK KK
          try simp only [pnz]
          generalize v12.alloc (.cells #[.int .i64 0, .slice none 0 0] 24) = v13 at *
          refine rd1 15 fun KK hK => ?_
          refine step_store_cb rfl 24 (.tmp 7) (.tmp 38) rfl (v12.heap.size) [.int .i64 K, .slice A6 m c6] rfl rfl 24 [.int .i64 0, .slice none 0 0] 2 K13.out infoB rfl rfl oneB ?_
          intro s15 hc hg hz
          replace O6 := Li (owns_kept O6.out hg (.inr (fun e => owns_ne O6.out K13.out (by decide) e.symm)))
          replace O12 := Li (owns_kept O12.out hg (.inr (fun e => owns_ne O12.out K13.out (by decide) e.symm)))
          replace K13 := Li hc
          replace K14 := Li (K14.out.grown hg (by intro h; injection h with h; omega))
          replace PP := Li (show CB s15 w.heap.size 39 [.slice A nk ck, .int .u8 n, .int .u8 k] ∧ Below w.heap.size w s15 from ⟨PP.out.1.grown hg (by intro h; injection h with h; omega), below_grownM PP.out.2 hg PP.out.2.size (by omega)⟩)
          clear hc hg hz
          refine hK.out _ _ (PP) (fun hHeld => ?_)
          clear hK KK
          try simp only [pnz]
          refine rd1 16 fun KK hK => ?_
          refine step_store_cb rfl 24 (.tmp 8) (.tmp 44) rfl (v6.heap.size) [.int .i64 K, .slice A12 m c12] rfl rfl 24 [.int .i64 0, .slice none 0 0] 2 K14.out infoB rfl rfl oneB ?_
          intro s16 hc hg hz
          replace O6 := Li (owns_kept O6.out hg (.inr (fun e => owns_ne O6.out K14.out (by decide) e.symm)))
          replace O12 := Li (owns_kept O12.out hg (.inr (fun e => owns_ne O12.out K14.out (by decide) e.symm)))
          replace K14 := Li hc
          replace K13 := Li (K13.out.grown hg (by intro h; injection h with h; omega))
          replace PP := Li (show CB s16 w.heap.size 39 [.slice A nk ck, .int .u8 n, .int .u8 k] ∧ Below w.heap.size w s16 from ⟨PP.out.1.grown hg (by intro h; injection h with h; omega), below_grownM PP.out.2 hg PP.out.2.size (by omega)⟩)
          clear hc hg hz
          refine hK.out _ _ (PP) (fun hHeld => ?_)
          clear hK KK
          try simp only [pnz]
          refine wpAnyH_done (by kernel_rfl) ?_ _
          go_wp2_with fail
          go_meet
          exact ⟨_, _, _, _, _, _, rfl, rfl, Li ⟨K13.out, (Owns.shows O6.out).2.2, owns_q O6.out⟩, Li ⟨K14.out, (Owns.shows O12.out).2.2, owns_q O12.out⟩, PP⟩
        · go_simp
          have q13 : w.heap.size < v14.heap.size := PP.out.1.lt
          have q1413 : v6.heap.size < v14.heap.size := K14.out.lt
          have hbb := al1 v14 (.cells #[.int .i64 0, .slice none 0 0] 24)
          have K13 := Li (CB.new v14 24 [.int .i64 0, .slice none 0 0])
          replace K14 := Li (K14.out.up hbb)
          replace O6 := Li (owns_upB O6.out hbb)
          replace PP := Li (show CB (v14.alloc (.cells #[.int .i64 0, .slice none 0 0] 24)) w.heap.size 39 [.slice A nk ck, .int .u8 n, .int .u8 k] ∧ Below w.heap.size w (v14.alloc (.cells #[.int .i64 0, .slice none 0 0] 24)) from ⟨PP.out.1.up hbb, below_step PP.out.2 PP.out.2.size hbb⟩)
          clear hbb
          refine hK.out _ _ (PP) (fun hHeld => ?_)
          clear hK KK
          try simp only [pnz]
          generalize v14.alloc (.cells #[.int .i64 0, .slice none 0 0] 24) = v13 at *
          refine rd1 12 fun KK hK => ?_
          go_simp
          go_at_call 21
          refine (build_any B mk dk r k os _ HMK.out (HOS.out.up PP.out.2) hr256 hk (HG.out.up PP.out.2) HL2.out).mono ?_
          rintro e v12 ⟨⟨A12, c12, rfl, ho⟩, hb⟩
          rw [QB.out, HM.out] at ho
          rw [HK.out, HM.out]
          have O12 := Li (owns_low ho PP.out.2.size)
          replace K13 := Li (K13.out.up hb)
          replace K14 := Li (K14.out.up hb)
          replace O6 := Li (owns_upB O6.out hb)
          replace PP := Li (show CB v12 w.heap.size 39 [.slice A nk ck, .int .u8 n, .int .u8 k] ∧ Below w.heap.size w v12 from ⟨PP.out.1.up hb, below_step PP.out.2 PP.out.2.size hb⟩)
          clear hb ho
          go_wp2_with fail
          refine hK.out _ _ (PP) (fun hHeld => ?_)
          clear hK KK
          try simp only [pnz]
          refine rd1 15 fun KK hK => ?_
          refine step_store_cb rfl 24 (.tmp 7) (.tmp 38) rfl (v14.heap.size) [.int .i64 K, .slice A6 m c6] rfl rfl 24 [.int .i64 0, .slice none 0 0] 2 K13.out infoB rfl rfl oneB ?_
          intro s15 hc hg hz
          replace O6 := Li (owns_kept O6.out hg (.inr (fun e => owns_ne O6.out K13.out (by decide) e.symm)))
          replace O12 := Li (owns_kept O12.out hg (.inr (fun e => owns_ne O12.out K13.out (by decide) e.symm)))
          replace K13 := Li hc
          replace K14 := Li (K14.out.grown hg (by intro h; injection h with h; omega))
          replace PP := Li (show CB s15 w.heap.size 39 [.slice A nk ck, .int .u8 n, .int .u8 k] ∧ Below w.heap.size w s15 from ⟨PP.out.1.grown hg (by intro h; injection h with h; omega), below_grownM PP.out.2 hg PP.out.2.size (by omega)⟩)
          clear hc hg hz
          refine hK.out _ _ (PP) (fun hHeld => ?_)
          clear hK KK
          try simp only [pnz]
          refine rd1 16 fun KK hK => ?_
          refine step_store_cb rfl 24 (.tmp 8) (.tmp 44) rfl (v6.heap.size) [.int .i64 K, .slice A12 m c12] rfl rfl 24 [.int .i64 0, .slice none 0 0] 2 K14.out infoB rfl rfl oneB ?_
          intro s16 hc hg hz
          replace O6 := Li (owns_kept O6.out hg (.inr (fun e => owns_ne O6.out K14.out (by decide) e.symm)))
          replace O12 := Li (owns_kept O12.out hg (.inr (fun e => owns_ne O12.out K14.out (by decide) e.symm)))
          replace K14 := Li hc
          replace K13 := Li (K13.out.grown hg (by intro h; injection h with h; omega))
          replace PP := Li (show CB s16 w.heap.size 39 [.slice A nk ck, .int .u8 n, .int .u8 k] ∧ Below w.heap.size w s16 from ⟨PP.out.1.grown hg (by intro h; injection h with h; omega), below_grownM PP.out.2 hg PP.out.2.size (by omega)⟩)
          clear hc hg hz
          refine hK.out _ _ (PP) (fun hHeld => ?_)
          clear hK KK
          try simp only [pnz]
          refine wpAnyH_done (by kernel_rfl) ?_ _
          go_wp2_with fail
          go_meet
          exact ⟨_, _, _, _, _, _, rfl, rfl, Li ⟨K13.out, (Owns.shows O6.out).2.2, owns_q O6.out⟩, Li ⟨K14.out, (Owns.shows O12.out).2.2, owns_q O12.out⟩, PP⟩
    · go_simp
      have q13 : w.heap.size < X4.heap.size := PP.out.1.lt
      have hbb := al1 X4 (.cells #[.int .i64 0, .slice none 0 0] 24)
      have K13 := Li (CB.new X4 24 [.int .i64 0, .slice none 0 0])
      replace PP := Li (show CB (X4.alloc (.cells #[.int .i64 0, .slice none 0 0] 24)) w.heap.size 39 [.slice A nk ck, .int .u8 n, .int .u8 k] ∧ Below w.heap.size w (X4.alloc (.cells #[.int .i64 0, .slice none 0 0] 24)) from ⟨PP.out.1.up hbb, below_step PP.out.2 PP.out.2.size hbb⟩)
      clear hbb
      refine hK.out _ _ (PP) (fun hHeld => ?_)
      clear hK KK
      try simp only [pnz]
      generalize X4.alloc (.cells #[.int .i64 0, .slice none 0 0] 24) = v13 at *
      refine rd2 6 14 (fun KK hK => ?_) (fun KK hK => ?_)
      · go_simp
        go_at_call 21
        refine (build_any A nk ck r k ks _ HNK.out (HKS.out.up PP.out.2) hr256 hk (HG.out.up PP.out.2) HL1.out).mono ?_
        rintro e v6 ⟨⟨A6, c6, rfl, ho⟩, hb⟩
        rw [QA.out, HM.out] at ho
        rw [HK.out, HM.out]
        have O6 := Li (owns_low ho PP.out.2.size)
        replace K13 := Li (K13.out.up hb)
        replace PP := Li (show CB v6 w.heap.size 39 [.slice A nk ck, .int .u8 n, .int .u8 k] ∧ Below w.heap.size w v6 from ⟨PP.out.1.up hb, below_step PP.out.2 PP.out.2.size hb⟩)
        clear hb ho
        go_wp2_with fail
        refine hK.out _ _ (PP) (fun hHeld => ?_)
        clear hK KK
        try simp only [pnz]
        refine rd2 12 14 (fun KK hK => ?_) (fun KK hK => ?_)
        · go_simp
          go_at_call 21
          refine (build_any B mk dk r k os _ HMK.out (HOS.out.up PP.out.2) hr256 hk (HG.out.up PP.out.2) HL2.out).mono ?_
          rintro e v12 ⟨⟨A12, c12, rfl, ho⟩, hb⟩
          rw [QB.out, HM.out] at ho
          rw [HK.out, HM.out]
          have O12 := Li (owns_low ho PP.out.2.size)
          replace K13 := Li (K13.out.up hb)
          replace O6 := Li (owns_upB O6.out hb)
          replace PP := Li (show CB v12 w.heap.size 39 [.slice A nk ck, .int .u8 n, .int .u8 k] ∧ Below w.heap.size w v12 from ⟨PP.out.1.up hb, below_step PP.out.2 PP.out.2.size hb⟩)
          clear hb ho
          go_wp2_with fail
          refine hK.out _ _ (PP) (fun hHeld => ?_)
          clear hK KK
          try simp only [pnz]
          refine rd1 14 fun KK hK => ?_
          go_simp
          have q14 : w.heap.size < v12.heap.size := PP.out.1.lt
          have q1314 : X4.heap.size < v12.heap.size := K13.out.lt
          have hbb := al1 v12 (.cells #[.int .i64 0, .slice none 0 0] 24)
          have K14 := Li (CB.new v12 24 [.int .i64 0, .slice none 0 0])
          replace K13 := Li (K13.out.up hbb)
          replace O6 := Li (owns_upB O6.out hbb)
          replace O12 := Li (owns_upB O12.out hbb)
          replace PP := Li (show CB (v12.alloc (.cells #[.int .i64 0, .slice none 0 0] 24)) w.heap.size 39 [.slice A nk ck, .int .u8 n, .int .u8 k] ∧ Below w.heap.size w (v12.alloc (.cells #[.int .i64 0, .slice none 0 0] 24)) from ⟨PP.out.1.up hbb, below_step PP.out.2 PP.out.2.size hbb⟩)
          clear hbb
          refine hK.out _ _ (PP) (fun hHeld => ?_)
          clear hK KK
          try simp only [pnz]
          generalize v12.alloc (.cells #[.int .i64 0, .slice none 0 0] 24) = v14 at *
          refine rd1 15 fun KK hK => ?_
          refine step_store_cb rfl 24 (.tmp 7) (.tmp 38) rfl (X4.heap.size) [.int .i64 K, .slice A6 m c6] rfl rfl 24 [.int .i64 0, .slice none 0 0] 2 K13.out infoB rfl rfl oneB ?_
          intro s15 hc hg hz
          replace O6 := Li (owns_kept O6.out hg (.inr (fun e => owns_ne O6.out K13.out (by decide) e.symm)))
          replace O12 := Li (owns_kept O12.out hg (.inr (fun e => owns_ne O12.out K13.out (by decide) e.symm)))
          replace K13 := Li hc
          replace K14 := Li (K14.out.grown hg (by intro h; injection h with h; omega))
          replace PP := Li (show CB s15 w.heap.size 39 [.slice A nk ck, .int .u8 n, .int .u8 k] ∧ Below w.heap.size w s15 from ⟨PP.out.1.grown hg (by intro h; injection h with h; omega), below_grownM PP.out.2 hg PP.out.2.size (by omega)⟩)
          clear hc hg hz
          refine hK.out _ _ (PP) (fun hHeld => ?_)
          clear hK KK
          try simp only [pnz]
          refine rd1 16 fun KK hK => ?_
          refine step_store_cb rfl 24 (.tmp 8) (.tmp 44) rfl (v12.heap.size) [.int .i64 K, .slice A12 m c12] rfl rfl 24 [.int .i64 0, .slice none 0 0] 2 K14.out infoB rfl rfl oneB ?_
          intro s16 hc hg hz
          replace O6 := Li (owns_kept O6.out hg (.inr (fun e => owns_ne O6.out K14.out (by decide) e.symm)))
          replace O12 := Li (owns_kept O12.out hg (.inr (fun e => owns_ne O12.out K14.out (by decide) e.symm)))
          replace K14 := Li hc
          replace K13 := Li (K13.out.grown hg (by intro h; injection h with h; omega))
          replace PP := Li (show CB s16 w.heap.size 39 [.slice A nk ck, .int .u8 n, .int .u8 k] ∧ Below w.heap.size w s16 from ⟨PP.out.1.grown hg (by intro h; injection h with h; omega), below_grownM PP.out.2 hg PP.out.2.size (by omega)⟩)
          clear hc hg hz
          refine hK.out _ _ (PP) (fun hHeld => ?_)
          clear hK KK
          try simp only [pnz]
          refine wpAnyH_done (by kernel_rfl) ?_ _
          go_wp2_with fail
          go_meet
          exact ⟨_, _, _, _, _, _, rfl, rfl, Li ⟨K13.out, (Owns.shows O6.out).2.2, owns_q O6.out⟩, Li ⟨K14.out, (Owns.shows O12.out).2.2, owns_q O12.out⟩, PP⟩
        · go_simp
          have q14 : w.heap.size < v6.heap.size := PP.out.1.lt
          have q1314 : X4.heap.size < v6.heap.size := K13.out.lt
          have hbb := al1 v6 (.cells #[.int .i64 0, .slice none 0 0] 24)
          have K14 := Li (CB.new v6 24 [.int .i64 0, .slice none 0 0])
          replace K13 := Li (K13.out.up hbb)
          replace O6 := Li (owns_upB O6.out hbb)
          replace PP := Li (show CB (v6.alloc (.cells #[.int .i64 0, .slice none 0 0] 24)) w.heap.size 39 [.slice A nk ck, .int .u8 n, .int .u8 k] ∧ Below w.heap.size w (v6.alloc (.cells #[.int .i64 0, .slice none 0 0] 24)) from ⟨PP.out.1.up hbb, below_step PP.out.2 PP.out.2.size hbb⟩)
          clear hbb
          refine hK.out _ _ (PP) (fun hHeld => ?_)
          clear hK KK
          try simp only [pnz]
          generalize v6.alloc (.cells #[.int .i64 0, .slice none 0 0] 24) = v14 at *
          refine rd1 12 fun KK hK => ?_
          go_simp
          go_at_call 21
          refine (build_any B mk dk r k os _ HMK.out (HOS.out.up PP.out.2) hr256 hk (HG.out.up PP.out.2) HL2.out).mono ?_
          rintro e v12 ⟨⟨A12, c12, rfl, ho⟩, hb⟩
          rw [QB.out, HM.out] at ho
          rw [HK.out, HM.out]
          have O12 := Li (owns_low ho PP.out.2.size)
          replace K13 := Li (K13.out.up hb)
          replace K14 := Li (K14.out.up hb)
          replace O6 := Li (owns_upB O6.out hb)
          replace PP := Li (show CB v12 w.heap.size 39 [.slice A nk ck, .int .u8 n, .int .u8 k] ∧ Below w.heap.size w v12 from ⟨PP.out.1.up hb, below_step PP.out.2 PP.out.2.size hb⟩)
          clear hb ho
          go_wp2_with fail
          refine hK.out _ _ (PP) (fun hHeld => ?_)
          clear hK KK
          try simp only [pnz]
          refine rd1 15 fun KK hK => ?_
          refine step_store_cb rfl 24 (.tmp 7) (.tmp 38) rfl (X4.heap.size) [.int .i64 K, .slice A6 m c6] rfl rfl 24 [.int .i64 0, .slice none 0 0] 2 K13.out infoB rfl rfl oneB ?_
          intro s15 hc hg hz
          replace O6 := Li (owns_kept O6.out hg (.inr (fun e => owns_ne O6.out K13.out (by decide) e.symm)))
          replace O12 := Li (owns_kept O12.out hg (.inr (fun e => owns_ne O12.out K13.out (by decide) e.symm)))
          replace K13 := Li hc
          replace K14 := Li (K14.out.grown hg (by intro h; injection h with h; omega))
          replace PP := Li (show CB s15 w.heap.size 39 [.slice A nk ck, .int .u8 n, .int .u8 k] ∧ Below w.heap.size w s15 from ⟨PP.out.1.grown hg (by intro h; injection h with h; omega), below_grownM PP.out.2 hg PP.out.2.size (by omega)⟩)
          clear hc hg hz
          refine hK.out _ _ (PP) (fun hHeld => ?_)
          clear hK KK
          try simp only [pnz]
          refine rd1 16 fun KK hK => ?_
          refine step_store_cb rfl 24 (.tmp 8) (.tmp 44) rfl (v6.heap.size) [.int .i64 K, .slice A12 m c12] rfl rfl 24 [.int .i64 0, .slice none 0 0] 2 K14.out infoB rfl rfl oneB ?_
          intro s16 hc hg hz
          replace O6 := Li (owns_kept O6.out hg (.inr (fun e => owns_ne O6.out K14.out (by decide) e.symm)))
          replace O12 := Li (owns_kept O12.out hg (.inr (fun e => owns_ne O12.out K14.out (by decide) e.symm)))
          replace K14 := Li hc
          replace K13 := Li (K13.out.grown hg (by intro h; injection h with h; omega))
          replace PP := Li (show CB s16 w.heap.size 39 [.slice A nk ck, .int .u8 n, .int .u8 k] ∧ Below w.heap.size w s16 from ⟨PP.out.1.grown hg (by intro h; injection h with h; omega), below_grownM PP.out.2 hg PP.out.2.size (by omega)⟩)
          clear hc hg hz
          refine hK.out _ _ (PP) (fun hHeld => ?_)
          clear hK KK
          try simp only [pnz]
          refine wpAnyH_done (by kernel_rfl) ?_ _
          go_wp2_with fail
          go_meet
          exact ⟨_, _, _, _, _, _, rfl, rfl, Li ⟨K13.out, (Owns.shows O6.out).2.2, owns_q O6.out⟩, Li ⟨K14.out, (Owns.shows O12.out).2.2, owns_q O12.out⟩, PP⟩
      · go_simp
        have q14 : w.heap.size < v13.heap.size := PP.out.1.lt
        have q1314 : X4.heap.size < v13.heap.size := K13.out.lt
        have hbb := al1 v13 (.cells #[.int .i64 0, .slice none 0 0] 24)
        have K14 := Li (CB.new v13 24 [.int .i64 0, .slice none 0 0])
        replace K13 := Li (K13.out.up hbb)
        replace PP := Li (show CB (v13.alloc (.cells #[.int .i64 0, .slice none 0 0] 24)) w.heap.size 39 [.slice A nk ck, .int .u8 n, .int .u8 k] ∧ Below w.heap.size w (v13.alloc (.cells #[.int .i64 0, .slice none 0 0] 24)) from ⟨PP.out.1.up hbb, below_step PP.out.2 PP.out.2.size hbb⟩)
        clear hbb
        refine hK.out _ _ (PP) (fun hHeld => ?_)
        clear hK KK
        try simp only [pnz]
        generalize v13.alloc (.cells #[.int .i64 0, .slice none 0 0] 24) = v14 at *
        refine rd1 6 fun KK hK => ?_
        go_simp
        go_at_call 21
        refine (build_any A nk ck r k ks _ HNK.out (HKS.out.up PP.out.2) hr256 hk (HG.out.up PP.out.2) HL1.out).mono ?_
        rintro e v6 ⟨⟨A6, c6, rfl, ho⟩, hb⟩
        rw [QA.out, HM.out] at ho
        rw [HK.out, HM.out]
        have O6 := Li (owns_low ho PP.out.2.size)
        replace K13 := Li (K13.out.up hb)
        replace K14 := Li (K14.out.up hb)
        replace PP := Li (show CB v6 w.heap.size 39 [.slice A nk ck, .int .u8 n, .int .u8 k] ∧ Below w.heap.size w v6 from ⟨PP.out.1.up hb, below_step PP.out.2 PP.out.2.size hb⟩)
        clear hb ho
        go_wp2_with fail
        refine hK.out _ _ (PP) (fun hHeld => ?_)
        clear hK KK
        try simp only [pnz]
        refine rd1 12 fun KK hK => ?_
        go_simp
        go_at_call 21
        refine (build_any B mk dk r k os _ HMK.out (HOS.out.up PP.out.2) hr256 hk (HG.out.up PP.out.2) HL2.out).mono ?_
        rintro e v12 ⟨⟨A12, c12, rfl, ho⟩, hb⟩
        rw [QB.out, HM.out] at ho
        rw [HK.out, HM.out]
        have O12 := Li (owns_low ho PP.out.2.size)
        replace K13 := Li (K13.out.up hb)
        replace K14 := Li (K14.out.up hb)
        replace O6 := Li (owns_upB O6.out hb)
        replace PP := Li (show CB v12 w.heap.size 39 [.slice A nk ck, .int .u8 n, .int .u8 k] ∧ Below w.heap.size w v12 from ⟨PP.out.1.up hb, below_step PP.out.2 PP.out.2.size hb⟩)
        clear hb ho
        go_wp2_with fail
        refine hK.out _ _ (PP) (fun hHeld => ?_)
        clear hK KK
        try simp only [pnz]
        refine rd1 15 fun KK hK => ?_
        refine step_store_cb rfl 24 (.tmp 7) (.tmp 38) rfl (X4.heap.size) [.int .i64 K, .slice A6 m c6] rfl rfl 24 [.int .i64 0, .slice none 0 0] 2 K13.out infoB rfl rfl oneB ?_
        intro s15 hc hg hz
        replace O6 := Li (owns_kept O6.out hg (.inr (fun e => owns_ne O6.out K13.out (by decide) e.symm)))
        replace O12 := Li (owns_kept O12.out hg (.inr (fun e => owns_ne O12.out K13.out (by decide) e.symm)))
        replace K13 := Li hc
        replace K14 := Li (K14.out.grown hg (by intro h; injection h with h; omega))
        replace PP := Li (show CB s15 w.heap.size 39 [.slice A nk ck, .int .u8 n, .int .u8 k] ∧ Below w.heap.size w s15 from ⟨PP.out.1.grown hg (by intro h; injection h with h; omega), below_grownM PP.out.2 hg PP.out.2.size (by omega)⟩)
        clear hc hg hz
        refine hK.out _ _ (PP) (fun hHeld => ?_)
        clear hK KK
        try simp only [pnz]
        refine rd1 16 fun KK hK => ?_
        refine step_store_cb rfl 24 (.tmp 8) (.tmp 44) rfl (v13.heap.size) [.int .i64 K, .slice A12 m c12] rfl rfl 24 [.int .i64 0, .slice none 0 0] 2 K14.out infoB rfl rfl oneB ?_
        intro s16 hc hg hz
        replace O6 := Li (owns_kept O6.out hg (.inr (fun e => owns_ne O6.out K14.out (by decide) e.symm)))
        replace O12 := Li (owns_kept O12.out hg (.inr (fun e => owns_ne O12.out K14.out (by decide) e.symm)))
        replace K14 := Li hc
        replace K13 := Li (K13.out.grown hg (by intro h; injection h with h; omega))
        replace PP := Li (show CB s16 w.heap.size 39 [.slice A nk ck, .int .u8 n, .int .u8 k] ∧ Below w.heap.size w s16 from ⟨PP.out.1.grown hg (by intro h; injection h with h; omega), below_grownM PP.out.2 hg PP.out.2.size (by omega)⟩)
        clear hc hg hz
        refine hK.out _ _ (PP) (fun hHeld => ?_)
        clear hK KK
        try simp only [pnz]
        refine wpAnyH_done (by kernel_rfl) ?_ _
        go_wp2_with fail
        go_meet
        exact ⟨_, _, _, _, _, _, rfl, rfl, Li ⟨K13.out, (Owns.shows O6.out).2.2, owns_q O6.out⟩, Li ⟨K14.out, (Owns.shows O12.out).2.2, owns_q O12.out⟩, PP⟩
    · go_simp
      have q14 : w.heap.size < X4.heap.size := PP.out.1.lt
      have hbb := al1 X4 (.cells #[.int .i64 0, .slice none 0 0] 24)
      have K14 := Li (CB.new X4 24 [.int .i64 0, .slice none 0 0])
      replace PP := Li (show CB (X4.alloc (.cells #[.int .i64 0, .slice none 0 0] 24)) w.heap.size 39 [.slice A nk ck, .int .u8 n, .int .u8 k] ∧ Below w.heap.size w (X4.alloc (.cells #[.int .i64 0, .slice none 0 0] 24)) from ⟨PP.out.1.up hbb, below_step PP.out.2 PP.out.2.size hbb⟩)
      clear hbb
      refine hK.out _ _ (PP) (fun hHeld => ?_)
      clear hK KK
      try simp only [pnz]
      generalize X4.alloc (.cells #[.int .i64 0, .slice none 0 0] 24) = v14 at *
      refine rd2 6 13 (fun KK hK => ?_) (fun KK hK => ?_)
      · go_simp
        go_at_call 21
        refine (build_any A nk ck r k ks _ HNK.out (HKS.out.up PP.out.2) hr256 hk (HG.out.up PP.out.2) HL1.out).mono ?_
        rintro e v6 ⟨⟨A6, c6, rfl, ho⟩, hb⟩
        rw [QA.out, HM.out] at ho
        rw [HK.out, HM.out]
        have O6 := Li (owns_low ho PP.out.2.size)
        replace K14 := Li (K14.out.up hb)
        replace PP := Li (show CB v6 w.heap.size 39 [.slice A nk ck, .int .u8 n, .int .u8 k] ∧ Below w.heap.size w v6 from ⟨PP.out.1.up hb, below_step PP.out.2 PP.out.2.size hb⟩)
        clear hb ho
        go_wp2_with fail
        refine hK.out _ _ (PP) (fun hHeld => ?_)
        clear hK KK
        try simp only [pnz]
        refine rd2 12 13 (fun KK hK => ?_) (fun KK hK => ?_)
        · go_simp
          go_at_call 21
          refine (build_any B mk dk r k os _ HMK.out (HOS.out.up PP.out.2) hr256 hk (HG.out.up PP.out.2) HL2.out).mono ?_
          rintro e v12 ⟨⟨A12, c12, rfl, ho⟩, hb⟩
          rw [QB.out, HM.out] at ho
          rw [HK.out, HM.out]
          have O12 := Li (owns_low ho PP.out.2.size)
          replace K14 := Li (K14.out.up hb)
          replace O6 := Li (owns_upB O6.out hb)
          replace PP := Li (show CB v12 w.heap.size 39 [.slice A nk ck, .int .u8 n, .int .u8 k] ∧ Below w.heap.size w v12 from ⟨PP.out.1.up hb, below_step PP.out.2 PP.out.2.size hb⟩)
          clear hb ho
          go_wp2_with fail
          refine hK.out _ _ (PP) (fun hHeld => ?_)
          clear hK KK
          try simp only [pnz]
          refine rd1 13 fun KK hK => ?_
          go_simp
          have q13 : w.heap.size < v12.heap.size := PP.out.1.lt
          have q1413 : X4.heap.size < v12.heap.size := K14.out.lt
          have hbb := al1 v12 (.cells #[.int .i64 0, .slice none 0 0] 24)
          have K13 := Li (CB.new v12 24 [.int .i64 0, .slice none 0 0])
          replace K14 := Li (K14.out.up hbb)
          replace O6 := Li (owns_upB O6.out hbb)
          replace O12 := Li (owns_upB O12.out hbb)
          replace PP := Li (show CB (v12.alloc (.cells #[.int .i64 0, .slice none 0 0] 24)) w.heap.size 39 [.slice A nk ck, .int .u8 n, .int .u8 k] ∧ Below w.heap.size w (v12.alloc (.cells #[.int .i64 0, .slice none 0 0] 24)) from ⟨PP.out.1.up hbb, below_step PP.out.2 PP.out.2.size hbb⟩)
          clear hbb
          refine hK.out _ _ (PP) (fun hHeld => ?_)
          clear hK KK
          try simp only [pnz]
          generalize v12.alloc (.cells #[.int .i64 0, .slice none 0 0] 24) = v13 at *
          refine rd1 15 fun KK hK => ?_
          refine step_store_cb rfl 24 (.tmp 7) (.tmp 38) rfl (v12.heap.size) [.int .i64 K, .slice A6 m c6] rfl rfl 24 [.int .i64 0, .slice none 0 0] 2 K13.out infoB rfl rfl oneB ?_
          intro s15 hc hg hz
          replace O6 := Li (owns_kept O6.out hg (.inr (fun e => owns_ne O6.out K13.out (by decide) e.symm)))
          replace O12 := Li (owns_kept O12.out hg (.inr (fun e => owns_ne O12.out K13.out (by decide) e.symm)))
          replace K13 := Li hc
          replace K14 := Li (K14.out.grown hg (by intro h; injection h with h; omega))
          replace PP := Li (show CB s15 w.heap.size 39 [.slice A nk ck, .int .u8 n, .int .u8 k] ∧ Below w.heap.size w s15 from ⟨PP.out.1.grown hg (by intro h; injection h with h; omega), below_grownM PP.out.2 hg PP.out.2.size (by omega)⟩)
          clear hc hg hz
          refine hK.out _ _ (PP) (fun hHeld => ?_)
          clear hK KK
          try simp only [pnz]
          refine rd1 16 fun KK hK => ?_
          refine step_store_cb rfl 24 (.tmp 8) (.tmp 44) rfl (X4.heap.size) [.int .i64 K, .slice A12 m c12] rfl rfl 24 [.int .i64 0, .slice none 0 0] 2 K14.out infoB rfl rfl oneB ?_
          intro s16 hc hg hz
          replace O6 := Li (owns_kept O6.out hg (.inr (fun e => owns_ne O6.out K14.out (by decide) e.symm)))
          replace O12 := Li (owns_kept O12.out hg (.inr (fun e => owns_ne O12.out K14.out (by decide) e.symm)))
          replace K14 := Li hc
          replace K13 := Li (K13.out.grown hg (by intro h; injection h with h; omega))
          replace PP := Li (show CB s16 w.heap.size 39 [.slice A nk ck, .int .u8 n, .int .u8 k] ∧ Below w.heap.size w s16 from ⟨PP.out.1.grown hg (by intro h; injection h with h; omega), below_grownM PP.out.2 hg PP.out.2.size (by omega)⟩)
          clear hc hg hz
          refine hK.out _ _ (PP) (fun hHeld => ?_)
          clear hK KK
          try simp only [pnz]
          refine wpAnyH_done (by kernel_rfl) ?_ _
          go_wp2_with fail
          go_meet
          exact ⟨_, _, _, _, _, _, rfl, rfl, Li ⟨K13.out, (Owns.shows O6.out).2.2, owns_q O6.out⟩, Li ⟨K14.out, (Owns.shows O12.out).2.2, owns_q O12.out⟩, PP⟩
        · go_simp
          have q13 : w.heap.size < v6.heap.size := PP.out.1.lt
          have q1413 : X4.heap.size < v6.heap.size := K14.out.lt
          have hbb := al1 v6 (.cells #[.int .i64 0, .slice none 0 0] 24)
          have K13 := Li (CB.new v6 24 [.int .i64 0, .slice none 0 0])
          replace K14 := Li (K14.out.up hbb)
          replace O6 := Li (owns_upB O6.out hbb)
          replace PP := Li (show CB (v6.alloc (.cells #[.int .i64 0, .slice none 0 0] 24)) w.heap.size 39 [.slice A nk ck, .int .u8 n, .int .u8 k] ∧ Below w.heap.size w (v6.alloc (.cells #[.int .i64 0, .slice none 0 0] 24)) from ⟨PP.out.1.up hbb, below_step PP.out.2 PP.out.2.size hbb⟩)
          clear hbb
          refine hK.out _ _ (PP) (fun hHeld => ?_)
          clear hK KK
          try simp only [pnz]
          generalize v6.alloc (.cells #[.int .i64 0, .slice none 0 0] 24) = v13 at *
          refine rd1 12 fun KK hK => ?_
          go_simp
          go_at_call 21
          refine (build_any B mk dk r k os _ HMK.out (HOS.out.up PP.out.2) hr256 hk (HG.out.up PP.out.2) HL2.out).mono ?_
          rintro e v12 ⟨⟨A12, c12, rfl, ho⟩, hb⟩
          rw [QB.out, HM.out] at ho
          rw [HK.out, HM.out]
          have O12 := Li (owns_low ho PP.out.2.size)
          replace K13 := Li (K13.out.up hb)
          replace K14 := Li (K14.out.up hb)
          replace O6 := Li (owns_upB O6.out hb)
          replace PP := Li (show CB v12 w.heap.size 39 [.slice A nk ck, .int .u8 n, .int .u8 k] ∧ Below w.heap.size w v12 from ⟨PP.out.1.up hb, below_step PP.out.2 PP.out.2.size hb⟩)
          clear hb ho
          go_wp2_with fail
          refine hK.out _ _ (PP) (fun hHeld => ?_)
          clear hK KK
          try simp only [pnz]
          refine rd1 15 fun KK hK => ?_
          refine step_store_cb rfl 24 (.tmp 7) (.tmp 38) rfl (v6.heap.size) [.int .i64 K, .slice A6 m c6] rfl rfl 24 [.int .i64 0, .slice none 0 0] 2 K13.out infoB rfl rfl oneB ?_
          intro s15 hc hg hz
          replace O6 := Li (owns_kept O6.out hg (.inr (fun e => owns_ne O6.out K13.out (by decide) e.symm)))
          replace O12 := Li (owns_kept O12.out hg (.inr (fun e => owns_ne O12.out K13.out (by decide) e.symm)))
          replace K13 := Li hc
          replace K14 := Li (K14.out.grown hg (by intro h; injection h with h; omega))
          replace PP := Li (show CB s15 w.heap.size 39 [.slice A nk ck, .int .u8 n, .int .u8 k] ∧ Below w.heap.size w s15 from ⟨PP.out.1.grown hg (by intro h; injection h with h; omega), below_grownM PP.out.2 hg PP.out.2.size (by omega)⟩)
          clear hc hg hz
          refine hK.out _ _ (PP) (fun hHeld => ?_)
          clear hK KK
          try simp only [pnz]
          refine rd1 16 fun KK hK => ?_
          refine step_store_cb rfl 24 (.tmp 8) (.tmp 44) rfl (X4.heap.size) [.int .i64 K, .slice A12 m c12] rfl rfl 24 [.int .i64 0, .slice none 0 0] 2 K14.out infoB rfl rfl oneB ?_
          intro s16 hc hg hz
          replace O6 := Li (owns_kept O6.out hg (.inr (fun e => owns_ne O6.out K14.out (by decide) e.symm)))
          replace O12 := Li (owns_kept O12.out hg (.inr (fun e => owns_ne O12.out K14.out (by decide) e.symm)))
          replace K14 := Li hc
          replace K13 := Li (K13.out.grown hg (by intro h; injection h with h; omega))
          replace PP := Li (show CB s16 w.heap.size 39 [.slice A nk ck, .int .u8 n, .int .u8 k] ∧ Below w.heap.size w s16 from ⟨PP.out.1.grown hg (by intro h; injection h with h; omega), below_grownM PP.out.2 hg PP.out.2.size (by omega)⟩)
          clear hc hg hz
          refine hK.out _ _ (PP) (fun hHeld => ?_)
          clear hK KK
          try simp only [pnz]
          refine wpAnyH_done (by kernel_rfl) ?_ _
          go_wp2_with fail
          go_meet
          exact ⟨_, _, _, _, _, _, rfl, rfl, Li ⟨K13.out, (Owns.shows O6.out).2.2, owns_q O6.out⟩, Li ⟨K14.out, (Owns.shows O12.out).2.2, owns_q O12.out⟩, PP⟩
      · go_simp
        have q13 : w.heap.size < v14.heap.size := PP.out.1.lt
        have q1413 : X4.heap.size < v14.heap.size := K14.out.lt
        have hbb := al1 v14 (.cells #[.int .i64 0, .slice none 0 0] 24)
        have K13 := Li (CB.new v14 24 [.int .i64 0, .slice none 0 0])
        replace K14 := Li (K14.out.up hbb)
        replace PP := Li (show CB (v14.alloc (.cells #[.int .i64 0, .slice none 0 0] 24)) w.heap.size 39 [.slice A nk ck, .int .u8 n, .int .u8 k] ∧ Below w.heap.size w (v14.alloc (.cells #[.int .i64 0, .slice none 0 0] 24)) from ⟨PP.out.1.up hbb, below_step PP.out.2 PP.out.2.size hbb⟩)
        clear hbb
        refine hK.out _ _ (PP) (fun hHeld => ?_)
        clear hK KK
        try simp only [pnz]
        generalize v14.alloc (.cells #[.int .i64 0, .slice none 0 0] 24) = v13 at *
        refine rd1 6 fun KK hK => ?_
        go_simp
        go_at_call 21
        refine (build_any A nk ck r k ks _ HNK.out (HKS.out.up PP.out.2) hr256 hk (HG.out.up PP.out.2) HL1.out).mono ?_
        rintro e v6 ⟨⟨A6, c6, rfl, ho⟩, hb⟩
        rw [QA.out, HM.out] at ho
        rw [HK.out, HM.out]
        have O6 := Li (owns_low ho PP.out.2.size)
        replace K13 := Li (K13.out.up hb)
        replace K14 := Li (K14.out.up hb)
        replace PP := Li (show CB v6 w.heap.size 39 [.slice A nk ck, .int .u8 n, .int .u8 k] ∧ Below w.heap.size w v6 from ⟨PP.out.1.up hb, below_step PP.out.2 PP.out.2.size hb⟩)
        clear hb ho
        go_wp2_with fail
        refine hK.out _ _ (PP) (fun hHeld => ?_)
        clear hK KK
        try simp only [pnz]
        refine rd1 12 fun KK hK => ?_
        go_simp
        go_at_call 21
        refine (build_any B mk dk r k os _ HMK.out (HOS.out.up PP.out.2) hr256 hk (HG.out.up PP.out.2) HL2.out).mono ?_
        rintro e v12 ⟨⟨A12, c12, rfl, ho⟩, hb⟩
        rw [QB.out, HM.out] at ho
        rw [HK.out, HM.out]
        have O12 := Li (owns_low ho PP.out.2.size)
        replace K13 := Li (K13.out.up hb)
        replace K14 := Li (K14.out.up hb)
        replace O6 := Li (owns_upB O6.out hb)
        replace PP := Li (show CB v12 w.heap.size 39 [.slice A nk ck, .int .u8 n, .int .u8 k] ∧ Below w.heap.size w v12 from ⟨PP.out.1.up hb, below_step PP.out.2 PP.out.2.size hb⟩)
        clear hb ho
        go_wp2_with fail
        refine hK.out _ _ (PP) (fun hHeld => ?_)
        clear hK KK
        try simp only [pnz]
        refine rd1 15 fun KK hK => ?_
        refine step_store_cb rfl 24 (.tmp 7) (.tmp 38) rfl (v14.heap.size) [.int .i64 K, .slice A6 m c6] rfl rfl 24 [.int .i64 0, .slice none 0 0] 2 K13.out infoB rfl rfl oneB ?_
        intro s15 hc hg hz
        replace O6 := Li (owns_kept O6.out hg (.inr (fun e => owns_ne O6.out K13.out (by decide) e.symm)))
        replace O12 := Li (owns_kept O12.out hg (.inr (fun e => owns_ne O12.out K13.out (by decide) e.symm)))
        replace K13 := Li hc
        replace K14 := Li (K14.out.grown hg (by intro h; injection h with h; omega))
        replace PP := Li (show CB s15 w.heap.size 39 [.slice A nk ck, .int .u8 n, .int .u8 k] ∧ Below w.heap.size w s15 from ⟨PP.out.1.grown hg (by intro h; injection h with h; omega), below_grownM PP.out.2 hg PP.out.2.size (by omega)⟩)
        clear hc hg hz
        refine hK.out _ _ (PP) (fun hHeld => ?_)
        clear hK KK
        try simp only [pnz]
        refine rd1 16 fun KK hK => ?_
        refine step_store_cb rfl 24 (.tmp 8) (.tmp 44) rfl (X4.heap.size) [.int .i64 K, .slice A12 m c12] rfl rfl 24 [.int .i64 0, .slice none 0 0] 2 K14.out infoB rfl rfl oneB ?_
        intro s16 hc hg hz
        replace O6 := Li (owns_kept O6.out hg (.inr (fun e => owns_ne O6.out K14.out (by decide) e.symm)))
        replace O12 := Li (owns_kept O12.out hg (.inr (fun e => owns_ne O12.out K14.out (by decide) e.symm)))
        replace K14 := Li hc
        replace K13 := Li (K13.out.grown hg (by intro h; injection h with h; omega))
        replace PP := Li (show CB s16 w.heap.size 39 [.slice A nk ck, .int .u8 n, .int .u8 k] ∧ Below w.heap.size w s16 from ⟨PP.out.1.grown hg (by intro h; injection h with h; omega), below_grownM PP.out.2 hg PP.out.2.size (by omega)⟩)
        clear hc hg hz
        refine hK.out _ _ (PP) (fun hHeld => ?_)
        clear hK KK
        try simp only [pnz]
        refine wpAnyH_done (by kernel_rfl) ?_ _
        go_wp2_with fail
        go_meet
        exact ⟨_, _, _, _, _, _, rfl, rfl, Li ⟨K13.out, (Owns.shows O6.out).2.2, owns_q O6.out⟩, Li ⟨K14.out, (Owns.shows O12.out).2.2, owns_q O12.out⟩, PP⟩
  case rest =>
    clear PP
    obtain ⟨p7, p8, c7, c8, A7, A8, rfl, rfl, XA, XB, PP⟩ := hcut
    generalize wc = V0 at *
    obtain ⟨y0, z0⟩ := XA.out.b.c2
    have t0 := XA.out.b.lt
    go_upto_region 7 with (go_at_call 11; refine (Fold_ok (K : Int) A7 m c7 h a _ EA.out.symm HNR.out hN1 XA.out.q.1 XA.out.q.2 (by omega) XA.out.s V1.out).mono ?_; rintro e w6 ⟨⟨A9, c9, rfl, ho⟩, hb⟩; rw [FA.out] at ho; have HO := Li ho; have BB := Li hb; clear ho hb)
    clear y0 z0 t0
    have bb := below_step BB.out BB.out.size (al1 w6 (.cells #[.int .i64 K, .slice A9 h c9] 24))
    replace XA := Li (XA.out.up bb)
    replace XB := Li (XB.out.up bb)
    replace PP := Li (show CB (w6.alloc (.cells #[.int .i64 K, .slice A9 h c9] 24)) w.heap.size 39 [.slice A nk ck, .int .u8 n, .int .u8 k] ∧ Below w.heap.size w (w6.alloc (.cells #[.int .i64 K, .slice A9 h c9] 24)) from ⟨PP.out.1.up bb, below_step PP.out.2 PP.out.2.size bb⟩)
    have X9 := Li (sk_new (K := (K : Int)) (w2 := w6.alloc (.cells #[.int .i64 K, .slice A9 h c9] 24)) HO.out rfl)
    clear HO BB bb
    generalize w6.alloc (.cells #[.int .i64 K, .slice A9 h c9] 24) = V7 at *
    generalize w6.heap.size = p9 at *
    obtain ⟨y0, z0⟩ := XB.out.b.c2
    have t0 := XB.out.b.lt
    go_upto_region 8 with (go_at_call 11; refine (Fold_ok (K : Int) A8 m c8 h b _ EB.out.symm HNR.out hN1 XB.out.q.1 XB.out.q.2 (by omega) XB.out.s V1.out).mono ?_; rintro e w7 ⟨⟨A11, c11, rfl, ho⟩, hb⟩; rw [FB.out] at ho; have HO := Li ho; have BB := Li hb; clear ho hb)
    clear y0 z0 t0
    have bb := below_step BB.out BB.out.size (al1 w7 (.cells #[.int .i64 K, .slice A11 h c11] 24))
    replace XA := Li (XA.out.up bb)
    replace XB := Li (XB.out.up bb)
    replace X9 := Li (X9.out.up bb)
    replace PP := Li (show CB (w7.alloc (.cells #[.int .i64 K, .slice A11 h c11] 24)) w.heap.size 39 [.slice A nk ck, .int .u8 n, .int .u8 k] ∧ Below w.heap.size w (w7.alloc (.cells #[.int .i64 K, .slice A11 h c11] 24)) from ⟨PP.out.1.up bb, below_step PP.out.2 PP.out.2.size bb⟩)
    have X11 := Li (sk_new (K := (K : Int)) (w2 := w7.alloc (.cells #[.int .i64 K, .slice A11 h c11] 24)) HO.out rfl)
    clear HO BB bb
    generalize w7.alloc (.cells #[.int .i64 K, .slice A11 h c11] 24) = V8 at *
    generalize w7.heap.size = p11 at *
    obtain ⟨y0, z0⟩ := XA.out.b.c2
    have t0 := XA.out.b.lt
    obtain ⟨y1, z1⟩ := XB.out.b.c2
    have t1 := XB.out.b.lt
    go_upto_region 9 with (go_at_call 9; refine (Union_ok (K : Int) A7 A8 m c7 c8 a b _ EA.out.symm EB.out.symm (by omega) XA.out.s XB.out.s V1.out).mono ?_; rintro e w8 ⟨⟨A13, c13, rfl, ho⟩, hb⟩; rw [OAB.out] at ho; have HO := Li ho; have BB := Li hb; clear ho hb)
    clear y0 z0 t0
    clear y1 z1 t1
    have bb := below_step BB.out BB.out.size (al1 w8 (.cells #[.int .i64 K, .slice A13 m c13] 24))
    replace XA := Li (XA.out.up bb)
    replace XB := Li (XB.out.up bb)
    replace X9 := Li (X9.out.up bb)
    replace X11 := Li (X11.out.up bb)
    replace PP := Li (show CB (w8.alloc (.cells #[.int .i64 K, .slice A13 m c13] 24)) w.heap.size 39 [.slice A nk ck, .int .u8 n, .int .u8 k] ∧ Below w.heap.size w (w8.alloc (.cells #[.int .i64 K, .slice A13 m c13] 24)) from ⟨PP.out.1.up bb, below_step PP.out.2 PP.out.2.size bb⟩)
    have X13 := Li (sk_new (K := (K : Int)) (w2 := w8.alloc (.cells #[.int .i64 K, .slice A13 m c13] 24)) HO.out rfl)
    clear HO BB bb
    generalize w8.alloc (.cells #[.int .i64 K, .slice A13 m c13] 24) = V9 at *
    generalize w8.heap.size = p13 at *
    obtain ⟨y0, z0⟩ := X13.out.b.c2
    have t0 := X13.out.b.lt
    go_upto_region 10 with (go_at_call 11; refine (Fold_ok (K : Int) A13 m c13 h ab _ EAB.out.symm HNR.out hN1 X13.out.q.1 X13.out.q.2 (by omega) X13.out.s V1.out).mono ?_; rintro e w9 ⟨⟨A15, c15, rfl, ho⟩, hb⟩; rw [FX.out] at ho; have HO := Li ho; have BB := Li hb; clear ho hb)
    clear y0 z0 t0
    have bb := below_step BB.out BB.out.size (al1 w9 (.cells #[.int .i64 K, .slice A15 h c15] 24))
    replace XA := Li (XA.out.up bb)
    replace XB := Li (XB.out.up bb)
    replace X9 := Li (X9.out.up bb)
    replace X11 := Li (X11.out.up bb)
    replace X13 := Li (X13.out.up bb)
    replace PP := Li (show CB (w9.alloc (.cells #[.int .i64 K, .slice A15 h c15] 24)) w.heap.size 39 [.slice A nk ck, .int .u8 n, .int .u8 k] ∧ Below w.heap.size w (w9.alloc (.cells #[.int .i64 K, .slice A15 h c15] 24)) from ⟨PP.out.1.up bb, below_step PP.out.2 PP.out.2.size bb⟩)
    have X15 := Li (sk_new (K := (K : Int)) (w2 := w9.alloc (.cells #[.int .i64 K, .slice A15 h c15] 24)) HO.out rfl)
    clear HO BB bb
    generalize w9.alloc (.cells #[.int .i64 K, .slice A15 h c15] 24) = V10 at *
    generalize w9.heap.size = p15 at *
    obtain ⟨y0, z0⟩ := X9.out.b.c2
    have t0 := X9.out.b.lt
    obtain ⟨y1, z1⟩ := X11.out.b.c2
    have t1 := X11.out.b.lt
    go_upto_region 11 with (go_at_call 9; refine (Union_ok (K : Int) A9 A11 h c9 c11 la lb _ ELA.out.symm ELB.out.symm (by omega) X9.out.s X11.out.s V2.out).mono ?_; rintro e w10 ⟨⟨A17, c17, rfl, ho⟩, hb⟩; rw [OLX.out] at ho; have HO := Li ho; have BB := Li hb; clear ho hb)
    clear y0 z0 t0
    clear y1 z1 t1
    have bb := below_step BB.out BB.out.size (al1 w10 (.cells #[.int .i64 K, .slice A17 h c17] 24))
    replace XA := Li (XA.out.up bb)
    replace XB := Li (XB.out.up bb)
    replace X9 := Li (X9.out.up bb)
    replace X11 := Li (X11.out.up bb)
    replace X13 := Li (X13.out.up bb)
    replace X15 := Li (X15.out.up bb)
    replace PP := Li (show CB (w10.alloc (.cells #[.int .i64 K, .slice A17 h c17] 24)) w.heap.size 39 [.slice A nk ck, .int .u8 n, .int .u8 k] ∧ Below w.heap.size w (w10.alloc (.cells #[.int .i64 K, .slice A17 h c17] 24)) from ⟨PP.out.1.up bb, below_step PP.out.2 PP.out.2.size bb⟩)
    have X17 := Li (sk_new (K := (K : Int)) (w2 := w10.alloc (.cells #[.int .i64 K, .slice A17 h c17] 24)) HO.out rfl)
    clear HO BB bb
    generalize w10.alloc (.cells #[.int .i64 K, .slice A17 h c17] 24) = V11 at *
    generalize w10.heap.size = p17 at *
    replace PP := Li (show SZ w A nk ck n k p9 p15 p17 A9 A15 A17 c9 c15 c17 (K : Int) h la lx V11 from ⟨PP.out.1, X9.out, X15.out, X17.out, PP.out.2⟩)
    replace PP := Li (PP.out.up (bd V11))
    have hh9 : h ≤ 9223372036854775807 := by omega
    have u9 : IntKind.u8.wrap (r1 : Int) = (r1 : Int) := by rw [IntKind.wrap_u8]; omega
    clear XA XB X9 X11 X13 X15 X17 u1 u2 u3 u4 u7 hr10 hm1024
    refine wpM.start (D := [0, 1, 2, 4, 12, 20, 36, 64, 192, 320, 576, 1024, 3072, 5120, 9216, 16384, 49152, 81920, 147456, 262144, 262144, 1310720, 262144, 4456448, 262144, 17039360, 44302336, 67371008, 135004160, 268697600, 805306368, 1073741824, 1073741824, 7516192768, 9663676416, 25769803776, 34359738368, 103079215104, 274877906943]) (F := [0, 1, 2, 4, 12, 20, 32, 64, 192, 320, 512, 1024, 3072, 5120, 8192, 16384, 49152, 81920, 131072, 262144, 262144, 1310720, 262144, 4456448, 262144, 17039360, 44302336, 67371008, 135004160, 268697600, 536870912, 1073741824, 1073741824, 7516192768, 9663676416, 17179869184, 34359738368, 103079215104, 137438953472]) (S := fun X => Hid (SZ w A nk ck n k p9 p15 p17 A9 A15 A17 c9 c15 c17 (K : Int) h la lx X)) (by kernel_rfl) PP (by kernel_rfl) (by kernel_rfl) (by kernel_rfl) (fun hHeld => ?_)
    revert hHeld PP
    generalize V11.drew = X0
    intro PP hHeld
    refine mtk 0 1 ?_
    refine mtk 1 3 ?_
    refine mtk 2 7 ?_
    refine mtk 3 15 ?_
    refine mtk 4 31 ?_
    refine mtk 5 63 ?_
    refine mtk 6 127 ?_
    refine mtk 7 255 ?_
    refine mtk 8 511 ?_
    refine mtk 9 1023 ?_
    refine mtk 10 2047 ?_
    refine mtk 11 4095 ?_
    refine mtk 12 8191 ?_
    refine mtk 13 16383 ?_
    refine mtk 14 32767 ?_
    refine mtk 15 65535 ?_
    refine mtk 16 131071 ?_
    refine mtk 17 262143 ?_
    refine mtk 18 524287 ?_
    refine mtf 19 1048575 (fun _ h => And.intro h.out.x9.b.c2 h.out.x9.b.lt) ?_
    refine mtk 20 2097151 ?_
    refine mtf 21 4194303 (fun _ h => And.intro h.out.b.c3 h.out.b.lt) ?_
    refine mtk 22 8388607 ?_
    refine mtk 23 16777215 ?_
    refine mtk 24 33554431 ?_
    refine mtf 25 67108863 (fun _ h => And.intro h.out.b.c3 h.out.b.lt) ?_
    refine mtk 26 134217727 ?_
    refine md1 27 268435455 fun KK hK => ?_
    go_simp
    go_at_call 21
    refine (build_any A nk ck r1 k ks _ HNK.out (HKS.out.up PP.out.d) hr1256 hk (HG.out.up PP.out.d) HL1.out).mono ?_
    rintro e v99 ⟨⟨A99, c99, rfl, ho⟩, hb⟩
    rw [QLA.out, HH.out] at ho
    rw [HK.out, HH.out]
    have O99 := Li ho
    replace PP := Li (PP.out.up hb)
    clear hb ho
    go_wp2_with fail
    refine hK.out _ _ (PP) (fun hHeld => ?_)
    clear hK KK
    try simp only [pnz]
    refine md1 28 536870911 fun KK hK => ?_
    go_simp
    go_at_call 15
    refine (Same_eq (K : Int) A9 A99 h c9 c99 la _ ELA.out.symm hh9 PP.out.x9.s (Owns.shows O99.out).2.2).mono ?_
    rintro e v100 ⟨rfl, hb⟩
    replace PP := Li (PP.out.up hb)
    clear hb O99
    go_wp2_with fail
    refine hK.out _ _ (PP) (fun hHeld => ?_)
    clear hK KK
    try simp only [pnz]
    refine mtk 29 1073741823 ?_
    refine mtk 30 2147483647 ?_
    refine mtf 31 4294967295 (fun _ h => And.intro h.out.x15.b.c2 h.out.x15.b.lt) ?_
    refine mtf 32 8589934591 (fun _ h => And.intro h.out.x17.b.c2 h.out.x17.b.lt) ?_
    refine md1 33 17179869183 fun KK hK => ?_
    go_simp
    go_at_call 15
    refine (Same_eq (K : Int) A15 A17 h c15 c17 lx _ ELX.out.symm hh9 PP.out.x15.s PP.out.x17.s).mono ?_
    rintro e v105 ⟨rfl, hb⟩
    replace PP := Li (PP.out.up hb)
    clear hb
    go_wp2_with fail
    refine hK.out _ _ (PP) (fun hHeld => ?_)
    clear hK KK
    try simp only [pnz]
    refine mtk 34 34359738367 ?_
    refine mtk 35 68719476735 ?_
    refine mtk 36 137438953471 ?_
    refine mtk 37 274877906943 ?_
    refine mtk 38 549755813887 ?_
    refine done_m (of_decide_eq_true (by kernel_rfl)) (of_decide_eq_true (by kernel_rfl)) (by kernel_rfl) ?_
    go_wp2_with fail
    go_ret
    exact ⟨rfl, PP.out.d⟩
theorem walkF (A : Option Addr) (nk ck n k : Nat) (ks : List Ky) (B : Option Addr) (mk dk : Nat) (os : List Ky) (w : World) (hnk : nk = ks.length) (hks : KsAt w w.heap.size A ks) (hnl : nk ≤ 140737488351232) (hn : n < 256) (hk : k < 256) (hmk : mk = os.length) (hml : mk ≤ 140737488351232) (hos : KsAt w w.heap.size B os) (G : Glob w) :
    Calls Tryd.prog 6 #[.agg #[.slice A nk ck, .int .u8 n, .int .u8 k], .slice B mk dk] w fun e w' => e = .returned (.bool true) ∧ Below w.heap.size w w' := by
  cases h1 : longB ks with
  | true => exact long1 A B nk ck n k mk dk ks os w hnk hks hnl hmk hos hml G h1
  | false =>
    cases h2 : longB os with
    | true => exact long2 A B nk ck n k mk dk ks os w hnk hks hnl hmk hos hml G h1 h2
    | false => exact main A B nk ck n k mk dk ks os w hnk hks hnl hmk hos hml G hn hk h1 h2
end folds
end Go.Proofs.YtmdokldbggingaaDoor
