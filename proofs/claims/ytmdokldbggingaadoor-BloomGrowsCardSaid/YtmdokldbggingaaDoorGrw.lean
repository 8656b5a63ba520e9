/-
  BloomGrows, walked: adding a key sets at most K further bits, clears none, and changes nothing if the key is found.
-/
import Derived.Test.YtmdokldbggingaaDoorBlC
namespace Go.Proofs.YtmdokldbggingaaDoor
open Go.RowKit
namespace grows

theorem owns_empty9 (w : World) (o : Obj) : Owns ((w.alloc o).alloc (.cells #[] 5)) (w.heap.size + 1) (.slice (some ⟨w.heap.size + 1, 0, none⟩) 0 0) [] := by
  have := owns_empty8 (w.alloc o) #[] rfl
  rwa [asz] at this
theorem long_yes (A B : Option Addr) (nk ck n k bc : Nat) (ks : List Ky) (bl : List UInt8) (w : World) (hnk : nk = ks.length) (hks : KsAt w w.heap.size A ks) (hnl : nk ≤ 140737488351232) (G : Glob w) (hl : longB ks = true) :
    Calls Tryd.prog 7 #[.agg #[.slice A nk ck, .int .u8 n, .int .u8 k], .slice B bl.length bc] w fun e w' => e = .returned (.bool true) ∧ Below w.heap.size w w' := by
  have HG := Li G
  have HKS := Li hks
  have HNK := Li hnk
  have HL := Li hl
  clear G hks hnk hl
  go_enter Tryd.func7, Tryd.ntmps7
  go_wp2_with (first
    | (go_at_call 8; refine (sanity_any _ (HG.out.up (al1 w _))).mono ?_; rintro e w1 ⟨rfl, hb⟩; have P1 := Li ((CB.new w 39 [.slice A nk ck, .int .u8 n, .int .u8 k]).up hb); have B1 := Li (below_step (al1 w _) (al1 w _).size hb); obtain ⟨s0, s1, s2⟩ := P1.out.c3; have zs := P1.out.lt; clear hb)
    | (go_at_call 20; refine (long_any A nk ck ks _ HNK.out (HKS.out.up B1.out) (by omega)).mono ?_; rintro e w1 ⟨rfl, rfl⟩; rw [HL.out]))
  go_ret
  exact ⟨rfl, B1.out⟩
theorem key_long (A B : Option Addr) (nk ck n k bc : Nat) (ks : List Ky) (m : Nat) (w : World) (hnk : nk = ks.length) (hks : KsAt w w.heap.size A ks) (hnl : nk ≤ 140737488351232) (G : Glob w) (hl : longB ks = false) (hm : 300 < m) :
    Calls Tryd.prog 7 #[.agg #[.slice A nk ck, .int .u8 n, .int .u8 k], .slice B m bc] w fun e w' => e = .returned (.bool true) ∧ Below w.heap.size w w' := by
  have HG := Li G
  have HKS := Li hks
  have HNK := Li hnk
  have HL := Li hl
  have j1 : decide ((300 : Int) < (m : Int)) = true := decide_eq_true (by omega)
  clear G hks hnk hl hm
  go_enter Tryd.func7, Tryd.ntmps7
  go_wp2_with (first
    | (go_at_call 8; refine (sanity_any _ (HG.out.up (al1 w _))).mono ?_; rintro e w1 ⟨rfl, hb⟩; have P1 := Li ((CB.new w 39 [.slice A nk ck, .int .u8 n, .int .u8 k]).up hb); have B1 := Li (below_step (al1 w _) (al1 w _).size hb); obtain ⟨s0, s1, s2⟩ := P1.out.c3; have zs := P1.out.lt; clear hb)
    | (go_at_call 20; refine (long_any A nk ck ks _ HNK.out (HKS.out.up B1.out) (by omega)).mono ?_; rintro e w1 ⟨rfl, rfl⟩; rw [HL.out]))
  go_ret
  exact ⟨rfl, B1.out⟩
theorem Has_is (K : Int) (F : Option Addr) (m d : Nat) (fl : List UInt8) (A : Option Addr) (bm ca : Nat) (key : List UInt8) (b : Bool) (w : World) (hb : (bitsL K m key).all (tb fl) = b) (hbm : bm = key.length) (hm : m = fl.length) (hF : Shows w w.heap.size F fl) (hml : m ≤ 9223372036854775807) (hk : bm ≤ 999000) (hs : Shows w w.heap.size A key) (G : Glob w) :
    Calls Tryd.prog 18 #[.agg #[.int .i64 K, .slice F m d], .slice A bm ca] w fun e w' => e = .returned (.bool b) ∧ Below w.heap.size w w' := by
  subst hb hbm
  exact Has_any K F m d fl A ca key w hm hF hml hk hs G
theorem Add_is (K : Int) (F : Option Addr) (m d : Nat) (fl l2 : List UInt8) (A : Option Addr) (bm ca : Nat) (key : List UInt8) (w : World) (h2 : addB (bitsL K m key) fl = l2) (hbm : bm = key.length) (hm : m = fl.length) (hF : Shows w w.heap.size F fl) (hml : m ≤ 140737488351232) (hk : bm ≤ 999000) (hs : Shows w w.heap.size A key) (G : Glob w) :
    Calls Tryd.prog 16 #[.agg #[.int .i64 K, .slice F m d], .slice A bm ca] w fun e w' => RetA w w' K m l2 e ∧ Below w.heap.size w w' := by
  subst h2 hbm
  exact Add_any K F m d fl A ca key w hm hF hml hk hs G
theorem Ones_is (A : Option Addr) (n c : Nat) (l : List UInt8) (z : Nat) (w : World) (hz : ones l = z) (hn : n = l.length) (hl : n ≤ 1000000) (hs : Shows w w.heap.size A l) :
    Calls Tryd.prog 24 #[.slice A n c] w fun e w' => e = .returned (.int .i64 (z : Nat)) ∧ w' = w := by
  subst hz
  exact Ones_any A n c l w hn hl hs
theorem Equal_is (A B : Option Addr) (n c d : Nat) (l : List UInt8) (w : World) (hA : Shows w w.heap.size A l) (hB : Shows w w.heap.size B l) (hn : n = l.length) (hl : n ≤ 9223372036854775807) :
    Calls Tryd.prog 23 #[.slice A n c, .slice B n d] w fun e w' => e = .returned (.bool true) ∧ Below w.heap.size w w' :=
  (Equal_any A n c l B n d l w hA hB hn hn hl hl).mono fun e w' h => ⟨by rw [h.1]; simp, h.2⟩
/-- a sketch's box and its bytes -/
structure Sk (X : World) (p : Nat) (A : Option Addr) (c : Nat) (K : Int) (m : Nat) (l : List UInt8) : Prop where
  b : CB X p 24 [.int .i64 K, .slice A m c]
  s : Shows X X.heap.size A l
theorem Sk.up {X X' : World} {p : Nat} {A : Option Addr} {c : Nat} {K : Int} {m : Nat} {l : List UInt8} (h : Sk X p A c K m l) (hb : Below X.heap.size X X') : Sk X' p A c K m l := ⟨h.b.up hb, h.s.up hb⟩
set_option maxHeartbeats 8000000 in
set_option maxRecDepth 40000 in
theorem main (A B : Option Addr) (nk ck n k bm bc : Nat) (ks : List Ky) (bl : List UInt8) (w : World) (hnk : nk = ks.length) (hks : KsAt w w.heap.size A ks) (hnl : nk ≤ 140737488351232) (hn : n < 256) (hk : k < 256) (hB : Shows w w.heap.size B bl) (hbm : bm = bl.length) (G : Glob w) (hl : longB ks = false) (hm : bm ≤ 300) :
    Calls Tryd.prog 7 #[.agg #[.slice A nk ck, .int .u8 n, .int .u8 k], .slice B bm bc] w fun e w' => e = .returned (.bool true) ∧ Below w.heap.size w w' := by
  obtain ⟨l, hl1⟩ : ∃ l, bldK k n ks = l := ⟨_, rfl⟩
  have hll : l.length = nOf n := by rw [← hl1]; exact bldK_len k n ks
  obtain ⟨L, hL⟩ : ∃ L, bitsL (kOf k) (nOf n) bl = L := ⟨_, rfl⟩
  have hLlt : ∀ p ∈ L, p < 8 * l.length := fun p hp => by rw [hll]; exact bitsL_lt (K := (kOf k : Int)) (key := bl) p (by rw [hL]; exact hp)
  have hLl : L.length = kOf k := by rw [← hL, bits_of]; exact posL_len _ _ _ _
  obtain ⟨o1, o2, o3⟩ := ones_addB L l hLlt
  have hor := or_addB L l hLlt
  have hl2 : (addB L l).length = nOf n := by rw [addB_len, hll]
  obtain ⟨l2, e2⟩ : ∃ l2, addB L l = l2 := ⟨_, rfl⟩
  obtain ⟨x, hx⟩ : ∃ x, ones l = x := ⟨_, rfl⟩
  obtain ⟨y, hy⟩ : ∃ y, ones l2 = y := ⟨_, rfl⟩
  obtain ⟨fd, hfd⟩ : ∃ fd, L.all (tb l) = fd := ⟨_, rfl⟩
  rw [e2, hx, hy, hLl] at o2
  rw [e2, hx, hy] at o1 o3
  rw [e2] at hor hl2
  have hxl : x ≤ 8 * l.length := by rw [← hx]; exact onesN_le l _
  have hyl : y ≤ 8 * l2.length := by rw [← hy]; exact onesN_le l2 _
  have hN := nOf_le n
  have hKo : kOf k ≤ 16 := by unfold kOf; omega
  have k3 : (((y : Int) - (x : Int)) == 0) = fd := by
    have : hasB L l = fd := hfd
    rw [← this]
    cases hh : hasB L l
    · have : ¬ y = x := fun e => by rw [o3.1 e] at hh; cases hh
      simp
      omega
    · have := o3.2 hh
      simp
      omega
  have k1 : (0 : Int) ≤ (y : Int) - (x : Int) := by omega
  have k2 : (y : Int) - (x : Int) ≤ (kOf k : Int) := by omega
  have HV := Li (valid_of k n)
  have HG := Li G
  have HKS := Li hks
  have HNK := Li hnk
  have HL := Li hl
  have HB := Li hB
  have HBM := Li hbm
  have HL1 := Li hl1
  have HLL := Li hll
  have HLE := Li hL
  have HL2 := Li hl2
  have HE2 := Li e2
  have HOR := Li hor
  have HX := Li hx
  have HY := Li hy
  have HFD := Li hfd
  obtain ⟨d, hd⟩ : ∃ d : Int, (y : Int) - (x : Int) = d := ⟨_, rfl⟩
  have hw : IntKind.i64.wrap ((y : Int) - (x : Int)) = d := by rw [IntKind.wrap_i64]; omega
  rw [hd] at k1 k2 k3
  have i1 : ¬ (300 : Int) < (bm : Int) := by omega
  have i2 : (x : Int) ≤ 8192 := by omega
  have i3 : (y : Int) ≤ 8192 := by omega
  obtain ⟨K, hK⟩ : ∃ K : Nat, kOf k = K := ⟨_, rfl⟩
  obtain ⟨m, hmm⟩ : ∃ m : Nat, nOf n = m := ⟨_, rfl⟩
  have HK := Li hK
  have HM := Li hmm
  have hm0 : m ≤ 1024 := by omega
  rw [hK] at k2
  rw [hmm] at HLL HL2
  rw [hK, hmm] at HV HLE
  clear hl1 hll hL hLlt hLl o1 o2 o3 hor hl2 e2 hx hy hfd hxl hyl hN hKo hB hbm G hks hnk hl hK hmm
  go_enter Tryd.func7, Tryd.ntmps7
  go_upto_region 5 with (first
    | (go_at_call 8; refine (sanity_any _ (HG.out.up (al1 w _))).mono ?_; rintro e w1 ⟨rfl, hb⟩; have P1 := Li ((CB.new w 39 [.slice A nk ck, .int .u8 n, .int .u8 k]).up hb); have B1 := Li (below_step (al1 w _) (al1 w _).size hb); obtain ⟨s0, s1, s2⟩ := P1.out.c3; have zs := P1.out.lt; clear hb)
    | (go_at_call 20; refine (long_any A nk ck ks _ HNK.out (HKS.out.up B1.out) (by omega)).mono ?_; rintro e w1 ⟨rfl, rfl⟩; rw [HL.out])
    | (go_at_call 21; refine (build_any A nk ck n k ks _ HNK.out (HKS.out.up B1.out) hn hk (HG.out.up B1.out) HL.out).mono ?_; rintro e w2 ⟨⟨A2, c2, rfl, ho⟩, hb⟩; rw [HL1.out] at ho; rw [HK.out, HM.out]; rw [HM.out] at ho; have B2 := Li (below_step B1.out B1.out.size hb); have O2 := Li ho; clear hb ho P1 B1 s0 s1 s2 zs))
  have b2 := al1 w2 (.cells #[.int .i64 K, .slice A2 m c2] 24)
  have F2 := Li (show Sk (w2.alloc (.cells #[.int .i64 K, .slice A2 m c2] 24)) w2.heap.size A2 c2 K m l from ⟨CB.new w2 24 [.int .i64 K, .slice A2 m c2], owns_sh O2.out b2⟩)
  have BV := Li (below_step B2.out B2.out.size b2)
  clear O2 B2 b2
  generalize w2.alloc (.cells #[.int .i64 K, .slice A2 m c2] 24) = V at *
  generalize w2.heap.size = p6 at *
  have E3 := Li (owns_empty8 V #[] rfl)
  have hp6 := F2.out.b.lt
  obtain ⟨f0, f1⟩ := F2.out.b.c2
  go_upto_region 8 with (first
    | (at_builtin; refine wpList_growM rfl (.tmp 25) (.tmp 27) _ rfl Tryd.underlying22 info5 V.heap.size (.slice (some ⟨V.heap.size, 0, none⟩) 0 0) [] A2 m l c2 V.heap.size m HLL.out.symm HLL.out.symm rfl rfl E3.out (F2.out.s.below (below_alloc _)) (by simp only [List.length_nil, HLL.out]; omega) (by simp) ?_; intro A3 c3 w3 ho3 hg3; have bb3 : Below V.heap.size V w3 := (below_alloc _).grown hg3.out (by simp) (fun k hk => by have := own_at hk; omega); have S3 := Li (show Shows w3 w3.heap.size A3 l from (Owns.shows ho3.out).2.2); have F3 := Li (F2.out.up bb3); have B3 := Li (below_step BV.out BV.out.size bb3); clear ho3 hg3 bb3 f0 f1 hp6; obtain ⟨f0, f1⟩ := F3.out.b.c2; have hp6 := F3.out.b.lt)
    | (go_at_call 18; refine (Has_is (K : Int) A2 m c2 l B bm bc bl fd _ (by rw [HLE.out]; exact HFD.out) HBM.out HLL.out.symm F3.out.s (by omega) (by omega) (HB.out.up B3.out) (HG.out.up B3.out)).mono ?_; rintro e w4 ⟨rfl, hb⟩; have S4 := Li (S3.out.up hb); have F4 := Li (F3.out.up hb); have B4 := Li (below_step B3.out B3.out.size hb); clear hb S3 B3 f0 f1 hp6; obtain ⟨f0, f1⟩ := F4.out.b.c2; have hp6 := F4.out.b.lt)
    | (go_at_call 16; refine (Add_is (K : Int) A2 m c2 l l2 B bm bc bl _ (by rw [HLE.out]; exact HE2.out) HBM.out HLL.out.symm F4.out.s (by omega) (by omega) (HB.out.up B4.out) (HG.out.up B4.out)).mono ?_; rintro e w5 ⟨⟨A5, c5, rfl, ho⟩, hb⟩; have S5 := Li (S4.out.up hb); have F5 := Li (F4.out.up hb); have B5 := Li (below_step B4.out B4.out.size hb); have O5 := Li ho; clear hb S4 B4 f0 f1 hp6 ho))
  have b5 := al1 w5 (.cells #[.int .i64 K, .slice A5 m c5] 24)
  have G5 := Li (show Sk (w5.alloc (.cells #[.int .i64 K, .slice A5 m c5] 24)) w5.heap.size A5 c5 K m l2 from ⟨CB.new w5 24 [.int .i64 K, .slice A5 m c5], owns_sh O5.out b5⟩)
  replace F5 := Li (F5.out.up b5)
  replace S5 := Li (S5.out.up b5)
  replace B5 := Li (below_step B5.out B5.out.size b5)
  clear O5 b5
  generalize w5.alloc (.cells #[.int .i64 K, .slice A5 m c5] 24) = V5 at *
  generalize w5.heap.size = p9 at *
  obtain ⟨f0, f1⟩ := F5.out.b.c2
  have hp6 := F5.out.b.lt
  obtain ⟨g0, g1⟩ := G5.out.b.c2
  have hp9 := G5.out.b.lt
  go_upto_region 11 with (first
    | (go_at_call 23; refine (Equal_is A2 A3 m c2 c3 l _ F5.out.s S5.out HLL.out.symm (by omega)).mono ?_; rintro e w6 ⟨rfl, hb⟩; have F6 := Li (F5.out.up hb); have G6 := Li (G5.out.up hb); have B6 := Li (below_step B5.out B5.out.size hb); clear hb F5 G5 B5 S5 f0 f1 hp6 g0 g1 hp9; obtain ⟨f0, f1⟩ := F6.out.b.c2; have hp6 := F6.out.b.lt; obtain ⟨g0, g1⟩ := G6.out.b.c2; have hp9 := G6.out.b.lt)
    | (go_at_call 9; refine (Union_ok (K : Int) A2 A5 m c2 c5 l l2 _ HLL.out.symm HL2.out.symm (by omega) F6.out.s G6.out.s HV.out).mono ?_; rintro e w7 ⟨⟨A7, c7, rfl, ho⟩, hb⟩; rw [HOR.out] at ho; have F7 := Li (F6.out.up hb); have G7 := Li (G6.out.up hb); have B7 := Li (below_step B6.out B6.out.size hb); have O7 := Li ho; clear hb ho F6 G6 B6 f0 f1 hp6 g0 g1 hp9))
  have b7 := al1 w7 (.cells #[.int .i64 K, .slice A7 m c7] 24)
  have H7 := Li (show Sk (w7.alloc (.cells #[.int .i64 K, .slice A7 m c7] 24)) w7.heap.size A7 c7 K m l2 from ⟨CB.new w7 24 [.int .i64 K, .slice A7 m c7], owns_sh O7.out b7⟩)
  replace F7 := Li (F7.out.up b7)
  replace G7 := Li (G7.out.up b7)
  replace B7 := Li (below_step B7.out B7.out.size b7)
  clear O7 b7
  generalize w7.alloc (.cells #[.int .i64 K, .slice A7 m c7] 24) = V7 at *
  generalize w7.heap.size = p10 at *
  obtain ⟨f0, f1⟩ := F7.out.b.c2
  have hp6 := F7.out.b.lt
  obtain ⟨g0, g1⟩ := G7.out.b.c2
  have hp9 := G7.out.b.lt
  obtain ⟨h0, h1⟩ := H7.out.b.c2
  have hp10 := H7.out.b.lt
  go_quiet ((first
    | (go_at_call 24; (with_reducible show Calls _ _ #[.slice A5 _ _] _ _); exact Calls.quiet_of_same (Ones_is A5 m c5 l2 y _ HY.out HL2.out.symm (by omega) (show Shows V7 V7.heap.size A5 l2 from G7.out.s)))
    | (go_at_call 24; exact Calls.quiet_of_same (Ones_is A2 m c2 l x _ HX.out HLL.out.symm (by omega) (show Shows V7 V7.heap.size A2 l from F7.out.s)))))
  cases fd
  all_goals
   go_wp2_with (go_at_call 15; refine (Same_eq (K : Int) A7 A5 m c7 c5 l2 (V7.drewN nq) HL2.out.symm (by omega) (show Shows (V7.drewN nq) (V7.drewN nq).heap.size A7 l2 from H7.out.s) (show Shows (V7.drewN nq) (V7.drewN nq).heap.size A5 l2 from G7.out.s)).mono ?_; rintro e w8 ⟨rfl, hb⟩; have B8 := Li (below_step (below_drewNM B7.out nq) B7.out.size hb); have F8 := Li ((show Sk (V7.drewN nq) p6 A2 c2 K m l from ⟨F7.out.b, F7.out.s⟩).up hb); clear f0 f1 hp6 g0 g1 hp9 h0 h1 hp10; obtain ⟨f0, f1⟩ := F8.out.b.c2; have hp6 := F8.out.b.lt; clear hb)
   go_ret
   exact ⟨rfl, B8.out⟩
theorem walk (A B : Option Addr) (nk ck n k bm bc : Nat) (ks : List Ky) (bl : List UInt8) (w : World) (hnk : nk = ks.length) (hks : KsAt w w.heap.size A ks) (hnl : nk ≤ 140737488351232) (hn : n < 256) (hk : k < 256) (hB : Shows w w.heap.size B bl) (hbm : bm = bl.length) (G : Glob w) :
    Calls Tryd.prog 7 #[.agg #[.slice A nk ck, .int .u8 n, .int .u8 k], .slice B bm bc] w fun e w' => e = .returned (.bool true) ∧ Below w.heap.size w w' := by
  cases hl : longB ks with
  | true =>
    subst hbm
    exact long_yes A B nk ck n k bc ks bl w hnk hks hnl G hl
  | false =>
    by_cases hm : bm ≤ 300
    · exact main A B nk ck n k bm bc ks bl w hnk hks hnl hn hk hB hbm G hl hm
    · exact key_long A B nk ck n k bc ks bm w hnk hks hnl G hl (by omega)
theorem walkF (A : Option Addr) (nk ck n k : Nat) (ks : List Ky) (B : Option Addr) (bc : Nat) (bl : List UInt8) (w : World) (hnk : nk = ks.length) (hks : KsAt w w.heap.size A ks) (hnl : nk ≤ 140737488351232) (hn : n < 256) (hk : k < 256) (hB : Shows w w.heap.size B bl) (_hlc : bl.length ≤ bc) (_hc : bc ≤ 140737488351232) (G : Glob w) :
    Calls Tryd.prog 7 #[.agg #[.slice A nk ck, .int .u8 n, .int .u8 k], .slice B bl.length bc] w fun e w' => e = .returned (.bool true) ∧ Below w.heap.size w w' :=
  walk A B nk ck n k bl.length bc ks bl w hnk hks hnl hn hk hB rfl G
end grows
end Go.Proofs.YtmdokldbggingaaDoor
