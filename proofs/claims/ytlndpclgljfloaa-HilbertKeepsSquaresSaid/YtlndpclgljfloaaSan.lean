/-
  The laws' sanity: the fixed examples. By a contract.
-/
import Derived.Test.YtlndpclgljfloaaOrd
import Derived.Test.YtlndpclgljfloaaRws
import Derived.Test.YtlndpclgljfloaaSmR
import Derived.Test.YtlndpclgljfloaaCvr
import Derived.Test.YtlndpclgljfloaaHi4
import Derived.Test.YtlndpclgljfloaaScl
namespace Go.Proofs.Ytlndpclgljfloaa
open Go.RowKit

theorem sorted_unique {R : Nat → Nat → Prop} (hR : ∀ x y, R x y → ¬ R y x) : ∀ {l l' : List Nat}, l.Perm l' → l.Pairwise R → l'.Pairwise R → l = l'
  | [], l', h, _, _ => (List.nil_perm.1 h).symm
  | a :: r, [], h, _, _ => absurd h.length_eq (by simp)
  | a :: r, b :: s, h, h1, h2 => by
    rw [List.pairwise_cons] at h1 h2
    by_cases e : a = b
    · subst e
      rw [sorted_unique hR ((List.perm_cons a).1 h) h1.2 h2.2]
    · have ha : a ∈ b :: s := h.subset (by simp)
      have hb : b ∈ a :: r := h.symm.subset (by simp)
      rw [List.mem_cons] at ha hb
      rcases ha with ha | ha
      · exact absurd ha e
      · rcases hb with hb | hb
        · exact absurd hb.symm e
        · exact absurd (h1.1 b hb) (hR _ _ (h2.1 a ha))
theorem Rk.asymm {P : List Nat} (x y : Nat) (h : Rk P x y) : ¬ Rk P y x := by
  unfold Rk at *
  omega
/-- places of rows that are given by their cells -/
def plcC (ls : List (List (Int × Int))) (i1 i2 K : Int) : List Nat := List.zipWith (ixV K) (ls.map (cooL ls i1 K)) (ls.map (cooL ls i2 K))
theorem plc_of (rs : List Hr) (i1 i2 K : Int) : plcL rs i1 i2 K = plcC (rs.map Hr.l) i1 i2 K := by
  unfold plcL plcC cosL
  rw [List.map_map, List.map_map]
  rfl
theorem idx_lit (K : Int) (x y X Y : Nat) (z : Int) (E : Int) (w : World) (hx : X = x) (hy : Y = y) (h1 : (ixV K x y : Int) = z) (h2 : ixE K x y = E) :
    Calls Try.prog 11 #[.int .i64 K, .int .u32 X, .int .u32 Y] w fun e w' => e = .returned (.tuple #[.int .u64 z, .int .i64 E]) ∧ Below w.heap.size w w' := by
  subst hx hy h1 h2
  exact Index_any K X Y w
theorem pnt_lit (K : Int) (i : Nat) (x y E : Int) (w : World) (h1 : (ptX K i : Int) = x) (h2 : (ptY K i : Int) = y) (h3 : ptE K i = E) :
    Calls Try.prog 13 #[.int .i64 K, .int .u64 i] w fun e w' => e = .returned (.tuple #[.int .u32 x, .int .u32 y, .int .i64 E]) ∧ Below w.heap.size w w' := by
  subst h1 h2 h3
  exact Point_any K i w
theorem scl_lit (v lo hi K z : Int) (w : World) (hv : I64 v) (hl : I64 lo) (hh : I64 hi) (h : (scV v lo hi K : Int) = z) :
    Calls Try.prog 15 #[.int .i64 v, .int .i64 lo, .int .i64 hi, .int .i64 K] w fun e w' => e = .returned (.int .u32 z) ∧ Below w.heap.size w w' := by
  subst h
  exact Scale_any v lo hi K w hv hl hh
theorem cov_lit (w : World) : Calls Try.prog 22 #[.int .i64 1, .agg #[.int .u32 0, .int .u32 0, .int .u32 1, .int .u32 0]] w fun e w' => (∃ A c, e = .returned (.tuple #[.slice A 2 c, .int .i64 0]) ∧ RgO w' w.heap.size (.slice A 2 c) [(0, 0), (3, 3)]) ∧ Below w.heap.size w w' := by
  refine (Cover_ok 1 0 0 1 0 w (by decide) (by decide) (by decide) (by decide) (by decide)).mono ?_
  rintro e w' ⟨⟨A, n, c, rfl, h⟩, hb⟩
  rw [show Hb.vis 1 ⟨0, 0, 1, 0⟩ 0 [] = [(0, 0), (3, 3)] by decide +kernel] at h
  have hn : n = 2 := (Own.row h).1
  subst hn
  exact ⟨⟨A, c, rfl, h⟩, hb⟩
theorem cov_bad (w : World) : Calls Try.prog 22 #[.int .i64 1, .agg #[.int .u32 1, .int .u32 0, .int .u32 0, .int .u32 0]] w fun e w' => e = .returned (.tuple #[.slice none 0 0, .int .i64 1]) ∧ Below w.heap.size w w' :=
  Cover_bad 1 1 0 0 0 w (by decide)
theorem nums_of {X : World} {g : Nat} {t : TypeId} {l : List Int} (h : CB X g t (l.map fun x => .int .i64 x)) : RowAt 1 X X.heap.size (some ⟨g, 0, none⟩) (l.map fun x => [.int .i64 x]) := fun _ => ⟨g, 0, rfl, h.lt, fun i vs hi j v hj => by
  rw [List.getElem?_map] at hi
  cases hx : l[i]? with
  | none => rw [hx] at hi; cases hi
  | some x =>
    rw [hx] at hi
    obtain rfl : [Value.int .i64 x] = vs := Option.some.inj hi
    have h0 : j = 0 := by
      have := (List.getElem?_eq_some_iff.1 hj).1
      simp at this; exact this
    subst h0
    obtain rfl : Value.int .i64 x = v := Option.some.inj hj
    have := h.cell i (v := .int .i64 x) (by rw [List.getElem?_map, hx]; rfl)
    simpa using this⟩
theorem slcs_of {X : World} {g : Nat} {t : TypeId} {rs : List Rw} (h : CB X g t (rs.map fun r => .slice r.A r.l.length r.c)) (hr : ∀ r ∈ rs, RowAt 1 X X.heap.size r.A (r.l.map fun x => [.int .i64 x])) : RawAt X X.heap.size (some ⟨g, 0, none⟩) rs := ⟨fun _ => ⟨g, 0, rfl, h.lt, fun i vs hi j v hj => by
  rw [List.getElem?_map] at hi
  cases hx : rs[i]? with
  | none => rw [hx] at hi; cases hi
  | some r =>
    rw [hx] at hi
    obtain rfl : [Value.slice r.A r.l.length r.c] = vs := Option.some.inj hi
    have h0 : j = 0 := by
      have := (List.getElem?_eq_some_iff.1 hj).1
      simp at this; exact this
    subst h0
    obtain rfl : Value.slice r.A r.l.length r.c = v := Option.some.inj hj
    have := h.cell i (v := .slice r.A r.l.length r.c) (by rw [List.getElem?_map, hx]; rfl)
    simpa using this⟩, hr⟩
def rawW (w : World) : World := (((w.alloc (.cells #[.int .i64 8, .int .i64 1] 2)).alloc (.cells #[.int .i64 1, .int .i64 8] 2)).alloc (.cells #[.int .i64 1, .int .i64 1] 2)).alloc (.cells #[.slice (some ⟨w.heap.size, 0, none⟩) 2 2, .slice (some ⟨w.heap.size + 1, 0, none⟩) 2 2, .slice (some ⟨w.heap.size + 1 + 1, 0, none⟩) 2 2] 61)
theorem raw_below (w : World) : Below w.heap.size w (rawW w) := al4 w _ _ _ _
theorem raw_at (w : World) : RawAt (rawW w) (rawW w).heap.size (some ⟨w.heap.size + 1 + 1 + 1, 0, none⟩) [⟨some ⟨w.heap.size, 0, none⟩, 2, [8, 1]⟩, ⟨some ⟨w.heap.size + 1, 0, none⟩, 2, [1, 8]⟩, ⟨some ⟨w.heap.size + 1 + 1, 0, none⟩, 2, [1, 1]⟩] := by
  refine slcs_of (t := 61) ?_ ?_
  · have := CB.new (((w.alloc (.cells #[.int .i64 8, .int .i64 1] 2)).alloc (.cells #[.int .i64 1, .int .i64 8] 2)).alloc (.cells #[.int .i64 1, .int .i64 1] 2)) 61 [.slice (some ⟨w.heap.size, 0, none⟩) 2 2, .slice (some ⟨w.heap.size + 1, 0, none⟩) 2 2, .slice (some ⟨w.heap.size + 1 + 1, 0, none⟩) 2 2]
    rw [asz, asz, asz] at this
    exact this
  · intro r hr
    simp only [List.mem_cons, List.not_mem_nil, or_false] at hr
    rcases hr with rfl | rfl | rfl
    · exact nums_of (t := 2) (l := [8, 1]) ((((CB.new w _ [.int .i64 8, .int .i64 1]).alloc _).alloc _).alloc _)
    · exact nums_of (t := 2) (l := [1, 8]) (((CB.new1 w _ _ [.int .i64 1, .int .i64 8]).alloc _).alloc _)
    · exact nums_of (t := 2) (l := [1, 1]) ((CB.new2 w _ _ _ [.int .i64 1, .int .i64 1]).alloc _)
theorem raw_cells : ([[8, 1], [1, 8], [1, 1]] : List (List Int)).map rowC = [[(1, 8), (2, 1)], [(1, 1), (2, 8)], [(1, 1), (2, 1)]] := by decide +kernel
theorem rows_lit (w : World) : Calls Try.prog 17 #[.slice (some ⟨w.heap.size + 1 + 1 + 1, 0, none⟩) 3 3, .int .i64 3] (rawW w) fun e w' => ∃ (D : Option Addr) (d : Nat) (out : List Hr), e = .returned (.slice D 3 d) ∧ 3 = out.length ∧ RwsAt w' w'.heap.size D out ∧ out.map Hr.l = [[(1, 8), (2, 1)], [(1, 1), (2, 8)], [(1, 1), (2, 1)]] ∧ Below (rawW w).heap.size (rawW w) w' := by
  refine (RRows_any (some ⟨w.heap.size + 1 + 1 + 1, 0, none⟩) 3 3 3 _ (rawW w) rfl (raw_at w) (by decide) (by decide) ?_).mono ?_
  · intro r hr
    simp only [List.mem_cons, List.not_mem_nil, or_false] at hr
    rcases hr with rfl | rfl | rfl <;> simp
  · rintro e w' ⟨D, m, d, out, rfl, hm, hl, ho⟩
    have hl2 : out.map Hr.l = [[(1, 8), (2, 1)], [(1, 1), (2, 8)], [(1, 1), (2, 1)]] := by
      rw [← raw_cells]
      exact hl
    have hm3 : m = 3 := by rw [hm, ← List.length_map (f := Hr.l), hl2]; rfl
    subst hm3
    exact ⟨D, d, out, rfl, hm, ho.at_, hl2, ho.bel⟩
theorem ord_lit (D : Option Addr) (d : Nat) (rs : List Hr) (w : World) (h3 : 3 = rs.length) (hs : RwsAt w w.heap.size D rs) (hl : rs.map Hr.l = [[(1, 8), (2, 1)], [(1, 1), (2, 8)], [(1, 1), (2, 1)]]) :
    Calls Try.prog 18 #[.slice D 3 d, .agg #[.int .i64 1, .int .i64 2], .int .i64 1] w fun e w' => (∃ g : Nat, e = .returned (.tuple #[.slice (some ⟨g, 0, none⟩) 3 3, .int .i64 0]) ∧ CB w' g 3 ([2, 1, 0].map iV)) ∧ Below w.heap.size w w' := by
  have hf : FitR rs := by
    intro r hr
    have h1 : r.l ∈ rs.map Hr.l := List.mem_map_of_mem hr
    rw [hl] at h1
    simp only [List.mem_cons, List.not_mem_nil, or_false] at h1
    rcases h1 with h1 | h1 | h1 <;> rw [h1] <;> refine ⟨by decide, fun p hp => ?_⟩ <;> simp only [List.mem_cons, List.not_mem_nil, or_false] at hp <;> rcases hp with rfl | rfl <;> exact ⟨by decide, by decide⟩
  refine (Order_ok D 3 d rs 1 2 1 w h3 hs (by decide) hf (by decide) (sort_small (by decide))).mono ?_
  rintro e w' ⟨⟨g, L, rfl, hg, hc, hp, hs⟩, hb⟩
  refine ⟨⟨g, rfl, ?_⟩, hb⟩
  have hP : plcL rs 1 2 1 = [3, 1, 0] := by
    rw [plc_of, hl]
    decide +kernel
  rw [hP] at hs
  have : L = [2, 1, 0] := sorted_unique Rk.asymm (hp.trans (show (List.range 3).Perm [2, 1, 0] by decide)) hs (by simp [Rk, ky])
  rw [← this]
  exact hc
/-- what the examples' last line reads -/
structure SA (w : World) (A : Option Addr) (c g : Nat) (X : World) : Prop where
  o : RgO X w.heap.size (.slice A 2 c) [(0, 0), (3, 3)]
  c : CB X g 3 ([2, 1, 0].map iV)
  d : Below w.heap.size w X
theorem SA.up {w X X' : World} {A : Option Addr} {c g : Nat} (h : SA w A c g X) (hb : Below X.heap.size X X') : SA w A c g X' := ⟨Own.up h.o hb, h.c.up hb, below_step h.d h.d.size hb⟩
theorem lit_rgs (X : World) : RgsAt (X.alloc (.cells #[.int .u64 0, .int .u64 0, .int .u64 3, .int .u64 3] 58)) (X.alloc (.cells #[.int .u64 0, .int .u64 0, .int .u64 3, .int .u64 3] 58)).heap.size (some ⟨X.heap.size, 0, none⟩) [(0, 0), (3, 3)] := fun _ => ⟨X.heap.size, 0, rfl, by rw [asz]; omega, fun i vs hi j v hj => by
  have hC := CB.new X 58 [.int .u64 0, .int .u64 0, .int .u64 3, .int .u64 3]
  rcases i with _ | _ | i
  · obtain rfl : [Value.int .u64 0, .int .u64 0] = vs := Option.some.inj hi
    rcases j with _ | _ | j
    · obtain rfl : Value.int .u64 0 = v := Option.some.inj hj
      exact hC.cell 0 rfl
    · obtain rfl : Value.int .u64 0 = v := Option.some.inj hj
      exact hC.cell 1 rfl
    · cases hj
  · obtain rfl : [Value.int .u64 3, .int .u64 3] = vs := Option.some.inj hi
    rcases j with _ | _ | j
    · obtain rfl : Value.int .u64 3 = v := Option.some.inj hj
      exact hC.cell 2 rfl
    · obtain rfl : Value.int .u64 3 = v := Option.some.inj hj
      exact hC.cell 3 rfl
    · cases hj
  · cases hi⟩
theorem lit_ints (X : World) : IntsAt (X.alloc (.cells #[.int .i64 2, .int .i64 1, .int .i64 0] 3)) (X.alloc (.cells #[.int .i64 2, .int .i64 1, .int .i64 0] 3)).heap.size (some ⟨X.heap.size, 0, none⟩) [2, 1, 0] :=
  IntsAt.of (CB.new X 3 ([2, 1, 0].map iV))
theorem same_lit {w X : World} {A : Option Addr} {c g : Nat} (p : SA w A c g X) (N : Nat) (h : RgsAt X X.heap.size (some ⟨N, 0, none⟩) [(0, 0), (3, 3)]) :
    Calls Try.prog 24 #[.slice A 2 c, .slice (some ⟨N, 0, none⟩) 2 2] X fun e w' => e = .returned (.bool true) ∧ Below X.heap.size X w' := by
  refine (SameRg_any A 2 c [(0, 0), (3, 3)] _ 2 2 [(0, 0), (3, 3)] X (Own.row p.o).2.2.2 h rfl rfl (by decide) (by decide)).mono ?_
  rintro e w' ⟨rfl, m, rfl⟩
  exact ⟨rfl, below_drewN (Below.refl _ _) m⟩
theorem samei_lit {w X : World} {A : Option Addr} {c g : Nat} (p : SA w A c g X) (N : Nat) (h : IntsAt X X.heap.size (some ⟨N, 0, none⟩) [2, 1, 0]) :
    Calls Try.prog 20 #[.slice (some ⟨g, 0, none⟩) 3 3, .slice (some ⟨N, 0, none⟩) 3 3] X fun e w' => e = .returned (.bool true) ∧ Below X.heap.size X w' := by
  refine (SameInts_any (some ⟨g, 0, none⟩) 3 3 [2, 1, 0] _ 3 3 [2, 1, 0] X (IntsAt.of p.c) h rfl rfl (by decide) (by decide)).mono ?_
  rintro e w' ⟨rfl, m, rfl⟩
  exact ⟨rfl, below_drewN (Below.refl _ _) m⟩
set_option maxHeartbeats 8000000 in
set_option maxRecDepth 40000 in
theorem sanity_any (w : World) : Calls Try.prog 10 #[] w fun e w' => e = .returned (.bool true) ∧ Below w.heap.size w w' := by
  have tk0 : Hid True := Li trivial
  have B0 := Li (Below.refl w.heap.size w)
  go_enter Try.func10, Try.ntmps10
  go_upto_region 10 with (first | (have tok := tk0; go_at_call 11; refine (idx_lit 2 3 0 3 0 15 0 _ rfl rfl (by decide +kernel) (by decide +kernel)).mono ?_; rintro e w1 ⟨rfl, hb⟩; have B1 := Li (below_step B0.out B0.out.size hb); clear hb B0; have tk1 : Hid True := Li trivial; clear tok tk0) | (have tok := tk1; go_at_call 11; refine (idx_lit 1 0 1 0 1 1 0 _ rfl rfl (by decide +kernel) (by decide +kernel)).mono ?_; rintro e w2 ⟨rfl, hb⟩; have B2 := Li (below_step B1.out B1.out.size hb); clear hb B1; have tk2 : Hid True := Li trivial; clear tok tk1) | (have tok := tk2; go_at_call 11; refine (idx_lit 1 2 0 2 0 0 1 _ rfl rfl (by decide +kernel) (by decide +kernel)).mono ?_; rintro e w3 ⟨rfl, hb⟩; have B3 := Li (below_step B2.out B2.out.size hb); clear hb B2; have tk3 : Hid True := Li trivial; clear tok tk2) | (have tok := tk3; go_at_call 11; refine (idx_lit 17 0 0 0 0 0 1 _ rfl rfl (by decide +kernel) (by decide +kernel)).mono ?_; rintro e w4 ⟨rfl, hb⟩; have B4 := Li (below_step B3.out B3.out.size hb); clear hb B3; have tk4 : Hid True := Li trivial; clear tok tk3) | (have tok := tk4; go_at_call 13; refine (pnt_lit 1 2 1 1 0 _ (by decide +kernel) (by decide +kernel) (by decide +kernel)).mono ?_; rintro e w5 ⟨rfl, hb⟩; have B5 := Li (below_step B4.out B4.out.size hb); clear hb B4; have tk5 : Hid True := Li trivial; clear tok tk4) | (have tok := tk5; go_at_call 13; refine (pnt_lit 1 4 0 0 1 _ (by decide +kernel) (by decide +kernel) (by decide +kernel)).mono ?_; rintro e w6 ⟨rfl, hb⟩; have B6 := Li (below_step B5.out B5.out.size hb); clear hb B5; have tk6 : Hid True := Li trivial; clear tok tk5) | (have tok := tk6; go_at_call 22; refine (cov_lit _).mono ?_; rintro e w7 ⟨⟨A7, c7, rfl, ho⟩, hb⟩; have O7 := Li (Own.low ho B6.out.size); have B7 := Li (below_step B6.out B6.out.size hb); clear hb ho B6; have tk7 : Hid True := Li trivial; clear tok tk6) | (have tok := tk7; go_at_call 22; refine (cov_bad _).mono ?_; rintro e w8 ⟨rfl, hb⟩; have O8 := Li (Own.up O7.out hb); have B8 := Li (below_step B7.out B7.out.size (hb.trans ((raw_below w8).mono hb.size))); have OR8 := Li (Own.up O8.out (raw_below w8)); clear hb O7 O8 B7; have tk8 : Hid True := Li trivial; clear tok tk7) | (have tok := tk8; go_at_call 17; refine (rows_lit w8).mono ?_; rintro e w9 ⟨D9, d9, rs9, rfl, h3, hs, hl, hb⟩; have O9 := Li (Own.up OR8.out hb); have B9 := Li (below_step B8.out B8.out.size hb); have H3 := Li h3; have HS := Li hs; have HL := Li hl; clear hb h3 hs hl OR8 B8; have tk9 : Hid True := Li trivial; clear tok tk8) | (have tok := tk9; go_at_call 18; refine (ord_lit D9 d9 rs9 _ H3.out HS.out HL.out).mono ?_; rintro e w10 ⟨⟨g10, rfl, hc⟩, hb⟩; have O10 := Li (Own.up O9.out hb); have B10 := Li (below_step B9.out B9.out.size hb); have C10 := Li hc; clear hb hc O9 B9; have tk10 : Hid True := Li trivial; clear tok tk9))
  have PP : Hid (SA w A7 c7 g10 w10) := Li ⟨O10.out, C10.out, B10.out⟩
  clear O10 C10 B10 H3 HS HL tk10
  generalize w10 = V0 at *
  go_wp2_with (first | (go_at_call 24; refine (same_lit (PP.out.up (al1 V0 _)) V0.heap.size (lit_rgs V0)).mono ?_; rintro e v1 ⟨rfl, hb⟩; have P1 := Li ((PP.out.up (al1 V0 _)).up hb); clear hb PP) | (have tok := P1; go_at_call 15; refine (scl_lit 5 0 9 1 1 _ ⟨by decide, by decide⟩ ⟨by decide, by decide⟩ ⟨by decide, by decide⟩ (by decide +kernel)).mono ?_; rintro e v2 ⟨rfl, hb⟩; have P2 := Li (P1.out.up hb); clear hb tok P1) | (have tok := P2; go_at_call 15; refine (scl_lit 4 0 9 1 0 _ ⟨by decide, by decide⟩ ⟨by decide, by decide⟩ ⟨by decide, by decide⟩ (by decide +kernel)).mono ?_; rintro e v3 ⟨rfl, hb⟩; have P3 := Li (P2.out.up hb); clear hb tok P2) | (have tok := P3; go_at_call 15; refine (scl_lit (-1) 0 9 4 0 _ ⟨by decide, by decide⟩ ⟨by decide, by decide⟩ ⟨by decide, by decide⟩ (by decide +kernel)).mono ?_; rintro e v4 ⟨rfl, hb⟩; have P4 := Li (P3.out.up hb); clear hb tok P3) | (have tok := P4; go_at_call 15; refine (scl_lit 99 0 9 4 15 _ ⟨by decide, by decide⟩ ⟨by decide, by decide⟩ ⟨by decide, by decide⟩ (by decide +kernel)).mono ?_; rintro e v5 ⟨rfl, hb⟩; have P5 := Li (P4.out.up hb); clear hb tok P4) | (go_at_call 20; refine (samei_lit (P5.out.up (al1 v5 _)) v5.heap.size (lit_ints v5)).mono ?_; rintro e v6 ⟨rfl, hb⟩; have P6 := Li ((P5.out.up (al1 v5 _)).up hb); clear hb P5))
  go_ret
  exact ⟨rfl, P6.out.d⟩
end Go.Proofs.Ytlndpclgljfloaa
