/-
  The reference's weight, by a contract.
-/
import Derived.Test.YtkeneoinfegodaaLw
namespace Go.Proofs.Ytkeneoinfegodaa
open Go.RowKit
/-- a text's weight -/
def q50 (s : ByteArray) : Int := Int.tdiv (s.size : Int) 50
theorem q50_le (s : ByteArray) (h : s.size ≤ 9223372036854775807) : 0 ≤ q50 s ∧ q50 s ≤ 184467440737095517 := by
  unfold q50
  rw [Int.tdiv_eq_ediv_of_nonneg (by omega)]
  omega
def wset (most : Int) : Int → List Va → Int
  | n, [] => n
  | n, v :: l => if n ≤ most then wset most (n + q50 v.s) l else n
mutual
/-- the weight of a predicate, at most one more than a limit -/
def wt : Pr → Int → Int
  | .mk _ _ _ _ _ _ set tx _ _ ks, most => min (wts ks (wset most (1 + set.length + q50 tx) set) most) (most + 1)
def wts : List Pr → Int → Int → Int
  | [], n, _ => n
  | k :: ks, n, most => if n ≤ most then wts ks (n + wt k (most - n)) most else n
end
/-- its sets are no longer than memory lets them be -/
inductive Tame : Pr → Prop
  | mk {p : Pr} (hs : p.set.length ≤ 4611686018427387904) (hp : ∀ k ∈ p.kids, Tame k) : Tame p
theorem Tame.set {p : Pr} (h : Tame p) : p.set.length ≤ 4611686018427387904 := by cases h; assumption
theorem Tame.kids {p : Pr} (h : Tame p) : ∀ k ∈ p.kids, Tame k := by cases h; assumption
theorem wset_out {most n : Int} (h : ¬ n ≤ most) : ∀ l, wset most n l = n
  | [] => rfl
  | _ :: _ => by rw [wset, if_neg h]
theorem wts_out {most n : Int} (h : ¬ n ≤ most) : ∀ l, wts l n most = n
  | [] => by rw [wts]
  | _ :: _ => by rw [wts, if_neg h]
theorem wts_ge {most : Int} : ∀ (l : List Pr) (n : Int), (∀ k ∈ l, ∀ x, 0 ≤ x → 1 ≤ wt k x) → 1 ≤ n → 1 ≤ wts l n most
  | [], n, _, h => by rw [wts]; exact h
  | k :: l, n, hk, h => by
    rw [wts]
    split
    · exact wts_ge l _ (fun q hq => hk q (by simp [hq])) (by have := hk k (by simp) (most - n) (by omega); omega)
    · exact h
theorem q50_ge (s : ByteArray) : 0 ≤ q50 s := by
  unfold q50
  rw [Int.tdiv_eq_ediv_of_nonneg (by omega)]
  omega
theorem wset_ge {most : Int} : ∀ (l : List Va) (n : Int), 1 ≤ n → 1 ≤ wset most n l
  | [], n, h => h
  | v :: l, n, h => by
    rw [wset]
    split
    · exact wset_ge l _ (by have := q50_ge v.s; omega)
    · exact h
theorem wt_ge : ∀ p : Pr, ∀ x, 0 ≤ x → 1 ≤ wt p x := Pr.induct fun p ih x hx => by
  obtain ⟨op, id, lo, hi, S, sc, set, tx, K, kc, ks⟩ := p
  rw [wt]
  have := wts_ge (most := x) ks (wset x (1 + set.length + q50 tx) set) ih (wset_ge _ _ (by have := q50_ge tx; omega))
  omega
theorem wt_le (p : Pr) (x : Int) (hx : 0 ≤ x) : 1 ≤ wt p x ∧ wt p x ≤ x + 1 := ⟨wt_ge p x hx, by
  obtain ⟨op, id, lo, hi, S, sc, set, tx, K, kc, ks⟩ := p
  rw [wt]
  omega⟩
def WtOK (p : Pr) : Prop := ∀ (most : Int) (w : World), 0 ≤ most → most ≤ 1000000 → PrAt w w.heap.size p → Tame p → Calls Try.prog 24 #[.agg #[.int .i64 p.op, .int .i64 p.id, .int .i64 p.lo, .int .i64 p.hi, .slice p.S p.set.length p.sc, .string p.tx, .slice p.K p.kids.length p.kc], .int .i64 most] w fun e w' => e = .returned (.int .i64 (wt p most)) ∧ Below w.heap.size w w'
set_option maxHeartbeats 8000000 in
set_option maxRecDepth 20000 in
theorem weight_any : ∀ p, WtOK p := Pr.induct fun p ih most w h0 h1 hp ht => by
  obtain ⟨op, id, lo, hi, S, sc, set, tx, K, kc, ks⟩ := p
  show Calls Try.prog 24 #[.agg #[.int .i64 op, .int .i64 id, .int .i64 lo, .int .i64 hi, .slice S set.length sc, .string tx, .slice K ks.length kc], .int .i64 most] w fun e w' => e = .returned (.int .i64 (wt (.mk op id lo hi S sc set tx K kc ks) most)) ∧ Below w.heap.size w w'
  have IH := Li (show ∀ k ∈ ks, ∀ (most : Int) (w : World), 0 ≤ most → most ≤ 1000000 → PrAt w w.heap.size k → Tame k → Calls Try.prog 24 #[.agg #[.int .i64 k.op, .int .i64 k.id, .int .i64 k.lo, .int .i64 k.hi, .slice k.S k.set.length k.sc, .string k.tx, .slice k.K k.kids.length k.kc], .int .i64 most] w fun e w' => e = .returned (.int .i64 (wt k most)) ∧ Below w.heap.size w w' from fun k hk => ih k hk)
  have hsl : set.length ≤ 4611686018427387904 := ht.set
  have HTK := Li (show ∀ k ∈ ks, Tame k from ht.kids)
  have HP := Li (show ∀ k ∈ ks, PrAt w w.heap.size k from hp.hp)
  have HSR := Li (show Vas w w.heap.size S set from hp.hs)
  have HSV := Li (show ∀ v ∈ set, v.Fine from hp.hv)
  have HKR := Li (show RowAt 7 w w.heap.size K (ks.map Pr.cells) from hp.hk)
  have w9 : IntKind.i64.wrap (most + 1) = most + 1 := by rw [IntKind.wrap_i64]; omega
  have hkl : ks.length ≤ 9223372036854775807 := Nat.le_trans hp.hkc hp.hkm
  have hq := q50_le tx hp.ht
  obtain ⟨q, hq9⟩ : ∃ q, q50 tx = q := ⟨_, rfl⟩
  obtain ⟨ns, hns⟩ : ∃ n, set.length = n := ⟨_, rfl⟩
  obtain ⟨m, hm⟩ : ∃ n, ks.length = n := ⟨_, rfl⟩
  rw [wt]
  rw [hns] at hsl ⊢
  rw [hm] at hkl ⊢
  rw [hq9] at hq ⊢
  have HQ := Li hq9
  have hqt : Int.tdiv (tx.size : Int) 50 = q := hq9
  obtain ⟨z1, hz1⟩ : ∃ z, wset most (1 + (ns : Int) + q) set = z := ⟨_, rfl⟩
  obtain ⟨z2, hz2⟩ : ∃ z, wts ks z1 most = z := ⟨_, rfl⟩
  rw [hz1, hz2]
  have HZ1 := Li hz1
  have HZ2 := Li hz2
  have HNS := Li hns
  have HM := Li hm
  have P0 := Li (CB.new w 25 [.int .i64 op, .int .i64 id, .int .i64 lo, .int .i64 hi, .slice S ns sc, .string tx, .slice K m kc])
  have B0 := Li (al1 w (.cells #[.int .i64 op, .int .i64 id, .int .i64 lo, .int .i64 hi, .slice S ns sc, .string tx, .slice K m kc] 25))
  have w1 : IntKind.i64.wrap (1 + (ns : Int)) = 1 + (ns : Int) := by rw [IntKind.wrap_i64]; omega
  have w2 : IntKind.i64.wrap (1 + (ns : Int) + q) = 1 + (ns : Int) + q := by rw [IntKind.wrap_i64]; omega
  have hb1 : 1 ≤ 1 + (ns : Int) + q := by omega
  have hb2 : 1 + (ns : Int) + q ≤ 5000000000000000000 := by omega
  clear ih hp ht hz1 hz2 hns hm hq9
  go_enter Try.func24, Try.ntmps24
  go_wp2
  generalize World.alloc _ _ = W0 at *
  go_loopw [5, 6] (fun nn j wr => ∃ (k : Nat) (N : Int), k ≤ ns ∧ nn = .int .i64 N ∧ j = .int .i64 k ∧ 1 ≤ N ∧ N ≤ 5000000000000000000 ∧ Hid (wset most N (set.drop k) = z1) ∧ Hid (CB wr w.heap.size 25 [.int .i64 op, .int .i64 id, .int .i64 lo, .int .i64 hi, .slice S ns sc, .string tx, .slice K m kc]) ∧ Hid (Below w.heap.size w wr)) (fun _ j _ => ns - (intOf j).toNat)
  case atStart => exact ⟨0, 1 + (ns : Int) + q, by omega, rfl, rfl, hb1, hb2, HZ1, P0, B0⟩
  case round =>
    obtain ⟨k, N, hk, rfl, rfl, hN1, hN2, HG, HC, HB⟩ := hrel
    have c7 := HC.out.c7
    have zc := HC.out.lt
    by_cases hlt : k < ns
    · have j1 : (k : Int) < (ns : Int) := by omega
      have j0 : (0 : Int) ≤ (k : Int) := by omega
      by_cases hle : N ≤ most
      · have y1 : decide (N ≤ most) = true := decide_eq_true hle
        obtain ⟨f, hf⟩ := getV_of (l := set) (k := k) (by rw [HNS.out]; exact hlt)
        obtain ⟨b, off, rfl, hb, d0, d1, d2⟩ := (show Vas wr w.heap.size S set from RowAt.below HSR.out HB.out).one hf
        have hfl := q50_le f.s (HSV.out f (List.mem_of_getElem? hf)).len
        obtain ⟨qv, hqv⟩ : ∃ x, q50 f.s = x := ⟨_, rfl⟩
        rw [hqv] at hfl
        have HG3 := Li (show wset most (N + qv) (set.drop (k + 1)) = z1 by
          have h := HG.out
          rw [drop_cons hf, wset, if_pos hle, hqv] at h
          exact h)
        have hqw : Int.tdiv (f.s.size : Int) 50 = qv := hqv
        have hwq : IntKind.i64.wrap qv = qv := by rw [IntKind.wrap_i64]; omega
        have w3 : IntKind.i64.wrap (N + qv) = N + qv := by rw [IntKind.wrap_i64]; omega
        have hb9 : b < wr.heap.size := Nat.lt_of_lt_of_le hb HB.out.size
        have HFL := Li hfl
        clear hf hqv hfl
        go_wp2
        go_roundw
        case rel => exact ⟨k + 1, N + qv, by omega, rfl, by go_num, by have := HFL.out; omega, by have := HFL.out; omega, HG3, HC, HB⟩
        case measure => simp [intOf]; omega
      · have y1 : decide (N ≤ most) = false := decide_eq_false hle
        have HZ2x := Li (show wts (ks.drop 0) N most = z2 from by rw [← HZ2.out, ← HG.out, wset_out hle]; rfl)
        go_wp2
        go_loopw [5, 7] (fun nn j wr => ∃ (k : Nat) (N : Int), k ≤ m ∧ nn = .int .i64 N ∧ j = .int .i64 k ∧ 1 ≤ N ∧ N ≤ 5000000000000000000 ∧ Hid (wts (ks.drop k) N most = z2) ∧ Hid (CB wr w.heap.size 25 [.int .i64 op, .int .i64 id, .int .i64 lo, .int .i64 hi, .slice S ns sc, .string tx, .slice K m kc]) ∧ Hid (Below w.heap.size w wr)) (fun _ j _ => m - (intOf j).toNat)
        case atStart => exact ⟨0, N, by omega, rfl, rfl, hN1, hN2, HZ2x, HC, HB⟩
        case round =>
          obtain ⟨k2, N2, hk2, rfl, rfl, hM1, hM2, HG2, HC2, HB2⟩ := hrel
          have c7 := HC2.out.c7
          have zc := HC2.out.lt
          by_cases hlt2 : k2 < m
          · have j1 : (k2 : Int) < (m : Int) := by omega
            have j0 : (0 : Int) ≤ (k2 : Int) := by omega
            by_cases hle2 : N2 ≤ most
            · have y1 : decide (N2 ≤ most) = true := decide_eq_true hle2
              obtain ⟨kd, hkd⟩ : ∃ kd, ks[k2]? = some kd := ⟨_, List.getElem?_eq_getElem (by rw [HM.out]; exact hlt2)⟩
              obtain ⟨b, off, rfl, hb, d0, d1, d2, d3, d4, d5, d6⟩ := prs_one (RowAt.below HKR.out HB2.out) hkd
              obtain ⟨t, hwt⟩ : ∃ t, wt kd (most - N2) = t := ⟨_, rfl⟩
              have htb := wt_le kd (most - N2) (by omega)
              rw [hwt] at htb
              have w4 : IntKind.i64.wrap (most - N2) = most - N2 := by rw [IntKind.wrap_i64]; omega
              have w5 : IntKind.i64.wrap (N2 + t) = N2 + t := by rw [IntKind.wrap_i64]; omega
              have HTB := Li htb
              have HWT := Li hwt
              have HMK := Li (List.mem_of_getElem? hkd)
              have HG3 := Li (show wts (ks.drop (k2 + 1)) (N2 + t) most = z2 by
                have h := HG2.out
                rw [List.drop_eq_getElem_cons (by rw [HM.out]; exact hlt2), wts, if_pos hle2] at h
                rw [show ks[k2]'(by rw [HM.out]; exact hlt2) = kd from (List.getElem?_eq_some_iff.1 hkd).2, hwt] at h
                exact h)
              have hb9 : b < wr.heap.size := Nat.lt_of_lt_of_le hb HB2.out.size
              clear hkd hwt htb
              go_wp2_with (go_at_call 24; refine (IH.out kd HMK.out (most - N2) _ (by omega) (by omega) (PrAt.up (HP.out kd HMK.out) HB2.out) (HTK.out kd HMK.out)).mono ?_; rintro e v9 ⟨rfl, hv9⟩; rw [HWT.out]; have HB3 := Li (below_step HB2.out HB2.out.size hv9); have HC3 := Li (HC2.out.up hv9); clear hv9)
              go_roundw
              case rel => exact ⟨k2 + 1, N2 + t, by omega, rfl, by go_num, by have := HTB.out; omega, by have := HTB.out; omega, HG3, HC3, HB3⟩
              case measure => simp [intOf]; omega
            · have y1 : decide (N2 ≤ most) = false := decide_eq_false hle2
              have HE2 := Li (show z2 = N2 from by rw [← HG2.out, wts_out hle2])
              go_wp2
              go_ret
              exact ⟨by rw [HE2.out]; first | rfl | (simp [Int.min_def]; done), HB2.out⟩
          · have j1 : ¬ (k2 : Int) < (m : Int) := by omega
            have HE2 := Li (show z2 = N2 from by rw [← HG2.out, List.drop_eq_nil_of_le (by rw [HM.out]; omega), wts])
            go_wp2
            go_ret
            exact ⟨by rw [HE2.out]; first | rfl | (simp [Int.min_def]; done), HB2.out⟩

    · have j1 : ¬ (k : Int) < (ns : Int) := by omega
      have HZ2x := Li (show wts (ks.drop 0) N most = z2 from by rw [← HZ2.out, ← HG.out, show set.drop k = [] from List.drop_eq_nil_of_le (by rw [HNS.out]; omega), wset]; rfl)
      go_wp2
      go_loopw [5, 7] (fun nn j wr => ∃ (k : Nat) (N : Int), k ≤ m ∧ nn = .int .i64 N ∧ j = .int .i64 k ∧ 1 ≤ N ∧ N ≤ 5000000000000000000 ∧ Hid (wts (ks.drop k) N most = z2) ∧ Hid (CB wr w.heap.size 25 [.int .i64 op, .int .i64 id, .int .i64 lo, .int .i64 hi, .slice S ns sc, .string tx, .slice K m kc]) ∧ Hid (Below w.heap.size w wr)) (fun _ j _ => m - (intOf j).toNat)
      case atStart => exact ⟨0, N, by omega, rfl, rfl, hN1, hN2, HZ2x, HC, HB⟩
      case round =>
        obtain ⟨k2, N2, hk2, rfl, rfl, hM1, hM2, HG2, HC2, HB2⟩ := hrel
        have c7 := HC2.out.c7
        have zc := HC2.out.lt
        by_cases hlt2 : k2 < m
        · have j1 : (k2 : Int) < (m : Int) := by omega
          have j0 : (0 : Int) ≤ (k2 : Int) := by omega
          by_cases hle2 : N2 ≤ most
          · have y1 : decide (N2 ≤ most) = true := decide_eq_true hle2
            obtain ⟨kd, hkd⟩ : ∃ kd, ks[k2]? = some kd := ⟨_, List.getElem?_eq_getElem (by rw [HM.out]; exact hlt2)⟩
            obtain ⟨b, off, rfl, hb, d0, d1, d2, d3, d4, d5, d6⟩ := prs_one (RowAt.below HKR.out HB2.out) hkd
            obtain ⟨t, hwt⟩ : ∃ t, wt kd (most - N2) = t := ⟨_, rfl⟩
            have htb := wt_le kd (most - N2) (by omega)
            rw [hwt] at htb
            have w4 : IntKind.i64.wrap (most - N2) = most - N2 := by rw [IntKind.wrap_i64]; omega
            have w5 : IntKind.i64.wrap (N2 + t) = N2 + t := by rw [IntKind.wrap_i64]; omega
            have HTB := Li htb
            have HWT := Li hwt
            have HMK := Li (List.mem_of_getElem? hkd)
            have HG3 := Li (show wts (ks.drop (k2 + 1)) (N2 + t) most = z2 by
              have h := HG2.out
              rw [List.drop_eq_getElem_cons (by rw [HM.out]; exact hlt2), wts, if_pos hle2] at h
              rw [show ks[k2]'(by rw [HM.out]; exact hlt2) = kd from (List.getElem?_eq_some_iff.1 hkd).2, hwt] at h
              exact h)
            have hb9 : b < wr.heap.size := Nat.lt_of_lt_of_le hb HB2.out.size
            clear hkd hwt htb
            go_wp2_with (go_at_call 24; refine (IH.out kd HMK.out (most - N2) _ (by omega) (by omega) (PrAt.up (HP.out kd HMK.out) HB2.out) (HTK.out kd HMK.out)).mono ?_; rintro e v9 ⟨rfl, hv9⟩; rw [HWT.out]; have HB3 := Li (below_step HB2.out HB2.out.size hv9); have HC3 := Li (HC2.out.up hv9); clear hv9)
            go_roundw
            case rel => exact ⟨k2 + 1, N2 + t, by omega, rfl, by go_num, by have := HTB.out; omega, by have := HTB.out; omega, HG3, HC3, HB3⟩
            case measure => simp [intOf]; omega
          · have y1 : decide (N2 ≤ most) = false := decide_eq_false hle2
            have HE2 := Li (show z2 = N2 from by rw [← HG2.out, wts_out hle2])
            go_wp2
            go_ret
            exact ⟨by rw [HE2.out]; first | rfl | (simp [Int.min_def]; done), HB2.out⟩
        · have j1 : ¬ (k2 : Int) < (m : Int) := by omega
          have HE2 := Li (show z2 = N2 from by rw [← HG2.out, List.drop_eq_nil_of_le (by rw [HM.out]; omega), wts])
          go_wp2
          go_ret
          exact ⟨by rw [HE2.out]; first | rfl | (simp [Int.min_def]; done), HB2.out⟩

set_option maxHeartbeats 4000000 in
set_option maxRecDepth 20000 in
theorem Small_any (p : Pr) (most : Int) (w : World) (h0 : 0 ≤ most) (h1 : most ≤ 1000000) (hp : PrAt w w.heap.size p) (ht : Tame p) :
    Calls Try.prog 8 #[.agg #[.int .i64 p.op, .int .i64 p.id, .int .i64 p.lo, .int .i64 p.hi, .slice p.S p.set.length p.sc, .string p.tx, .slice p.K p.kids.length p.kc], .int .i64 most] w fun e w' => e = .returned (.bool (decide (wt p most ≤ most))) ∧ Below w.heap.size w w' := by
  have HW := Li (show ∀ X : World, PrAt X X.heap.size p → Calls Try.prog 24 #[.agg #[.int .i64 p.op, .int .i64 p.id, .int .i64 p.lo, .int .i64 p.hi, .slice p.S p.set.length p.sc, .string p.tx, .slice p.K p.kids.length p.kc], .int .i64 most] X fun e w' => e = .returned (.int .i64 (wt p most)) ∧ Below X.heap.size X w' from fun X h => weight_any p most X h0 h1 h ht)
  have HP := Li hp
  have P0 := Li (CB.new w 25 [.int .i64 p.op, .int .i64 p.id, .int .i64 p.lo, .int .i64 p.hi, .slice p.S p.set.length p.sc, .string p.tx, .slice p.K p.kids.length p.kc])
  have B0 := Li (al1 w (.cells #[.int .i64 p.op, .int .i64 p.id, .int .i64 p.lo, .int .i64 p.hi, .slice p.S p.set.length p.sc, .string p.tx, .slice p.K p.kids.length p.kc] 25))
  obtain ⟨t, htt⟩ : ∃ t, wt p most = t := ⟨_, rfl⟩
  rw [htt]
  have HT := Li htt
  have p0 := P0.out.c7
  have zp := P0.out.lt
  clear hp ht htt
  go_enter Try.func8, Try.ntmps8
  go_wp2_with (go_at_call 24; refine (HW.out _ (PrAt.up HP.out B0.out)).mono ?_; rintro e w1 ⟨rfl, hb1⟩; rw [HT.out]; have B1 := Li (below_step B0.out B0.out.size hb1); clear hb1)
  go_ret
  exact ⟨rfl, B1.out⟩
end Go.Proofs.Ytkeneoinfegodaa
