/-
  The iterator over the bits of a key: by a contract.
-/
import Derived.Test.YtmdokldbggingaaDoorBl2
import Derived.RangeFuncNested
import Derived.RangeFuncBound
import Derived.RangeFuncCalls
import Derived.RangeFuncLeaves
import Derived.Shelf.Abstract
import Derived.Shelf.RegionOpen
import Derived.OwnWalkIn
import Derived.TacticsInMore
import Derived.LoopNIn
import Derived.LoopIn
import Derived.Sort.QuietIn
namespace Go.Proofs.YtmdokldbggingaaDoor
open Go.RowKit Go.Shelf
attribute [local go_sem] Oper.semAt_some

theorem wpListIn_store_all {F : Fence} {n : Nat} {P : Program} {w : World} {ops : Array Oper} {rest : List Oper} {o : Oper} {a : Act} {Q : Exit → Act → World → Prop} (hgd : o.guard = none) (ty : TypeId) (x y : Operand) (ho : o.op = .store ty x y)
    (g : Nat) (l : List Value) (hx : a.eval x = .pointer (some ⟨g, 0, none⟩)) (hy : a.eval y = .agg l.toArray) (t : TypeId) (old : Array Value) (m : Nat) (hg : w.heap[g]? = some (.cells old t (0, 0)))
    (hi : (P.info? ty).map (·.size) = some m) (hn : old.size = m) (hl : l.length = m) (h1 : ∀ u ∈ l, u.oneCell' = true)
    (h : ∀ w', w'.heap[g]? = some (.cells l.toArray t (0, 0)) → w.grownBy w' (some g) → w'.heap.size = w.heap.size → wpListIn F n P ops Q rest (a.put o.dst undef) w') : wpListIn F n P ops Q (o :: rest) a w := by
  have ht : w.there g 0 l.toArray.size := by
    intro j hj
    rw [Nat.zero_add, cell_of_row w g j old t (0, 0) hg, frozen_of_row w g j old t hg]
    simp at hj ⊢; omega
  have hz : ∀ (vs : List Value) (o : Nat) (w : World), (w.setCells g o vs).heap.size = w.heap.size := by
    intro vs
    induction vs with
    | nil => intro o w; rfl
    | cons v r ih => intro o w; rw [World.setCells, ih]; simp [World.setCell]
  refine wpListIn_plain hgd fun K hK' => ?_
  unfold Oper.wpIn
  refine ⟨by simp [Oper.about, ho], ?_⟩
  rw [Oper.semAt_plain F _ _ (by rw [ho]; intro c hc'; cases hc')]
  unfold execOp
  simp only [ho, hx, hy, Instr.storeAt, Instr.sureAddr, Sem.run_bind, Sem.run_pure, Result.andThen_ok, run_storeVar_mid w g 0 ty l.toArray ht (by rw [hi]; simp [hl]) (all_oneCell_toArray h1)]
  exact hK' _ _ (h _ (setCells_block hg (by simp [hl, hn])) (setCells_grown g _ _ _) (hz _ _ _))

def bitsL (K : Int) (n : Nat) (key : List UInt8) : List Nat := if validB K n = true then keyB K.toNat n key else []
def encB (L : List Nat) (i : Fin L.length) : Array Value := #[.int .i64 (L[i.1] : Nat)]
theorem or_one (N : Nat) : N ||| 1 = N / 2 * 2 + 1 := by
  have a := Nat.two_pow_add_eq_or_of_lt (i := 1) (b := N % 2) (by omega) (N / 2)
  have b := Nat.two_pow_add_eq_or_of_lt (i := 1) (b := 1) (by omega) (N / 2)
  have e : N = 2 ^ 1 * (N / 2) ||| N % 2 := by rw [← a]; omega
  have f : N % 2 ||| 1 = 1 := by
    rcases Nat.mod_two_eq_zero_or_one N with h | h <;> rw [h] <;> rfl
  calc N ||| 1 = (2 ^ 1 * (N / 2) ||| N % 2) ||| 1 := by rw [← e]
    _ = 2 ^ 1 * (N / 2) ||| 1 := by rw [Nat.or_assoc, f]
    _ = N / 2 * 2 + 1 := by rw [← b]; omega
theorem dgK_len (key : List UInt8) : (dgK key).length = 32 := digestOf_len _ _
theorem hA_lt (key : List UInt8) : hA key < 2 ^ 64 := by
  have := numL_lt2 (dgK key) 8
  exact this
theorem hC_lt (key : List UInt8) : hC key < 2 ^ 64 := numL_lt2 ((dgK key).drop 8) 8
theorem hB_is (key : List UInt8) : bits .or .u64 ((hC key : Nat) : Int) 1 = ((hB key : Nat) : Int) := by
  have := u64_or (hC key) 1 (hC_lt key) (by decide)
  rw [or_one] at this
  exact this
theorem sumN_zero (key : List UInt8) : sumN (hA key) (hB key) 0 = hA key := by
  unfold sumN
  rw [Nat.zero_mul, Nat.add_zero, Nat.mod_eq_of_lt (hA_lt key)]
theorem sumN_succ (a b k : Nat) : IntKind.u64.wrap ((sumN a b k : Nat) + (b : Nat) : Int) = ((sumN a b (k + 1) : Nat) : Int) := by
  rw [IntKind.wrap_u64]
  unfold sumN
  rw [Nat.succ_mul]
  omega
theorem wide_fn (f : Nat) : Fence.wide.fn f = True := rfl
attribute [local simp] wide_fn
theorem fin_take {N k : Nat} (h : k < N) : (List.finRange N).take (k + 1) = (List.finRange N).take k ++ [⟨k, h⟩] := by
  rw [List.take_add_one, List.getElem?_eq_getElem (by simpa using h)]
  simp
set_option maxRecDepth 100000 in
set_option maxHeartbeats 2000000 in
theorem bits1_in (n y Bf Bk : Nat) (K : Int) (F : Option Addr) (m d : Nat) (A : Option Addr) (ca : Nat) (key : List UInt8) (L : List Nat) (hL : L = bitsL K m key) (hm : m ≤ 9223372036854775807) (hk : key.length ≤ 999000) (J Jx : List (Fin L.length) → World → Prop)
    (hJ : ∀ pre X X', J pre X → Below X.heap.size X X' → J pre X')
    (hY : ∀ pre (x : Fin L.length) X, J pre X → pre.length < L.length → YieldAt Fence.wide (n - 1) Tryd.prog y (encB L x) X fun e X' =>
      (e = .returned (.bool true) ∧ J (pre ++ [x]) X' ∧ True) ∨ (e = .returned (.bool false) ∧ Jx (pre ++ [x]) X'))
    (W : World) (hF : CB W Bf 24 [.int .i64 K, .slice F m d]) (hBk : CB W Bk 22 [.slice A key.length ca]) (hs : Shows W W.heap.size A key) (G : Glob W) (h0 : J [] W) :
    CallsIn Fence.wide n Tryd.prog 41 #[.func (.yield y) #[] #[], .pointer (some ⟨Bf, 0, none⟩), .pointer (some ⟨Bk, 0, none⟩)] W fun e W' => (∃ v, e = .returned v) ∧
      ((∃ ys, ys = List.finRange L.length ∧ J ys W') ∨ (∃ pre, Jx pre W')) := by
  obtain ⟨v, hv⟩ : ∃ v, validB K m = v := ⟨_, rfl⟩
  have HV := Li hv
  obtain ⟨f0, f1⟩ := hF.c2
  have zf := hF.lt
  have HY := Li hY
  have HJ := Li hJ
  clear hY hJ
  cases v with
  | false =>
    have hL0 : L.length = 0 := by rw [hL]; unfold bitsL; rw [hv]; rfl
    have J1 := Li (HJ.out [] W _ h0 (al1 W (.cells #[.int .i64 K, .slice F m d] 24)))
    have HL := Li hL0
    clear hL hv hL0 h0
    refine callsIn_of_wp Tryd.func41 rfl trivial ?_ rfl
    simp only [Tryd.ntmps41, List.size_toArray, List.length_cons, List.length_nil, Nat.reduceAdd, Nat.reduceSub, Array.replicate_succ, Array.replicate_zero, List.push_toArray, List.append_toArray, List.nil_append, List.cons_append]
    gi_wp2_with ((first | refine ⟨trivial, (fun h => by cases h), ?_⟩ | refine ⟨(fun h => by cases h), ?_⟩); gi_at_call 26; refine (callsIn_wide.2 (isValid_any K F m d _ hm)).mono ?_; rintro e w1 ⟨rfl, rfl⟩; rw [HV.out])
    refine bodyPost_ret (results_none rfl _ _ _) rfl ?_
    refine ⟨⟨_, rfl⟩, .inl ⟨_, rfl, ?_⟩⟩
    have e : List.finRange L.length = [] := List.eq_nil_of_length_eq_zero (by simp [HL.out])
    rw [e]
    exact J1.out
  | true =>
    obtain ⟨k1, hk1, rfl⟩ : ∃ k1 : Nat, (1 ≤ k1 ∧ k1 ≤ 16) ∧ K = (k1 : Int) := by
      have h1 : isKB K = true := by unfold validB at hv; rw [Bool.and_eq_true] at hv; exact hv.1
      have h2 := of_decide_eq_true h1
      exact ⟨K.toNat, by omega, by omega⟩
    have hm2 : 1 ≤ m ∧ m ≤ 65536 := pow_le (by unfold validB at hv; rw [Bool.and_eq_true] at hv; exact hv.2)
    have hLe : L = keyB k1 m key := by rw [hL]; unfold bitsL; rw [if_pos hv]; rfl
    have HL := Li hLe
    have hLn : L.length = k1 := by rw [hLe]; exact posL_len _ _ _ _
    have HN := Li hLn
    have k0 := hBk.c1
    have zk := hBk.lt
    have hw1 : IntKind.u64.wrap (m : Int) = (m : Int) := by rw [IntKind.wrap_u64]; omega
    have hw2 : IntKind.u64.wrap ((m : Int) * 8) = ((8 * m : Nat) : Int) := by rw [IntKind.wrap_u64]; omega
    have HBb := Li (hB_is key)
    have F1 := Li (hF.alloc (.cells #[.int .i64 (k1 : Int), .slice F m d] 24))
    have B1 := Li (al1 W (.cells #[.int .i64 (k1 : Int), .slice F m d] 24))
    have S1 := Li (hs.up B1.out)
    have G1 := Li (G.up B1.out)
    have J1 := Li (HJ.out [] W _ h0 B1.out)
    clear hL hv h0 hLe hLn hs G hF hBk
    refine callsIn_of_wp Tryd.func41 rfl trivial ?_ rfl
    simp only [Tryd.ntmps41, List.size_toArray, List.length_cons, List.length_nil, Nat.reduceAdd, Nat.reduceSub, Array.replicate_succ, Array.replicate_zero, List.push_toArray, List.append_toArray, List.nil_append, List.cons_append]
    gi_wp2_with (first
      | ((first | refine ⟨trivial, (fun h => by cases h), ?_⟩ | refine ⟨(fun h => by cases h), ?_⟩); gi_at_call 26; refine (callsIn_wide.2 (isValid_any (k1 : Int) F m d _ hm)).mono ?_; rintro e w1 ⟨rfl, rfl⟩; rw [HV.out])
      | ((first | refine ⟨trivial, (fun h => by cases h), ?_⟩ | refine ⟨(fun h => by cases h), ?_⟩); gi_at_call 42; refine (callsIn_wide.2 (leafP_any A ca key _ G1.out S1.out hk)).mono ?_; rintro e w2 ⟨rfl, hb2⟩; rw [show digestOf [] (0 :: key) = dgK key from rfl]; have F2 := Li (F1.out.up hb2); have B2 := Li hb2; clear hb2)
      | ((with_reducible show wpListIn _ _ _ _ _ _ _ _); refine wpListIn_store_all rfl 68 (.tmp 4) (.tmp 12) rfl w2.heap.size (cb (dgK key)) rfl rfl 68 (cb (List.replicate 32 0)).toArray 32 (bt_new (w := w2) (n := 32) rfl rfl) info24D (by simp [cb]) (by rw [cb_len, dgK_len]) (cb_one _) ?_; intro w4 hb4 hg4 hz4; have H4 := Li hb4; have R4 := Li hg4; have Z4 := Li hz4; clear hb4 hg4 hz4))
    have hz2 : W.heap.size < w2.heap.size := by have := B2.out.size; simp at this; omega
    have B4 := Li (((B2.out.alloc B2.out.size (.cells (cb (List.replicate 32 0)).toArray 68)).grown R4.out (by have := B2.out.size; simp; simp at this; omega) (fun k e => by cases e; exact B2.out.size)))
    have D4 := Li (show BT w4 w2.heap.size 68 (dgK key) from H4.out)
    have F4 := Li ((F2.out.alloc (.cells (cb (List.replicate 32 0)).toArray 68)).grown R4.out (by intro h; injection h with h; omega))
    have J4 := Li (HJ.out [] _ w4 J1.out B4.out)
    clear F2 B2 H4 R4 Z4 f0 f1 k0 zk zf F1 B1 S1 G1 J1 B4 hz2
    generalize w2.heap.size = g at *
    obtain ⟨c0, c1⟩ := F4.out.c2
    have zf := F4.out.lt
    have zg := D4.out.lt
    rw [pnz.1]
    have SA := Li (Shows.first (n := 8) (D4.out.shows D4.out.lt))
    have SC := Li (show Shows w4 w4.heap.size (some ⟨g, 8, none⟩) (((dgK key).drop 8).take 8) from Shows.cutAt (cap := 32) (k := 8) (n := 8) (D4.out.shows D4.out.lt) (by rw [dgK_len]; decide) (by rw [dgK_len]; decide) (by decide))
    gi_quiet (first
      | (refine ⟨(fun h => by cases h), ?_⟩; gi_at_call 43; (with_reducible show CallsIn _ _ _ _ #[.slice (some ⟨_, 0, none⟩) _ _] _ _); refine CallsIn.quiet_of_same (callsIn_wide.2 (number_any _ _ _ ((dgK key).take 8) _ rfl (by simp [dgK_len]) SA.out)))
      | (refine ⟨(fun h => by cases h), ?_⟩; gi_at_call 43; refine CallsIn.quiet_of_same (callsIn_wide.2 (number_any _ _ _ (((dgK key).drop 8).take 8) _ rfl (by simp [dgK_len]) SC.out))))
    rw [show numL (((dgK key).drop 8).take 8) = hC key from rfl, show numL ((dgK key).take 8) = hA key from rfl, HBb.out]
    have J5 := Li (HJ.out [] w4 (w4.drewN nq) J4.out (below_drewNM (Below.refl _ _) nq))
    have hp : ∀ k, k < k1 → ∃ h : k < L.length, L[k] = sumN (hA key) (hB key) k % (8 * m) := fun k h => ⟨by rw [HN.out]; exact h, by
      have e := HL.out
      subst e
      simp [keyB, posL]⟩
    have HP := Li hp
    have hs0 := sumN_zero key
    have HS1 := Li (sumN_succ (hA key) (hB key))
    clear hp SA SC J4 D4 HL HBb
    generalize hA key = a at *
    generalize hB key = b at *
    rw [← hs0]
    clear hs0
    gi_wp2
    gi_loopw [5, 25] (fun s i wr => ∃ k : Nat, k ≤ k1 ∧ i = .int .i64 k ∧ s = .int .u64 (sumN a b k : Nat) ∧ Hid (J ((List.finRange L.length).take k) wr)) (fun _ i _ => k1 - (intOf i).toNat)
    case atStart => exact ⟨0, by omega, rfl, rfl, J5⟩
    case round =>
      obtain ⟨k, hk, rfl, rfl, JR⟩ := hrel
      by_cases hlt : k < k1
      · have i1 : (k : Int) < (k1 : Int) := by omega
        obtain ⟨hk2, hp⟩ := HP.out k hlt
        obtain ⟨fn, tmps, assign, body, hy, hR⟩ := HY.out ((List.finRange L.length).take k) ⟨k, hk2⟩ wr JR.out (by simp; omega)
        simp only [encB] at hy
        obtain ⟨q, hqq⟩ : ∃ q, sumN a b k % (8 * m) = q := ⟨_, rfl⟩
        rw [hqq] at hp
        rw [hp] at hy
        clear hp
        have HSk := Li (HS1.out k)
        generalize sumN a b k = s at *
        have hq : wrap64 ((s : Int) % (8 * (m : Int))) = (q : Int) := by
          have h2 := Nat.mod_lt s (by omega : 0 < 8 * m)
          have h3 : (s : Int) % (8 * (m : Int)) = ((s % (8 * m) : Nat) : Int) := by push_cast; rfl
          rw [h3]
          unfold wrap64
          omega
        clear hqq
        gi_wp2
        refine ⟨(fun h => by cases h), hR.mono ?_⟩
        clear hR
        rintro e W3 (⟨rfl, hJ3, _⟩ | ⟨rfl, hJx3⟩)
        · have J3 := Li hJ3
          clear hJ3 hy hq
          gi_wp2
          go_roundw
          case rel => exact ⟨k + 1, by omega, by go_num, by rw [← HSk.out], by rw [fin_take hk2]; exact J3⟩
          case measure => simp [intOf]; omega
        · gi_wp2
          refine bodyPost_ret (results_none rfl _ _ _) rfl ?_
          exact ⟨⟨_, rfl⟩, .inr ⟨_, hJx3⟩⟩
      · have i1 : ¬ (k : Int) < (k1 : Int) := by omega
        have hkk : k = k1 := by omega
        have HJk := Li (show J (List.finRange L.length) wr by
          have h := JR.out
          rw [List.take_of_length_le (by rw [List.length_finRange, HN.out]; omega)] at h
          exact h)
        gi_wp2
        go_end0
        exact ⟨⟨_, rfl⟩, .inl HJk.out⟩
theorem bits_stops (n Bf Bk : Nat) (K : Int) (F : Option Addr) (m d : Nat) (A : Option Addr) (ca : Nat) (key : List UInt8) (L : List Nat) (hL : L = bitsL K m key) (hm : m ≤ 9223372036854775807) (hk : key.length ≤ 999000)
    (w : World) (hF : CB w Bf 24 [.int .i64 K, .slice F m d]) (hBk : CB w Bk 22 [.slice A key.length ca]) (hs : Shows w w.heap.size A key) (G : Glob w) :
    SeqStopsK Fence.wide n Tryd.prog 41 #[.pointer (some ⟨Bf, 0, none⟩), .pointer (some ⟨Bk, 0, none⟩)] (encB L) (fun _ _ => True) (fun ys => ys = List.finRange L.length) (fun _ => True) L.length w := fun y J Jx W hW hJ hJx hY h0 => by
  refine (bits1_in n y Bf Bk K F m d A ca key L hL hm hk J Jx ?_ hY W (hF.up hW) (hBk.up hW) (hs.up hW) (G.up hW) h0).mono ?_
  · intro pre X X' h hb
    exact hJ pre X X' none h ⟨hb.os, hb.tape, hb.output, hb.size, fun i hi _ => hb.block i hi⟩ (fun r e => by cases e)
  · rintro e X ⟨hv, h⟩
    refine ⟨hv, ?_⟩
    rcases h with h | ⟨pre, h⟩
    · exact .inl h
    · exact .inr ⟨pre, trivial, h⟩
end Go.Proofs.YtmdokldbggingaaDoor
