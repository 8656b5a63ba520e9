/-
  The closure in the program's Cover: by a contract, by induction on the order of the square.
-/
import Derived.Test.YtlndpclgljfloaaCov
import Derived.Test.YtlndpclgljfloaaCl0
import Derived.Test.YtlndpclgljfloaaCl1
import Derived.Test.YtlndpclgljfloaaCl2
import Derived.Test.YtlndpclgljfloaaCl3
import Derived.Deep.CutRange
import Derived.Deep.DeepCutAuto
namespace Go.Proofs.Ytlndpclgljfloaa
open Go.RowKit

/-- the window's parts up to a quadrant -/
def visP (k : Nat) (w : Hb.Wd) (first : Nat) (acc : List (Nat × Nat)) : Nat → List (Nat × Nat)
  | 0 => acc
  | q + 1 => if Hb.clipB w (2 ^ k) q = true then Hb.vis k (Hb.clipI w (2 ^ k) q) (first + q * (2 ^ k * 2 ^ k)) (visP k w first acc q) else visP k w first acc q
theorem vis_succ {k : Nat} {w : Hb.Wd} {first : Nat} {acc : List (Nat × Nat)} (h : ¬ w = Hb.whole (2 ^ (k + 1))) : Hb.vis (k + 1) w first acc = visP k w first acc 4 := by
  rw [Hb.vis, if_neg h]
  rfl
theorem vis_le : ∀ (k : Nat) (w : Hb.Wd) (first : Nat) (acc : List (Nat × Nat)), (Hb.vis k w first acc).length ≤ acc.length + 4 ^ k
  | 0, w, first, acc => Hb.joinL_len acc first first
  | k + 1, w, first, acc => by
    have ih := vis_le k
    have hp : 1 ≤ 4 ^ (k + 1) := Nat.one_le_pow _ _ (by decide)
    by_cases h : w = Hb.whole (2 ^ (k + 1))
    · rw [Hb.vis, if_pos h]
      have := Hb.joinL_len acc first (first + (2 ^ (k + 1) * 2 ^ (k + 1) - 1))
      omega
    · rw [vis_succ h, Nat.pow_succ]
      have step : ∀ q, (visP k w first acc q).length ≤ acc.length + q * 4 ^ k := by
        intro q
        induction q with
        | zero => simp [visP]
        | succ q ihq =>
          rw [visP, Nat.add_mul]
          split
          · have := ih (Hb.clipI w (2 ^ k) q) (first + q * (2 ^ k * 2 ^ k)) (visP k w first acc q)
            omega
          · omega
      have := step 4
      omega
theorem joinL_lt {M : Nat} {acc : List (Nat × Nat)} {a b : Nat} (h : ∀ x ∈ acc, x.2 < M) (hb : b < M) : ∀ x ∈ Hb.joinL acc a b, x.2 < M := by
  intro x hx
  rcases List.eq_nil_or_concat acc with rfl | ⟨l, ⟨p, q⟩, rfl⟩
  · rw [Hb.joinL_nil, List.mem_singleton] at hx
    rw [hx]; exact hb
  · rw [List.concat_eq_append] at *
    rw [Hb.joinL_snoc] at hx
    split at hx
    · rcases List.mem_append.1 hx with hx | hx
      · exact h x (by simp [hx])
      · rw [List.mem_singleton] at hx; rw [hx]; exact hb
    · rcases List.mem_append.1 hx with hx | hx
      · exact h x hx
      · rw [List.mem_singleton] at hx; rw [hx]; exact hb
theorem vis_lt {M : Nat} : ∀ (k : Nat) (w : Hb.Wd) (first : Nat) (acc : List (Nat × Nat)), (∀ x ∈ acc, x.2 < M) → first + 2 ^ k * 2 ^ k ≤ M → ∀ x ∈ Hb.vis k w first acc, x.2 < M
  | 0, w, first, acc, h, hM => joinL_lt h (by simp at hM; omega)
  | k + 1, w, first, acc, h, hM => by
    have ih := vis_lt (M := M) k
    have hp : 0 < 2 ^ (k + 1) * 2 ^ (k + 1) := Nat.mul_pos (Nat.two_pow_pos _) (Nat.two_pow_pos _)
    by_cases hw : w = Hb.whole (2 ^ (k + 1))
    · rw [Hb.vis, if_pos hw]
      exact joinL_lt h (by omega)
    · rw [vis_succ hw]
      rw [Hb.sq] at hM
      have step : ∀ q, q ≤ 4 → ∀ x ∈ visP k w first acc q, x.2 < M := by
        intro q
        induction q with
        | zero => exact fun _ => h
        | succ q ihq =>
          intro hq
          rw [visP]
          split
          · refine ih _ _ _ (ihq (by omega)) ?_
            have : (q + 1) * (2 ^ k * 2 ^ k) ≤ 4 * (2 ^ k * 2 ^ k) := Nat.mul_le_mul_right _ hq
            rw [Nat.add_mul] at this
            omega
          · exact ihq (by omega)
      exact step 4 (Nat.le_refl _)
/-- that the visit of a square does what it says -/
def VisAt (k : Nat) : Prop := ∀ (w0 : World) (rb lb vb : Nat) (wd : Hb.Wd) (first : Nat) (acc : List (Nat × Nat)) (A : Option Addr) (n c : Nat) (X : World), wd.ok (2 ^ k) → first + 2 ^ k * 2 ^ k ≤ 2 ^ 40 → CvS w0 rb lb vb A n c acc X → (∀ x ∈ acc, x.2 < 2 ^ 62) → acc.length + 4 ^ k ≤ 1000000 →
    Calls Try.prog 38 #[.agg (wdV wd).toArray, .int .u32 (2 ^ k : Nat), .int .u64 first, .pointer (some ⟨rb, 0, none⟩), .pointer (some ⟨lb, 0, none⟩), .pointer (some ⟨vb, 0, none⟩)] X fun e X' => e = .returned (.tuple #[]) ∧ ∃ A' n' c', CvS w0 rb lb vb A' n' c' (Hb.vis k wd first acc) X' ∧ VF rb X X'
theorem visit_zero : VisAt 0 := by
  intro w0 rb lb vb wd first acc A n c X hok hf h hq hl
  have e : wd = Hb.whole (2 ^ 0) := by
    obtain ⟨x, y, u, v⟩ := wd
    unfold Hb.Wd.ok at hok
    unfold Hb.whole
    simp at hok ⊢
    omega
  subst e
  have := visit_whole w0 rb lb vb 0 first acc A n c X (by decide) (by omega) h hq (by omega)
  exact this
theorem clip_at (q : Nat) (hq : q < 4) (x y u v s : Nat) (w : World) (hs0 : 0 < s) (hs : s < 2 ^ 31) (ho : Hb.Wd.ok ⟨x, y, u, v⟩ (2 * s)) :
    Calls Try.prog 41 #[.agg (qdV q).toArray, .agg (wdV ⟨x, y, u, v⟩).toArray, .int .u32 s] w fun e w' => e = .returned (ClpR ⟨x, y, u, v⟩ s q) ∧ Below w.heap.size w w' := by
  have hq' : q = 0 ∨ q = 1 ∨ q = 2 ∨ q = 3 := by omega
  rcases hq' with rfl | rfl | rfl | rfl
  · exact clip_0 x y u v s w hs0 hs ho
  · exact clip_1 x y u v s w hs0 hs ho
  · exact clip_2 x y u v s w hs0 hs ho
  · exact clip_3 x y u v s w hs0 hs ho
theorem qix_at (q : Nat) (hq : q < 4) (w : World) : (Instr.index 67 (.agg QS.toArray) (.int .i64 q)).run Try.prog w = .ok (.agg (qdV q).toArray) w := by
  have hq' : q = 0 ∨ q = 1 ∨ q = 2 ∨ q = 3 := by omega
  rcases hq' with rfl | rfl | rfl | rfl
  · exact qix0 w
  · exact qix1 w
  · exact qix2 w
  · exact qix3 w
theorem qd_one : ∀ q, ∀ u ∈ qdV q, u.oneCell' = true
  | 0 => by decide
  | 1 => by decide
  | 2 => by decide
  | _ + 3 => (by decide : ∀ u ∈ qdV 3, u.oneCell' = true)
theorem qd_len : ∀ q, (qdV q).length = 4
  | 0 => rfl
  | 1 => rfl
  | 2 => rfl
  | _ + 3 => rfl
/-- a fresh quadrant -/
def ZQ : List Value := [.int .u32 0, .int .u32 0, .nilFunc, .nilFunc]
theorem info66 : (Try.prog.info? 66).map (·.size) = some 4 := by kernel_rfl
theorem wd_one (w : Hb.Wd) : ∀ u ∈ wdV w, u.oneCell' = true := by intro u hu; simp [wdV] at hu; rcases hu with rfl | rfl | rfl | rfl <;> rfl
theorem zw_one : ∀ u ∈ ZW, u.oneCell' = true := by decide
/-- the head of the loop over the quadrants -/
structure CvL (w0 : World) (rb lb vb : Nat) (A : Option Addr) (n c : Nat) (k : Nat) (wd : Hb.Wd) (first : Nat) (acc : List (Nat × Nat)) (q fb : Nat) (X Y : World) : Prop where
  s : CvS w0 rb lb vb A n c (visP k wd first acc q) Y
  b : CB Y fb 88 (wdV wd)
  f : VF rb X Y
  z : fb ≠ rb
theorem CvL.up {w0 X Y Y' : World} {rb lb vb : Nat} {A : Option Addr} {n c k : Nat} {wd : Hb.Wd} {first : Nat} {acc : List (Nat × Nat)} {q fb : Nat} (h : CvL w0 rb lb vb A n c k wd first acc q fb X Y) (hb : Below Y.heap.size Y Y') : CvL w0 rb lb vb A n c k wd first acc q fb X Y' :=
  ⟨h.s.up hb, h.b.up hb, h.f.trans (VF.of hb), h.z⟩
set_option maxHeartbeats 8000000 in
set_option maxRecDepth 20000 in
theorem visit_succ {k : Nat} (ih : VisAt k) (hk : k + 1 ≤ 5) : VisAt (k + 1) := by
  intro w0 rb lb vb wd first acc A n c X hok hf h hq hl
  by_cases hw : wd = Hb.whole (2 ^ (k + 1))
  · have := visit_whole w0 rb lb vb (k + 1) first acc A n c X hk (by omega) h hq (Nat.le_trans (Nat.le_add_right _ _) hl)
    rw [hw, Hb.vis, if_pos rfl]
    exact this
  · rw [vis_succ hw]
    have hb := p32 (k := k) (by omega)
    have h4 : 4 ^ (k + 1) = 4 * 4 ^ k := by rw [Nat.pow_succ, Nat.mul_comm]
    have hlt : ∀ q, q ≤ 4 → ∀ x ∈ visP k wd first acc q, x.2 < 2 ^ 62 := by
      intro q
      induction q with
      | zero => exact fun _ => hq
      | succ q ihq =>
        intro hq4
        rw [visP]
        split
        · refine vis_lt k _ _ _ (ihq (by omega)) ?_
          have h1 : q * (2 ^ k * 2 ^ k) ≤ 3 * (2 ^ k * 2 ^ k) := Nat.mul_le_mul_right _ (by omega)
          have h2 : 2 ^ k * 2 ^ k ≤ 65536 * 65536 := Nat.mul_le_mul hb.1 hb.1
          rw [Hb.sq] at hf
          omega
        · exact ihq (by omega)
    have hlen : ∀ q, (visP k wd first acc q).length ≤ acc.length + q * 4 ^ k := by
      intro q
      induction q with
      | zero => simp [visP]
      | succ q ihq =>
        rw [visP, Nat.add_mul]
        split
        · have := vis_le k (Hb.clipI wd (2 ^ k) q) (first + q * (2 ^ k * 2 ^ k)) (visP k wd first acc q)
          omega
        · omega
    have hok2 : wd.ok (2 * 2 ^ k) := by rw [Nat.pow_succ, Nat.mul_comm] at hok; exact hok
    obtain ⟨x, y, u, v⟩ := wd
    have hne : ((x : Int) == 0 && ((y : Int) == 0 && ((u : Int) == ((2 * 2 ^ k - 1 : Nat) : Int) && (v : Int) == ((2 * 2 ^ k - 1 : Nat) : Int)))) = false := by
      rw [Bool.eq_false_iff]
      intro hb
      simp only [Bool.and_eq_true, beq_iff_eq] at hb
      refine hw ?_
      unfold Hb.whole
      rw [Nat.pow_succ, Nat.mul_comm (2 ^ k)]
      congr 1 <;> omega
    have hIH : ∀ (q : Nat) (A : Option Addr) (n c : Nat) (Y : World), q < 4 → Hb.clipB ⟨x, y, u, v⟩ (2 ^ k) q = true → CvS w0 rb lb vb A n c (visP k ⟨x, y, u, v⟩ first acc q) Y →
        Calls Try.prog 38 #[.agg (wdV (Hb.clipI ⟨x, y, u, v⟩ (2 ^ k) q)).toArray, .int .u32 (2 ^ k : Nat), .int .u64 (first + q * (2 ^ k * 2 ^ k) : Nat), .pointer (some ⟨rb, 0, none⟩), .pointer (some ⟨lb, 0, none⟩), .pointer (some ⟨vb, 0, none⟩)] Y fun e Y' => e = .returned (.tuple #[]) ∧ ∃ A' n' c', CvS w0 rb lb vb A' n' c' (visP k ⟨x, y, u, v⟩ first acc (q + 1)) Y' ∧ VF rb Y Y' := by
      intro q A n c Y hq4 hB hS
      rw [visP, if_pos hB]
      refine ih w0 rb lb vb _ _ _ A n c Y (Hb.clip_ok hq4 hok2 hB) ?_ hS (hlt q (by omega)) ?_
      · have h1 : q * (2 ^ k * 2 ^ k) ≤ 3 * (2 ^ k * 2 ^ k) := Nat.mul_le_mul_right _ (by omega)
        rw [Hb.sq] at hf
        omega
      · have := hlen q
        have h5 : q * 4 ^ k ≤ 3 * 4 ^ k := Nat.mul_le_mul_right _ (by omega)
        omega
    have hsk : ∀ q, Hb.clipB ⟨x, y, u, v⟩ (2 ^ k) q = false → visP k ⟨x, y, u, v⟩ first acc (q + 1) = visP k ⟨x, y, u, v⟩ first acc q := fun q hB => by rw [visP, hB]; rfl
    have hS2 : (2 : Nat) ^ (k + 1) = 2 * 2 ^ k := by rw [Nat.pow_succ, Nat.mul_comm]
    rw [hS2]
    have hQ : 2 ^ k * 2 ^ k ≤ 65536 * 65536 := Nat.mul_le_mul hb.1 hb.1
    rw [Hb.sq] at hf
    obtain ⟨S, hS⟩ : ∃ S, 2 ^ k = S := ⟨_, rfl⟩
    rw [hS] at hb hok2 hne hIH hsk hQ hf ⊢
    obtain ⟨b1, b2⟩ := hb
    have HIH := Li hIH
    have HSK := Li hsk
    have HOK := Li hok2
    have hff : first ≤ 2 ^ 41 := by omega
    obtain ⟨Q, hQe⟩ : ∃ Q, S * S = Q := ⟨_, rfl⟩
    rw [hQe] at hQ
    have HQ := Li hQe
    have d1 : 2 * (S : Int) - 1 = ((2 * S - 1 : Nat) : Int) := by omega
    have h1 : CvL w0 rb lb vb A n c k ⟨x, y, u, v⟩ first acc 0 X.heap.size X (X.alloc (.cells (wdV ⟨x, y, u, v⟩).toArray 88)) :=
      ⟨h.up (al1 X _), CB.new X 88 (wdV ⟨x, y, u, v⟩), VF.of (al1 X _), by have := h.r.lt; omega⟩
    have H1 := Li h1
    have qw := eqw
    have qg := eqGuard_w
    clear ih h hw hq hl hok hIH hsk hok2 hlt hlen h4 hS2 hS hQe h1 hf
    show Calls Try.prog 38 #[.agg #[.int .u32 x, .int .u32 y, .int .u32 u, .int .u32 v], .int .u32 (2 * S : Nat), .int .u64 first, .pointer (some ⟨rb, 0, none⟩), .pointer (some ⟨lb, 0, none⟩), .pointer (some ⟨vb, 0, none⟩)] X _
    go_enter Try.func38, Try.ntmps38
    go_wp2_with ((with_reducible show wpList _ _ _ (Oper.mk _ (.load 67 _) _ _ _ _ :: _) _ _); refine wpList_load_cb rfl 67 (.tmp 4) rfl lb rfl 67 QS _ H1.out.s.l Try.underlying67 rfl 16 info67 rfl ?_)
    go_loopw [33] (fun s33 wr => ∃ (q : Nat) (A2 : Option Addr) (n2 c2 : Nat), q ≤ 4 ∧ s33 = .int .i64 q ∧ Hid (CvL w0 rb lb vb A2 n2 c2 k ⟨x, y, u, v⟩ first acc q X.heap.size X wr)) (fun s33 _ => 4 - (intOf s33).toNat)
    case atStart => exact ⟨0, A, n, c, by omega, rfl, H1⟩
    case round =>
      clear H1
      obtain ⟨q, A2, n2, c2, hq4, rfl, HL⟩ := hrel
      by_cases hqq : q < 4
      · have qi := qix_at q hqq
        have q0 : (0 : Int) ≤ (q : Int) := by omega
        have qlt : (q : Int) < 4 := by omega
        cases hB : Hb.clipB ⟨x, y, u, v⟩ S q with
        | false =>
          have HB := Li hB
          clear hB
          go_wp2_with (first
            | ((with_reducible show wpList _ _ _ (Oper.mk none (.store 66 _ _) _ _ _ _ :: _) _ _); refine wpList_store_cb rfl 66 (.tmp 11) (.tmp 36) rfl wr.heap.size (qdV q) rfl rfl 66 ZQ 4 (CB.new wr 66 ZQ) info66 rfl (qd_len q) (qd_one q) ?_; intro w3 hc3 hg3 hz3; have C3 := Li hc3; have L3 := Li (HL.out.up (below_grown (al1 wr _) hg3 (by simp) (Nat.le_refl _))); clear hc3 hg3 hz3)
            | ((with_reducible show wpList _ _ _ (Oper.mk _ (.load 66 _) _ _ _ _ :: _) _ _); refine wpList_load_cb rfl 66 (.tmp 11) rfl wr.heap.size rfl 66 (qdV q) _ C3.out Try.underlying66 rfl 4 info66 (qd_len q) ?_)
            | ((with_reducible show wpList _ _ _ (Oper.mk _ (.load 88 _) _ _ _ _ :: _) _ _); refine wpList_load_cb rfl 88 (.tmp 6) rfl X.heap.size rfl 88 (wdV ⟨x, y, u, v⟩) _ L3.out.b Try.underlying88 rfl 4 info88 rfl ?_)
            | (go_at_call 41; refine (clip_at q hqq x y u v S _ b2 (by omega) HOK.out).mono ?_; rintro e w4 ⟨rfl, hb4⟩; rw [ClpR_no HB.out]; have L4 := Li (L3.out.up hb4); have z4 := L4.out.b.lt; clear hb4 L3 C3)
            | ((with_reducible show wpList _ _ _ (Oper.mk none (.store 88 _ _) _ _ _ _ :: _) _ _); refine wpList_store_cb rfl 88 (.tmp 12) (.tmp 42) rfl w4.heap.size ZW rfl rfl 88 ZW 4 (CB.new w4 88 ZW) info88 rfl rfl zw_one ?_; intro w5 hc5 hg5 hz5; have L5 := Li (L4.out.up (below_grown (al1 w4 _) hg5 (by simp) (Nat.le_refl _))); clear hc5 hg5 hz5 L4))
          go_roundw
          case rel => exact ⟨q + 1, A2, n2, c2, by omega, by go_num, Li ⟨by rw [HSK.out q HB.out]; exact L5.out.s, L5.out.b, L5.out.f, L5.out.z⟩⟩
          case measure => simp [intOf]; omega
        | true =>
          have HB := Li hB
          obtain ⟨⟨px, py, pu, pv⟩, hP⟩ : ∃ p, Hb.clipI ⟨x, y, u, v⟩ S q = p := ⟨_, rfl⟩
          have HP := Li hP
          obtain ⟨M, hM⟩ : ∃ M, q * Q = M := ⟨_, rfl⟩
          obtain ⟨F, hF⟩ : ∃ F, first + M = F := ⟨_, rfl⟩
          have hMl : M ≤ 3 * (65536 * 65536) := by rw [← hM]; exact Nat.mul_le_mul (by omega) hQ
          have m0 : IntKind.u64.wrap ((q : Int) * (Q : Int)) = (M : Int) := by rw [← Int.natCast_mul, hM, IntKind.wrap_u64]; omega
          have m1 : IntKind.u64.wrap ((first : Int) + (M : Int)) = (F : Int) := by rw [IntKind.wrap_u64]; omega
          have m2 : IntKind.u64.wrap (q : Int) = (q : Int) := by rw [IntKind.wrap_u64]; omega
          have HR := Li (fun (Z : World) (hZ : CvS w0 rb lb vb A2 n2 c2 (visP k ⟨x, y, u, v⟩ first acc q) Z) => by
            have := HIH.out q A2 n2 c2 Z hqq HB.out hZ
            rw [HP.out, HQ.out, hM, hF] at this
            exact this)
          clear hB hP hM hF
          go_upto_region 9 with (first
            | ((with_reducible show wpList _ _ _ (Oper.mk none (.store 66 _ _) _ _ _ _ :: _) _ _); refine wpList_store_cb rfl 66 (.tmp 11) (.tmp 36) rfl wr.heap.size (qdV q) rfl rfl 66 ZQ 4 (CB.new wr 66 ZQ) info66 rfl (qd_len q) (qd_one q) ?_; intro w3 hc3 hg3 hz3; have C3 := Li hc3; have L3 := Li (HL.out.up (below_grown (al1 wr _) hg3 (by simp) (Nat.le_refl _))); clear hc3 hg3 hz3)
            | ((with_reducible show wpList _ _ _ (Oper.mk _ (.load 66 _) _ _ _ _ :: _) _ _); refine wpList_load_cb rfl 66 (.tmp 11) rfl wr.heap.size rfl 66 (qdV q) _ C3.out Try.underlying66 rfl 4 info66 (qd_len q) ?_)
            | ((with_reducible show wpList _ _ _ (Oper.mk _ (.load 88 _) _ _ _ _ :: _) _ _); refine wpList_load_cb rfl 88 (.tmp 6) rfl X.heap.size rfl 88 (wdV ⟨x, y, u, v⟩) _ L3.out.b Try.underlying88 rfl 4 info88 rfl ?_)
            | (go_at_call 41; refine (clip_at q hqq x y u v S _ b2 (by omega) HOK.out).mono ?_; rintro e w4 ⟨rfl, hb4⟩; rw [ClpR_yes HB.out, HP.out]; have L4 := Li (L3.out.up hb4); have z4 := L4.out.b.lt; clear hb4 L3 C3)
            | ((with_reducible show wpList _ _ _ (Oper.mk none (.store 88 _ _) _ _ _ _ :: _) _ _); refine wpList_store_cb rfl 88 (.tmp 12) (.tmp 42) rfl w4.heap.size (wdV ⟨px, py, pu, pv⟩) rfl rfl 88 ZW 4 (CB.new w4 88 ZW) info88 rfl rfl (wd_one _) ?_; intro w5 hc5 hg5 hz5; have L5 := Li (L4.out.up (below_grown (al1 w4 _) hg5 (by simp) (Nat.le_refl _))); have C5 := Li hc5; clear hc5 hg5 hz5 L4))
          have PP := Li (show CB w5.drew vb 87 [.func (.func 38) #[] #[.pointer (some ⟨rb, 0, none⟩), .pointer (some ⟨lb, 0, none⟩), .pointer (some ⟨vb, 0, none⟩)]] ∧ CB w5.drew w4.heap.size 88 [.int .u32 px, .int .u32 py, .int .u32 pu, .int .u32 pv] from ⟨L5.out.s.v, C5.out⟩)
          have L6 := Li (L5.out.up (bd w5))
          have hv5 := L5.out.s.rv
          have hw5 : w4.heap.size ≠ rb := fun e => by
            have h1 := C5.out
            have h2 := L5.out.s.r
            rw [← e] at h2
            unfold CB at h1 h2
            rw [h1] at h2
            have := Option.some.inj h2
            injection this with _ h3
            exact absurd h3 (by decide)
          clear L5 C5
          refine wp_region_held_drew (S := fun Z => Hid (CB Z vb 87 [.func (.func 38) #[] #[.pointer (some ⟨rb, 0, none⟩), .pointer (some ⟨lb, 0, none⟩), .pointer (some ⟨vb, 0, none⟩)]] ∧ CB Z w4.heap.size 88 [.int .u32 px, .int .u32 py, .int .u32 pu, .int .u32 pv])) (by kernel_rfl) PP (fun hHeld => ?_)
          revert hHeld PP L6
          generalize w5.drew = Y
          intro PP L6 hHeld
          refine htf 0 (fun _ h => And.intro h.out.1.c1 h.out.1.lt) ?_
          refine htf 1 (fun _ h => And.intro h.out.2.c4 h.out.2.lt) ?_
          refine htk 2 ?_
          refine htk 3 ?_
          refine htk 4 ?_
          refine htk 5 ?_
          refine htk 6 ?_
          refine rd1 7 fun KK hK => ?_
          go_simp
          go_at_call 40
          refine Calls.mono (square_any S Y (by omega)) ?_
          rintro e w6 ⟨rfl, hw6⟩
          subst w6
          rw [HQ.out]
          go_wp2_with fail
          refine hK.out _ _ hHeld (fun hHeld => ?_)
          clear hK KK
          try simp only [pnz]
          refine htk 8 ?_
          refine htk 9 ?_
          refine rd1 10 fun KK hK => ?_
          go_simp
          go_at_call 38
          refine Calls.mono (HR.out Y L6.out.s) ?_
          rintro e Y2 ⟨rfl, A3, n3, c3, hS3, hF3⟩
          have L7 := Li (show CvL w0 rb lb vb A3 n3 c3 k ⟨x, y, u, v⟩ first acc (q + 1) X.heap.size X Y2 from ⟨hS3, hF3.2 _ _ _ L6.out.b L6.out.z (by decide), L6.out.f.trans hF3, L6.out.z⟩)
          have P7 := Li (And.intro (hF3.2 _ _ _ PP.out.1 hv5.symm (by decide)) (hF3.2 _ _ _ PP.out.2 hw5 (by decide)))
          clear hS3 hF3
          go_wp2_with fail
          refine hK.out _ _ P7 (fun hHeld => ?_)
          clear hK KK
          refine wpAnyH_done (by kernel_rfl) ?_ _
          go_wp2_with fail
          go_roundw
          case rel => first | exact ⟨q + 1, A3, n3, c3, by omega, by go_num, L7⟩ | ((repeat apply Exists.intro); exact ⟨⟨q + 1, A3, n3, c3, by omega, by go_num, L7⟩, rfl⟩)
          case measure => first | (simp [intOf]; done) | (simp [intOf]; omega)
      · obtain rfl : q = 4 := by omega
        go_wp2_with fail
        go_end0
        exact ⟨rfl, A2, n2, c2, HL.out.s, HL.out.f⟩
end Go.Proofs.Ytlndpclgljfloaa
