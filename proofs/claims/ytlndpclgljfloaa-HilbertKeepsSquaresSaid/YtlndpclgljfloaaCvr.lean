/-
  The program's Cover: by contracts.
-/
import Derived.Test.YtlndpclgljfloaaVis
namespace Go.Proofs.Ytlndpclgljfloaa
open Go.RowKit

theorem visit_any : ∀ k, k ≤ 5 → VisAt k
  | 0, _ => visit_zero
  | k + 1, h => visit_succ (visit_any k (by omega)) h
theorem rg_nil (w : World) (base : Nat) : RgO w base (.slice none 0 0) [] := Own.nil _ _ _ _
/-- what Cover takes -/
def cvB (K : Int) (w : Hb.Wd) : Bool := isOB K && (decide (w.x ≤ w.u) && (decide (w.y ≤ w.v) && (decide (w.u < 2 ^ K.toNat) && decide (w.v < 2 ^ K.toNat))))
set_option maxHeartbeats 4000000 in
set_option maxRecDepth 20000 in
theorem Cover_bad (K : Int) (x y u v : Nat) (w : World) (h : cvB K ⟨x, y, u, v⟩ = false) :
    Calls Try.prog 22 #[.int .i64 K, .agg #[.int .u32 x, .int .u32 y, .int .u32 u, .int .u32 v]] w fun e w' => e = .returned (.tuple #[.slice none 0 0, .int .i64 1]) ∧ Below w.heap.size w w' := by
  have B1 := Li (al1 w (.cells #[.int .u32 x, .int .u32 y, .int .u32 u, .int .u32 v] 34))
  cases h0 : isOB K with
  | false =>
    have J0 := Li h0
    clear h h0
    go_enter Try.func22, Try.ntmps22
    go_wp2_with (go_at_call 26; refine (isOrder_any _ _).mono ?_; rintro e w1 ⟨rfl, hw1⟩; subst w1; rw [J0.out])
    go_ret2
    exact ⟨rfl, B1.out⟩
  | true =>
    obtain ⟨k, rfl, k1, k2⟩ := ob_nat h0
    have J0 := Li h0
    by_cases h1 : x ≤ u
    · by_cases h2 : y ≤ v
      · cases h3 : decide (u < 2 ^ k) with
        | false =>
          have J3 := Li h3
          have i1 : ¬ u < x := by omega
          have i2 : ¬ v < y := by omega
          clear h h0 h3
          go_enter Try.func22, Try.ntmps22
          go_wp2_with (first
            | (go_at_call 26; refine (isOrder_any _ _).mono ?_; rintro e w1 ⟨rfl, hw1⟩; subst w1; rw [J0.out])
            | (go_at_call 27; (with_reducible refine Calls.mono (isCoord_any u k _ k2) ?_); rintro e w1 ⟨rfl, hw1⟩; subst w1; rw [J3.out]))
          go_ret2
          exact ⟨rfl, B1.out⟩
        | true =>
          cases h4 : decide (v < 2 ^ k) with
          | false =>
            have J3 := Li h3
            have J4 := Li h4
            have i1 : ¬ u < x := by omega
            have i2 : ¬ v < y := by omega
            clear h h0 h3 h4
            go_enter Try.func22, Try.ntmps22
            go_wp2_with (first
              | (go_at_call 26; refine (isOrder_any _ _).mono ?_; rintro e w1 ⟨rfl, hw1⟩; subst w1; rw [J0.out])
              | (go_at_call 27; (with_reducible refine Calls.mono (isCoord_any u k _ k2) ?_); rintro e w1 ⟨rfl, hw1⟩; subst w1; rw [J3.out])
              | (go_at_call 27; (with_reducible refine Calls.mono (isCoord_any v k _ k2) ?_); rintro e w1 ⟨rfl, hw1⟩; subst w1; rw [J4.out]))
            go_ret2
            exact ⟨rfl, B1.out⟩
          | true =>
            exfalso
            unfold cvB at h
            rw [h0, Int.toNat_natCast, decide_eq_true h1, decide_eq_true h2, h3, h4] at h
            cases h
      · have i1 : ¬ u < x := by omega
        have i2 : v < y := by omega
        clear h h0
        go_enter Try.func22, Try.ntmps22
        go_wp2_with (go_at_call 26; refine (isOrder_any _ _).mono ?_; rintro e w1 ⟨rfl, hw1⟩; subst w1; rw [J0.out])
        go_ret2
        exact ⟨rfl, B1.out⟩
    · have i1 : u < x := by omega
      clear h h0
      go_enter Try.func22, Try.ntmps22
      go_wp2_with (go_at_call 26; refine (isOrder_any _ _).mono ?_; rintro e w1 ⟨rfl, hw1⟩; subst w1; rw [J0.out])
      go_ret2
      exact ⟨rfl, B1.out⟩
set_option maxHeartbeats 4000000 in
set_option maxRecDepth 20000 in
theorem Cover_ok (k x y u v : Nat) (w : World) (hk : 1 ≤ k ∧ k ≤ 5) (h1 : x ≤ u) (h2 : y ≤ v) (h3 : u < 2 ^ k) (h4 : v < 2 ^ k) :
    Calls Try.prog 22 #[.int .i64 k, .agg #[.int .u32 x, .int .u32 y, .int .u32 u, .int .u32 v]] w fun e w' => (∃ A n c, e = .returned (.tuple #[.slice A n c, .int .i64 0]) ∧ RgO w' w.heap.size (.slice A n c) (Hb.vis k ⟨x, y, u, v⟩ 0 [])) ∧ Below w.heap.size w w' := by
  have J0 := Li (show isOB (k : Int) = true from decide_eq_true (by omega))
  have J3 := Li (decide_eq_true h3)
  have J4 := Li (decide_eq_true h4)
  have i1 : ¬ u < x := by omega
  have i2 : ¬ v < y := by omega
  have hb := p32 (k := k) (by omega)
  have HV := Li (visit_any k hk.2)
  have HOK := Li (show Hb.Wd.ok ⟨x, y, u, v⟩ (2 ^ k) from ⟨h1, h2, h3, h4⟩)
  obtain ⟨S, hS⟩ : ∃ S, 2 ^ k = S := ⟨_, rfl⟩
  have hpm : (2 : Int) ^ k % 4294967296 = (S : Int) := by rw [← hS]; exact pow_mod (by omega)
  have hpw : IntKind.u32.wrap (2 ^ k) = (S : Int) := by
    have e : (2 : Int) ^ k = ((2 ^ k : Nat) : Int) := by push_cast; rfl
    have hb1 := hb.1
    rw [e, hS, IntKind.wrap_u32]; omega
  have HS := Li hS
  have hk2 : k ≤ 16 := by omega
  clear h1 h2 h3 h4 hS hb
  go_enter Try.func22, Try.ntmps22
  go_upto_region 4 with (first
    | (go_at_call 26; refine (isOrder_any _ _).mono ?_; rintro e w1 ⟨rfl, hw1⟩; subst w1; rw [J0.out])
    | (go_at_call 27; (with_reducible refine Calls.mono (isCoord_any u k _ hk2) ?_); rintro e w1 ⟨rfl, hw1⟩; subst w1; rw [J3.out])
    | (go_at_call 27; (with_reducible refine Calls.mono (isCoord_any v k _ hk2) ?_); rintro e w1 ⟨rfl, hw1⟩; subst w1; rw [J4.out]))
  have W3 := Li ((CB.new w 34 [.int .u32 x, .int .u32 y, .int .u32 u, .int .u32 v]).alloc (.cells #[.slice none 0 0] 54))
  have R3 := Li (CB.new1 w (.cells #[.int .u32 x, .int .u32 y, .int .u32 u, .int .u32 v] 34) 54 [.slice none 0 0])
  have B3 := Li (al2 w (.cells #[.int .u32 x, .int .u32 y, .int .u32 u, .int .u32 v] 34) (.cells #[.slice none 0 0] 54))
  revert W3 R3 B3
  generalize hX : (w.alloc (.cells #[.int .u32 x, .int .u32 y, .int .u32 u, .int .u32 v] 34)).alloc (.cells #[.slice none 0 0] 54) = X
  intro W3 R3 B3
  clear hX
  go_upto_region 5 with (first
    | (go_at_call 28; refine (quadrants_any _).mono ?_; rintro e w1 ⟨rfl, hw1⟩; subst w1)
    | ((with_reducible show wpList _ _ _ (Oper.mk none (.store _ _ _) _ _ _ _ :: _) _ _); refine wpList_store_cb rfl 67 (.tmp 7) (.tmp 40) rfl (X.heap.size + 1) QS rfl rfl 67 ZS 16 (CB.new1 X (.cells QS.toArray 67) 67 ZS) info67 rfl rfl QS_one ?_; intro w5 hc5 hg5 hz5; have C5 := Li hc5; have hb5 : Below X.heap.size X w5 := below_grown (al2 X _ _) hg5 (by simp; omega) (by omega); have W5 := Li (W3.out.up hb5); have R5 := Li (R3.out.up hb5); have B5 := Li (below_step B3.out B3.out.size hb5); clear hc5 hg5 hz5 hb5))
  have hXs := R3.out.lt
  clear W3 R3 B3
  go_upto_region 7 with fail
  have z5 := R5.out.lt
  have z6 := C5.out.lt
  have N6 := Li (show CB (w5.alloc (.cells #[.func (.func 38) #[] #[.pointer (some ⟨w.heap.size + 1, 0, none⟩), .pointer (some ⟨X.heap.size + 1, 0, none⟩), .pointer (some ⟨w5.heap.size, 0, none⟩)]] 87)).drew w5.heap.size 87 [.func (.func 38) #[] #[.pointer (some ⟨w.heap.size + 1, 0, none⟩), .pointer (some ⟨X.heap.size + 1, 0, none⟩), .pointer (some ⟨w5.heap.size, 0, none⟩)]] from CB.new w5 _ [.func (.func 38) #[] #[.pointer (some ⟨w.heap.size + 1, 0, none⟩), .pointer (some ⟨X.heap.size + 1, 0, none⟩), .pointer (some ⟨w5.heap.size, 0, none⟩)]])
  have hb6 : Below w5.heap.size w5 (w5.alloc (.cells #[.func (.func 38) #[] #[.pointer (some ⟨w.heap.size + 1, 0, none⟩), .pointer (some ⟨X.heap.size + 1, 0, none⟩), .pointer (some ⟨w5.heap.size, 0, none⟩)]] 87)).drew := (al1 w5 _).drew
  have W6 := Li (W5.out.up hb6)
  have R6 := Li (R5.out.up hb6)
  have C6 := Li (C5.out.up hb6)
  have B6 := Li (below_step B5.out B5.out.size hb6)
  have PP := Li (And.intro N6.out W6.out)
  clear hb6 W5 R5 C5 B5
  refine wp_region_held_drew (S := fun Z => Hid (CB Z w5.heap.size 87 [.func (.func 38) #[] #[.pointer (some ⟨w.heap.size + 1, 0, none⟩), .pointer (some ⟨X.heap.size + 1, 0, none⟩), .pointer (some ⟨w5.heap.size, 0, none⟩)]] ∧ CB Z w.heap.size 34 [.int .u32 x, .int .u32 y, .int .u32 u, .int .u32 v])) (by kernel_rfl) PP (fun hHeld => ?_)
  revert hHeld N6 W6 R6 C6 B6 PP
  generalize (w5.alloc (.cells #[.func (.func 38) #[] #[.pointer (some ⟨w.heap.size + 1, 0, none⟩), .pointer (some ⟨X.heap.size + 1, 0, none⟩), .pointer (some ⟨w5.heap.size, 0, none⟩)]] 87)).drew = Y
  intro N6 W6 R6 C6 B6 PP hHeld
  have HCv := Li (show CvS w (w.heap.size + 1) (X.heap.size + 1) w5.heap.size none 0 0 [] Y from ⟨B6.out, R6.out, rg_nil _ _, C6.out, N6.out, by omega, by omega, by omega⟩)
  have HR := Li (HV.out w (w.heap.size + 1) (X.heap.size + 1) w5.heap.size ⟨x, y, u, v⟩ 0 [] none 0 0 Y HOK.out (by have := sqb (m := k) (by omega); omega) HCv.out (fun x hx => by cases hx) (by
    have : 4 ^ k ≤ 4 ^ 5 := Nat.pow_le_pow_right (by decide) hk.2
    simp; omega))
  rw [HS.out, Int.natCast_zero] at HR
  refine htf 0 (fun _ h => And.intro h.out.1.c1 h.out.1.lt) ?_
  refine htf 1 (fun _ h => And.intro h.out.2.c4 h.out.2.lt) ?_
  refine htk 2 ?_
  refine htk 3 ?_
  refine rd1 4 fun KK hK => ?_
  go_simp
  go_at_call 38
  refine Calls.mono HR.out ?_
  rintro e Y2 ⟨rfl, A3, n3, c3, hS3, hF3⟩
  have S3 := Li hS3
  have P7 := Li (And.intro (hF3.2 _ _ _ PP.out.1 (by omega) (by decide)) (hF3.2 _ _ _ PP.out.2 (by omega) (by decide)))
  clear hS3 hF3
  go_wp2_with fail
  refine hK.out _ _ P7 (fun hHeld => ?_)
  clear hK KK
  refine wpAnyH_done (by kernel_rfl) ?_ _
  have q0 := S3.out.r.c1
  have q1 := S3.out.r.lt
  go_wp2_with fail
  go_ret2
  exact ⟨⟨A3, n3, c3, rfl, S3.out.o⟩, S3.out.bel⟩
end Go.Proofs.Ytlndpclgljfloaa
