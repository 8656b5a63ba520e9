/-
  The program's truth, negation, valueOf, and Go's search in a slice of values, by contracts.
-/
import Derived.Test.YtkeneoinfegodaaPrd
import Derived.Laws.ResultCell
import Derived.Outline
namespace Go.Proofs.Ytkeneoinfegodaa
open Go.RowKit

theorem truth_any (b : Bool) (w : World) : Calls Try.prog 30 #[.bool b] w fun e w' => e = .returned (.int .i64 (tr3 b)) ∧ w' = w := by
  cases b
  · go_enter Try.func30, Try.ntmps30
    go_wp2
    go_ret
    exact ⟨rfl, rfl⟩
  · go_enter Try.func30, Try.ntmps30
    go_wp2
    go_ret
    exact ⟨rfl, rfl⟩
theorem negation_any (t : Int) (w : World) : Calls Try.prog 33 #[.int .i64 t] w fun e w' => e = .returned (.int .i64 (neg3 t)) ∧ w' = w := by
  obtain ⟨z, hz⟩ : ∃ z, neg3 t = z := ⟨_, rfl⟩
  have HZ := Lib.hid hz
  rw [hz]
  unfold neg3 at hz
  by_cases h1 : t = 1
  · subst h1
    rw [if_pos rfl] at hz
    subst hz
    go_enter Try.func33, Try.ntmps33
    go_wp2
    go_ret
    exact ⟨rfl, rfl⟩
  · rw [if_neg h1] at hz
    by_cases h0 : t = 0
    · subst h0
      rw [if_pos rfl] at hz
      subst hz
      go_enter Try.func33, Try.ntmps33
      go_wp2
      go_ret
      exact ⟨rfl, rfl⟩
    · rw [if_neg h0] at hz
      subst hz
      have e1 : (t == 1) = false := by simpa using h1
      have e0 : (t == 0) = false := by simpa using h0
      clear h1 h0
      go_enter Try.func33, Try.ntmps33
      go_wp2
      go_ret
      exact ⟨rfl, rfl⟩
def Va.ret (v : Va) : Ending := .returned (.agg #[.bool v.b, .int .i64 v.n, .string v.s])
set_option maxHeartbeats 4000000 in
set_option maxRecDepth 20000 in
theorem valueOf_any (A : Option Addr) (n c : Nat) (r : List Ce) (i : Int) (w : World) (hn : n = r.length) (hs : Ces w w.heap.size A r) (hl : n ≤ 9223372036854775807) :
    Calls Try.prog 29 #[.agg #[.slice A n c], .int .i64 i] w fun e w' => e = (getL r i).ret ∧ Below w.heap.size w w' := by
  have HN := Lib.hid hn
  have HS := Lib.hid hs
  obtain ⟨z, hz⟩ : ∃ z, getL r i = z := ⟨_, rfl⟩
  rw [hz]
  have HZ := Lib.hid hz
  clear hn hs hz
  have R0 := Lib.hid ((CB.new w 29 [.slice A n c]).alloc (.cells #[.bool false, .int .i64 0, .string ⟨#[]⟩] 37))
  have T0 := Lib.hid (CB.new1 w (.cells #[.slice A n c] 29) 37 [.bool false, .int .i64 0, .string ⟨#[]⟩])
  have B0 := Lib.hid (al2 w (.cells #[.slice A n c] 29) (.cells #[.bool false, .int .i64 0, .string ⟨#[]⟩] 37))
  go_enter Try.func29, Try.ntmps29
  go_wp2
  go_loopw [6, 10] (fun _ j wr => ∃ k : Nat, k ≤ n ∧ j = .int .i64 k ∧ Hid (CB wr (w.heap.size + 1) 37 [.bool false, .int .i64 0, .string ⟨#[]⟩]) ∧ Hid (Below w.heap.size w wr) ∧ Hid (getL (r.drop k) i = z)) (fun _ j _ => n - (intOf j).toNat)
  case atStart => exact ⟨0, by omega, rfl, T0, B0, HZ⟩
  case round =>
    obtain ⟨k, hk, rfl, T1, B1, HG⟩ := hrel
    have zT := T1.out.lt
    by_cases hlt : k < n
    · have i1 : (k : Int) < (n : Int) := by omega
      have i0 : (0 : Int) ≤ (k : Int) := by omega
      obtain ⟨f, hf⟩ := getE_of (l := r) (k := k) (by rw [← HN.out]; exact hlt)
      obtain ⟨b, off, rfl, hb, c0, c1, c2, c3⟩ := (HS.out.below B1.out).one hf
      have HD := Lib.hid (drop_cons hf)
      have T2 := Lib.hid (T1.out.alloc (.cells #[.int .i64 f.id, .bool f.v.b, .int .i64 f.v.n, .string f.v.s] 39))
      have B2 := Lib.hid (B1.out.alloc B1.out.size (.cells #[.int .i64 f.id, .bool f.v.b, .int .i64 f.v.n, .string f.v.s] 39))
      clear hf
      by_cases he : f.id = i
      · have j1 : (f.id == i) = true := by simpa using he
        have HV := Lib.hid (show f.v = z by rw [← HG.out, HD.out, getL, if_pos he])
        clear he
        go_wp2_with ((with_reducible show wpList _ _ _ (Oper.mk none (.store _ _ _) _ _ _ _ :: _) _ _); refine wpList_store_cb rfl 37 (.tmp 4) (.tmp 19) rfl (w.heap.size + 1) [.bool f.v.b, .int .i64 f.v.n, .string f.v.s] rfl rfl 37 [.bool false, .int .i64 0, .string ⟨#[]⟩] 3 T2.out sizeV rfl rfl (one_v _ _ _) ?_; intro w5 hc5 hg5 hz5; have E2 := Lib.hid hc5; have F2 := Lib.hid (below_grown B2.out hg5 B2.out.size (by omega)); clear hc5 hg5 hz5)
        refine bodyPost_ret (res_cell1 Try.results29 rfl E2.out Try.underlying37 sizeV rfl) rfl ⟨?_, F2.out⟩
        rw [← HV.out]
        rfl
      · have j1 : (f.id == i) = false := by simpa using he
        have HG2 := Lib.hid (getL_drop HD.out HG.out he)
        clear he
        go_wp2
        go_roundw
        case rel => exact ⟨k + 1, by omega, by go_num, T2, B2, HG2⟩
        case measure => simp [intOf]; omega
    · have i1 : ¬ (k : Int) < (n : Int) := by omega
      have HV := Lib.hid (show z = Va.nul by rw [← HG.out, List.drop_eq_nil_of_le (by rw [← HN.out]; omega)]; rfl)
      go_wp2_with ((with_reducible show wpList _ _ _ (Oper.mk none (.store _ _ _) _ _ _ _ :: _) _ _); refine wpList_store_cb rfl 37 (.tmp 4) (.tmp 21) rfl (w.heap.size + 1) [.bool true, .int .i64 0, .string ⟨#[]⟩] rfl rfl 37 [.bool false, .int .i64 0, .string ⟨#[]⟩] 3 T1.out sizeV rfl rfl (one_v _ _ _) ?_; intro w5 hc5 hg5 hz5; have E2 := Lib.hid hc5; have F2 := Lib.hid (below_grown B1.out hg5 B1.out.size (by omega)); clear hc5 hg5 hz5)
      refine bodyPost_ret (res_cell1 Try.results29 rfl E2.out Try.underlying37 sizeV rfl) rfl ⟨?_, F2.out⟩
      rw [HV.out]
      rfl
end Go.Proofs.Ytkeneoinfegodaa
