/-
  The program's without, replacing, by contracts.
-/
import Derived.Test.YtpgbpfdedpppeaaEdP
import Derived.BigQuiet
import Derived.Deep.QuietTactic
namespace Go.Proofs.Ytpgbpfdedpppeaa
open Go.RowKit

def dropF (l : List Fd) (i : Int) : List Fd := l.filter fun f => !(f.id == i)
def putF (l : List Fd) (g : Fd) : List Fd := l.map fun f => if f.id = g.id then g else f
theorem drp_yes {l : List Fd} {k : Nat} {f : Fd} {i : Int} (h : l.take (k + 1) = l.take k ++ [f]) (ht : f.id = i) : dropF (l.take (k + 1)) i = dropF (l.take k) i := by
  unfold dropF
  rw [h, List.filter_append]
  simp [ht]
theorem drp_no {l : List Fd} {k : Nat} {f : Fd} {i : Int} (h : l.take (k + 1) = l.take k ++ [f]) (ht : ¬ f.id = i) : dropF (l.take (k + 1)) i = dropF (l.take k) i ++ [f] := by
  unfold dropF
  rw [h, List.filter_append]
  simp [ht]
theorem drp_len (l : List Fd) (i : Int) : (dropF l i).length ≤ l.length := List.length_filter_le _ _
theorem take_snoc' {α : Type} {l : List α} {k : Nat} {f : α} (h : l[k]? = some f) : l.take (k + 1) = l.take k ++ [f] := by
  rw [List.take_add_one, h]
  rfl

set_option maxHeartbeats 1000000 in
set_option maxRecDepth 20000 in
theorem without_any (A : Option Addr) (n c : Nat) (x : Int) (l : List Fd) (i : Int) (w : World) (hn : n = l.length) (hs : Fds w w.heap.size A l) (hl : n ≤ 1000000) :
    Calls Try.prog 76 #[.agg #[.slice A n c, .int .i64 x], .int .i64 i] w fun e w' => (∃ A' c', e = .returned (.agg #[.slice A' (dropF l i).length c', .int .i64 x]) ∧ Own 41 4 w' w.heap.size (.slice A' (dropF l i).length c') ((dropF l i).map Fd.cells)) ∧ Below w.heap.size w w' := by
  have HN := Lib.hid hn
  have HS := Lib.hid hs
  clear hn hs
  go_enter Try.func76, Try.ntmps76
  go_wp2
  go_loopw [5, 11] (fun v j wr => ∃ k : Nat, k ≤ n ∧ j = .int .i64 k ∧ Hid (Own 41 4 wr w.heap.size v ((dropF (l.take k) i).map Fd.cells)) ∧ Hid (Below w.heap.size w wr) ∧ Hid (CB wr w.heap.size 30 [.slice A n c, .int .i64 x]) ∧ Hid (CB wr (w.heap.size + 1) 30 [.slice none 0 0, .int .i64 0])) (fun _ j _ => n - (intOf j).toNat)
  case atStart => exact ⟨0, by omega, rfl, Own.nil _ _ _ _, al2 _ _ _, (CB.new _ _ _).alloc _, CB.new1 _ _ _ _⟩
  case round =>
    obtain ⟨k, hk, rfl, hown, hbel, hcs, hcr⟩ := hrel
    have hz := hcr.out.lt
    obtain ⟨A3, c3', hv3, hlc, hc3⟩ := hown.out.slice
    rw [List.length_map] at hv3 hlc
    by_cases hlt : k < n
    · have i1 : (k : Int) < (n : Int) := by omega
      obtain ⟨f, hf⟩ := getD_of (l := l) (k := k) (by rw [← HN.out]; exact hlt)
      obtain ⟨b, off, rfl, hb, c0, c1, c2, c3⟩ := (HS.out.below hbel.out).one hf
      have ht := Lib.hid (take_snoc' hf)
      have hll : (dropF (l.take k) i).length ≤ 1000000 := by have := drp_len (l.take k) i; simp at this; omega
      clear hf
      by_cases hy : f.id = i
      · have y2 : (f.id != i) = false := by simpa using hy
        have HE := Lib.hid (drp_yes ht.out hy)
        clear hy
        go_wp2
        go_roundw
        case rel => exact ⟨k + 1, by omega, by go_num, by rw [HE.out]; exact hown.out.alloc _, hbel.out.alloc (by omega) _, hcs.out.alloc _, hcr.out.alloc _⟩
        case measure => simp [intOf]; omega
      · have y2 : (f.id != i) = true := by simpa using hy
        have HE := Lib.hid (drp_no ht.out hy)
        have HV := Lib.hid hv3
        clear hy hv3
        go_wp2_with (at_builtin; refine push_fd (wr := wr.alloc (.cells #[.int .i64 f.id, .string f.nm, .int .i64 f.ty, .int .i64 f.pa] 41)) rfl (.tmp 19) (.tmp 21) rfl w.heap.size _ (dropF (l.take k) i) f (wr.heap.size + 1) rfl rfl (asz _ _).symm rfl (hown.out.alloc _) hll (by rw [asz]; omega) ?_; intro A7 c7 w7 ho7 hg7 hb7; have HO7 := Lib.hid ho7; have HB7 := Lib.hid hb7; have HCS := Lib.hid ((hcs.out.alloc _).grown hg7 (hown.out.ne hcs.out (by decide))); have HCR := Lib.hid ((hcr.out.alloc _).grown hg7 (hown.out.ne hcr.out (by decide))); clear ho7 hb7 hg7)
        go_roundw
        case rel => exact ⟨k + 1, by omega, by go_num, by rw [HE.out]; exact HO7.out, (hbel.out.alloc (by omega) _).trans HB7.out, HCS.out, HCR.out⟩
        case measure => simp [intOf]; omega
    · have i1 : ¬ (k : Int) < (n : Int) := by omega
      have e : l.take k = l := List.take_of_length_le (by rw [← HN.out]; omega)
      rw [e] at hv3 hown hlc
      subst hv3
      have d1 := hcs.out.cell 1 rfl
      go_wp2_with ((with_reducible show wpList _ _ _ _ _ _); refine wpList_store_cb rfl 30 (.tmp 4) (.tmp 27) rfl (w.heap.size + 1) [.slice A3 (dropF l i).length c3', .int .i64 x] rfl rfl 30 [.slice none 0 0, .int .i64 0] 2 hcr.out sizeS rfl rfl (one_s _ _ _ _) ?_; intro w9 hc9 hg9 hz9)
      refine bodyPost_ret (res_cell1 Try.results76 rfl hc9 Try.underlying30 sizeS rfl) rfl ⟨⟨A3, c3', rfl, hown.out.kept hg9 (.inr (hown.out.ne hcr.out (by decide)).symm)⟩, below_grown hbel.out hg9 (by omega) (by omega)⟩

theorem put_step {l : List Fd} {k : Nat} {f g : Fd} (hf : l[k]? = some f) : (putF (l.take k) g ++ l.drop k).set k (if f.id = g.id then g else f) = putF (l.take (k + 1)) g ++ l.drop (k + 1) := by
  have hk := (List.getElem?_eq_some_iff.1 hf).1
  rw [take_snoc' hf, drop_cons hf]
  unfold putF
  rw [List.map_append, List.append_assoc]
  rw [List.set_append_right _ _ (by simp; omega)]
  congr 1
  rw [show k - ((l.take k).map fun f => if f.id = g.id then g else f).length = 0 by simp; omega]
  rfl
theorem put_keep {l : List Fd} {k : Nat} {f g : Fd} (hf : l[k]? = some f) (hne : ¬ f.id = g.id) : putF (l.take (k + 1)) g ++ l.drop (k + 1) = putF (l.take k) g ++ l.drop k := by
  rw [take_snoc' hf, drop_cons hf]
  unfold putF
  rw [List.map_append, List.append_assoc]
  simp [hne]
theorem put_get {l : List Fd} {k : Nat} {f g : Fd} (hf : l[k]? = some f) : (putF (l.take k) g ++ l.drop k)[k]? = some f := by
  have hk := (List.getElem?_eq_some_iff.1 hf).1
  rw [List.getElem?_append_right (by unfold putF; simp; omega), List.getElem?_drop]
  rw [show k + (k - (putF (l.take k) g).length) = k by unfold putF; simp; omega]
  exact hf
theorem put_len {l : List Fd} {k : Nat} {g : Fd} : (putF (l.take k) g ++ l.drop k).length = l.length := by unfold putF; simp; omega

set_option maxHeartbeats 2000000 in
set_option maxRecDepth 20000 in
theorem replacing_any (A : Option Addr) (n c : Nat) (x : Int) (l : List Fd) (g : Fd) (w : World) (hn : n = l.length) (hs : Fds w w.heap.size A l) (hl : n ≤ 1000000) :
    Calls Try.prog 77 #[.agg #[.slice A n c, .int .i64 x], .agg #[.int .i64 g.id, .string g.nm, .int .i64 g.ty, .int .i64 g.pa]] w fun e w' => (∃ A' c', e = .returned (.agg #[.slice A' n c', .int .i64 x]) ∧ Own 41 4 w' w.heap.size (.slice A' n c') ((putF l g).map Fd.cells)) ∧ Below w.heap.size w w' := by
  have HN := Lib.hid hn
  have HS := Lib.hid hs
  clear hn hs
  have HS2 := Lib.hid (HS.out.up (al3 w (.cells #[.slice A n c, .int .i64 x] 30) (.cells #[.int .i64 g.id, .string g.nm, .int .i64 g.ty, .int .i64 g.pa] 41) (.cells #[.slice none 0 0, .int .i64 0] 30)))
  have q0 := Lib.hid (((CB.new w 30 [.slice A n c, .int .i64 x]).alloc (.cells #[.int .i64 g.id, .string g.nm, .int .i64 g.ty, .int .i64 g.pa] 41)).alloc (.cells #[.slice none 0 0, .int .i64 0] 30))
  have q1 := Lib.hid ((CB.new1 w (.cells #[.slice A n c, .int .i64 x] 30) 41 [.int .i64 g.id, .string g.nm, .int .i64 g.ty, .int .i64 g.pa]).alloc (.cells #[.slice none 0 0, .int .i64 0] 30))
  have q2 := Lib.hid (CB.new2 w (.cells #[.slice A n c, .int .i64 x] 30) (.cells #[.int .i64 g.id, .string g.nm, .int .i64 g.ty, .int .i64 g.pa] 41) 30 [.slice none 0 0, .int .i64 0])
  have qb := Lib.hid (al3 w (.cells #[.slice A n c, .int .i64 x] 30) (.cells #[.int .i64 g.id, .string g.nm, .int .i64 g.ty, .int .i64 g.pa] 41) (.cells #[.slice none 0 0, .int .i64 0] 30))
  go_enter Try.func77, Try.ntmps77
  go_wp2_with (go_at_call 82; refine (Clone_any A n c l _ HN.out HS2.out hl).mono ?_; rintro e w7 ⟨⟨A7, c7, rfl, ho7⟩, hb7⟩; have HO7 := Lib.hid (ho7.low (b := w.heap.size + 1 + 1 + 1) (by rw [asz, asz, asz]; exact Nat.le_refl _)); have HB7 := Lib.hid (below_step qb.out qb.out.size hb7); have Q0 := Lib.hid (q0.out.up hb7); have Q1 := Lib.hid (q1.out.up hb7); have Q2 := Lib.hid (q2.out.up hb7); clear ho7 hb7)
  clear q0 q1 q2 qb HS2
  go_loopw [12] (fun j wr => ∃ k : Nat, k ≤ n ∧ j = .int .i64 k ∧ Hid (Own 41 4 wr (w.heap.size + 1 + 1 + 1) (.slice A7 n c7) ((putF (l.take k) g ++ l.drop k).map Fd.cells)) ∧ Hid (Below w.heap.size w wr) ∧ Hid (CB wr w.heap.size 30 [.slice A n c, .int .i64 x]) ∧ Hid (CB wr (w.heap.size + 1) 41 [.int .i64 g.id, .string g.nm, .int .i64 g.ty, .int .i64 g.pa]) ∧ Hid (CB wr (w.heap.size + 1 + 1) 30 [.slice none 0 0, .int .i64 0])) (fun j _ => n - (intOf j).toNat)
  case atStart => exact ⟨0, by omega, rfl, by (have h := HO7.out; show Own _ _ _ _ _ _; simpa [putF] using h), HB7.out, Q0.out, Q1.out, Q2.out⟩
  case round =>
    obtain ⟨k, hk, rfl, hown, hbel, hcs, hcf, hcr⟩ := hrel
    have hz := hcr.out.lt
    by_cases hlt : k < n
    · have i1 : (k : Int) < (n : Int) := by omega
      have i0 : (0 : Int) ≤ (k : Int) := by omega
      obtain ⟨f, hf⟩ := getD_of (l := l) (k := k) (by rw [← HN.out]; exact hlt)
      have hrow : Fds wr wr.heap.size A7 (putF (l.take k) g ++ l.drop k) := hown.out.row.2.2.2
      obtain ⟨b, off, rfl, hb, c0, c1, c2, c3⟩ := hrow.one (put_get (g := g) hf)
      have hoff : off = 0 := by
        rcases hown.out.shape with ⟨e, _⟩ | ⟨g', cap, e, _⟩
        · cases e
        · injection e with e; injection e with e; injection e with e1 e2
      subst hoff
      rw [Nat.zero_add] at c0 c1 c2 c3
      have f0 := hcf.out.cell 0 rfl
      have f1 := hcf.out.cell 1 rfl
      have f2 := hcf.out.cell 2 rfl
      have f3 := hcf.out.cell 3 rfl
      have HP := Lib.hid (put_step (g := g) hf)
      have HK := Lib.hid (put_keep (g := g) hf)
      have hlen : k < (List.map Fd.cells (putF (l.take k) g ++ l.drop k)).length := by rw [List.length_map, put_len, ← HN.out]; exact hlt
      clear hf hrow
      by_cases he : f.id = g.id
      · have e1 : (f.id == g.id) = true := by simpa using he
        have HE := Lib.hid he
        clear he
        go_wp2
        go_quiet (fail)
        go_wp2_with ((with_reducible show wpList _ _ _ _ _ _); refine wpList_store_own rfl 41 (.tmp 26) (.tmp 25) rfl (w.heap.size + 1 + 1 + 1) b n c7 k _ _ g.cells rfl rfl rfl hown.out (by decide) hlen rfl sizeF (one_f g) ?_; intro w9 ho9 hg9 hz9; have HO9 := Lib.hid ho9; have HG9 := Lib.hid hg9; clear ho9 hg9 hz9)
        go_roundw
        case rel =>
          have hne : ∀ u, u < w.heap.size + 1 + 1 + 1 → some u ≠ some b := fun u hu => hown.out.below_ne hu
          refine ⟨k + 1, by omega, by go_num, ?_, below_grown (below_drewN hbel.out _) HG9.out (by show w.heap.size ≤ wr.heap.size; omega) (by have := hown.out.lt b rfl; omega), (hcs.out.drewN _).grown HG9.out (hne _ (by omega)), (hcf.out.drewN _).grown HG9.out (hne _ (by omega)), (hcr.out.drewN _).grown HG9.out (hne _ (by omega))⟩
          have h1 := HP.out
          rw [if_pos HE.out] at h1
          show Own _ _ _ _ _ _
          rw [← h1, List.map_set]
          exact HO9.out
        case measure => simp [intOf]; omega
      · have e1 : (f.id == g.id) = false := by simpa using he
        have HE := Lib.hid he
        clear he
        go_wp2
        go_quiet (fail)
        go_wp2
        go_roundw
        case rel =>
          exact ⟨k + 1, by omega, by go_num, by rw [HK.out HE.out]; exact hown.out.drewN _, below_drewN hbel.out _, hcs.out.drewN _, hcf.out.drewN _, hcr.out.drewN _⟩
        case measure => simp [intOf]; omega
    · have i1 : ¬ (k : Int) < (n : Int) := by omega
      have e : putF (l.take k) g ++ l.drop k = putF l g := by rw [List.take_of_length_le (by rw [← HN.out]; omega), List.drop_of_length_le (by rw [← HN.out]; omega), List.append_nil]
      rw [e] at hown
      have d1 := hcs.out.cell 1 rfl
      go_wp2_with ((with_reducible show wpList _ _ _ _ _ _); refine wpList_store_cb rfl 30 (.tmp 4) (.tmp 31) rfl (w.heap.size + 1 + 1) [.slice A7 n c7, .int .i64 x] rfl rfl 30 [.slice none 0 0, .int .i64 0] 2 hcr.out sizeS rfl rfl (one_s _ _ _ _) ?_; intro w9 hc9 hg9 hz9)
      refine bodyPost_ret (res_cell1 Try.results77 rfl hc9 Try.underlying30 sizeS rfl) rfl ⟨⟨A7, c7, rfl, (hown.out.kept hg9 (.inr (hown.out.ne hcr.out (by decide)).symm)).low (by omega)⟩, below_grown hbel.out hg9 (by omega) (by omega)⟩
end Go.Proofs.Ytpgbpfdedpppeaa
