/-
  The reference's Field, Name, by contracts.
-/
import Derived.Test.YtpgbpfdedpppeaaNamP
namespace Go.Proofs.Ytpgbpfdedpppeaa
open Go.RowKit

set_option maxHeartbeats 1000000 in
set_option maxRecDepth 20000 in
theorem RField_any (A : Option Addr) (n c : Nat) (x : Int) (l : List Fd) (i : Int) (w : World) (hn : n = l.length) (hs : Fds w w.heap.size A l) (hl : n ≤ 9223372036854775807) :
    Calls Try.prog 20 #[.agg #[.slice A n c, .int .i64 x], .int .i64 i] w fun e w' => e = .returned (.tuple #[(fieldD l i).val, .bool (hasF l i)]) ∧ Below w.heap.size w w' := by
  have HN := Lib.hid hn
  have HS := Lib.hid hs
  clear hn hs
  go_enter Try.func20, Try.ntmps20
  go_wp2
  go_loopw [6] (fun j wr => ∃ k : Nat, k ≤ n ∧ j = .int .i64 k ∧ Hid (CB wr w.heap.size 30 [.slice A n c, .int .i64 x]) ∧ Hid (CB wr (w.heap.size + 1) 41 Fd.zero.cells) ∧ Hid (Below w.heap.size w wr) ∧ Hid (field (l.drop k) i = field l i)) (fun j _ => n - (intOf j).toNat)
  case atStart => exact ⟨0, by omega, rfl, (CB.new w _ _).alloc _, CB.new1 w _ 41 Fd.zero.cells, al2 _ _ _, rfl⟩
  case round =>
    obtain ⟨k, hk, rfl, hq, hcb, hbel, hgo⟩ := hrel
    have hsz : w.heap.size + 1 < wr.heap.size := hcb.out.lt
    have q0 := hq.out.cell 0 rfl
    by_cases hlt : k < n
    · have i1 : (k : Int) < (n : Int) := by omega
      obtain ⟨f, hf⟩ := getD_of (l := l) (k := k) (by rw [← HN.out]; exact hlt)
      obtain ⟨b, off, rfl, hb, c0, c1, c2, c3⟩ := (HS.out.below hbel.out).one hf
      have hd := Lib.hid (drop_cons hf)
      by_cases he : f.id = i
      · have e1 : (f.id == i) = true := by simpa using he
        have HE := Lib.hid he
        clear he hf
        go_wp2_with ((with_reducible show wpList _ _ _ _ _ _); refine wpList_store_cb rfl 41 (.tmp 4) (.tmp 26) rfl (w.heap.size + 1) f.cells rfl rfl 41 Fd.zero.cells 4 hcb.out sizeF rfl rfl (one_f f) ?_; intro w1 hc1 hg1 hz1)
        refine bodyPost_ret (res_cell Try.results20 rfl rfl hc1 Try.underlying41 sizeF rfl) rfl ⟨fld_some (fld_fin hd.out hgo.out HE.out), ?_⟩
        exact below_grown hbel.out hg1 (by omega) (by omega)
      · have e1 : (f.id == i) = false := by simpa using he
        have HE := Lib.hid he
        clear he hf
        go_wp2
        go_roundw
        case rel => exact ⟨k + 1, by omega, by go_num, hq.out, hcb.out, hbel.out, fld_go hd.out hgo.out HE.out⟩
        case measure => simp [intOf]; omega
    · have i1 : ¬ (k : Int) < (n : Int) := by omega
      go_wp2_with ((with_reducible show wpList _ _ _ _ _ _); refine wpList_store_cb rfl 41 (.tmp 4) (.tmp 27) rfl (w.heap.size + 1) Fd.zero.cells rfl rfl 41 Fd.zero.cells 4 hcb.out sizeF rfl rfl (one_f Fd.zero) ?_; intro w1 hc1 hg1 hz1)
      refine bodyPost_ret (res_cell Try.results20 rfl rfl hc1 Try.underlying41 sizeF rfl) rfl ⟨fld_none (fld_end (by rw [← HN.out]; omega) hgo.out), ?_⟩
      exact below_grown hbel.out hg1 (by omega) (by omega)

set_option maxHeartbeats 4000000 in
theorem RName_any (s : ByteArray) (w : World) (hs : s.size ≤ 9223372036854775807) : Calls Try.prog 47 #[.string s] w fun e w' => e = .returned (.bool (namB s)) ∧ w' = w := by
  have hz : Hid (s.data.toList.all okC = false → namB s = false) := by intro h; unfold namB; rw [h, Bool.and_false]
  go_enter Try.func47, Try.ntmps47
  go_wp2
  go_loop [3] (fun i => ∃ k : Nat, k ≤ s.size ∧ i = .int .i64 k ∧ Hid ((s.data.toList.drop k).all okC = s.data.toList.all okC)) (fun i => s.size - (intOf i).toNat)
  case atStart => exact ⟨0, Nat.zero_le _, rfl, rfl⟩
  case round =>
    obtain ⟨k, hk, rfl, hgo⟩ := hrel
    by_cases hlt : k < s.size
    · have j1 : (k : Int) < (s.size : Int) := by omega
      have hd := Lib.hid (nam_drop hlt)
      have hx := s[k].toNat_lt
      rcases c_cases s[k] with ⟨hc, hcs⟩ | ⟨hc, hcs⟩
      · have HC := Lib.hid hc
        clear hc
        rcases hcs with ⟨a, b⟩ | ⟨a, b⟩ | a
        all_goals
          go_wp2
          all_goals (first | (exfalso; omega) | skip)
          all_goals
            go_round
            case rel => exact ⟨k + 1, by omega, by go_num, all_step hd.out hgo.out HC.out⟩
            case measure => simp [intOf]; omega
      · have HC := Lib.hid hc
        clear hc
        rcases hcs with a | ⟨a, b⟩ | a | a
        all_goals
          have e95 : ((s[k].toNat : Int) == 95) = false := by rw [beq_eq_false_iff_ne]; omega
          go_wp2
          all_goals (first | (exfalso; omega) | skip)
          all_goals
            go_ret
            refine ⟨?_, rfl⟩
            rw [hz.out (all_stop hd.out hgo.out HC.out)]
            rfl
    · have j1 : ¬ (k : Int) < (s.size : Int) := by omega
      have HA := Lib.hid (show s.data.toList.all okC = true by rw [← hgo.out, List.drop_of_length_le (by simpa using by omega)]; rfl)
      by_cases h1 : 1 ≤ s.size
      · by_cases h2 : s.size ≤ 32
        · have i1 : (1 : Int) ≤ (s.size : Int) := by omega
          have i2 : (s.size : Int) ≤ 32 := by omega
          go_wp2
          go_ret
          refine ⟨?_, rfl⟩
          unfold namB
          rw [HA.out, decide_eq_true ⟨h1, h2⟩]; rfl
        · have i1 : (1 : Int) ≤ (s.size : Int) := by omega
          have i2 : ¬ (s.size : Int) ≤ 32 := by omega
          go_wp2
          go_ret
          refine ⟨?_, rfl⟩
          unfold namB
          rw [decide_eq_false (fun h => h2 h.2)]; rfl
      · have i1 : ¬ (1 : Int) ≤ (s.size : Int) := by omega
        go_wp2
        go_ret
        refine ⟨?_, rfl⟩
        unfold namB
        rw [decide_eq_false (fun h => h1 h.1)]; rfl
end Go.Proofs.Ytpgbpfdedpppeaa
