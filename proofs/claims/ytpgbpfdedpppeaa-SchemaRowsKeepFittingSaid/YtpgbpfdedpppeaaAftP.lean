/-
  The program's After, by a contract.
-/
import Derived.Test.YtpgbpfdedpppeaaAftS
import Derived.Test.YtpgbpfdedpppeaaAppA
namespace Go.Proofs.Ytpgbpfdedpppeaa
open Go.RowKit

theorem sizeC : (Try.prog.info? 24).map (·.size) = some 8 := by kernel_rfl
theorem res_cell3 {fn : Func} {p u v : Tmp} {ty T : TypeId} {tmps : Array Value} {P : Program} {w : World} {g : Nat} {l : List Value} {fs : Array Go.Field} {n : Nat} {x y : Value} (h : fn.results = #[.cell p ty, .tmp u, .tmp v]) (hp : tmps.getD p undef = .pointer (some ⟨g, 0, none⟩)) (hx : tmps.getD u undef = x) (hy : tmps.getD v undef = y)
    (hg : CB w g T l) (hu : P.underlying ty = some (.struct fs)) (hi : (P.info? ty).map (·.size) = some n) (hl : l.length = n) :
    (results fn tmps).run P w = .ok (.tuple #[.agg l.toArray, x, y]) w := by
  rw [Array.getD_eq_getD_getElem?] at hp hx hy
  simp only [results, h]
  simp [Result.andThen, hp, hx, hy, asAddr, run_loadVar_row _ _ _ _ _ (0, 0) _ hg hu rfl (by rw [hi]; simp [hl])]
def ResA (w w' : World) (r : Sc × Int × Int) (e : Ending) : Prop := ∃ A' m' c', e = .returned (.tuple #[.agg #[.slice A' m' c', .int .i64 r.1.next], .int .i64 r.2.1, .int .i64 r.2.2]) ∧ m' = r.1.fs.length ∧ Own 41 4 w' w.heap.size (.slice A' m' c') (r.1.fs.map Fd.cells)

set_option maxHeartbeats 2000000 in
set_option maxRecDepth 20000 in
theorem After_any (A : Option Addr) (n c : Nat) (m : List Ch) (w : World) (hn : n = m.length) (hs : Chs w w.heap.size A m) (hl : n ≤ 1000000) (hcw : ∀ d ∈ m, CW d) :
    Calls Try.prog 11 #[.slice A n c] w fun e w' => ResA w w' (aftP m) e ∧ Below w.heap.size w w' := by
  have HN := Lib.hid hn
  have HS := Lib.hid hs
  have HC := Lib.hid hcw
  clear hn hs hcw
  have R0 := Lib.hid (CB.new w 30 [.slice none 0 0, .int .i64 0])
  have B0 := Lib.hid (al1 w (.cells #[.slice none 0 0, .int .i64 0] 30))
  go_enter Try.func11, Try.ntmps11
  go_wp2_with (go_at_call 30; refine (New_any _).mono ?_; rintro e w1 ⟨rfl, hb1⟩; have R1 := Lib.hid (R0.out.up hb1); have B1 := Lib.hid (below_step B0.out B0.out.size hb1); have z1 := R1.out.lt; clear hb1)
  go_loopw [13] (fun j wr => ∃ (k n' c' : Nat) (A' : Option Addr) (x : Int) (fs : List Fd), k ≤ n ∧ j = .int .i64 k ∧ Hid (CB wr w.heap.size 30 [.slice none 0 0, .int .i64 0]) ∧ Hid (CB wr w1.heap.size 30 [.slice A' n' c', .int .i64 x]) ∧ Hid (Own 41 4 wr w.heap.size (.slice A' n' c') (fs.map Fd.cells)) ∧ Hid (n' = fs.length) ∧ Hid (Inv ⟨fs, x⟩) ∧ Hid (Below w.heap.size w wr) ∧ Hid (aft ⟨fs, x⟩ k (m.drop k) = aftP m)) (fun j _ => n - (intOf j).toNat)
  case atStart => exact ⟨0, 0, 0, none, 1, [], by omega, rfl, R1.out.alloc _, CB.new _ _ _, Own.nil _ _ _ _, rfl, inv_new, B1.out.alloc B1.out.size _, rfl⟩
  case round =>
    obtain ⟨k, n', c', A', x, fs, hk, rfl, hr, ht, hown, hnf, hinv, hbel, hgo⟩ := hrel
    have hzr := hr.out.lt
    have hzt := ht.out.lt
    have t0 := ht.out.cell 0 rfl
    have t1 := ht.out.cell 1 rfl
    by_cases hlt : k < n
    · have i1 : (k : Int) < (n : Int) := by omega
      obtain ⟨d, hf⟩ := getC_of (l := m) (k := k) (by rw [← HN.out]; exact hlt)
      obtain ⟨b, off, rfl, hb, c0, c1, c2, c3, c4, c5, c6, c7⟩ := (HS.out.below hbel.out).one hf
      have hd := Lib.hid (drop_cons hf)
      have hmem := HC.out d (List.mem_of_getElem? hf)
      have hCW := Lib.hid hmem
      have HA := Lib.hid (Apply_any A' n' c' x fs d.kind d.id d.wi d.nm d.ot d.ty d.pa d.sep (wr.alloc (.cells #[.int .i64 d.kind, .int .i64 d.id, .int .i64 d.wi, .string d.nm, .string d.ot, .int .i64 d.ty, .int .i64 d.pa, .string d.sep] 24)) hnf.out ((show Fds wr wr.heap.size A' fs from hown.out.row.2.2.2).up (al1 _ _)) (by have h1 := hinv.out.1; have h2 := hnf.out; simp only at h1; omega) (by have := hinv.out.2.1; exact this) (by have h := hinv.out.2.2.1; simp only at h; omega) hmem.2.2.2 hinv.out.2.2.2 hmem.2.1 hmem.2.2.1 hmem.1)
      obtain ⟨⟨⟨fs2, x2⟩, er⟩, hq⟩ : ∃ r, applyP ⟨fs, x⟩ d = r := ⟨_, rfl⟩
      have HQ := Lib.hid hq
      have hbz := al1 wr (.cells #[.int .i64 d.kind, .int .i64 d.id, .int .i64 d.wi, .string d.nm, .string d.ot, .int .i64 d.ty, .int .i64 d.pa, .string d.sep] 24)
      have HBZ := Lib.hid hbz
      clear hf hmem hq hbz
      by_cases he : er = 0
      · subst he
        have HG := Lib.hid (aft_go hd.out hgo.out (by rw [HQ.out]))
        have HI := Lib.hid (inv_apply hinv.out hCW.out (by rw [HQ.out]))
        rw [HQ.out] at HG HI
        go_wp2_with (first | (go_at_call 14; refine HA.out.mono ?_; rintro e w7 ⟨⟨A7, m7, c7', rfl, hm7, ho7⟩, hb7⟩; rw [show applyP ⟨fs, x⟩ ⟨d.kind, d.id, d.wi, d.nm, d.ot, d.ty, d.pa, d.sep⟩ = (⟨fs2, x2⟩, 0) from HQ.out] at hm7 ho7; rw [show applyP ⟨fs, x⟩ ⟨d.kind, d.id, d.wi, d.nm, d.ot, d.ty, d.pa, d.sep⟩ = (⟨fs2, x2⟩, 0) from HQ.out]; have hw7 := Lib.hid (HBZ.out.trans (hb7.mono HBZ.out.size)); have O7 := Lib.hid (ho7.low (b := w.heap.size) (by rw [asz]; omega)); have M7 := Lib.hid hm7; have R7 := Lib.hid (hr.out.up hw7.out); have T7 := Lib.hid (ht.out.up hw7.out); have B7 := Lib.hid (below_step hbel.out (by omega) hw7.out); have zr7 := R7.out.lt; have zt7 := T7.out.lt; clear hm7 ho7 hb7) | ((with_reducible show wpList _ _ _ _ _ _); refine wpList_store_cb rfl 30 (.tmp 5) (.tmp 29) rfl w1.heap.size [.slice A7 m7 c7', .int .i64 x2] rfl rfl 30 [.slice A' n' c', .int .i64 x] 2 (T7.out.alloc _) sizeS rfl rfl (one_s _ _ _ _) ?_; intro w9 hc9 hg9 hz9))
        have hz7 : w7.heap.size ≤ (w7.alloc (.cells #[.slice A7 m7 c7', .int .i64 x2] 30)).heap.size := (al1 _ _).size
        go_roundw
        case rel => exact ⟨k + 1, m7, c7', A7, x2, fs2, by omega, by go_num, (R7.out.alloc _).grown hg9 (fun h => by injection h with h; omega), hc9, (O7.out.alloc _).kept hg9 (.inr (Own.ne O7.out T7.out (by decide)).symm), M7.out, HI.out, below_grown (B7.out.alloc (by omega) _) hg9 (by omega) (by omega), by show _ = _; have h := HG.out; push_cast; exact h⟩
        case measure => simp [intOf]; omega
      · have e1 : (er != 0) = true := by simpa using he
        have HG := Lib.hid (aft_stop hd.out hgo.out (by rw [HQ.out]; exact he))
        rw [HQ.out] at HG
        clear he
        go_wp2_with (first | (go_at_call 14; refine HA.out.mono ?_; rintro e w7 ⟨⟨A7, m7, c7', rfl, hm7, ho7⟩, hb7⟩; rw [show applyP ⟨fs, x⟩ ⟨d.kind, d.id, d.wi, d.nm, d.ot, d.ty, d.pa, d.sep⟩ = (⟨fs2, x2⟩, er) from HQ.out]; have hw7 := Lib.hid (HBZ.out.trans (hb7.mono HBZ.out.size)); have R7 := Lib.hid (hr.out.up hw7.out); have T7 := Lib.hid (ht.out.up hw7.out); have B7 := Lib.hid (below_step hbel.out (by omega) hw7.out); have zr7 := R7.out.lt; have zt7 := T7.out.lt; have t70 := T7.out.cell 0 rfl; have t71 := T7.out.cell 1 rfl; clear hm7 ho7 hb7) | ((with_reducible show wpList _ _ _ _ _ _); refine wpList_store_cb rfl 30 (.tmp 2) (.tmp 26) rfl w.heap.size [.slice A' n' c', .int .i64 x] rfl rfl 30 [.slice none 0 0, .int .i64 0] 2 (R7.out.alloc _) sizeS rfl rfl (one_s _ _ _ _) ?_; intro w9 hc9 hg9 hz9))
        have hz7 : w7.heap.size ≤ (w7.alloc (.cells #[.slice A7 m7 c7', .int .i64 x2] 30)).heap.size := (al1 _ _).size
        refine bodyPost_ret (res_cell3 Try.results11 rfl rfl rfl hc9 Try.underlying30 sizeS rfl) rfl ⟨?_, below_grown (B7.out.alloc (by omega) _) hg9 (by omega) (by omega)⟩
        rw [HG.out]
        exact ⟨A', n', c', rfl, hnf.out, ((hown.out.up hw7.out).alloc _).kept hg9 (.inr (Own.ne (hown.out.up hw7.out) R7.out (by decide)).symm)⟩
    · have i1 : ¬ (k : Int) < (n : Int) := by omega
      have HG := Lib.hid (aft_end (by rw [← HN.out]; omega) hgo.out)
      have hkn : k = n := by omega
      subst hkn
      go_wp2_with ((with_reducible show wpList _ _ _ _ _ _); refine wpList_store_cb rfl 30 (.tmp 2) (.tmp 31) rfl w.heap.size [.slice A' n' c', .int .i64 x] rfl rfl 30 [.slice none 0 0, .int .i64 0] 2 hr.out sizeS rfl rfl (one_s _ _ _ _) ?_; intro w9 hc9 hg9 hz9)
      refine bodyPost_ret (res_cell3 Try.results11 rfl rfl rfl hc9 Try.underlying30 sizeS rfl) rfl ⟨?_, below_grown hbel.out hg9 (by omega) (by omega)⟩
      rw [HG.out]
      exact ⟨A', n', c', rfl, hnf.out, hown.out.kept hg9 (.inr (Own.ne hown.out hr.out (by decide)).symm)⟩
end Go.Proofs.Ytpgbpfdedpppeaa
