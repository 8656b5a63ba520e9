/-
  The reference's move, by a contract.
-/
import Derived.Test.YtpgbpfdedpppeaaRPut
import Derived.Test.YtpgbpfdedpppeaaKindP
import Derived.Test.YtpgbpfdedpppeaaChkP
import Derived.Deep.RegionHeldLaw
namespace Go.Proofs.Ytpgbpfdedpppeaa
open Go.RowKit

def depOk (o : List Fd) (f : Fd) : Bool := decide (depL o f.id ≤ 8)
def movR (l : List Fd) (x : Int) (f : Fd) (p : Int) : Sc × Int :=
  if grpB l p = true ∧ insB l p f.id = false then (if (putF l { f with pa := p }).all (depOk (putF l { f with pa := p })) = true then (if takB l { f with pa := p } f.id f.id = true then (Sc.zero, 60) else (⟨putF l { f with pa := p }, x⟩, 0)) else (Sc.zero, 63)) else (Sc.zero, 63)

set_option maxHeartbeats 4000000 in
set_option maxRecDepth 20000 in
theorem Rmove_any (A : Option Addr) (n c : Nat) (x : Int) (l : List Fd) (i : Int) (nm : ByteArray) (ty pa p : Int) (w : World) (hn : n = l.length) (hs : Fds w w.heap.size A l) (hl0 : n ≤ 1000) (hnm : nm.size ≤ 9223372036854775807) :
    Calls Try.prog 66 #[.agg #[.slice A n c, .int .i64 x], .agg #[.int .i64 i, .string nm, .int .i64 ty, .int .i64 pa], .int .i64 p] w fun e w' => ResS w w' (movR l x ⟨i, nm, ty, pa⟩ p) e ∧ Below w.heap.size w w' := by
  have HN := Lib.hid hn
  have HS := Lib.hid hs
  clear hn hs
  have hl2 : n ≤ 9223372036854775807 := by omega
  have hl3 : n ≤ 1000000 := by omega
  obtain ⟨bG, hG⟩ : ∃ b, grpB l p = b := ⟨_, rfl⟩
  obtain ⟨bI, hI⟩ : ∃ b, insB l p i = b := ⟨_, rfl⟩
  obtain ⟨bT, hT⟩ : ∃ b, takB l ⟨i, nm, ty, p⟩ i i = b := ⟨_, rfl⟩
  obtain ⟨o, ho⟩ : ∃ o, putF l ⟨i, nm, ty, p⟩ = o := ⟨_, rfl⟩
  have HNO : Hid (n = o.length) := by show _ = _; rw [← ho, put_len', ← HN.out]
  have HE : Hid (movR l x ⟨i, nm, ty, pa⟩ p = if bG = true ∧ bI = false then (if o.all (depOk o) = true then (if bT = true then (Sc.zero, 60) else (⟨o, x⟩, 0)) else (Sc.zero, 63)) else (Sc.zero, 63)) := by
    show _ = _
    unfold movR
    simp only [hG, hI, hT, ho]
  have HG := Lib.hid hG
  have HI := Lib.hid hI
  have HT := Lib.hid hT
  have HO := Lib.hid ho
  clear hG hI hT ho
  cases bG with
  | false =>
    have HRX := Lib.hid (HE.out.trans (if_neg (by simp)))
    clear HE
    have S0 := Lib.hid (((CB.new w 30 [.slice A n c, .int .i64 x]).alloc (.cells #[.int .i64 i, .string nm, .int .i64 ty, .int .i64 pa] 41)).alloc (.cells #[.slice none 0 0, .int .i64 0] 30))
    have C0 := Lib.hid ((CB.new1 w (.cells #[.slice A n c, .int .i64 x] 30) 41 [.int .i64 i, .string nm, .int .i64 ty, .int .i64 pa]).alloc (.cells #[.slice none 0 0, .int .i64 0] 30))
    have R0 := Lib.hid (CB.new2 w (.cells #[.slice A n c, .int .i64 x] 30) (.cells #[.int .i64 i, .string nm, .int .i64 ty, .int .i64 pa] 41) 30 [.slice none 0 0, .int .i64 0])
    have B0 := Lib.hid (al3 w (.cells #[.slice A n c, .int .i64 x] 30) (.cells #[.int .i64 i, .string nm, .int .i64 ty, .int .i64 pa] 41) (.cells #[.slice none 0 0, .int .i64 0] 30))
    have zR0 := R0.out.lt
    go_enter Try.func66, Try.ntmps66
    go_wp2_with (first | (go_at_call 43; refine (Rgroup_any A n c x l p _ HN.out (HS.out.up B0.out) hl2).mono ?_; rintro e w5 ⟨rfl, hb5⟩; rw [HG.out]; have S5 := Lib.hid (S0.out.up hb5); have C5 := Lib.hid (C0.out.up hb5); have R5 := Lib.hid (R0.out.up hb5); have B5 := Lib.hid (below_step B0.out B0.out.size hb5); have s50 := S5.out.cell 0 rfl; have s51 := S5.out.cell 1 rfl; have c50 := C5.out.cell 0 rfl; have c51 := C5.out.cell 1 rfl; have c52 := C5.out.cell 2 rfl; have c53 := C5.out.cell 3 rfl; have zS5 := S5.out.lt; have zC5 := C5.out.lt; have zR5 := R5.out.lt; have fC5 := C5.out.frozen 3; clear hb5) | ((with_reducible show wpList _ _ _ _ _ _); refine wpList_store_cb rfl 30 (.tmp 6) (.tmp 21) rfl (w.heap.size + 1 + 1) [.slice none 0 0, .int .i64 0] rfl rfl 30 [.slice none 0 0, .int .i64 0] 2 (R5.out) sizeS rfl rfl (one_s _ _ _ _) ?_; intro wz hcz hgz hzz))
    refine bodyPost_ret (res_cell Try.results66 rfl rfl hcz Try.underlying30 sizeS rfl) rfl ⟨?_, below_grown B5.out hgz (by omega) (by omega)⟩
    rw [HRX.out]
    exact res_zero _ _ _
  | true =>
    cases bI with
    | true =>
      have HRX := Lib.hid (HE.out.trans (if_neg (by simp)))
      clear HE
      have S0 := Lib.hid (((CB.new w 30 [.slice A n c, .int .i64 x]).alloc (.cells #[.int .i64 i, .string nm, .int .i64 ty, .int .i64 pa] 41)).alloc (.cells #[.slice none 0 0, .int .i64 0] 30))
      have C0 := Lib.hid ((CB.new1 w (.cells #[.slice A n c, .int .i64 x] 30) 41 [.int .i64 i, .string nm, .int .i64 ty, .int .i64 pa]).alloc (.cells #[.slice none 0 0, .int .i64 0] 30))
      have R0 := Lib.hid (CB.new2 w (.cells #[.slice A n c, .int .i64 x] 30) (.cells #[.int .i64 i, .string nm, .int .i64 ty, .int .i64 pa] 41) 30 [.slice none 0 0, .int .i64 0])
      have B0 := Lib.hid (al3 w (.cells #[.slice A n c, .int .i64 x] 30) (.cells #[.int .i64 i, .string nm, .int .i64 ty, .int .i64 pa] 41) (.cells #[.slice none 0 0, .int .i64 0] 30))
      have zR0 := R0.out.lt
      go_enter Try.func66, Try.ntmps66
      go_wp2_with (first | (go_at_call 43; refine (Rgroup_any A n c x l p _ HN.out (HS.out.up B0.out) hl2).mono ?_; rintro e w5 ⟨rfl, hb5⟩; rw [HG.out]; have S5 := Lib.hid (S0.out.up hb5); have C5 := Lib.hid (C0.out.up hb5); have R5 := Lib.hid (R0.out.up hb5); have B5 := Lib.hid (below_step B0.out B0.out.size hb5); have s50 := S5.out.cell 0 rfl; have s51 := S5.out.cell 1 rfl; have c50 := C5.out.cell 0 rfl; have c51 := C5.out.cell 1 rfl; have c52 := C5.out.cell 2 rfl; have c53 := C5.out.cell 3 rfl; have zS5 := S5.out.lt; have zC5 := C5.out.lt; have zR5 := R5.out.lt; have fC5 := C5.out.frozen 3; clear hb5) | (go_at_call 79; refine (Rinside_any A n c x l p i _ HN.out (HS.out.up B5.out) hl2).mono ?_; rintro e w6 ⟨rfl, hb6⟩; rw [HI.out]; have S6 := Lib.hid (S5.out.up hb6); have C6 := Lib.hid (C5.out.up hb6); have R6 := Lib.hid (R5.out.up hb6); have B6 := Lib.hid (below_step B5.out B5.out.size hb6); have s60 := S6.out.cell 0 rfl; have s61 := S6.out.cell 1 rfl; have c60 := C6.out.cell 0 rfl; have c61 := C6.out.cell 1 rfl; have c62 := C6.out.cell 2 rfl; have c63 := C6.out.cell 3 rfl; have zS6 := S6.out.lt; have zC6 := C6.out.lt; have zR6 := R6.out.lt; have fC6 := C6.out.frozen 3; clear hb6) | ((with_reducible show wpList _ _ _ _ _ _); refine wpList_store_cb rfl 30 (.tmp 6) (.tmp 21) rfl (w.heap.size + 1 + 1) [.slice none 0 0, .int .i64 0] rfl rfl 30 [.slice none 0 0, .int .i64 0] 2 (R6.out) sizeS rfl rfl (one_s _ _ _ _) ?_; intro wz hcz hgz hzz))
      refine bodyPost_ret (res_cell Try.results66 rfl rfl hcz Try.underlying30 sizeS rfl) rfl ⟨?_, below_grown B6.out hgz (by omega) (by omega)⟩
      rw [HRX.out]
      exact res_zero _ _ _
    | false =>
      have HR := HE.out
      rw [if_pos ⟨rfl, rfl⟩] at HR
      have HE2 := Lib.hid HR
      clear HE HR
      have S0 := Lib.hid (((CB.new w 30 [.slice A n c, .int .i64 x]).alloc (.cells #[.int .i64 i, .string nm, .int .i64 ty, .int .i64 pa] 41)).alloc (.cells #[.slice none 0 0, .int .i64 0] 30))
      have C0 := Lib.hid ((CB.new1 w (.cells #[.slice A n c, .int .i64 x] 30) 41 [.int .i64 i, .string nm, .int .i64 ty, .int .i64 pa]).alloc (.cells #[.slice none 0 0, .int .i64 0] 30))
      have R0 := Lib.hid (CB.new2 w (.cells #[.slice A n c, .int .i64 x] 30) (.cells #[.int .i64 i, .string nm, .int .i64 ty, .int .i64 pa] 41) 30 [.slice none 0 0, .int .i64 0])
      have B0 := Lib.hid (al3 w (.cells #[.slice A n c, .int .i64 x] 30) (.cells #[.int .i64 i, .string nm, .int .i64 ty, .int .i64 pa] 41) (.cells #[.slice none 0 0, .int .i64 0] 30))
      have zR0 := R0.out.lt
      go_enter Try.func66, Try.ntmps66
      go_wp2_with (first | (go_at_call 43; refine (Rgroup_any A n c x l p _ HN.out (HS.out.up B0.out) hl2).mono ?_; rintro e w5 ⟨rfl, hb5⟩; rw [HG.out]; have S5 := Lib.hid (S0.out.up hb5); have C5 := Lib.hid (C0.out.up hb5); have R5 := Lib.hid (R0.out.up hb5); have B5 := Lib.hid (below_step B0.out B0.out.size hb5); have s50 := S5.out.cell 0 rfl; have s51 := S5.out.cell 1 rfl; have c50 := C5.out.cell 0 rfl; have c51 := C5.out.cell 1 rfl; have c52 := C5.out.cell 2 rfl; have c53 := C5.out.cell 3 rfl; have zS5 := S5.out.lt; have zC5 := C5.out.lt; have zR5 := R5.out.lt; have fC5 := C5.out.frozen 3; clear hb5) | (go_at_call 79; refine (Rinside_any A n c x l p i _ HN.out (HS.out.up B5.out) hl2).mono ?_; rintro e w6 ⟨rfl, hb6⟩; rw [HI.out]; have S6 := Lib.hid (S5.out.up hb6); have C6 := Lib.hid (C5.out.up hb6); have R6 := Lib.hid (R5.out.up hb6); have B6 := Lib.hid (below_step B5.out B5.out.size hb6); have s60 := S6.out.cell 0 rfl; have s61 := S6.out.cell 1 rfl; have c60 := C6.out.cell 0 rfl; have c61 := C6.out.cell 1 rfl; have c62 := C6.out.cell 2 rfl; have c63 := C6.out.cell 3 rfl; have zS6 := S6.out.lt; have zC6 := C6.out.lt; have zR6 := R6.out.lt; have fC6 := C6.out.frozen 3; clear hb6) | (go_at_call 65; refine (Rwith_any A n c x l ⟨i, nm, ty, p⟩ _ HN.out (HS.out.up (B6.out.setCell (p := ⟨w.heap.size + 1, 3, none⟩) (by show w.heap.size ≤ w.heap.size + 1; omega) _)) hl3).mono ?_; rw [put_len', ← HN.out, HO.out]; rintro e w8 ⟨⟨A8, c8, rfl, ho8⟩, hb8⟩; have S8 := Lib.hid ((S6.out.set_other 3 (.int .i64 p) (by omega)).up hb8); have C8 := Lib.hid ((C6.out.set_ 3 (.int .i64 p)).up hb8); have R8 := Lib.hid ((R6.out.set_other 3 (.int .i64 p) (by omega)).up hb8); have B8 := Lib.hid ((B6.out.setCell (p := ⟨w.heap.size + 1, 3, none⟩) (by show w.heap.size ≤ w.heap.size + 1; omega) _).trans (hb8.mono (Below.size (B6.out.setCell (p := ⟨w.heap.size + 1, 3, none⟩) (by show w.heap.size ≤ w.heap.size + 1; omega) _)))); have O8 := Lib.hid (ho8.low (Below.size (B6.out.setCell (p := ⟨w.heap.size + 1, 3, none⟩) (by show w.heap.size ≤ w.heap.size + 1; omega) (.int .i64 p)))); have zR8 := R8.out.lt; clear hb8 ho8))
      clear S0 C0 R0 B0 S5 C5 R5 B5 S6 C6 R6 B6
      go_loopw [9] (fun j wr => ∃ k : Nat, k ≤ n ∧ j = .int .i64 k ∧ Hid (CB wr w.heap.size 30 [.slice A n c, .int .i64 x]) ∧ Hid (CB wr (w.heap.size + 1) 41 [.int .i64 i, .string nm, .int .i64 ty, .int .i64 p]) ∧ Hid (CB wr (w.heap.size + 1 + 1) 30 [.slice none 0 0, .int .i64 0]) ∧ Hid (CB wr w8.heap.size 30 [.slice A8 n c8, .int .i64 x]) ∧ Hid (Own 41 4 wr w.heap.size (.slice A8 n c8) (o.map Fd.cells)) ∧ Hid (Below w.heap.size w wr) ∧ Hid ((o.drop k).all (depOk o) = o.all (depOk o))) (fun j _ => n - (intOf j).toNat)
      case atStart => exact ⟨0, by omega, rfl, S8.out.alloc _, C8.out.alloc _, R8.out.alloc _, CB.new _ _ _, O8.out.alloc _, B8.out.alloc B8.out.size _, rfl⟩
      case round =>
        obtain ⟨k, hk, rfl, hs, hc, hr, ht, hown, hbel, hgo⟩ := hrel
        have hzs := hs.out.lt
        have hzc := hc.out.lt
        have hzr := hr.out.lt
        have hzt := ht.out.lt
        have t0 := ht.out.cell 0 rfl
        have t1 := ht.out.cell 1 rfl
        have HF := Lib.hid (show Fds wr wr.heap.size A8 o from hown.out.row.2.2.2)
        by_cases hlt : k < n
        · have i1 : (k : Int) < (n : Int) := by omega
          obtain ⟨f, hf⟩ := getD_of (l := o) (k := k) (by rw [← HNO.out]; exact hlt)
          obtain ⟨b, off, rfl, hb, c0, c1, c2, c3⟩ := HF.out.one hf
          have hd := Lib.hid (drop_cons hf)
          have hSS : Hid (∀ W, Below wr.heap.size wr W → W.cell? ⟨w8.heap.size, 0, none⟩ = some (.slice (some ⟨b, off, none⟩) n c8) ∧ W.cell? ⟨w8.heap.size, 1, none⟩ = some (.int .i64 x) ∧ W.cell? ⟨b, off + k * 4, none⟩ = some (.int .i64 f.id)) := by
            intro W hW
            exact ⟨(ht.out.up hW).cell 0 rfl, (ht.out.up hW).cell 1 rfl, ((bcell hW).1 _ _ hb).trans c0⟩
          clear hf c1 c2 c3
          obtain ⟨d, hdd⟩ : ∃ d, depL o f.id = d := ⟨_, rfl⟩
          have HD := Lib.hid hdd
          by_cases h8 : d ≤ 8
          · have HK := Lib.hid (show depOk o f = true by unfold depOk; rw [hdd]; exact decide_eq_true h8)
            have j8 : ¬ (8 : Int) < d := by omega
            have j8' : decide ((8 : Int) < d) = false := decide_eq_false j8
            clear hdd
            go_wp2
            go_region_held_law (fun w' => w'.cell? ⟨w8.heap.size, 0, none⟩ = some (.slice (some ⟨b, off, none⟩) n c8) ∧ w'.cell? ⟨w8.heap.size, 1, none⟩ = some (.int .i64 x) ∧ w'.cell? ⟨b, off + k * 4, none⟩ = some (.int .i64 f.id))
              (first | exact hSS.out _ (by first | exact hw7 | exact hw7.drew | exact bd _) | go_keep)
              (first | (go_at_call 48; refine (Rdepth_any _ n c8 x o f.id _ HNO.out (HF.out.up (show Below wr.heap.size wr _ by first | exact bd _ | exact Below.refl _ _)) hl2).mono ?_; rintro e w7 ⟨rfl, hb7⟩; rw [HD.out]; have hw7 : Below wr.heap.size wr w7 := (by first | exact hb7 | exact (bd _).trans (hb7.mono (bd _).size)); clear hb7))
            all_goals
              go_wp2
              go_roundw
              case rel => exact ⟨k + 1, by omega, by go_num, hs.out.up hw7, hc.out.up hw7, hr.out.up hw7, ht.out.up hw7, hown.out.up hw7, below_step hbel.out (by omega) hw7, alls_step hd.out hgo.out HK.out⟩
              case measure => simp [intOf]; omega
          · have HK := Lib.hid (show depOk o f = false by unfold depOk; rw [hdd]; exact decide_eq_false h8)
            have j8 : (8 : Int) < d := by omega
            have j8' : decide ((8 : Int) < d) = true := decide_eq_true j8
            clear hdd
            go_wp2
            go_region_held_law (fun w' => w'.cell? ⟨w8.heap.size, 0, none⟩ = some (.slice (some ⟨b, off, none⟩) n c8) ∧ w'.cell? ⟨w8.heap.size, 1, none⟩ = some (.int .i64 x) ∧ w'.cell? ⟨b, off + k * 4, none⟩ = some (.int .i64 f.id))
              (first | exact hSS.out _ (by first | exact hw7 | exact hw7.drew | exact bd _) | go_keep)
              (first | (go_at_call 48; refine (Rdepth_any _ n c8 x o f.id _ HNO.out (HF.out.up (show Below wr.heap.size wr _ by first | exact bd _ | exact Below.refl _ _)) hl2).mono ?_; rintro e w7 ⟨rfl, hb7⟩; rw [HD.out]; have hw7 : Below wr.heap.size wr w7 := (by first | exact hb7 | exact (bd _).trans (hb7.mono (bd _).size)); clear hb7))
            all_goals
              have R7 := Lib.hid (hr.out.up hw7)
              have B7 := Lib.hid (below_step hbel.out (by omega) hw7)
              have zR7 := R7.out.lt
              go_wp2_with (((with_reducible show wpList _ _ _ _ _ _); refine wpList_store_cb rfl 30 (.tmp 6) (.tmp 43) rfl (w.heap.size + 1 + 1) [.slice none 0 0, .int .i64 0] rfl rfl 30 [.slice none 0 0, .int .i64 0] 2 (R7.out) sizeS rfl rfl (one_s _ _ _ _) ?_; intro wz hcz hgz hzz))
              refine bodyPost_ret (res_cell Try.results66 rfl rfl hcz Try.underlying30 sizeS rfl) rfl ⟨?_, below_grown B7.out hgz (by omega) (by omega)⟩
              rw [HE2.out, if_neg (by rw [alls_stop hd.out hgo.out HK.out]; decide)]
              exact res_zero _ _ _
        · have i1 : ¬ (k : Int) < (n : Int) := by omega
          have HAL := Lib.hid (alls_end (r := o) (by rw [← HNO.out]; omega) hgo.out)
          have HR := HE2.out
          rw [if_pos HAL.out] at HR
          have s0 := hs.out.cell 0 rfl
          have s1 := hs.out.cell 1 rfl
          have c0 := hc.out.cell 0 rfl
          have c1 := hc.out.cell 1 rfl
          have c2 := hc.out.cell 2 rfl
          have c3 := hc.out.cell 3 rfl
          cases bT with
          | true =>
            have HRX := Lib.hid (HR.trans (if_pos rfl))
            clear HR HE2
            go_wp2_with (first | (go_at_call 62; refine (Rtaken_any A n c x l ⟨i, nm, ty, p⟩ i i _ HN.out (HS.out.up hbel.out) hl2 hnm).mono ?_; rintro e w10 ⟨rfl, hb10⟩; rw [HT.out]; have hw10 := Lib.hid hb10; have R10 := Lib.hid (hr.out.up hb10); have T10 := Lib.hid (ht.out.up hb10); have B10 := Lib.hid (below_step hbel.out (by omega) hb10); have t10 := T10.out.cell 0 rfl; have t11 := T10.out.cell 1 rfl; have zR10 := R10.out.lt; clear hb10) | ((with_reducible show wpList _ _ _ _ _ _); refine wpList_store_cb rfl 30 (.tmp 6) (.tmp 52) rfl (w.heap.size + 1 + 1) [.slice none 0 0, .int .i64 0] rfl rfl 30 [.slice none 0 0, .int .i64 0] 2 (R10.out) sizeS rfl rfl (one_s _ _ _ _) ?_; intro wz hcz hgz hzz))
            refine bodyPost_ret (res_cell Try.results66 rfl rfl hcz Try.underlying30 sizeS rfl) rfl ⟨?_, below_grown B10.out hgz (by omega) (by omega)⟩
            rw [HRX.out]
            exact res_zero _ _ _
          | false =>
            have HRX := Lib.hid (HR.trans (if_neg (by decide)))
            clear HR HE2
            go_wp2_with (first | (go_at_call 62; refine (Rtaken_any A n c x l ⟨i, nm, ty, p⟩ i i _ HN.out (HS.out.up hbel.out) hl2 hnm).mono ?_; rintro e w10 ⟨rfl, hb10⟩; rw [HT.out]; have hw10 := Lib.hid hb10; have R10 := Lib.hid (hr.out.up hb10); have T10 := Lib.hid (ht.out.up hb10); have B10 := Lib.hid (below_step hbel.out (by omega) hb10); have t10 := T10.out.cell 0 rfl; have t11 := T10.out.cell 1 rfl; have zR10 := R10.out.lt; clear hb10) | ((with_reducible show wpList _ _ _ _ _ _); refine wpList_store_cb rfl 30 (.tmp 6) (.tmp 53) rfl (w.heap.size + 1 + 1) [.slice A8 n c8, .int .i64 x] rfl rfl 30 [.slice none 0 0, .int .i64 0] 2 (R10.out) sizeS rfl rfl (one_s _ _ _ _) ?_; intro wz hcz hgz hzz))
            refine bodyPost_ret (res_cell Try.results66 rfl rfl hcz Try.underlying30 sizeS rfl) rfl ⟨?_, below_grown B10.out hgz (by omega) (by omega)⟩
            rw [HRX.out]
            exact ⟨A8, n, c8, rfl, HNO.out, (hown.out.up hw10.out).kept hgz (.inr (Own.ne (hown.out.up hw10.out) R10.out (by decide)).symm)⟩
end Go.Proofs.Ytpgbpfdedpppeaa
