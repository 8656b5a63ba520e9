/-
  The reference's taken, by a contract.
-/
import Derived.Test.YtpgbpfdedpppeaaRGrp
import Derived.Test.YtpgbpfdedpppeaaNmdP
namespace Go.Proofs.Ytpgbpfdedpppeaa
open Go.RowKit

def takH (g : Fd) (a b : Int) (f : Fd) : Bool := ((f.pa == g.pa) && (f.nm.toList == g.nm.toList) && (f.id != a) && (f.id != b))
def takB (l : List Fd) (g : Fd) (a b : Int) : Bool := l.any (takH g a b) || !namB g.nm
theorem tak_cases (p q r s : Bool) : (p = false ∧ Hid ((p && q && r && s) = false)) ∨ (p = true ∧ q = false ∧ Hid ((p && q && r && s) = false)) ∨ (p = true ∧ q = true ∧ r = false ∧ Hid ((p && q && r && s) = false)) ∨ (p = true ∧ q = true ∧ r = true ∧ s = false ∧ Hid ((p && q && r && s) = false)) ∨ (p = true ∧ q = true ∧ r = true ∧ s = true ∧ Hid ((p && q && r && s) = true)) := by
  unfold Hid
  cases p <;> cases q <;> cases r <;> cases s <;> simp
theorem anyt_step {p : Fd → Bool} {r : List Fd} {k : Nat} {f : Fd} (hd : r.drop k = f :: r.drop (k + 1)) (h : (r.drop k).any p = r.any p) (hc : p f = false) : (r.drop (k + 1)).any p = r.any p := by
  rw [← h, hd, List.any_cons, hc, Bool.false_or]
theorem anyt_stop {p : Fd → Bool} {r : List Fd} {k : Nat} {f : Fd} (hd : r.drop k = f :: r.drop (k + 1)) (h : (r.drop k).any p = r.any p) (hc : p f = true) : r.any p = true := by
  rw [← h, hd, List.any_cons, hc, Bool.true_or]

set_option maxHeartbeats 2000000 in
set_option maxRecDepth 20000 in
theorem Rtaken_any (A : Option Addr) (n c : Nat) (x : Int) (l : List Fd) (g : Fd) (a b : Int) (w : World) (hn : n = l.length) (hs : Fds w w.heap.size A l) (hl : n ≤ 9223372036854775807) (hg : g.nm.size ≤ 9223372036854775807) :
    Calls Try.prog 62 #[.agg #[.slice A n c, .int .i64 x], .agg #[.int .i64 g.id, .string g.nm, .int .i64 g.ty, .int .i64 g.pa], .agg #[.int .i64 a, .int .i64 b]] w fun e w' => e = .returned (.bool (takB l g a b)) ∧ Below w.heap.size w w' := by
  have HN := Lib.hid hn
  have HS := Lib.hid hs
  clear hn hs
  go_enter Try.func62, Try.ntmps62
  go_wp2
  go_loopw [7] (fun j wr => ∃ k : Nat, k ≤ n ∧ j = .int .i64 k ∧ Hid (CB wr w.heap.size 30 [.slice A n c, .int .i64 x]) ∧ Hid (CB wr (w.heap.size + 1) 41 [.int .i64 g.id, .string g.nm, .int .i64 g.ty, .int .i64 g.pa]) ∧ Hid (CB wr (w.heap.size + 1 + 1) 88 [.int .i64 a, .int .i64 b]) ∧ Hid (Below w.heap.size w wr) ∧ Hid ((l.drop k).any (takH g a b) = l.any (takH g a b))) (fun j _ => n - (intOf j).toNat)
  case atStart => exact ⟨0, by omega, rfl, ((CB.new w _ _).alloc _).alloc _, (CB.new1 w _ _ _).alloc _, CB.new2 w _ _ _ _, al3 _ _ _ _, rfl⟩
  case round =>
    obtain ⟨k, hk, rfl, hq, hf, ha, hbel, hgo⟩ := hrel
    have hz := ha.out.lt
    have hz1 := hf.out.lt
    have hz0 := hq.out.lt
    have q0 := hq.out.cell 0 rfl
    have f1 := hf.out.cell 1 rfl
    have f3 := hf.out.cell 3 rfl
    have a0 := ha.out.cell 0 rfl
    have a1 := ha.out.cell 1 rfl
    by_cases hlt : k < n
    · have i1 : (k : Int) < (n : Int) := by omega
      obtain ⟨f, hff⟩ := getD_of (l := l) (k := k) (by rw [← HN.out]; exact hlt)
      obtain ⟨bl, off, rfl, hb, c0, c1, c2, c3⟩ := (HS.out.below hbel.out).one hff
      have hd := Lib.hid (drop_cons hff)
      clear hff
      rcases tak_cases (f.pa == g.pa) (f.nm.toList == g.nm.toList) (f.id != a) (f.id != b) with ⟨p1, HE⟩ | ⟨p1, p2, HE⟩ | ⟨p1, p2, p3, HE⟩ | ⟨p1, p2, p3, p4, HE⟩ | ⟨p1, p2, p3, p4, HE⟩
      · go_wp2
        go_roundw
        case rel => exact ⟨k + 1, by omega, by go_num, hq.out.alloc _, hf.out.alloc _, ha.out.alloc _, hbel.out.alloc (by omega) _, anyt_step hd.out hgo.out HE.out⟩
        case measure => simp [intOf]; omega
      · go_wp2
        go_roundw
        case rel => exact ⟨k + 1, by omega, by go_num, hq.out.alloc _, hf.out.alloc _, ha.out.alloc _, hbel.out.alloc (by omega) _, anyt_step hd.out hgo.out HE.out⟩
        case measure => simp [intOf]; omega
      · go_wp2
        go_roundw
        case rel => exact ⟨k + 1, by omega, by go_num, hq.out.alloc _, hf.out.alloc _, ha.out.alloc _, hbel.out.alloc (by omega) _, anyt_step hd.out hgo.out HE.out⟩
        case measure => simp [intOf]; omega
      · go_wp2
        go_roundw
        case rel => exact ⟨k + 1, by omega, by go_num, hq.out.alloc _, hf.out.alloc _, ha.out.alloc _, hbel.out.alloc (by omega) _, anyt_step hd.out hgo.out HE.out⟩
        case measure => simp [intOf]; omega
      · go_wp2
        go_ret
        refine ⟨?_, hbel.out.alloc (by omega) _⟩
        unfold takB
        rw [anyt_stop hd.out hgo.out HE.out]
        rfl
    · have i1 : ¬ (k : Int) < (n : Int) := by omega
      have HE := Lib.hid (show l.any (takH g a b) = false by rw [← hgo.out, List.drop_of_length_le (by rw [← HN.out]; omega)]; rfl)
      go_wp2_with (go_at_call 47; refine (RName_any _ _ hg).mono ?_; rintro e w' ⟨rfl, rfl⟩)
      go_ret
      refine ⟨?_, hbel.out⟩
      unfold takB
      rw [HE.out]
      rfl
end Go.Proofs.Ytpgbpfdedpppeaa
