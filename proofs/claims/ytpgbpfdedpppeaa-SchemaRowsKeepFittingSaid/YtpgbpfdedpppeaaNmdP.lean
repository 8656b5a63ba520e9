/-
  The program's named, by a contract.
-/
import Derived.Test.YtpgbpfdedpppeaaChkP
import Derived.Lib.Strings
namespace Go.Proofs.Ytpgbpfdedpppeaa
open Go.RowKit

def sameB (a b : ByteArray) : Bool := a.toList == b.toList
theorem sameB_iff {a b : ByteArray} : sameB a b = true ↔ a = b := by
  unfold sameB
  rw [Lib.toList_data, Lib.toList_data]
  constructor
  · intro h
    have h : a.data.toList = b.data.toList := by simpa using h
    cases a; cases b
    congr 1
    exact Array.toList_inj.1 h
  · rintro rfl; simp
def clash (f o : Fd) : Bool := decide (o.pa = f.pa) && sameB o.nm f.nm
def namGo : List Fd → List Fd → Bool
  | _, [] => true
  | pre, f :: r => if namB f.nm then (if pre.any (clash f) then false else namGo (pre ++ [f]) r) else false
theorem any_step {p : Fd → Bool} {r : List Fd} {k : Nat} {f : Fd} (hd : r.drop k = f :: r.drop (k + 1)) (h : (r.drop k).any p = r.any p) (hc : p f = false) : (r.drop (k + 1)).any p = r.any p := by
  rw [← h, hd, List.any_cons, hc, Bool.false_or]
theorem any_stop {p : Fd → Bool} {r : List Fd} {k : Nat} {f : Fd} (hd : r.drop k = f :: r.drop (k + 1)) (h : (r.drop k).any p = r.any p) (hc : p f = true) : r.any p = true := by
  rw [← h, hd, List.any_cons, hc, Bool.true_or]
theorem any_end {p : Fd → Bool} {r : List Fd} {k : Nat} (hk : r.length ≤ k) (h : (r.drop k).any p = r.any p) : r.any p = false := by
  rw [← h, List.drop_of_length_le hk]
  rfl
theorem take_snoc {α : Type} {l : List α} {k : Nat} {f : α} (h : l[k]? = some f) : l.take (k + 1) = l.take k ++ [f] := by
  rw [List.take_add_one, h]
  rfl

set_option maxHeartbeats 2000000 in
set_option maxRecDepth 20000 in
theorem named_any (A : Option Addr) (n c : Nat) (l : List Fd) (w : World) (hn : n = l.length) (hc : n ≤ c) (hs : Fds w w.heap.size A l) (hl : c ≤ 9223372036854775807) (hsz : ∀ f ∈ l, f.nm.size ≤ 9223372036854775807) :
    Calls Try.prog 34 #[.slice A n c] w fun e w' => e = .returned (.bool (namGo [] l)) ∧ Below w.heap.size w w' := by
  have HN := Lib.hid hn
  have HS := Lib.hid hs
  have HM := Lib.hid hsz
  clear hn hs hsz
  go_enter Try.func34, Try.ntmps34
  go_wp2
  go_loopw [9] (fun j wr => ∃ k : Nat, k ≤ n ∧ j = .int .i64 k ∧ Hid (Below w.heap.size w wr) ∧ Hid (w.heap.size ≤ wr.heap.size) ∧ Hid (namGo (l.take k) (l.drop k) = namGo [] l)) (fun j _ => n - (intOf j).toNat)
  case atStart => exact ⟨0, by omega, rfl, Below.refl _ _, Nat.le_refl _, rfl⟩
  case round =>
    obtain ⟨k, hk, rfl, hbel, hsz, hgo⟩ := hrel
    obtain ⟨wo, rfl⟩ : ∃ wo : World, wo = wr := ⟨_, rfl⟩
    by_cases hlt : k < n
    · have i1 : (k : Int) < (n : Int) := by omega
      obtain ⟨f, hf⟩ := getD_of (l := l) (k := k) (by rw [← HN.out]; exact hlt)
      obtain ⟨b, off, rfl, hb, c0, c1, c2, c3⟩ := (HS.out.below hbel.out).one hf
      have hd := Lib.hid (drop_cons hf)
      have ht := Lib.hid (take_snoc hf)
      have hz := hsz.out
      have hfz : f.nm.size ≤ 9223372036854775807 := HM.out f (List.mem_of_getElem? hf)
      have hstep : Hid (namGo [] l = if namB f.nm then (if (l.take k).any (clash f) then false else namGo (l.take (k + 1)) (l.drop (k + 1))) else false) := by
        show _ = _
        rw [← hgo.out, hd.out, namGo, ht.out]
      clear hf
      cases hm : namB f.nm with
      | false =>
        have HT := Lib.hid hm
        clear hm
        go_wp2_with (go_at_call 61; refine (isName_any _ _ hfz).mono ?_; rintro e w' ⟨rfl, rfl⟩; rw [HT.out])
        go_ret
        refine ⟨?_, hbel.out.alloc hz _⟩
        rw [hstep.out, HT.out]
        rfl
      | true =>
        have HT := Lib.hid hm
        clear hm
        have e1 : (k : Int).toNat = k := by omega
        go_wp2_with (go_at_call 61; refine (isName_any _ _ hfz).mono ?_; rintro e w' ⟨rfl, rfl⟩; rw [HT.out])
        go_loopw [22] (fun j wr => ∃ m : Nat, m ≤ k ∧ j = .int .i64 m ∧ Hid (Below w.heap.size w wr) ∧ Hid (CB wr wo.heap.size 41 f.cells) ∧ Hid (((l.take k).drop m).any (clash f) = (l.take k).any (clash f))) (fun j _ => k - (intOf j).toNat)
        case atStart => exact ⟨0, by omega, rfl, hbel.out.alloc hz _, CB.new _ _ _, rfl⟩
        case round =>
          obtain ⟨m, hmk, rfl, hbel2, hcb, hgo2⟩ := hrel
          have hz2 := hcb.out.lt
          by_cases hlt2 : m < k
          · have i2 : (m : Int) < (k : Int) := by omega
            obtain ⟨g, hg⟩ := getD_of (l := l.take k) (k := m) (by simp; rw [← HN.out]; omega)
            obtain ⟨b', off', e', hb', g0, g1, g2, g3⟩ := ((HS.out.below hbel2.out).take k).one hg
            injection e' with e'
            injection e' with e1' e2'
            subst e1' e2'
            have hd2 := Lib.hid (drop_cons hg)
            have f1 := hcb.out.cell 1 rfl
            have f3 := hcb.out.cell 3 rfl
            have hm2 : m < n := by omega
            clear hg hb'
            by_cases hp : g.pa = f.pa
            · have p1 : (g.pa == f.pa) = true := by simpa using hp
              cases hq : sameB g.nm f.nm with
              | true =>
                have q1 : (g.nm.toList == f.nm.toList) = true := hq
                have HC : Hid (clash f g = true) := by show _ = _; unfold clash; rw [hq]; simpa using hp
                clear hq hp
                go_wp2
                go_ret
                refine ⟨?_, hbel2.out.alloc (by omega) _⟩
                rw [hstep.out, HT.out, any_stop hd2.out hgo2.out HC.out]
                rfl
              | false =>
                have q1 : (g.nm.toList == f.nm.toList) = false := hq
                have HC : Hid (clash f g = false) := by show _ = _; unfold clash; rw [hq]; simp
                clear hq hp
                go_wp2
                go_roundw
                case rel => exact ⟨m + 1, by omega, by go_num, hbel2.out.alloc (by omega) _, hcb.out.alloc _, any_step hd2.out hgo2.out HC.out⟩
                case measure => simp [intOf]; omega
            · have p1 : (g.pa == f.pa) = false := by simpa using hp
              have HC : Hid (clash f g = false) := by show _ = _; unfold clash; simp [hp]
              clear hp
              go_wp2
              go_roundw
              case rel => exact ⟨m + 1, by omega, by go_num, hbel2.out.alloc (by omega) _, hcb.out.alloc _, any_step hd2.out hgo2.out HC.out⟩
              case measure => simp [intOf]; omega
          · have i2 : ¬ (m : Int) < (k : Int) := by omega
            have HF := Lib.hid (any_end (by simp; omega) hgo2.out)
            go_wp2
            go_roundw
            case rel => exact ⟨k + 1, by omega, by go_num, hbel2.out, by show _ ≤ _; omega, by show _ = _; rw [hstep.out, HT.out, HF.out]; rfl⟩
            case measure => simp [intOf]; omega
    · have i1 : ¬ (k : Int) < (n : Int) := by omega
      go_wp2
      go_ret
      refine ⟨?_, hbel.out⟩
      rw [← hgo.out, List.drop_of_length_le (by rw [← HN.out]; omega)]
      rfl
end Go.Proofs.Ytpgbpfdedpppeaa
