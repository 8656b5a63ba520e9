/-
  The program's ancestry, by a contract.
-/
import Derived.Test.YtpgbpfdedpppeaaFldP
import Derived.Deep.LoopGhost
import Derived.BigGuardPart
namespace Go.Proofs.Ytpgbpfdedpppeaa
open Go.RowKit

/-- the first field with a number, a group unless it is the first one on the way -/
def fieldG (fi : Bool) : List Fd → Int → Option Fd
  | [], _ => none
  | f :: r, i => if f.id = i ∧ (fi = true ∨ f.ty = 6) then some f else fieldG fi r i
/-- a field and the groups around it, from the inside out, and what is left to find -/
def anc (l : List Fd) : Nat → Bool → Int → List Fd × Int
  | 0, _, i => ([], i)
  | m + 1, fi, i => if i = 0 then ([], i) else match fieldG fi l i with
    | none => ([], i)
    | some f => (f :: (anc l m false f.pa).1, (anc l m false f.pa).2)

theorem anc_zero (l : List Fd) (m : Nat) (fi : Bool) : anc l m fi 0 = ([], 0) := by cases m <;> simp [anc]
theorem anc_none {l : List Fd} {m : Nat} {fi : Bool} {i : Int} (h : fieldG fi l i = none) : anc l m fi i = ([], i) := by
  cases m with
  | zero => rfl
  | succ m =>
    unfold anc
    rw [h]
    split <;> rfl
theorem anc_some {l : List Fd} {m : Nat} {fi : Bool} {i : Int} {f : Fd} (hi : ¬ i = 0) (h : fieldG fi l i = some f) : anc l (m + 1) fi i = (f :: (anc l m false f.pa).1, (anc l m false f.pa).2) := by
  rw [anc, if_neg hi, h]
theorem fldG_yes {l : List Fd} {k : Nat} {i : Int} {f : Fd} {fi : Bool} (hd : l.drop k = f :: l.drop (k + 1)) (hgo : fieldG fi (l.drop k) i = fieldG fi l i) (hf : f.id = i ∧ (fi = true ∨ f.ty = 6)) : fieldG fi l i = some f := by
  rw [← hgo, hd, fieldG, if_pos hf]
theorem fldG_go {l : List Fd} {k : Nat} {i : Int} {f : Fd} {fi : Bool} (hd : l.drop k = f :: l.drop (k + 1)) (hgo : fieldG fi (l.drop k) i = fieldG fi l i) (hf : ¬ (f.id = i ∧ (fi = true ∨ f.ty = 6))) : fieldG fi (l.drop (k + 1)) i = fieldG fi l i := by
  rw [← hgo, hd, fieldG, if_neg hf]
theorem fldG_end {l : List Fd} {k : Nat} {i : Int} {fi : Bool} (hk : l.length ≤ k) (hgo : fieldG fi (l.drop k) i = fieldG fi l i) : fieldG fi l i = none := by
  rw [← hgo, List.drop_of_length_le hk, fieldG]
/-- what holds at the head of the climb -/
structure Climb (w wr : World) (l : List Fd) (i : Int) (g : Nat) (v : Value) (id : Int) (acc : List Fd) : Prop where
  own : Own 41 4 wr w.heap.size v (acc.map Fd.cells)
  len : acc.length + g = 8
  bel : Below w.heap.size w wr
  sz : w.heap.size ≤ wr.heap.size
  eq : anc l 8 true i = (acc ++ (anc l g (acc.length == 0) id).1, (anc l g (acc.length == 0) id).2)
theorem climb_done {w wr : World} {l : List Fd} {i : Int} {g : Nat} {A : Option Addr} {n c : Nat} {id : Int} {acc : List Fd} {z : Bool} (h : Climb w wr l i g (.slice A n c) id acc) (he : anc l g (acc.length == 0) id = ([], id)) (hz : decide (id = 0) = z) :
    (∃ A' c', Ending.returned (.tuple #[.slice A n c, .bool z]) = .returned (.tuple #[.slice A' (anc l 8 true i).1.length c', .bool (decide ((anc l 8 true i).2 = 0))]) ∧ Own 41 4 wr w.heap.size (.slice A' (anc l 8 true i).1.length c') ((anc l 8 true i).1.map Fd.cells)) ∧ Below w.heap.size w wr := by
  have e := h.eq
  rw [he, List.append_nil] at e
  obtain ⟨h1, h2, h3, h4⟩ := h.own.row
  refine ⟨⟨A, c, ?_, ?_⟩, h.bel⟩
  · rw [e, ← hz, h1, List.length_map]
  · have ho := h.own
    rw [h1, List.length_map] at ho
    rw [e]
    exact ho
theorem climb_step {w wr w1 : World} {l : List Fd} {i : Int} {g : Nat} {v : Value} {id : Int} {acc : List Fd} {f : Fd} {A : Option Addr} {c : Nat} (h : Climb w wr l i (g + 1) v id acc) (hi : ¬ id = 0) (hf : fieldG (acc.length == 0) l id = some f)
    (ho : Own 41 4 w1 w.heap.size (.slice A (acc.length + 1) c) ((acc ++ [f]).map Fd.cells)) (hb : Below w.heap.size w w1) (hz : w.heap.size ≤ w1.heap.size) : Climb w w1 l i g (.slice A (acc.length + 1) c) f.pa (acc ++ [f]) := by
  refine ⟨ho, by have := h.len; simp; omega, hb, hz, ?_⟩
  rw [h.eq, anc_some hi hf, show ((acc ++ [f]).length == 0) = false by simp]
  simp

set_option maxHeartbeats 4000000 in
set_option maxRecDepth 20000 in
theorem ancestry_any (A : Option Addr) (n c : Nat) (l : List Fd) (i : Int) (w : World) (hn : n = l.length) (hs : Fds w w.heap.size A l) (hl : n ≤ 9223372036854775807) :
    Calls Try.prog 44 #[.slice A n c, .int .i64 i] w fun e w' => (∃ A' c', e = .returned (.tuple #[.slice A' (anc l 8 true i).1.length c', .bool (decide ((anc l 8 true i).2 = 0))]) ∧ Own 41 4 w' w.heap.size (.slice A' (anc l 8 true i).1.length c') ((anc l 8 true i).1.map Fd.cells)) ∧ Below w.heap.size w w' := by
  have HN := Lib.hid hn
  have HS := Lib.hid hs
  clear hn hs
  go_enter Try.func44, Try.ntmps44
  go_wp2
  go_step3
  go_wp2
  go_step3
  go_wp2
  go_loopg [1, 6] 8 (fun g s1 s6 wx => ∃ (id : Int) (acc : List Fd), s1 = .int .i64 id ∧ Hid (Climb w wx l i g s6 id acc))
  case atStart => exact ⟨i, [], rfl, ⟨Own.nil _ _ _ _, rfl, Below.refl _ _, Nat.le_refl _, by simp⟩⟩
  case round =>
    obtain ⟨id, acc, rfl, HI⟩ := hrel
    obtain ⟨A6, c6, hv6, hlc, hc6⟩ := HI.out.own.slice
    subst hv6
    rw [List.length_map] at hlc HI ⊢
    have hlen := HI.out.len
    by_cases h0 : id = 0
    · subst h0
      go_wp2
      try rw [Exit.noGoto_ret]
      go_ret2
      exact climb_done HI.out (anc_zero _ _ _) rfl
    · have e0 : (id == 0) = false := by simpa using h0
      have H0 := Lib.hid h0
      clear h0
      cases gk with
      | zero =>
        have e1 : ¬ ((acc.length : Int) < 8) := by omega
        go_wp2
        try rw [Exit.noGoto_ret]
        go_ret2
        exact climb_done HI.out rfl (by simpa using H0.out)
      | succ g =>
        have e1 : ((acc.length : Int) < 8) := by omega
        have hsz0 := HI.out.sz
        go_wp2
        go_loopg [1, 6, 18] n (fun g2 s1 s6 s18 wy => ∃ j : Nat, j + g2 = n ∧ s1 = .int .i64 id ∧ s6 = .slice A6 acc.length c6 ∧ s18 = .int .i64 j ∧ Hid (Climb w wy l i (g + 1) (.slice A6 acc.length c6) id acc) ∧ Hid (fieldG (acc.length == 0) (l.drop j) id = fieldG (acc.length == 0) l id))
        case atStart => exact ⟨0, by omega, rfl, rfl, rfl, HI.out, rfl⟩
        case round =>
          obtain ⟨j, hjg, rfl, rfl, rfl, HJ, HG⟩ := hrel
          cases gk with
          | zero =>
            have hjz : ¬ ((j : Int) < (n : Int)) := by omega
            go_wp2
            try rw [Exit.noGoto_ret]
            go_ret2
            exact climb_done HJ.out (anc_none (fldG_end (by rw [← HN.out]; omega) HG.out)) (by simpa using H0.out)
          | succ g2 =>
            have hjz : ((j : Int) < (n : Int)) := by omega
            obtain ⟨f, hf⟩ := getD_of (l := l) (k := j) (by rw [← HN.out]; omega)
            obtain ⟨b, off, rfl, hb, c0, c1, c2, c3⟩ := (HS.out.below HJ.out.bel).one hf
            have HD := Lib.hid (drop_cons hf)
            have hsz := HJ.out.sz
            by_cases he : f.id = id
            · have e2 : (f.id == id) = true := by simpa using he
              by_cases h1 : acc.length = 0
              · have e3 : ((acc.length : Int) == 0) = true := by simp [h1]
                have HE : Hid (f.id = id ∧ ((acc.length == 0) = true ∨ f.ty = 6)) := ⟨he, .inl (by simpa using h1)⟩
                clear he h1 hf
                go_wp2_with (at_builtin; refine push_fd (wr := wr.alloc (.cells #[.int .i64 f.id, .string f.nm, .int .i64 f.ty, .int .i64 f.pa] 41)) rfl (.tmp 36) (.tmp 38) rfl w.heap.size (.slice A6 acc.length c6) acc f (wr.heap.size + 1) rfl rfl (asz _ _).symm rfl (HJ.out.own.alloc _) (by omega) (by rw [asz]; omega) ?_; intro A7 c7 w7 ho7 hg7 hb7; have HO7 := Lib.hid ho7; have HB7 := Lib.hid hb7; have HZ7 := Lib.hid hg7.size; have hp7 := ((CB.new wr 41 f.cells).grown hg7 HJ.out.own.new_ne).cell 3 rfl; clear ho7 hb7 hg7)
                go_roundg g
                case measure => omega
                case rel => exact ⟨f.pa, acc ++ [f], rfl, climb_step HJ.out H0.out (fldG_yes HD.out HG.out HE.out) HO7.out ((HJ.out.bel.alloc HJ.out.sz _).trans HB7.out) (by have := HZ7.out; rw [asz] at this; omega)⟩
              · have e3 : ((acc.length : Int) == 0) = false := by simpa using h1
                by_cases ht : f.ty = 6
                · have e4 : (f.ty == 6) = true := by simpa using ht
                  have HE : Hid (f.id = id ∧ ((acc.length == 0) = true ∨ f.ty = 6)) := ⟨he, .inr ht⟩
                  clear he h1 ht hf
                  go_wp2_with (at_builtin; refine push_fd (wr := wr.alloc (.cells #[.int .i64 f.id, .string f.nm, .int .i64 f.ty, .int .i64 f.pa] 41)) rfl (.tmp 36) (.tmp 38) rfl w.heap.size (.slice A6 acc.length c6) acc f (wr.heap.size + 1) rfl rfl (asz _ _).symm rfl (HJ.out.own.alloc _) (by omega) (by rw [asz]; omega) ?_; intro A7 c7 w7 ho7 hg7 hb7; have HO7 := Lib.hid ho7; have HB7 := Lib.hid hb7; have HZ7 := Lib.hid hg7.size; have hp7 := ((CB.new wr 41 f.cells).grown hg7 HJ.out.own.new_ne).cell 3 rfl; clear ho7 hb7 hg7)
                  go_roundg g
                  case measure => omega
                  case rel => exact ⟨f.pa, acc ++ [f], rfl, climb_step HJ.out H0.out (fldG_yes HD.out HG.out HE.out) HO7.out ((HJ.out.bel.alloc HJ.out.sz _).trans HB7.out) (by have := HZ7.out; rw [asz] at this; omega)⟩
                · have e4 : (f.ty == 6) = false := by simpa using ht
                  have HE : Hid (¬ (f.id = id ∧ ((acc.length == 0) = true ∨ f.ty = 6))) := fun h => by rcases h.2 with h | h; exact h1 (by simpa using h); exact ht h
                  clear he h1 ht hf
                  go_wp2
                  go_roundg g2
                  case measure => omega
                  case rel => exact ⟨j + 1, by omega, rfl, rfl, by go_num, ⟨HJ.out.own.alloc _, HJ.out.len, HJ.out.bel.alloc HJ.out.sz _, by simp; omega, HJ.out.eq⟩, fldG_go HD.out HG.out HE.out⟩
            · have e2 : (f.id == id) = false := by simpa using he
              have HE : Hid (¬ (f.id = id ∧ ((acc.length == 0) = true ∨ f.ty = 6))) := fun h => he h.1
              clear he hf
              go_wp2
              go_roundg g2
              case measure => omega
              case rel => exact ⟨j + 1, by omega, rfl, rfl, by go_num, ⟨HJ.out.own.alloc _, HJ.out.len, HJ.out.bel.alloc HJ.out.sz _, by simp; omega, HJ.out.eq⟩, fldG_go HD.out HG.out HE.out⟩
end Go.Proofs.Ytpgbpfdedpppeaa
