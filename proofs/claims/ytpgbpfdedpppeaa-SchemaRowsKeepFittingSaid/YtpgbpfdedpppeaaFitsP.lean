/-
  The program's Fits, by a contract.
-/
import Derived.Test.YtpgbpfdedpppeaaChkP
import Derived.Test.YtpgbpfdedpppeaaValP
namespace Go.Proofs.Ytpgbpfdedpppeaa
open Go.RowKit

/-- a cell of a row: number, value -/
structure Ce where
  id : Int
  v : Va
def Ce.cells (c : Ce) : List Value := [.int .i64 c.id, .bool c.v.b, .int .i64 c.v.n, .string c.v.s]
def Ces (w : World) (B : Nat) (A : Option Addr) (l : List Ce) : Prop := RowAt 4 w B A (l.map Ce.cells)
section
variable {w w' : World} {B B' : Nat} {A : Option Addr} {l : List Ce} {f : Ce}
theorem Ces.nil : Ces w B A [] := RowAt.nil
theorem Ces.below (h : Ces w B A l) (hb : Below B w w') : Ces w' B A l := RowAt.below h hb
theorem Ces.more (h : Ces w B A l) (hB : B ≤ B') : Ces w B' A l := RowAt.more h hB
theorem Ces.up (h : Ces w w.heap.size A l) (hb : Below w.heap.size w w') : Ces w' w'.heap.size A l := RowAt.up h hb
theorem Ces.one (h : Ces w B A l) {i : Nat} (hi : l[i]? = some f) : ∃ b off, A = some ⟨b, off, none⟩ ∧ b < B ∧ w.cell? ⟨b, off + i * 4, none⟩ = some (.int .i64 f.id) ∧ w.cell? ⟨b, off + i * 4 + 1, none⟩ = some (.bool f.v.b) ∧
    w.cell? ⟨b, off + i * 4 + 2, none⟩ = some (.int .i64 f.v.n) ∧ w.cell? ⟨b, off + i * 4 + 3, none⟩ = some (.string f.v.s) := by
  obtain ⟨b, off, e, hlt, hc⟩ := RowAt.one h (vs := f.cells) (i := i) (by rw [List.getElem?_map, hi]; rfl)
  exact ⟨b, off, e, hlt, hc 0 _ rfl, hc 1 _ rfl, hc 2 _ rfl, hc 3 _ rfl⟩
end
theorem getE_of {l : List Ce} {k : Nat} (h : k < l.length) : ∃ f, l[k]? = some f := ⟨l[k], List.getElem?_eq_getElem h⟩

/-- whether cells fit, their numbers above last -/
def fitGo (l : List Fd) : Int → List Ce → Bool
  | _, [] => true
  | last, c :: r => if hasF l c.id = true ∧ last < (fieldD l c.id).id ∧ c.v.b = false ∧ okV c.v (fieldD l c.id).ty = true then fitGo l (fieldD l c.id).id r else false
theorem fit_go {l : List Fd} {r : List Ce} {k : Nat} {c : Ce} {last : Int} {z : Bool} (hd : r.drop k = c :: r.drop (k + 1)) (h : fitGo l last (r.drop k) = z) (hc : hasF l c.id = true ∧ last < (fieldD l c.id).id ∧ c.v.b = false ∧ okV c.v (fieldD l c.id).ty = true) : fitGo l (fieldD l c.id).id (r.drop (k + 1)) = z := by
  rw [← h, hd, fitGo, if_pos hc]
theorem fit_no {l : List Fd} {r : List Ce} {k : Nat} {c : Ce} {last : Int} {z : Bool} (hd : r.drop k = c :: r.drop (k + 1)) (h : fitGo l last (r.drop k) = z) (hc : ¬ (hasF l c.id = true ∧ last < (fieldD l c.id).id ∧ c.v.b = false ∧ okV c.v (fieldD l c.id).ty = true)) : z = false := by
  rw [← h, hd, fitGo, if_neg hc]

set_option maxHeartbeats 4000000 in
set_option maxRecDepth 20000 in
theorem Fits_any (A : Option Addr) (n c : Nat) (x : Int) (l : List Fd) (C : Option Addr) (m d : Nat) (r : List Ce) (w : World) (hn : n = l.length) (hs : Fds w w.heap.size A l) (hl : n ≤ 9223372036854775807) (hm : m = r.length) (hr : Ces w w.heap.size C r) (hml : m ≤ 9223372036854775807) (hsz : ∀ c ∈ r, c.v.s.size ≤ 9223372036854775807) :
    Calls Try.prog 27 #[.agg #[.slice A n c, .int .i64 x], .agg #[.slice C m d]] w fun e w' => e = .returned (.bool (fitGo l 0 r)) ∧ Below w.heap.size w w' := by
  have HN := Lib.hid hn
  have HS := Lib.hid hs
  have HM := Lib.hid hm
  have HR := Lib.hid hr
  have HZ := Lib.hid hsz
  clear hn hs hm hr hsz
  go_enter Try.func27, Try.ntmps27
  go_wp2
  go_loopw [5, 13] (fun la j wr => ∃ (k : Nat) (last : Int), k ≤ m ∧ la = .int .i64 last ∧ j = .int .i64 k ∧ Hid (CB wr w.heap.size 30 [.slice A n c, .int .i64 x]) ∧ Hid (Below w.heap.size w wr) ∧ Hid (fitGo l last (r.drop k) = fitGo l 0 r)) (fun _ j _ => m - (intOf j).toNat)
  case atStart => exact ⟨0, 0, by omega, rfl, rfl, (CB.new _ _ _).alloc _, al2 _ _ _, rfl⟩
  case round =>
    obtain ⟨k, last, hk, rfl, rfl, hcb, hbel, hgo⟩ := hrel
    have hz := hcb.out.lt
    have d0 := hcb.out.cell 0 rfl
    have d1 := hcb.out.cell 1 rfl
    by_cases hlt : k < m
    · have i1 : (k : Int) < (m : Int) := by omega
      obtain ⟨f, hf⟩ := getE_of (l := r) (k := k) (by rw [← HM.out]; exact hlt)
      obtain ⟨b, off, rfl, hb, c0, c1, c2, c3⟩ := (HR.out.below hbel.out).one hf
      have hd := Lib.hid (drop_cons hf)
      have hvs : f.v.s.size ≤ 9223372036854775807 := HZ.out f (List.mem_of_getElem? hf)
      have HS2 := Lib.hid ((HS.out.below (hbel.out.alloc (by omega) (.cells #[.int .i64 f.id, .bool f.v.b, .int .i64 f.v.n, .string f.v.s] 56))).more (show w.heap.size ≤ (wr.alloc (.cells #[.int .i64 f.id, .bool f.v.b, .int .i64 f.v.n, .string f.v.s] 56)).heap.size by rw [asz]; omega))
      clear hf
      obtain ⟨g, hg⟩ : ∃ g, fieldD l f.id = g := ⟨_, rfl⟩
      obtain ⟨ok, hok⟩ : ∃ ok, hasF l f.id = ok := ⟨_, rfl⟩
      obtain ⟨vv, hvv⟩ : ∃ vv, okV f.v g.ty = vv := ⟨_, rfl⟩
      obtain ⟨bb, hbb⟩ : ∃ bb, f.v.b = bb := ⟨_, rfl⟩
      obtain ⟨id, v⟩ := f
      obtain ⟨vb, vn, vs⟩ := v
      simp only at c0 c1 c2 c3 hbb hok hg hvs HS2
      subst hbb
      have HG := Lib.hid hg
      have HO := Lib.hid hok
      have HV := Lib.hid hvv
      clear hg hok hvv
      have hcase : Hid (∀ z, fitGo l last (r.drop k) = z → if ok = true ∧ last < g.id ∧ vb = false ∧ vv = true then fitGo l g.id (r.drop (k + 1)) = z else z = false) := fun z hz => by
        have e1 := HG.out
        have e2 := HO.out
        have e3 := HV.out
        subst e1 e2 e3
        split
        · next h => exact fit_go hd.out hz h
        · next h => exact fit_no hd.out hz h
      have hfin := Lib.hid (hcase.out _ hgo.out)
      clear hcase
      have farm : True := trivial
      cases ok with
      | false =>
        go_wp2_with (go_at_call 19; refine (Field_any _ n c x l id _ HN.out HS2.out hl).mono ?_; rintro e w5 ⟨rfl, hb5⟩; rw [HG.out, HO.out]; have HB5 := Lib.hid (below_step (hbel.out.alloc (by omega) _) (by rw [asz]; omega) hb5); have HZ5 := Lib.hid hb5.size; clear hb5)
        go_ret
        have hE := hfin.out
        rw [if_neg (by simp)] at hE
        refine ⟨by rw [hE]; rfl, HB5.out.alloc (by have := HZ5.out; rw [asz] at this; omega) _⟩
      | true =>
        by_cases hla : last < g.id
        · have j1 : ¬ g.id ≤ last := by omega
          have j2 : decide (g.id ≤ last) = false := decide_eq_false j1
          cases vb with
          | true =>
            go_wp2_with (go_at_call 19; refine (Field_any _ n c x l id _ HN.out HS2.out hl).mono ?_; rintro e w5 ⟨rfl, hb5⟩; rw [HG.out, HO.out]; have HB5 := Lib.hid (below_step (hbel.out.alloc (by omega) _) (by rw [asz]; omega) hb5); have HZ5 := Lib.hid hb5.size; have q1 := ((CB.new wr 56 [.int .i64 id, .bool true, .int .i64 vn, .string vs]).up hb5).cell 1 rfl; have hzz := lt_al hb5; clear hb5)
            go_ret
            have hE := hfin.out
            rw [if_neg (by simp)] at hE
            refine ⟨by rw [hE]; rfl, HB5.out.alloc (by have := HZ5.out; rw [asz] at this; omega) _⟩
          | false =>
            cases vv with
            | false =>
              go_wp2_with (first | (go_at_call 19; refine (Field_any _ n c x l id _ HN.out HS2.out hl).mono ?_; rintro e w5 ⟨rfl, hb5⟩; rw [HG.out, HO.out]; have HB5 := Lib.hid (below_step (hbel.out.alloc (by omega) _) (by rw [asz]; omega) hb5); have HZ5 := Lib.hid hb5.size; have q1 := ((CB.new wr 56 [.int .i64 id, .bool false, .int .i64 vn, .string vs]).up hb5).cell 1 rfl; have q2 := ((CB.new wr 56 [.int .i64 id, .bool false, .int .i64 vn, .string vs]).up hb5).cell 2 rfl; have q3 := ((CB.new wr 56 [.int .i64 id, .bool false, .int .i64 vn, .string vs]).up hb5).cell 3 rfl; have hzz := lt_al hb5; have HC5 := Lib.hid ((hcb.out.alloc (.cells #[.int .i64 id, .bool false, .int .i64 vn, .string vs] 56)).up hb5); clear hb5) | (go_at_call 50; refine (Valid_any ⟨false, vn, vs⟩ g.ty false _ HV.out hvs).mono ?_; rintro e w6 ⟨rfl, hb6⟩; have HB6 := Lib.hid (below_step (HB5.out.alloc (by omega) _) (by rw [asz]; omega) hb6); have HC6 := Lib.hid ((HC5.out.alloc (.cells #[.int .i64 g.id, .string g.nm, .int .i64 g.ty, .int .i64 g.pa] 41)).up hb6); have p0 := ((CB.new w5 41 g.cells).up hb6).cell 0 rfl; clear hb6))
              go_ret
              have hE := hfin.out
              rw [if_neg (by simp)] at hE
              exact ⟨by rw [hE]; rfl, HB6.out⟩
            | true =>
              go_wp2_with (first | (go_at_call 19; refine (Field_any _ n c x l id _ HN.out HS2.out hl).mono ?_; rintro e w5 ⟨rfl, hb5⟩; rw [HG.out, HO.out]; have HB5 := Lib.hid (below_step (hbel.out.alloc (by omega) _) (by rw [asz]; omega) hb5); have HZ5 := Lib.hid hb5.size; have q1 := ((CB.new wr 56 [.int .i64 id, .bool false, .int .i64 vn, .string vs]).up hb5).cell 1 rfl; have q2 := ((CB.new wr 56 [.int .i64 id, .bool false, .int .i64 vn, .string vs]).up hb5).cell 2 rfl; have q3 := ((CB.new wr 56 [.int .i64 id, .bool false, .int .i64 vn, .string vs]).up hb5).cell 3 rfl; have hzz := lt_al hb5; have HC5 := Lib.hid ((hcb.out.alloc (.cells #[.int .i64 id, .bool false, .int .i64 vn, .string vs] 56)).up hb5); clear hb5) | (go_at_call 50; refine (Valid_any ⟨false, vn, vs⟩ g.ty true _ HV.out hvs).mono ?_; rintro e w6 ⟨rfl, hb6⟩; have HB6 := Lib.hid (below_step (HB5.out.alloc (by omega) _) (by rw [asz]; omega) hb6); have HC6 := Lib.hid ((HC5.out.alloc (.cells #[.int .i64 g.id, .string g.nm, .int .i64 g.ty, .int .i64 g.pa] 41)).up hb6); have p0 := ((CB.new w5 41 g.cells).up hb6).cell 0 rfl; clear hb6))
              go_roundw
              case rel =>
                have hE := hfin.out
                rw [if_pos (by simp; exact hla)] at hE
                exact ⟨k + 1, g.id, by omega, rfl, by go_num, HC6.out, HB6.out, hE⟩
              case measure => simp [intOf]; omega
        · have j1 : g.id ≤ last := by omega
          go_wp2_with (go_at_call 19; refine (Field_any _ n c x l id _ HN.out HS2.out hl).mono ?_; rintro e w5 ⟨rfl, hb5⟩; rw [HG.out, HO.out]; have HB5 := Lib.hid (below_step (hbel.out.alloc (by omega) _) (by rw [asz]; omega) hb5); have HZ5 := Lib.hid hb5.size; have hzz := lt_al hb5; clear hb5)
          go_ret
          have hE := hfin.out
          rw [if_neg (fun h => by have := h.2.1; omega)] at hE
          refine ⟨by rw [hE]; rfl, HB5.out.alloc (by have := HZ5.out; rw [asz] at this; omega) _⟩
    · have i1 : ¬ (k : Int) < (m : Int) := by omega
      go_wp2
      go_ret
      refine ⟨?_, hbel.out⟩
      rw [← hgo.out, List.drop_of_length_le (by rw [← HM.out]; omega)]
      rfl
end Go.Proofs.Ytpgbpfdedpppeaa
