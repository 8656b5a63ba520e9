/-
  The reference's Sorted, by a contract.
-/
import Derived.Test.YteaaadccjnmacaaChoose
import Derived.Test.YteaaadccjnmacaaWelR
namespace Go.Proofs.Yteaaadccjnmacaa
open Go.RowKit

def inb (P : List Nat) : List Value := P.map fun n : Nat => Value.int .i64 (n : Int)
theorem inb_set (P : List Nat) (i n : Nat) : inb (P.set i n) = (inb P).set i (.int .i64 (n : Int)) := by simp [inb, List.map_set]
theorem inb_get (P : List Nat) (i n : Nat) (h : P[i]? = some n) : (inb P)[i]? = some (.int .i64 (n : Int)) := by simp [inb, h]
theorem infoI : (Try.prog.info? 3).map (fun i => (i.zero, i.size, i.bytes)) = some (some (.int .i64 0), 1, 8) := by kernel_rfl
theorem cb_ints (w : World) (N U : Nat) (hU : U = w.heap.size) : CB (w.alloc (.cells (madeCells #[.int .i64 0] N) 3)) U 3 (inb (List.replicate N 0)) := by
  subst hU
  have h := heap_alloc_new w (.cells (madeCells #[.int .i64 0] N) 3)
  unfold CB
  rw [h]
  congr 2
  apply Array.ext'
  rw [toList_madeCells_one]
  simp [inb]
/-- where each point stands among the first k shares -/
structure PlI (l : List Sh) (k : Nat) (P : List Nat) : Prop where
  ln : P.length = 256
  to_ : ∀ i s, i < k → l[i]? = some s → P[s.1.toNat]? = some (i + 1)
  from_ : ∀ x v, P[x]? = some (v + 1) → ∃ s, l[v]? = some s ∧ s.1.toNat = x
theorem PlI.zero (l : List Sh) : PlI l 0 (List.replicate 256 0) :=
  ⟨List.length_replicate, fun i s h => absurd h (by omega), fun x v h => by
    rw [List.getElem?_replicate] at h
    split at h
    · cases h
    · cases h⟩
theorem PlI.add {l : List Sh} {k : Nat} {P : List Nat} {s : Sh} (h : PlI l k P) (hd : (l.map (·.1)).Nodup) (hs : l[k]? = some s) : PlI l (k + 1) (P.set s.1.toNat (k + 1)) := by
  have hx := s.1.toNat_lt
  have hl := h.ln
  refine ⟨by rw [List.length_set, h.ln], fun i t hi ht => ?_, fun x v hv => ?_⟩
  · by_cases hik : i = k
    · subst hik
      obtain rfl : t = s := Option.some.inj (ht.symm.trans hs)
      rw [List.getElem?_set_self (by omega)]
    · have hne : s.1.toNat ≠ t.1.toNat := fun e => hik (nodup_at hd ht hs (UInt8.toNat_inj.1 e.symm))
      rw [List.getElem?_set_ne hne]
      exact h.to_ i t (by omega) ht
  · by_cases hxs : s.1.toNat = x
    · subst hxs
      rw [List.getElem?_set_self (by omega)] at hv
      have : v = k := by have := Option.some.inj hv; omega
      subst this
      exact ⟨s, hs, rfl⟩
    · rw [List.getElem?_set_ne hxs] at hv
      exact h.from_ x v hv
structure SrI (l : List Sh) (x : Nat) (L : List Sh) : Prop where
  sub : ∀ s ∈ L, s ∈ l ∧ s.1.toNat < x
  nd : (L.map (·.1)).Nodup
  all : ∀ s ∈ l, s.1.toNat < x → s ∈ L
  le : L.length < x
theorem SrI.one {l : List Sh} (hz : ∀ s ∈ l, s.1 ≠ 0) : SrI l 1 [] :=
  ⟨fun s h => absurd h (by simp), by simp, fun s h hx => absurd (UInt8.toNat_inj.1 (show s.1.toNat = (0 : UInt8).toNat by show _ = 0; omega)) (hz s h), by simp⟩
theorem SrI.skip {l : List Sh} {x : Nat} {L : List Sh} {P : List Nat} (h : SrI l x L) (hp : PlI l l.length P) (h0 : P[x]? = some 0) : SrI l (x + 1) L := by
  refine ⟨fun s hs => ⟨(h.sub s hs).1, by have := (h.sub s hs).2; omega⟩, h.nd, fun s hs hx => ?_, by have := h.le; omega⟩
  by_cases hxs : s.1.toNat = x
  · obtain ⟨i, hi⟩ := List.mem_iff_getElem?.1 hs
    have := hp.to_ i s (List.getElem?_eq_some_iff.1 hi).1 hi
    rw [hxs, h0] at this
    cases this
  · exact h.all s hs (by omega)
theorem SrI.add {l : List Sh} {x : Nat} {L : List Sh} {s : Sh} (h : SrI l x L) (hd : (l.map (·.1)).Nodup) (hs : s ∈ l) (hx : s.1.toNat = x) : SrI l (x + 1) (L ++ [s]) := by
  refine ⟨fun t ht => ?_, ?_, fun t ht htx => ?_, by simpa using h.le⟩
  · rcases List.mem_append.1 ht with h1 | h1
    · exact ⟨(h.sub t h1).1, by have := (h.sub t h1).2; omega⟩
    · have : t = s := by simpa using h1
      subst this
      exact ⟨hs, by omega⟩
  · rw [List.map_append, List.nodup_append]
    refine ⟨h.nd, by simp, ?_⟩
    intro a ha b hb e
    obtain ⟨t, ht, rfl⟩ := List.mem_map.1 ha
    have hb' : b = s.1 := by simpa using hb
    have := (h.sub t ht).2
    rw [e, hb'] at this
    omega
  · by_cases hxt : t.1.toNat = x
    · have : t = s := by
        obtain ⟨i, hi⟩ := List.mem_iff_getElem?.1 ht
        obtain ⟨j, hj⟩ := List.mem_iff_getElem?.1 hs
        have hij := nodup_at hd hi hj (UInt8.toNat_inj.1 (hxt.trans hx.symm))
        subst hij
        exact Option.some.inj (hi.symm.trans hj)
      subst this
      simp
    · exact List.mem_append_left _ (h.all t ht (by omega))

set_option maxHeartbeats 4000000 in
set_option maxRecDepth 20000 in
theorem SrtR_any (A : Option Addr) (N cap : Nat) (l : List Sh) (w : World) (hN : N = l.length) (hs : ShL w w.heap.size A l) (hl : N ≤ 1000) (hz : ∀ s ∈ l, s.1 ≠ 0) (hd : (l.map (·.1)).Nodup) :
    Calls Try.prog 30 #[.slice A N cap] w fun e w' => ∃ A' c' L, e = .returned (.slice A' L.length c') ∧ OwnSh w' w.heap.size w.heap.size (.slice A' L.length c') L ∧ (∀ s ∈ L, s ∈ l) ∧ (L.map (·.1)).Nodup ∧ (∀ s ∈ l, s ∈ L) ∧ Below w.heap.size w w' := by
  have HS := Lib.hid hs
  have HN := Lib.hid hN
  have HZ := Lib.hid hz
  have HDD := Lib.hid hd
  clear hs hN hz hd
  have hmk : (Instr.makeSlice 65 (.int .i64 256) (.int .i64 256)).run Try.prog w = .ok (.slice (some ⟨w.heap.size, 0, none⟩) 256 256) (w.alloc (.cells (madeCells #[.int .i64 0] 256) 3)) := by
    obtain ⟨i, hi, hz0, hsz, hb⟩ := info_parts infoI
    have hr := run_make (P := Try.prog) w 65 3 i _ Try.underlying65 hi hz0 .i64 .i64 256 256 (by omega) (by omega) (by rw [hb]; omega) (by omega)
    rw [hsz] at hr
    exact hr
  go_enter Try.func30, Try.ntmps30
  go_wp2
  have h0 : Hid (CB (w.alloc (.cells (madeCells #[.int .i64 0] 256) 3)) w.heap.size 3 (inb (List.replicate 256 0)) ∧ Below w.heap.size w (w.alloc (.cells (madeCells #[.int .i64 0] 256) 3))) := ⟨cb_ints w 256 _ rfl, ba1 _ _⟩
  generalize w.alloc (.cells (madeCells #[.int .i64 0] 256) 3) = w1 at *
  clear hmk
  go_loopw [4] (fun i wr => ∃ (k : Nat) (P : List Nat), k ≤ N ∧ i = .int .i64 k ∧ Hid (CB wr w.heap.size 3 (inb P) ∧ Below w.heap.size w wr) ∧ Hid (PlI l k P)) (fun i _ => N - (intOf i).toNat)
  case atStart => exact ⟨0, _, Nat.zero_le _, rfl, h0, PlI.zero l⟩
  case round =>
    clear h0
    obtain ⟨k, P, hk, rfl, hw, hp⟩ := hrel
    obtain ⟨wo, hwo⟩ : ∃ wo : World, wo = wr := ⟨_, rfl⟩
    subst hwo
    by_cases hlt : k < N
    · have j1 : (k : Int) < (N : Int) := by omega
      obtain ⟨s, hsk⟩ : ∃ s, l[k]? = some s := ⟨l[k]'(by rw [← HN.out]; exact hlt), by simp⟩
      obtain ⟨b, off, rfl, hbB, c1, _⟩ := (HS.out.below hw.out.2).one hsk
      have HP2 : Hid (PlI l (k + 1) (P.set s.1.toNat (k + 1))) := hp.out.add HDD.out hsk
      have hx := s.1.toNat_lt
      obtain ⟨v0, hv0⟩ : ∃ v, (inb P)[s.1.toNat]? = some v := ⟨(inb P)[s.1.toNat]'(by simp [inb, hp.out.ln]; omega), by simp⟩
      have d1 := hw.out.1.cell s.1.toNat hv0
      have f1 := hw.out.1.frozen s.1.toNat
      have hlt2 := hw.out.1.lt
      have HW2 : Hid (CB (wo.setCell ⟨w.heap.size, s.1.toNat, none⟩ (.int .i64 ((k : Int) + 1))) w.heap.size 3 (inb (P.set s.1.toNat (k + 1))) ∧ Below w.heap.size w (wo.setCell ⟨w.heap.size, s.1.toNat, none⟩ (.int .i64 ((k : Int) + 1)))) := by
        refine ⟨?_, hw.out.2.setCell (p := ⟨w.heap.size, s.1.toNat, none⟩) (Nat.le_refl _) _⟩
        rw [inb_set]
        exact hw.out.1.set_ _ _
      clear hsk
      go_wp2
      go_roundw
      case rel => exact ⟨k + 1, P.set s.1.toNat (k + 1), by omega, by go_num, HW2, HP2⟩
      case measure => simp [intOf]; omega
    · have hkN : k = N := by omega
      have j1 : ¬ (k : Int) < (N : Int) := by omega
      rw [hkN, HN.out] at hp
      clear hkN
      have hn0 : Hid (OwnSh (wo.alloc (.cells #[] 29)) w.heap.size w.heap.size (.slice (some ⟨wo.heap.size, 0, none⟩) 0 0) [] ∧ CB (wo.alloc (.cells #[] 29)) w.heap.size 3 (inb P) ∧ Below w.heap.size w (wo.alloc (.cells #[] 29))) := by
        have hle := hw.out.2.size
        exact ⟨⟨[], ⟨rfl, .inr ⟨wo.heap.size, 0, #[], rfl, hle, heap_alloc_new wo _, Nat.le_refl _, by simp [maxLen], rfl, rfl⟩⟩, CellsOf.nil _ _⟩, hw.out.1.alloc _, step_al hw.out.2 (ba1 wo _)⟩
      go_wp2
      generalize wo.alloc (.cells #[] 29) = w2 at *
      go_loopw [5, 6] (fun u i wr => ∃ (x : Nat) (L : List Sh) (A' : Option Addr) (c' : Nat), 1 ≤ x ∧ x ≤ 256 ∧ i = .int .i64 x ∧ u = .slice A' L.length c' ∧ Hid (OwnSh wr w.heap.size w.heap.size (.slice A' L.length c') L ∧ CB wr w.heap.size 3 (inb P) ∧ Below w.heap.size w wr) ∧ Hid (SrI l x L)) (fun _ i _ => 256 - (intOf i).toNat)
      case atStart => exact ⟨1, [], _, _, Nat.le_refl _, by omega, rfl, rfl, hn0, SrI.one HZ.out⟩
      case round =>
        clear hn0 hw
        obtain ⟨x, L, A', c', h1x, hx, rfl, rfl, hw, hsr⟩ := hrel
        obtain ⟨wi, hwi⟩ : ∃ wi : World, wi = wr := ⟨_, rfl⟩
        subst hwi
        by_cases hlx : x < 256
        · have j2 : (x : Int) < 256 := by omega
          obtain ⟨v, hv⟩ : ∃ v, P[x]? = some v := ⟨P[x]'(by rw [hp.out.ln]; exact hlx), by simp⟩
          have d1 := hw.out.2.1.cell x (inb_get P x v hv)
          have hlt2 := hw.out.2.1.lt
          cases v with
          | zero =>
            have HS2 : Hid (SrI l (x + 1) L) := hsr.out.skip hp.out hv
            rw [show ((0 : Nat) : Int) = 0 from rfl] at d1
            clear hv
            go_wp2
            go_roundw
            case rel => exact ⟨x + 1, L, A', c', by omega, by omega, by go_num, rfl, hw, HS2⟩
            case measure => simp [intOf]; omega
          | succ j =>
            obtain ⟨s, hsj, hsx⟩ := hp.out.from_ x j hv
            have hjN : j < N := by rw [HN.out]; exact (List.getElem?_eq_some_iff.1 hsj).1
            have HS2 : Hid (SrI l (x + 1) (L ++ [s])) := hsr.out.add HDD.out (List.mem_of_getElem? hsj) hsx
            obtain ⟨V, hV⟩ : ∃ V, V = j + 1 := ⟨_, rfl⟩
            rw [← hV] at d1
            have j3 : (0 : Int) < (V : Int) := by omega
            have j4 : (V : Int) - 1 = (j : Int) := by omega
            have j5 : (j : Int) < (N : Int) := by omega
            have j6 : 0 < V := by omega
            have j7 : V ≤ 1001 := by omega
            obtain ⟨b1, off1, rfl, hbB, e1, A1, n1, e2, hsh1, hle1, hmx1⟩ := (HS.out.below hw.out.2.2).one hsj
            have HS1 := Lib.hid hsh1
            have hLx := hsr.out.le
            clear hv hsj hV hsh1 hsx
            go_wp2_with (at_builtin; refine wpList_grow_sh (wr := wi) rfl (.tmp 33) (.tmp 42) rfl w.heap.size w.heap.size _ L s A1 n1 rfl rfl rfl hw.out.1 HS1.out hle1 hmx1 (by omega) hw.out.2.2.size (Nat.le_refl _) ?_; intro A3 c3 w3 ho3 hg3 hb3; have HO3 := Lib.hid ho3; have HG3 := Lib.hid hg3; have HB3 := Lib.hid hb3; clear ho3 hg3 hb3)
            go_roundw
            case rel => exact ⟨x + 1, L ++ [s], A3, c3, by omega, by omega, by go_num, (by simp), ⟨HO3.out, hw.out.2.1.grown HG3.out (own_ne hw.out.1 hw.out.2.1 (by decide)), hw.out.2.2.trans HB3.out⟩, HS2⟩
            case measure => simp [intOf]; omega
        · have hx6 : x = 256 := by omega
          subst hx6
          have j2 : ¬ ((256 : Nat) : Int) < 256 := by omega
          have HAL : Hid (∀ s ∈ l, s ∈ L) := fun s hs => hsr.out.all s hs (s.1.toNat_lt)
          go_wp2
          go_ret
          exact ⟨A', c', L, rfl, hw.out.1, fun a1 a2 hs => (hsr.out.sub (a1, a2) hs).1, hsr.out.nd, fun a1 a2 hs => HAL.out (a1, a2) hs, hw.out.2.2⟩
end Go.Proofs.Yteaaadccjnmacaa
