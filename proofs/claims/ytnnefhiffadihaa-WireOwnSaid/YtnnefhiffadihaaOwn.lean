/-
  P1.1: no function changes its arguments, and what is handed back lies in memory of its own. For every input that the row lets in; no further condition.
-/
import Derived.Test.YtnnefhiffadihaaOpen
import Derived.Test.YtnnefhiffadihaaMath2
import Derived.Laws.OwnMore
namespace Go.Proofs.Ytnnefhiffadihaa.wireOwn
open Go.RowKit Go.ChangeShapes Go.WideShapes Go.ChangeAt
open Go.Lib (uvarint zigzag)

section
variable {w w' : World} {B g : Nat} {l : List UInt8}
theorem blk_shows {r : List UInt8} (h : Blk w g (l ++ r)) : Shows w w.heap.size (some ⟨g, 0, none⟩) l := fun _ => ⟨g, 0, rfl, h.lt, fun i c hi => by
  have hc := cell_of_row w g (0 + i) _ _ (0, 0) h
  rw [hc]
  have h1 := (List.getElem?_eq_some_iff.1 hi).1
  have h2 : (l ++ r)[i]? = some c := by rw [List.getElem?_append_left h1, hi]
  simp only [cb, List.getElem?_toArray, List.getElem?_map, Nat.zero_add, h2]
  rfl⟩
theorem blk_cell {i : Nat} {c : UInt8} (h : Blk w g l) (hi : l[i]? = some c) : w.cell? ⟨g, i, none⟩ = some (.int .u8 (c.toNat : Int)) := by
  rw [cell_of_row w g i _ _ (0, 0) h]
  simp [cb, hi]
theorem owns_but {v : Value} (h : Owns w B v l) (hg : w.grownBy w' (some g)) (hB : g < B) : Owns w' B v l :=
  World.ownsRow.kept h hg (by
    rcases h.shape with ⟨rfl, _⟩ | ⟨k, c, rfl, hk, _⟩
    · exact .inl rfl
    · refine .inr ?_
      simp only [Value.ownBlock]
      intro e
      injection e with e
      omega)
/-- n bytes of the call's own in block g. -/
def Holds (w : World) (base g n cap : Nat) : Prop := ∃ xs : List Value, w.ownsRow base 5 1 (.slice (some ⟨g, 0, none⟩) n cap) n xs ∧ ∀ v ∈ xs, ∃ z : Int, v = .int .u8 z
theorem Holds.of {base cap n : Nat} (h : Row w base g cap l) (hn : n = l.length) : Holds w base g n cap := by
  subst hn
  refine ⟨cb l, h, fun v hv => ?_⟩
  obtain ⟨c, _, rfl⟩ := List.mem_map.1 hv
  exact ⟨_, rfl⟩
theorem Holds.cell {base cap n i : Nat} (h : Holds w base g n cap) (hi : i < n) : (∃ z, w.cell? ⟨g, i, none⟩ = some (.int .u8 z)) ∧ w.frozen? ⟨g, i, none⟩ = false ∧
    ∀ z, Holds (w.setCell ⟨g, i, none⟩ (.int .u8 z)) base g n cap ∧ w.grownBy (w.setCell ⟨g, i, none⟩ (.int .u8 z)) (some g) := by
  obtain ⟨xs, h, hx⟩ := h
  have hl : xs.length = n := by simpa using h.1
  refine ⟨?_, World.ownsRow.frozenAt h i, fun z => ?_⟩
  · have hc := World.ownsRow.cellAt h i (by omega)
    rw [List.getElem?_eq_getElem (by omega)] at hc
    obtain ⟨z, hz⟩ := hx _ (List.getElem_mem (l := xs) (n := i) (by omega))
    exact ⟨z, by rw [hc, hz]⟩
  · have hs := World.ownsRow.stored h i (.int .u8 z)
    refine ⟨⟨_, hs.1, fun v hv => ?_⟩, hs.2⟩
    rcases List.mem_or_eq_of_mem_set hv with hv | rfl
    · exact hx v hv
    · exact ⟨_, rfl⟩
theorem Holds.but {base cap n k : Nat} (h : Holds w base g n cap) (hg : w.grownBy w' (some k)) (hk : g ≠ k) : Holds w' base g n cap := by
  obtain ⟨xs, h, hx⟩ := h
  exact ⟨xs, World.ownsRow.kept h hg (.inr (by simp only [Value.ownBlock]; intro e; injection e with e; exact hk e)), hx⟩
end

/-- append(row, p...), nothing before it in the row: there is room; what lies behind it stays. -/
theorem wpList_fill {P : Program} {w : World} {ops : Array Oper} {rest : List Oper} {o : Oper} {a : Act} {Q : Exit → Act → World → Prop} (hgd : o.guard = none) (d x : Operand) (t : TypeId)
    (ho : o.op = .call { callee := .builtin .append, args := #[d, x], argTypes := #[t, t] }) (ht : P.underlying t = some (.slice 5))
    (h2 : (P.info? 5).map (fun i => (i.zero, i.size, i.bytes)) = some (some (.int .u8 0), 1, 1)) (g : Nat) (cur : List UInt8) (A : Option Addr) (p : List UInt8) (m c B : Nat)
    (hs : a.eval d = .slice (some ⟨g, 0, none⟩) 0 m) (hx : a.eval x = .slice A p.length c) (hg : Blk w g cur) (hp : Shows w B A p) (hm : m = cur.length) (hroom : p.length ≤ cur.length)
    (hK : ∀ w', Hid (Blk w' g (p ++ cur.drop p.length)) → w.grownBy w' (some g) → w'.heap.size = w.heap.size → wpList P ops Q rest (a.put o.dst (.slice (some ⟨g, 0, none⟩) p.length m)) w') : wpList P ops Q (o :: rest) a w := by
  obtain ⟨i, hi, hz, hsz, hb⟩ := info_parts h2
  subst hm
  cases A with
  | none =>
    have h0 : p = [] := by
      rcases Nat.eq_zero_or_pos p.length with h0 | h0
      · exact List.eq_nil_of_length_eq_zero h0
      · obtain ⟨b, off, h, _⟩ := hp h0
        cases h
    subst h0
    have hrun := run_append_nothing (P := P) w t o.type i ht hi g 0 cur.length c (Nat.zero_le _)
    refine wpList_plain hgd fun K hK' => ?_
    unfold Oper.wp execOp
    simp only [ho, resolve, invoke, builtin, Sem.run_bind, Sem.run_pure, Result.andThen_ok, List.map_toArray, List.map_cons, List.map_nil, hs, hx, List.length_nil, hrun]
    exact hK' _ _ (hK w (show Blk _ _ _ by simpa using hg) (World.grownBy.refl _ _) rfl)
  | some ad =>
    have hnews : ∀ j u, (cb p)[j]? = some u → w.cell? (ad.add j) = some u := fun j u hj => by
      obtain ⟨v, hv, rfl⟩ := cb_get hj
      obtain ⟨b, off, h, _, hc⟩ := hp (by have := (List.getElem?_eq_some_iff.1 hv).1; omega)
      injection h with h
      subst h
      simpa [Addr.add_lit] using hc j v hv
    have hrun := run_append_room (P := P) w t o.type 5 i ht hi g 0 cur.length (cb cur).toArray hg ad p.length c (cb p) (by rw [cb_len, hsz, Nat.mul_one]) hnews (cb_one p) (by omega) (by simp [cb_len]; omega)
    refine wpList_plain hgd fun K hK' => ?_
    unfold Oper.wp execOp
    simp only [ho, resolve, invoke, builtin, Sem.run_bind, Sem.run_pure, Result.andThen_ok, List.map_toArray, List.map_cons, List.map_nil, hs, hx, hrun]
    rw [Nat.zero_add]
    refine hK' _ _ (hK _ ?_ ⟨rfl, rfl, rfl, by simp [World.setRow], fun k _ hk => setRow_other w g k _ (fun e => hk (by simp [e]))⟩ (by simp [World.setRow]))
    show Blk _ _ _
    unfold Blk
    rw [setRow_heap w g _ _ 5 _ hg]
    congr 2
    simp [cb, List.map_drop]

theorem U_row (A : Option Addr) (k cap : Nat) (l : List UInt8) (n : Int) (x : Nat) (r : List UInt8) (m : Nat) (w : World) (hk : k = l.length) (hs : Shows w w.heap.size A l) (hl : l.length ≤ 140737488355328) (hx : n = x) (hu : Num.U64 x) (hr : l ++ uvarint x = r) (hm : m = r.length) :
    Calls Try.prog 13 #[.slice A k cap, .int .u64 n] w fun e w' => ∃ g c, e = .returned (.slice (some ⟨g, 0, none⟩) m c) ∧ Row w' w.heap.size g c r ∧ Below w.heap.size w w' := by
  subst hk hr hm hx
  exact U_any A cap l x w hs hl hu
theorem S_row (A : Option Addr) (k cap : Nat) (l : List UInt8) (n : Int) (r : List UInt8) (m : Nat) (w : World) (hk : k = l.length) (hs : Shows w w.heap.size A l) (hl : l.length ≤ 140737488355328) (h0 : -9223372036854775808 ≤ n) (h1 : n ≤ 9223372036854775807) (hr : l ++ uvarint (zigzag n) = r) (hm : m = r.length) :
    Calls Try.prog 15 #[.slice A k cap, .int .i64 n] w fun e w' => ∃ g c, e = .returned (.slice (some ⟨g, 0, none⟩) m c) ∧ Row w' w.heap.size g c r ∧ Below w.heap.size w w' := by
  subst hk hr hm
  exact S_any A cap l n w hs hl h0 h1
theorem Bytes_row (A : Option Addr) (k cap : Nat) (l : List UInt8) (C : Option Addr) (j d : Nat) (p : List UInt8) (r : List UInt8) (m : Nat) (w : World) (hk : k = l.length) (hs : Shows w w.heap.size A l) (hj : j = p.length) (hp : Shows w w.heap.size C p) (hl : l.length + p.length ≤ 281474976710646) (hr : l ++ counted p = r) (hm : m = r.length) :
    Calls Try.prog 19 #[.slice A k cap, .slice C j d] w fun e w' => ∃ g c, e = .returned (.slice (some ⟨g, 0, none⟩) m c) ∧ Row w' w.heap.size g c r ∧ Below w.heap.size w w' := by
  subst hk hr hm hj
  exact Bytes_any A cap l C d p w hs hp hl

theorem row_cap {w : World} {base g cap : Nat} {l : List UInt8} (h : Row w base g cap l) : cap ≤ 9223372036854775807 := Owns.cap_le h

theorem row_first {w : World} {base g cap : Nat} {l r : List UInt8} (h : Row w base g cap (l ++ r)) : Shows w w.heap.size (some ⟨g, 0, none⟩) l := by
  have := h.shows.2.first (n := l.length)
  rwa [List.take_left] at this
theorem row_at {w : World} {base g cap : Nat} {l : List UInt8} (h : Row w base g cap l) (i : Nat) (c : UInt8) (hi : l[i]? = some c) : w.cell? ⟨g, i, none⟩ = some (.int .u8 (c.toNat : Int)) := by
  have hl := (List.getElem?_eq_some_iff.1 hi).1
  rw [World.ownsRow.cellAt h i (by omega)]
  simp [cb, hi]

theorem zigm1 : zigzag (-1) = 1 := by decide
theorem read_back (l p : List UInt8) (hp : p.length < 18446744073709551616) : ∃ (q : List UInt8) (y z : Int), Num.taken (l ++ counted p) (l.length : Nat) = q ∧ ((Num.span (l ++ counted p) (l.length : Nat)).2.1 : Int) = y ∧ ((Num.span (l ++ counted p) (l.length : Nat)).2.2 : Int) = z ∧
    ((p.length ≤ 1048576 ∧ q = p ∧ y = ((l ++ counted p).length : Nat) ∧ z = 0) ∨ (1048576 < p.length ∧ q = [] ∧ z = 2)) := by
  refine ⟨_, _, _, rfl, rfl, rfl, ?_⟩
  by_cases h : p.length ≤ 1048576
  · have hs := span_written l [] p h
    rw [List.append_nil] at hs
    exact .inl ⟨h, hs.2, by rw [hs.1], by rw [hs.1]; rfl⟩
  · have hr := read_written l p (n := p.length) (show p.length < 18446744073709551616 from hp)
    have e : l ++ uvarint p.length ++ p = l ++ counted p := by simp [counted, List.append_assoc]
    rw [e] at hr
    have hs := Num.span_big hr (by omega)
    exact .inr ⟨by omega, Num.taken_err hs, by rw [hs]; rfl⟩

set_option maxRecDepth 100000 in
set_option maxHeartbeats 4000000 in
theorem walk (A : Option Addr) (cap : Nat) (l : List UInt8) (C : Option Addr) (d : Nat) (p : List UInt8) (w : World) (hs : Shows w w.heap.size A l) (hlc : l.length ≤ cap) (hcap : cap ≤ 140737488351232) (hp : Shows w w.heap.size C p) (hpd : p.length ≤ d) (hd : d ≤ 140737488351232) :
    Calls Try.prog 10 #[.slice A l.length cap, .slice C p.length d] w fun e w' => e = .returned (.bool true) ∧ Below w.heap.size w w' := by
  have b0 : Below w.heap.size w w ∧ w.heap.size ≤ w.heap.size := ⟨Below.refl _ _, Nat.le_refl _⟩
  obtain ⟨q, y, z, hq, hy, hz, hD⟩ := read_back l p (by omega)
  have up : Num.U64 p.length := show p.length < 18446744073709551616 by omega
  have lc := Lib.uvarint_length64 up.lt
  have lp := Lib.uvarint_pos p.length
  obtain ⟨m, hm⟩ : ∃ m, m = (l ++ counted p).length := ⟨_, rfl⟩
  have hml : l.length < m := by rw [hm]; simp only [counted, List.length_append]; omega
  have hmh : m ≤ 281474976710656 := by rw [hm]; simp only [counted, List.length_append]; omega
  obtain ⟨n, hn⟩ : ∃ n, n = q.length := ⟨_, rfl⟩
  have HQ := Lib.hid hq
  have HY := Lib.hid hy
  have HZ := Lib.hid hz
  rw [← hm] at hD
  have HD := Lib.hid hD
  have HM := Lib.hid hm
  have HN := Lib.hid hn
  clear hq hy hz hD hm hn lc lp up
  go_enter Try.func10, Try.ntmps10
  go_wp2_with fail
  refine (sanity_any _).mono ?_
  rintro e w1 ⟨rfl, hb1⟩
  have b1 := Lib.hid (below_step0 b0 hb1)
  clear b0 hb1
  go_wp2_with (first
    | (at_make; refine wpList_make_bytes _ rfl _ (.tmp 22) _ rfl Try.underlying22 info5 .i64 .i64 _ _ 0 (l.length + 40) rfl rfl rfl (by omega) (by omega) (by omega) ?_; intro w2 hB2 hb2 hz2)
    | (at_builtin; refine wpList_fill rfl (.tmp 23) (.tmp 24) _ rfl Try.underlying22 info5 w1.heap.size (List.replicate (l.length + 40) 0) A l _ cap w.heap.size rfl rfl hB2.out ((hs.below b1.out.1).below (hb2.mono b1.out.2)) (by simp) (by simp) ?_; intro w3 hB3 hg3 hz3))
  have hB : Hid (Blk w3 w1.heap.size (l ++ List.replicate 40 0)) := by
    have h := hB3.out
    have e : List.drop l.length (List.replicate (l.length + 40) (0 : UInt8)) = List.replicate 40 0 := by
      rw [List.drop_replicate]
      congr 1
      omega
    rw [e] at h
    exact h
  have hb3 : Below w1.heap.size w1 w3 := below_grown hb2 hg3 (by omega) (Nat.le_refl _)
  have b3 := Lib.hid (below_step0 b1.out hb3)
  have z3 : w1.heap.size < w3.heap.size := by omega
  clear hB2 hB3 hg3 hb2 hz2 hz3 hb3
  refine (U_row (some ⟨w1.heap.size, 0, none⟩) l.length (l.length + 40) l 300 300 (l ++ [172, 2]) (l.length + 2) w3 rfl (blk_shows hB.out) (by omega) rfl (show (300 : Nat) < 18446744073709551616 by omega) (by rw [enc300]) (by simp)).mono ?_
  rintro e w4 ⟨g4, c4, rfl, hr4, hb4⟩
  have b4 := Lib.hid (below_step0 b3.out hb4)
  have z4 : w3.heap.size ≤ w4.heap.size := hb4.size
  have hB4 := Lib.hid (hB.out.below hb4 z3)
  have R4 := Lib.hid hr4
  clear hb4 hB b3 hr4
  go_wp2_with fail
  refine (Bytes_row (some ⟨w1.heap.size, 0, none⟩) l.length (l.length + 40) l C p.length d p (l ++ counted p) m w4 rfl (blk_shows hB4.out) rfl ((hp.below b4.out.1).more b4.out.2) (by omega) rfl HM.out).mono ?_
  rintro e w5 ⟨g5, c5, rfl, hr5, hb5⟩
  have G5 := hr5.at_
  have R5 := Lib.hid hr5
  have z5 : w4.heap.size ≤ w5.heap.size := hb5.size
  have hB5 := Lib.hid (hB4.out.below hb5 (by omega))
  clear hr5
  go_wp2_with fail
  refine (S_row (some ⟨w1.heap.size, 0, none⟩) l.length (l.length + 40) l (-1) (l ++ [1]) (l.length + 1) w5 rfl (blk_shows hB5.out) (by omega) (by omega) (by omega) (by rw [zigm1, enc1]) (by simp)).mono ?_
  rintro e w6 ⟨g6, c6, rfl, hr6, hb6⟩
  have G6 := hr6.at_
  have R6 := Lib.hid hr6
  have R56 := Lib.hid (R5.out.below hb6 G5.2)
  have z6 : w5.heap.size ≤ w6.heap.size := hb6.size
  have bel6 := Lib.hid (hb5.trans (hb6.mono z5))
  clear hr6 hb5 hb6 R5 hB5
  go_wp2_with fail
  have s56 := R56.out.shows
  refine (ReadBytes_at (some ⟨g5, 0, none⟩) m c5 (l ++ counted p) l.length y z q n w6 HM.out (s56.2.more (Nat.le_refl _)) s56.1 (row_cap R56.out) HQ.out HN.out HY.out HZ.out).mono ?_
  rintro e w7 ⟨A7, c7, rfl, ho7, _, hnc7, hb7⟩
  have O7 := Lib.hid ho7
  have H6 := Lib.hid (Holds.of (R6.out.below hb7 G6.2) (n := l.length + 1) (by simp))
  have H5 := Lib.hid (Holds.of (R56.out.below hb7 (by omega)) HM.out)
  have z7 : w6.heap.size ≤ w7.heap.size := hb7.size
  have bel7 := Lib.hid (bel6.out.trans (hb7.mono (by omega)))
  clear ho7 hb7 bel6 R6 R56 s56
  go_wp2_with fail
  go_loopw [13] (fun iv wr => ∃ k : Nat, iv = .int .i64 k ∧ k ≤ l.length + 1 ∧ Hid (Holds wr w5.heap.size g6 (l.length + 1) c6) ∧ Hid (w7.grownBy wr (some g6)))
    (fun iv _ => l.length + 1 - (intOf iv).toNat)
  case atStart => exact ⟨0, rfl, by omega, H6, World.grownBy.refl _ _⟩
  case round =>
    obtain ⟨k, rfl, hk, hh, hg⟩ := hrel
    by_cases hlt : k < l.length + 1
    · obtain ⟨⟨x, hcell⟩, hfr, hst⟩ := hh.out.cell hlt
      go_wp2_with fail
      go_roundw
      case rel => exact ⟨k + 1, by push_cast; rfl, by omega, (hst _).1, grown_trans hg.out (hst _).2⟩
      case measure => simp [intOf]; omega
    · have hk' : k = l.length + 1 := by omega
      subst hk'
      have bel8 := Lib.hid (below_grown bel7.out hg.out (by omega) (by omega))
      have O8 := Lib.hid (owns_but O7.out hg.out (by omega))
      have H8 := Lib.hid (H5.out.but hg.out (by omega))
      have z8 := hg.out.size
      clear H5 H6 O7 hh hg bel7
      go_wp2_with fail
      go_loopw [14] (fun iv wr => ∃ k : Nat, iv = .int .i64 k ∧ k ≤ m ∧ Hid (Holds wr w4.heap.size g5 m c5) ∧ Hid (Owns wr w6.heap.size (.slice A7 n c7) q) ∧ Hid (Below w4.heap.size w4 wr) ∧ w7.heap.size ≤ wr.heap.size)
        (fun iv _ => m - (intOf iv).toNat)
      case atStart => exact ⟨0, rfl, by omega, H8, O8, bel8, z8⟩
      case round =>
        obtain ⟨k, rfl, hk, hh, ho, hb, hz⟩ := hrel
        by_cases hlt : k < m
        · obtain ⟨⟨x, hcell⟩, hfr, hst⟩ := hh.out.cell hlt
          go_wp2_with fail
          go_roundw
          case rel => exact ⟨k + 1, by push_cast; rfl, by omega, (hst _).1, owns_but ho.out (hst _).2 (by omega), below_grown hb.out (hst _).2 (by omega) (by omega), Nat.le_trans hz (hst 0).2.size⟩
          case measure => simp [intOf]; omega
        · have hk' : k = m := by omega
          subst hk'
          have hB9 := Lib.hid (hB4.out.below hb.out (by omega))
          have R9 := Lib.hid (R4.out.below hb.out (R4.out.at_.2))
          have s9 := Lib.hid (((hs.below b4.out.1).more b4.out.2).below hb.out)
          have p9 := Lib.hid (((hp.below b4.out.1).more b4.out.2).below hb.out)
          have b9 := Lib.hid (below_step0 b4.out hb.out)
          have q9 := ho.out.shows.2.2
          have z9 := hb.out.size
          have hc4 : l.length ≤ c4 := by have := R9.out.shows.1; simp only [List.length_append] at this; omega
          clear hB4 R4 hh ho hb H8 O8 bel8
          go_wp2_with fail
          go_loopw [16, 17] (fun cv iv wx => cv = .bool true ∧ (∃ j : Nat, iv = .int .i64 j ∧ j ≤ 40) ∧ wx = wr)
            (fun _ iv _ => 40 - (intOf iv).toNat)
          case atStart => exact ⟨rfl, ⟨0, rfl, by omega⟩, rfl⟩
          case round =>
            obtain ⟨rfl, ⟨j, rfl, hj⟩, rfl⟩ := hrel
            by_cases hj' : j < 40
            · have hcell := blk_cell hB9.out (i := l.length + j) (c := 0) (by rw [List.getElem?_append_right (by omega), Nat.add_sub_cancel_left, List.getElem?_replicate, if_pos hj'])
              simp only [UInt8.toNat_zero] at hcell
              go_wp2_with fail
              go_roundw
              case rel => exact ⟨rfl, ⟨j + 1, by push_cast; rfl, by omega⟩, trivial⟩
              case measure => simp [intOf]; omega
            · have hj2 : j = 40 := by omega
              subst hj2
              rcases HD.out with ⟨hpl, rfl, rfl, rfl⟩ | ⟨hpl, rfl, rfl⟩
              · have hpl' : (q.length : Int) ≤ 1048576 := by omega
                go_wp2_with fail
                refine (Same_yes A7 n c7 C q.length d q q _ q9 (p9.out.more z9) rfl HN.out rfl (by have := HN.out; omega)).mono ?_
                rintro e w10 ⟨rfl, hb10⟩
                go_wp2_with fail
                refine (Same_yes (some ⟨w1.heap.size, 0, none⟩) l.length (l.length + 40) A l.length cap l l w10 ((blk_shows hB9.out).up hb10) (((s9.out.more z9)).up hb10) rfl rfl rfl (by omega)).mono ?_
                rintro e w11 ⟨rfl, hb11⟩
                have k11 := (hb10).trans (hb11.mono (hb10).size)
                go_wp2_with fail
                refine (Same_yes (some ⟨g4, 0, none⟩) l.length c4 A l.length cap l l w11 ((row_first R9.out).up k11) (((s9.out.more z9)).up k11) rfl rfl rfl (by omega)).mono ?_
                rintro e w12 ⟨rfl, hb12⟩
                have k12 := k11.trans (hb12.mono k11.size)
                have f1 := (k12.cell (p := ⟨g4, l.length, none⟩) R9.out.at_.2).trans (row_at R9.out l.length 172 (by simp))
                have f2 := (k12.cell (p := ⟨g4, l.length + 1, none⟩) R9.out.at_.2).trans (row_at R9.out (l.length + 1) 2 (by simp))
                simp only [show (172 : UInt8).toNat = 172 from rfl, show (2 : UInt8).toNat = 2 from rfl] at f1 f2
                have fin := (below_step0 b9.out k12).1
                go_wp2_with fail
                go_ret
                exact ⟨rfl, fin⟩
              · have hpl' : ¬ (p.length : Int) ≤ 1048576 := by omega
                have hpl2 : (1048576 : Int) < p.length := by omega
                have hbr : Below wr.heap.size wr wr := Below.refl _ _
                go_wp2_with fail
                refine (Same_yes (some ⟨w1.heap.size, 0, none⟩) l.length (l.length + 40) A l.length cap l l _ ((blk_shows hB9.out).up hbr) (((s9.out.more z9)).up hbr) rfl rfl rfl (by omega)).mono ?_
                rintro e w11 ⟨rfl, hb11⟩
                have k11 := (hbr).trans (hb11.mono (hbr).size)
                go_wp2_with fail
                refine (Same_yes (some ⟨g4, 0, none⟩) l.length c4 A l.length cap l l w11 ((row_first R9.out).up k11) (((s9.out.more z9)).up k11) rfl rfl rfl (by omega)).mono ?_
                rintro e w12 ⟨rfl, hb12⟩
                have k12 := k11.trans (hb12.mono k11.size)
                have f1 := (k12.cell (p := ⟨g4, l.length, none⟩) R9.out.at_.2).trans (row_at R9.out l.length 172 (by simp))
                have f2 := (k12.cell (p := ⟨g4, l.length + 1, none⟩) R9.out.at_.2).trans (row_at R9.out (l.length + 1) 2 (by simp))
                simp only [show (172 : UInt8).toNat = 172 from rfl, show (2 : UInt8).toNat = 2 from rfl] at f1 f2
                have fin := (below_step0 b9.out k12).1
                go_wp2_with fail
                go_ret
                exact ⟨rfl, fin⟩

set_option maxRecDepth 100000 in
theorem contract (H : Type) (enc : TypeId × Value → H) (W : World) (base : Nat) (args : Array Value) (ds gs : List (DataW H)) (before : List MemPlace)
    (hval : ∀ (j : Nat) t v, Try.f10.params[j]? = some t → args[j]? = some v → Value.okWide Try.prog W .any base t v)
    (hW : DataW.Whole enc Try.prog Try.f10.params.toList Rows.wireOwnSpec.vars false W args.toList ds gs before)
    (hsz : (DataW.weightsEach Try.prog (Try.f10.params.toList ++ Rows.wireOwnSpec.plain.varTypes Try.prog) (ds ++ gs)).all (· ≤ reachBytes) = true) :
    Calls Try.prog 10 args W fun e W' => ∃ v, e = .returned v ∧ Rows.wireOwnSpec.post enc Try.prog Try.f10 false true false false W args v W' := by
  have hW' := hW
  obtain ⟨p, q, hA0, hV, rfl, _, _⟩ := hW
  have hA : DataW.TrodAll enc Try.prog W 0 (fun _ => true) true Try.f10.params.toList args.toList ds p := hA0
  rw [Try.params10] at hA hval hsz
  obtain ⟨v0, vs0, d0, ds0, p0, q0, hargs, rfl, rfl, h0, r0⟩ := trodAll_cons hA
  obtain ⟨v1, vs1, d1, ds1, p1, q1, rfl, rfl, rfl, h1, r1⟩ := trodAll_cons r0
  obtain ⟨rfl, rfl, rfl⟩ := trodAll_nil r1
  obtain rfl : args = #[v0, v1] := by cases args; simp_all
  obtain ⟨rfl, rfl⟩ := trodVars_none hV
  have k0 := h0
  have lt0 : ∀ x ∈ p0, x.block < W.heap.size := by obtain ⟨m, hm⟩ := k0; exact DataW.trod_lt m _ _ _ hm
  have S0 : ∀ n ∈ d0.weights Try.prog 22, n ≤ 140737488351232 := weights_le hsz (j := 0) rfl rfl
  have k1 := h1
  have lt1 : ∀ x ∈ p1, x.block < W.heap.size := by obtain ⟨m, hm⟩ := k1; exact DataW.trod_lt m _ _ _ hm
  have S1 : ∀ n ∈ d1.weights Try.prog 22, n ≤ 140737488351232 := weights_le hsz (j := 1) rfl rfl
  obtain ⟨a0, len0, cap0, rfl⟩ := okWide_slice Try.underlying22 (hval 0 22 v0 rfl rfl)
  obtain ⟨fu0, hf0⟩ := h0
  obtain ⟨l0, rfl, hlc0, _, hs0, hcp0, hd0⟩ := open_bytes hf0
  have hc0 : cap0 ≤ 140737488351232 := by rw [hcp0]; exact places_le hd0 S0
  obtain ⟨a1, len1, cap1, rfl⟩ := okWide_slice Try.underlying22 (hval 1 22 v1 rfl rfl)
  obtain ⟨fu1, hf1⟩ := h1
  obtain ⟨l1, rfl, hlc1, _, hs1, hcp1, hd1⟩ := open_bytes hf1
  have hc1 : cap1 ≤ 140737488351232 := by rw [hcp1]; exact places_le hd1 S1
  refine (walk a0 cap0 l0 a1 cap1 l1 W hs0 hlc0 hc0 hs1 hlc1 hc1).mono fun e W' ⟨he, bel⟩ => ?_
  subst he
  exact ⟨_, rfl, _, _, _, [], _, [], hW', trodAll_mk1 (shut_bool Try.underlying4 _), (trodAll_cons_mk (Below.trod laidOut (by kernel_rfl) (of_decide_eq_true (by kernel_rfl)) k0 bel lt0) (trodAll_cons_mk (Below.trod laidOut (by kernel_rfl) (of_decide_eq_true (by kernel_rfl)) k1 bel lt1) trodAll_mk0)), rfl, bel.frame _, fun h => by cases h⟩

set_option maxRecDepth 100000 in
theorem lifted (os : Os) (started : os.Started) (H : Type) (enc : TypeId × Value → H) :
    ReturnsInHanded {} Try.checked os 10 .any (Rows.wireOwnSpec.pre6 enc Try.prog Try.f10 Rows.wireOwnRow.domain false) (Rows.wireOwnSpec.post enc Try.prog Try.f10 false true false false) := by
  refine returnsInHanded_of_change_sized (C := Try.checked) own started (by kernel_rfl) Try.func10
    (ChangeSpec.witness6 (enc := enc) (C := Try.checked) false ⟨#[], #[.slice none 0 0, .slice none 0 0], []⟩ 8 (by kernel_rfl) (by kernel_rfl) (by kernel_rfl) (by kernel_rfl)) ?_
  intro W base args ds gs before hval hW _ hsz _
  exact contract H enc W base args ds gs before hval hW hsz

/-- The statement. -/
theorem proved : Rows.WireOwnSaid :=
  OpenClaim.holds_of_wide 10 Try.f10 rfl rfl rfl rfl rfl rfl rfl ⟨rfl, rfl, rfl, rfl, rfl⟩ rfl rfl rfl rfl rfl (by kernel_rfl) Try.func10 (by kernel_rfl)
    (of_decide_eq_true (by kernel_rfl)) (by unfold Func.isWrapper; rw [if_neg (of_decide_eq_false (by kernel_rfl))]; exact ⟨rfl, rfl⟩)
    (fun os started H enc _ => lifted os started H enc)

end Go.Proofs.Ytnnefhiffadihaa.wireOwn
