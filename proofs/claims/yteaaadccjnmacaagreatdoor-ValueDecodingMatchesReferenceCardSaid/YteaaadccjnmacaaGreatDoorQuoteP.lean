/-
  The program's quoted, by a contract.
-/
import Derived.Test.YteaaadccjnmacaaGreatDoorDateP
import Derived.Test.YteaaadccjnmacaaGreatDoorGrowP
import Derived.Test.YteaaadccjnmacaaGreatDoorQuoS
import Derived.Test.YteaaadccjnmacaaGreatDoorReadB
import Derived.Deep.RegionHeldLaw
namespace Go.Proofs.YteaaadccjnmacaaGreatDoor
open Go.RowKit

theorem take_snoc5 (l : List UInt8) (k : Nat) (c : UInt8) (h : l[k]? = some c) : l.take (k + 1) = l.take k ++ [c] := by
  rw [List.take_add_one, h]
  rfl

theorem Blk.shows4 {w : World} {g : Nat} {l : List UInt8} (h : Blk w g l) : Shows w w.heap.size (some ⟨g, 0, none⟩) l := fun _ => ⟨g, 0, rfl, h.lt, fun i c hi => by
  rw [Nat.zero_add]
  refine cell_of_row _ g i _ _ (0, 0) h |>.trans ?_
  rw [List.getElem?_toArray]
  unfold cb
  rw [List.getElem?_map, hi]
  rfl⟩
/-- a slice of some bytes in a block of their own -/
structure G4 (base : Nat) (w0 w : World) (v : Value) (l : List UInt8) (p : List UInt8) (g : Nat) : Prop where
  bel : Below base w0 w
  own : Owns w base v l
  top : base ≤ w.heap.size
  blk : Blk w g p
theorem G4.dr {base : Nat} {w0 w : World} {v : Value} {l p : List UInt8} {g : Nat} (h : G4 base w0 w v l p g) : G4 base w0 w.drew v l p g := ⟨h.bel.drew, h.own, h.top, h.blk⟩
structure F4 (base : Nat) (w0 w : World) (v : Value) (l : List UInt8) : Prop where
  bel : Below base w0 w
  own : Owns w base v l
  top : base ≤ w.heap.size
theorem F4.dr {base : Nat} {w0 w : World} {v : Value} {l : List UInt8} (h : F4 base w0 w v l) : F4 base w0 w.drew v l := ⟨h.bel.drew, h.own, h.top⟩
theorem F4.al {base : Nat} {w0 w : World} {v : Value} {l : List UInt8} (h : F4 base w0 w v l) (p : List UInt8) (cs : Array Value) (hcs : cs = (cb p).toArray) : G4 base w0 (w.alloc (.cells cs 5)) v l p w.heap.size := by
  subst hcs
  exact ⟨h.bel.alloc h.top _, World.ownsRow.alloc h.own _, by have := h.top; simp; omega, by unfold Blk; rw [heap_alloc_new]⟩
theorem step_grow4 {ops : Array Oper} {o : Oper} {a : Act} {w : World} {K : Act → World → Prop} {Q : Exit → Act → World → Prop} {E : Prop} (hgd : o.guard = none) (d x : Operand)
    (ho : o.op = .call { callee := .builtin .append, args := #[d, x], argTypes := #[22, 22] }) (base : Nat) (w0 : World) (v : Value) (l p : List UInt8) (g m : Nat)
    (hs : a.eval d = v) (hx : a.eval x = .slice (some ⟨g, 0, none⟩) m m) (hm : m = p.length) (hm0 : 0 < m) (hG : G4 base w0 w v l p g) (hroom : l.length + m ≤ 140737488355000)
    (hK : ∀ A' c' w', Owns w' base (.slice A' (l ++ p).length c') (l ++ p) → Below base w0 w' → K (a.put o.dst (.slice A' (l ++ p).length c')) w') :
    if Region.wanted o (yielded ops a.tmps) = true then Oper.wp Tryz.prog o a w K Q else E := by
  have hw : Region.wanted o (yielded ops a.tmps) = true := by simp [Region.wanted, hgd]
  rw [if_pos hw]
  obtain ⟨i, hi, hz0, hsz, hb⟩ := info_parts info5
  have e : (l ++ p).length = l.length + m := by simp [hm]
  refine wp_append_own _ d x 22 ho base 5 i (.int .u8 0) 1 1 Tryz.underlying22 hi hz0 hsz hb rfl (by decide) v l.length (cb l) hs hG.own ⟨g, 0, none⟩ m m (cb p) hx (by simp [cb, hm]) ?_ (cb_one p) (by simp only [maxLen]; omega) (by omega) hG.top ?_
  · intro j u hj
    rw [Addr.add_lit, Nat.zero_add]
    refine (cell_of_row _ g j _ _ (0, 0) hG.blk).trans ?_
    rw [List.getElem?_toArray]
    exact hj
  · intro v' w' h1 h3 _
    have ho' : Owns w' base v' (l ++ p) := by unfold Owns; rw [cb_app, e]; exact h1
    obtain ⟨A', c', rfl⟩ := ho'.slice
    exact hK A' c' w' ho' (grown_owns hG.own h3 hG.bel hG.top (Nat.le_refl _))
set_option maxRecDepth 20000 in
theorem hex_at (n : Nat) (h : n < 16) : ∀ h' : n < (⟨#[48, 49, 50, 51, 52, 53, 54, 55, 56, 57, 97, 98, 99, 100, 101, 102]⟩ : ByteArray).size, ((⟨#[48, 49, 50, 51, 52, 53, 54, 55, 56, 57, 97, 98, 99, 100, 101, 102]⟩ : ByteArray)[n]'h').toNat = (hexD n).toNat := fun h' => by
  have : n = 0 ∨ n = 1 ∨ n = 2 ∨ n = 3 ∨ n = 4 ∨ n = 5 ∨ n = 6 ∨ n = 7 ∨ n = 8 ∨ n = 9 ∨ n = 10 ∨ n = 11 ∨ n = 12 ∨ n = 13 ∨ n = 14 ∨ n = 15 := by omega
  rcases this with rfl | rfl | rfl | rfl | rfl | rfl | rfl | rfl | rfl | rfl | rfl | rfl | rfl | rfl | rfl | rfl <;> rfl
theorem q_step (l : List UInt8) (k : Nat) (c : UInt8) (h : l[k]? = some c) : [34] ++ qBs (l.take (k + 1)) = [34] ++ qBs (l.take k) ++ qB c := by
  rw [take_snoc5 l k c h, qBs_snoc, List.append_assoc]
theorem qB_plain (c : UInt8) (h1 : ¬ c.toNat < 32) (h2 : ¬ 126 < c.toNat) (h3 : ¬ c.toNat = 34) (h4 : ¬ c.toNat = 92) : qB c = [c] := by
  unfold qB plainB
  rw [if_pos (by simp; omega)]
theorem qB_hex (c : UInt8) (h : c.toNat < 32 ∨ 126 < c.toNat ∨ c.toNat = 34 ∨ c.toNat = 92) : qB c = [92, 120, hexD (c.toNat / 16), hexD (c.toNat % 16)] := by
  unfold qB plainB
  rw [if_neg (by simp; omega)]
theorem byte_at (s : ByteArray) (k : Nat) (c : UInt8) (h : s.data.toList[k]? = some c) : ∀ h' : k < s.size, (s[k]'h').toNat = c.toNat := fun h' => by
  have : s.data.toList[k]? = some s[k] := by
    rw [Array.getElem?_toList]
    exact Array.getElem?_eq_getElem (xs := s.data) (by exact h')
  rw [this] at h
  injection h with h
  rw [h]
set_option maxHeartbeats 4000000 in
theorem quoted_any (s : ByteArray) (w : World) (hs : s.size ≤ 1000000) : Calls Tryz.prog 27 #[.string s] w fun e w' => e = .returned (.string (str (quoteL s.data.toList))) ∧ Below w.heap.size w w' := by
  obtain ⟨n, hn⟩ : ∃ n, n = s.size := ⟨_, rfl⟩
  obtain ⟨l, hl⟩ : ∃ l, l = s.data.toList := ⟨_, rfl⟩
  have hln : l.length = n := by rw [hl, hn]; rfl
  have HBY : Hid (∀ k c, l[k]? = some c → ∀ h' : k < s.size, (s[k]'h').toNat = c.toNat) := fun k c h => byte_at s k c (by rw [← hl]; exact h)
  have HLN := Lib.hid hln
  have HQ : Hid (∀ k, ([34] ++ qBs (l.take k)).length ≤ 4 * n + 1) := fun k => by
    have h1 := qBs_len (l.take k)
    have h2 : (l.take k).length ≤ n := by rw [← hln]; exact List.length_take_le' ..
    rw [List.length_append, List.length_singleton]
    omega
  have HE : Hid ([34] ++ qBs (l.take n) ++ [34] = quoteL s.data.toList) := by
    show _ = _
    rw [← hl, ← hln, List.take_length]
    rfl
  have hsz : (s.size : Int) = (n : Int) := by rw [hn]
  have H0 : Hid (Owns (w.alloc (.cells #[.int .u8 34] 5)) w.heap.size (.slice (some ⟨w.heap.size, 0, none⟩) 1 1) [34]) := owns_lit w 34
  clear hln hl
  go_enter Tryz.func27, Tryz.ntmps27
  go_wp2_with fail
  go_loopw [3, 4, 5, 9] (fun v _ _ i wr => ∃ (k : Nat) (A' : Option Addr) (c' : Nat), k ≤ n ∧ i = .int .i64 k ∧ v = .slice A' ([34] ++ qBs (l.take k)).length c' ∧ Hid (Owns wr w.heap.size (.slice A' ([34] ++ qBs (l.take k)).length c') ([34] ++ qBs (l.take k))) ∧ Hid (Below w.heap.size w wr)) (fun _ _ _ i _ => n - (RowKit.intOf i).toNat)
  case atStart => exact ⟨0, _, 1, Nat.zero_le _, rfl, rfl, H0, val_al _ _⟩
  case round =>
    obtain ⟨k, A', c', hk, rfl, rfl, ho, hb⟩ := hrel
    by_cases hlt : k < n
    · obtain ⟨c, hc⟩ : ∃ c, l[k]? = some c := ⟨_, List.getElem?_eq_getElem (by rw [HLN.out]; exact hlt)⟩
      have hby := HBY.out k c hc
      have HST := Lib.hid (q_step l k c hc)
      have j1 : (k : Int) < (n : Int) := by omega
      have hbd := HQ.out k
      have hc8 := UInt8.toNat_lt c
      have HD := Lib.hid (fun h1 h2 h3 h4 => qB_plain c h1 h2 h3 h4)
      have HX := Lib.hid (fun h => qB_hex c h)
      clear hc
      generalize [34] ++ qBs (l.take k) = P at *
      obtain ⟨x, hx⟩ : ∃ x, x = c.toNat := ⟨_, rfl⟩
      rw [← hx] at hby hc8
      have HXX := Lib.hid hx
      clear hx
      by_cases hp : ¬ x < 32 ∧ ¬ 126 < x ∧ ¬ x = 34 ∧ ¬ x = 92
      · obtain ⟨p1, p2, p3, p4⟩ := hp
        have q1 : ¬ (x : Int) < 32 := by omega
        have q2 : ¬ 126 < (x : Int) := by omega
        have q3 : ¬ (x : Int) = 34 := by omega
        have q4 : ¬ (x : Int) = 92 := by omega
        have HS2 : Hid ([34] ++ qBs (l.take (k + 1)) = P ++ [c]) := by show _ = _; rw [HST.out, HD.out (by rw [← HXX.out]; exact p1) (by rw [← HXX.out]; exact p2) (by rw [← HXX.out]; exact p3) (by rw [← HXX.out]; exact p4)]
        clear HD HX HST
        go_wp2_with (at_builtin; refine wpList_growC rfl (.tmp 38) (.tmp 40) _ rfl Tryz.underlying22 info5 w.heap.size (.slice A' P.length c') P c _ rfl rfl rfl (by rw [HXX.out]) ho.out (by omega) hb.out.size ?_; intro A3 c3 w3 ho3 hg3)
        have HB3 : Hid (Below w.heap.size w w3) := grown_owns ho.out hg3 hb.out hb.out.size (Nat.le_refl _)
        have HO3 : Hid (Owns w3 w.heap.size (.slice A3 (P ++ [c]).length c3) (P ++ [c])) := ho3
        clear ho3 hg3
        go_wp2_with fail
        go_roundw
        case rel => exact ⟨k + 1, A3, c3, by omega, by go_num, by rw [HS2.out, List.length_append]; rfl, by rw [HS2.out]; exact HO3, HB3⟩
        case measure => simp [RowKit.intOf]; omega
      · have hp' : Hid (x < 32 ∨ 126 < x ∨ x = 34 ∨ x = 92) := by show _ ∨ _; omega
        have HS2 : Hid ([34] ++ qBs (l.take (k + 1)) = P ++ [92, 120, hexD (x / 16), hexD (x % 16)]) := by show _ = _; rw [HST.out, HX.out (by rw [← HXX.out]; exact hp'.out), ← HXX.out]
        obtain ⟨x1, hx1⟩ : ∃ y, y = x / 16 := ⟨_, rfl⟩
        obtain ⟨x2, hx2⟩ : ∃ y, y = x % 16 := ⟨_, rfl⟩
        rw [← hx1, ← hx2] at HS2
        have t1 := hex_at x1 (by omega)
        have t2 := hex_at x2 (by omega)
        have i1 : (x : Int) / 16 = (x1 : Int) := by omega
        have i2 : (x : Int) % 16 = (x2 : Int) := by omega
        have k1 : (x1 : Int) < 16 := by omega
        have k2 : (x2 : Int) < 16 := by omega
        have k3 : x1 < 16 := by omega
        have i3 : (x : Int).tdiv 16 = (x1 : Int) := by rw [Int.tdiv_eq_ediv_of_nonneg (by omega)]; exact i1
        have i4 : (x : Int).tmod 16 = (x2 : Int) := by rw [Int.tmod_eq_emod_of_nonneg (by omega)]; exact i2
        have v1 : IntKind.u8.wrap (x1 : Int) = (x1 : Int) := IntWalk.u8_in _ (by omega)
        have v2 : IntKind.u8.wrap (x2 : Int) = (x2 : Int) := IntWalk.u8_in _ (by omega)
        have g1 : 0 ≤ (x1 : Int) ∧ (x1 : Int) < ((⟨#[48, 49, 50, 51, 52, 53, 54, 55, 56, 57, 97, 98, 99, 100, 101, 102]⟩ : ByteArray).size : Int) := ⟨by omega, by show (x1 : Int) < 16; omega⟩
        have g2 : 0 ≤ (x2 : Int) ∧ (x2 : Int) < ((⟨#[48, 49, 50, 51, 52, 53, 54, 55, 56, 57, 97, 98, 99, 100, 101, 102]⟩ : ByteArray).size : Int) := ⟨by omega, by show (x2 : Int) < 16; omega⟩
        have k4 : x2 < 16 := by omega
        clear HD HX HST hp HXX hx1 hx2
        obtain ⟨d1, hd1⟩ : ∃ d, d = hexD x1 := ⟨_, rfl⟩
        obtain ⟨d2, hd2⟩ : ∃ d, d = hexD x2 := ⟨_, rfl⟩
        rw [← hd1] at HS2 t1
        rw [← hd2] at HS2 t2
        clear hd1 hd2
        have FH : Hid (F4 w.heap.size w wr (.slice A' P.length c') P) := ⟨hb.out, ho.out, hb.out.size⟩
        have HCS : Hid (#[Value.int .u8 92, .int .u8 120, .int .u8 (d1.toNat : Int), .int .u8 (d2.toNat : Int)] = (cb [92, 120, d1, d2]).toArray) := by show _ = _; simp [cb]
        have hc4 : x < 32 ∨ (¬ x < 32 ∧ 126 < x) ∨ (¬ x < 32 ∧ ¬ 126 < x ∧ x = 34) ∨ (¬ x < 32 ∧ ¬ 126 < x ∧ ¬ x = 34 ∧ x = 92) := by have := hp'.out; omega
        clear hp'
        rcases hc4 with p | ⟨p, p2⟩ | ⟨p, p2, p3⟩ | ⟨p, p2, p3, p4⟩
        all_goals (
          first
            | (have q1 : (x : Int) < 32 := by omega)
            | (have q1 : ¬ (x : Int) < 32 := by omega
               have q2 : 126 < (x : Int) := by omega)
            | (have q1 : ¬ (x : Int) < 32 := by omega
               have q2 : ¬ 126 < (x : Int) := by omega
               have q3 : ((x : Int) == 34) = true := by rw [p3]; rfl
               clear p3)
            | (have q1 : ¬ (x : Int) < 32 := by omega
               have q2 : ¬ 126 < (x : Int) := by omega
               have q3 : ((x : Int) == 34) = false := by rw [p4]; rfl
               have q4 : ((x : Int) == 92) = true := by rw [p4]; rfl
               clear p3 p4)
          go_wp2_with fail
          go_region_held_law (fun _ => True) (exact trivial)
            ((refine step_grow4 rfl (.tmp 29) (.tmp 36) rfl w.heap.size w _ P [92, 120, d1, d2] wr.heap.size 4 rfl rfl rfl (by omega) (by first | exact FH.out.al _ _ HCS.out | exact (FH.out.al _ _ HCS.out).dr | exact FH.out.dr.al _ _ HCS.out | exact (FH.out.dr.al _ _ HCS.out).dr | exact FH.out.dr.dr.al _ _ HCS.out) (by omega) ?_; intro A3 c3 w3 ho3 hb3; have HO3 := Lib.hid ho3; have HB3 := Lib.hid hb3; clear ho3 hb3))
          all_goals (
            go_wp2_with fail
            go_roundw
            case rel => exact ⟨k + 1, A3, c3, by omega, by go_num, by rw [HS2.out, List.length_append]; rfl, by rw [HS2.out]; exact HO3, HB3⟩
            case measure => simp [RowKit.intOf]; omega)
          )
    · have hkn : k = n := by omega
      have j1 : ¬ (k : Int) < (n : Int) := by omega
      subst hkn
      have hbd := HQ.out k
      obtain ⟨q, hq⟩ : ∃ q : UInt8, q = 34 := ⟨_, rfl⟩
      have HQ34 : Hid ((34 : Int) = (q.toNat : Int)) := by show _ = _; rw [hq]; rfl
      have HE2 := HE
      clear HE hlt
      generalize [34] ++ qBs (l.take k) = P at *
      rw [← hq] at HE2
      clear hq
      go_wp2_with (at_builtin; refine wpList_growC rfl (.tmp 43) (.tmp 44) _ rfl Tryz.underlying22 info5 w.heap.size (.slice A' P.length c') P q _ rfl rfl rfl HQ34.out ho.out (by omega) hb.out.size ?_; intro A3 c3 w3 ho3 hg3; have hconv := run_string_shows (P := Tryz.prog) w3 22 9 Tryz.underlying22 Tryz.underlying5 Tryz.underlying9 (n := P.length + 1) (c := c3) (by simp) ho3.shows.2.2)
      have HB3 : Hid (Below w.heap.size w w3) := grown_owns ho.out hg3 hb.out hb.out.size (Nat.le_refl _)
      clear ho3 hg3 hconv
      go_ret
      exact ⟨by rw [← HE2.out]; rfl, HB3.out⟩
end Go.Proofs.YteaaadccjnmacaaGreatDoor
