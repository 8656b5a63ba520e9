/-
  P1.2 and P1.5: values that are written one after the other are read back one after the other. For every input that the row lets in; no further condition.
-/
import Derived.Test.YtnnefhiffadihaaSeqA
import Derived.Deep.RegionHeld3
namespace Go.Proofs.Ytnnefhiffadihaa.wireSeq
open Go.RowKit Go.ChangeShapes Go.WideShapes Go.ChangeAt
open Go.Lib (uvarint zigzag)

theorem Elems.below {w w' : World} {B : Nat} {a : Option Addr} {L : List Val} (h : Elems w B a L) (hb : Below B w w') : Elems w' B a L := fun i v hv => by
  obtain ⟨b, off, e, hlt, hl, hu, h0, h1, hs, hc⟩ := h i v hv
  exact ⟨b, off, e, hlt, hl.below hb hlt, hu, h0, h1, hs.below hb, hc⟩

set_option maxRecDepth 100000 in
set_option maxHeartbeats 4000000 in
theorem walk (a : Option Addr) (cap : Nat) (L : List Val) (w : World) (hE : Elems w w.heap.size a L) (hlc : L.length ≤ cap) (hcap : cap ≤ maxLen) :
    Calls Try.prog 9 #[.slice a L.length cap] w fun e w' => e = .returned (.bool true) ∧ Below w.heap.size w w' := by
  have b0 : Below w.heap.size w w ∧ w.heap.size ≤ w.heap.size := ⟨Below.refl _ _, Nat.le_refl _⟩
  have hLm : L.length ≤ 9223372036854775807 := by simp only [maxLen] at hcap; omega
  clear hcap
  go_enter Try.func9, Try.ntmps9
  go_wp2_with fail
  refine (sanity_any _).mono ?_
  rintro e w1 ⟨rfl, hb1⟩
  have b1 := Lib.hid (below_step0 b0 hb1)
  clear b0 hb1
  go_wp2_with fail
  go_loopw [4, 5] (fun bv iv wr => ∃ (k : Nat) (A' : Option Addr) (m c' : Nat), bv = .slice A' m c' ∧ iv = .int .i64 k ∧ k ≤ L.length ∧
      Hid (m = (encs (L.take k)).length ∧ m ≤ 2040 * k ∧ m ≤ c' ∧ c' ≤ 9223372036854775807) ∧ Hid (Shows wr wr.heap.size A' (encs (L.take k))) ∧
      Hid ((∀ i v, i < k → L[i]? = some v → v.s.size ≤ 1000 ∧ v.l.length ≤ 1000) ∧ (0 < k → L.length ≤ 40)) ∧ Hid (Below w.heap.size w wr ∧ w.heap.size ≤ wr.heap.size))
    (fun _ iv _ => L.length - (intOf iv).toNat)
  case atStart =>
    refine ⟨0, _, 0, 0, rfl, rfl, by omega, ⟨rfl, by omega, by omega, by omega⟩, Shows.nil, ⟨fun i v hi => by omega, fun h => by omega⟩, ⟨b1.out.1.alloc b1.out.2 _, by have := b1.out.2; simp; omega⟩⟩
  case round =>
    obtain ⟨k, A', m, c', rfl, rfl, hk, hm, hsh, hall, hb⟩ := hrel
    by_cases hlt : k < L.length
    · have hv : L[k]? = some L[k] := List.getElem?_eq_getElem hlt
      obtain ⟨b, off, rfl, hbl, hlies, hu, zl, zh, hsv, _⟩ := hE k _ hv
      have ⟨g0, g1, g2, g3⟩ := hlies.below hb.out.1 hbl
      obtain ⟨v, hV⟩ : ∃ v, v = L[k] := ⟨_, rfl⟩
      rw [← hV] at hv hsv hu zl zh g0 g1 g2 g3
      clear hV hlies
      obtain ⟨n, z, s, A, vc, l⟩ := v
      simp only at hsv hu zl zh g0 g1 g2 g3
      have G1 : Lies wr b (off + k * 4) ⟨n, z, s, A, vc, l⟩ := ⟨g0, g1, g2, g3⟩
      have lt1 : b < wr.heap.size := Nat.lt_of_lt_of_le hbl hb.out.2
      by_cases h40 : (40 : Int) < L.length
      · go_wp2_with fail
        go_ret
        exact ⟨rfl, hb.out.1⟩
      by_cases hS : (1000 : Int) < s.size
      · go_wp2_with fail
        go_ret
        exact ⟨rfl, hb.out.1⟩
      by_cases hP : (1000 : Int) < l.length
      · go_wp2_with fail
        go_ret
        exact ⟨rfl, hb.out.1⟩
      obtain ⟨X, hX⟩ : ∃ X, X = encs (L.take k) := ⟨_, rfl⟩
      have enx := encs_next hv
      rw [← hX] at hm hsh enx
      have HM := hm
      have hsl := str_len s
      have us : Num.U64 s.data.toList.length := show s.data.toList.length < 18446744073709551616 by omega
      have ul : Num.U64 l.length := show l.length < 18446744073709551616 by omega
      have uz := Num.zigzag_u64 z zl zh
      have l1 := Lib.uvarint_length64 hu.lt
      have l2 := Lib.uvarint_length64 uz.lt
      have l3 := Lib.uvarint_length64 us.lt
      have l4 := Lib.uvarint_length64 ul.lt
      obtain ⟨m1, hm1⟩ : ∃ m', m' = (X ++ uvarint n).length := ⟨_, rfl⟩
      obtain ⟨m2, hm2⟩ : ∃ m', m' = (X ++ uvarint n ++ uvarint (zigzag z)).length := ⟨_, rfl⟩
      obtain ⟨m3, hm3⟩ : ∃ m', m' = (X ++ uvarint n ++ uvarint (zigzag z) ++ counted s.data.toList).length := ⟨_, rfl⟩
      obtain ⟨m4, hm4⟩ : ∃ m', m' = (X ++ uvarint n ++ uvarint (zigzag z) ++ counted s.data.toList ++ counted l).length := ⟨_, rfl⟩
      have hL : m1 ≤ 100000 ∧ m2 ≤ 100000 ∧ m3 ≤ 100000 ∧ m4 ≤ 100000 ∧ m4 ≤ 2040 * (k + 1) := by
        have := hm.out
        simp only [counted, List.length_append] at hm1 hm2 hm3 hm4
        omega
      have HL := Lib.hid hL
      have H1 := Lib.hid hm1
      have H2 := Lib.hid hm2
      have H3 := Lib.hid hm3
      have H4 := Lib.hid hm4
      have HX := Lib.hid enx
      have HV := Lib.hid hv
      have hk40 : (k : Int) < 40 := by omega
      have ek : ∀ i : Nat, i < k + 1 → i < k ∨ i = k := fun i _ => by omega
      clear hX enx hm hm1 hm2 hm3 hm4 hL hsl us ul uz l1 l2 l3 l4 hv
      go_wp2_with fail
      go_region_held3 (fun w' => w'.cell? ⟨b, off + k * 4, none⟩ = some (.int .u64 n) ∧ w'.cell? ⟨b, off + k * 4 + 1, none⟩ = some (.int .i64 z) ∧ w'.cell? ⟨b, off + k * 4 + 2, none⟩ = some (.string s) ∧ w'.cell? ⟨b, off + k * 4 + 3, none⟩ = some (.slice A l.length vc))
        (first | exact G1 | exact G2 | exact G3 | exact G4 | exact G5)
        (first
      | (go_at_call 13; refine (U_is A' m c' X n n (X ++ uvarint n) m1 wr.drew HM.out.1 (show Shows wr.drew wr.drew.heap.size A' X from hsh.out) (by have := HM.out; omega) hu rfl rfl H1.out).mono ?_; rintro e w2 ⟨B2, c2, rfl, ho2, hs_2, hb2⟩; have hk2 : Below wr.heap.size wr w2 := ((Below.drew (Below.refl _ _)).trans hb2); have b2 := Lib.hid (below_step0 hb.out hk2); have G2 := Lies.below G1 hk2 lt1; have lt2 : b < w2.heap.size := Nat.lt_of_lt_of_le lt1 hk2.size)
      | (go_at_call 15; refine (S_is B2 m1 c2 (X ++ uvarint n) z (X ++ uvarint n ++ uvarint (zigzag z)) m2 w2 H1.out hs_2 (by have := HL.out; have := H1.out; omega) zl zh rfl H2.out).mono ?_; rintro e w3 ⟨B3, c3, rfl, ho3, hs_3, hb3⟩; have hk3 : Below w2.heap.size w2 w3 := hb3; have b3 := Lib.hid (below_step0 b2.out hk3); have G3 := Lies.below G2 hk3 lt2; have lt3 : b < w3.heap.size := Nat.lt_of_lt_of_le lt2 hk3.size)
      | (go_at_call 17; refine (Text_is B3 m2 c3 (X ++ uvarint n ++ uvarint (zigzag z)) s (X ++ uvarint n ++ uvarint (zigzag z) ++ counted s.data.toList) m3 w3 H2.out hs_3 (by have := HL.out; have := H2.out; omega) rfl H3.out).mono ?_; rintro e w4 ⟨B4, c4, rfl, ho4, hs_4, hb4⟩; have hk4 : Below w3.heap.size w3 w4 := hb4; have b4 := Lib.hid (below_step0 b3.out hk4); have G4 := Lies.below G3 hk4 lt3; have lt4 : b < w4.heap.size := Nat.lt_of_lt_of_le lt3 hk4.size)
      | (go_at_call 19; refine (Bytes_is B4 m3 c4 (X ++ uvarint n ++ uvarint (zigzag z) ++ counted s.data.toList) A l.length vc l (X ++ uvarint n ++ uvarint (zigzag z) ++ counted s.data.toList ++ counted l) m4 w4 H3.out hs_4 rfl ((hsv.below b4.out.1).more b4.out.2) (by have := HL.out; have := H3.out; omega) rfl H4.out).mono ?_; rintro e w5 ⟨B5, c5, rfl, ho5, hs_5, hb5⟩; have hk5 : Below w4.heap.size w4 w5 := hb5; have b5 := Lib.hid (below_step0 b4.out hk5); have G5 := Lies.below G4 hk5 lt4; have lt5 : b < w5.heap.size := Nat.lt_of_lt_of_le lt4 hk5.size))
      go_wp2_with fail
      go_roundw
      case rel =>
        have e : X ++ one ⟨n, z, s, A, vc, l⟩ = X ++ uvarint n ++ uvarint (zigzag z) ++ counted s.data.toList ++ counted l := by simp [one, List.append_assoc]
        refine ⟨k + 1, B5, m4, c5, rfl, by push_cast; rfl, by omega, ?_, ?_, ?_, b5⟩
        · rw [HX.out, e]
          exact ⟨H4.out, HL.out.2.2.2.2, by have := ho5.shows.2.1; rwa [← H4.out] at this, ho5.cap_le⟩
        · rw [HX.out, e]
          exact hs_5
        · refine ⟨fun i x hi hx => ?_, fun _ => by omega⟩
          rcases ek i hi with hi | rfl
          · exact hall.out.1 i x hi hx
          · rw [HV.out] at hx
            injection hx with hx
            subst hx
            exact ⟨by simp only; omega, by simp only; omega⟩
      case measure => simp [intOf]; omega
    · have hk' : k = L.length := by omega
      subst hk'
      have hall' : ∀ (i : Nat) (v : Val), L[i]? = some v → v.s.size ≤ 1000 ∧ v.l.length ≤ 1000 := fun i v hv => hall.out.1 i v (List.getElem?_eq_some_iff.1 hv).1 hv
      have HA := Lib.hid hall'
      have hm' := hm.out
      have hsh' := hsh.out
      rw [List.take_length] at hm' hsh'
      have HS := Lib.hid hsh'
      have HM := Lib.hid hm'
      have hmL : m ≤ 1000000 := by
        rcases Nat.eq_zero_or_pos L.length with h0 | h0
        · omega
        · have := hall.out.2 h0
          omega
      clear hall' hm' hsh' hall hm hsh
      go_wp2_with fail
      go_loopw [6, 7] (fun av iv wx => ∃ j p0 : Nat, av = .int .i64 p0 ∧ iv = .int .i64 j ∧ j ≤ L.length ∧ Hid (p0 = (encs (L.take j)).length) ∧ Hid (Below wr.heap.size wr wx ∧ wr.heap.size ≤ wx.heap.size))
        (fun _ iv _ => L.length - (intOf iv).toNat)
      case atStart => exact ⟨0, 0, rfl, rfl, by omega, rfl, Below.refl _ _, Nat.le_refl _⟩
      case round =>
        obtain ⟨j, p0, rfl, rfl, hj, hp0, hx⟩ := hrel
        by_cases hlt : j < L.length
        · have hv : L[j]? = some L[j] := List.getElem?_eq_getElem hlt
          obtain ⟨b, off, rfl, hbl, hlies, hu, zl, zh, hsv, _⟩ := hE j _ hv
          have hsm := HA.out j _ hv
          obtain ⟨v, hV⟩ : ∃ v, v = L[j] := ⟨_, rfl⟩
          rw [← hV] at hv hsv hu zl zh hlies hsm
          clear hV
          obtain ⟨n, z, s, A, vc, l⟩ := v
          simp only at hsv hu zl zh hsm
          have bw := below_step0 hb.out hx.out.1
          have enx := encs_next hv
          have esp := encs_split hv
          obtain ⟨X, hX⟩ : ∃ X, X = encs (L.take j) := ⟨_, rfl⟩
          obtain ⟨Y, hY⟩ : ∃ Y, Y = encs (L.drop (j + 1)) := ⟨_, rfl⟩
          have hp := hp0.out
          rw [← hX] at hp enx esp
          rw [← hY] at esp
          have hsl := str_len s
          have uz := Num.zigzag_u64 z zl zh
          have ln := Lib.uvarint_pos n
          obtain ⟨p1, hp1⟩ : ∃ p, p = (X ++ uvarint n).length := ⟨_, rfl⟩
          obtain ⟨p2, hp2⟩ : ∃ p, p = (X ++ uvarint n ++ uvarint (zigzag z)).length := ⟨_, rfl⟩
          obtain ⟨p3, hp3⟩ : ∃ p, p = (X ++ uvarint n ++ uvarint (zigzag z) ++ counted s.data.toList).length := ⟨_, rfl⟩
          obtain ⟨p4, hp4⟩ : ∃ p, p = (X ++ uvarint n ++ uvarint (zigzag z) ++ counted s.data.toList ++ counted l).length := ⟨_, rfl⟩
          obtain ⟨T, hT⟩ : ∃ T, T = encs L := ⟨_, rfl⟩
          rw [← hT] at esp
          have R0 := read_written X (uvarint (zigzag z) ++ (counted s.data.toList ++ (counted l ++ Y))) hu
          have R1 := read_written (X ++ uvarint n) (counted s.data.toList ++ (counted l ++ Y)) uz
          have R2 := span_written (X ++ uvarint n ++ uvarint (zigzag z)) (counted l ++ Y) s.data.toList (by omega)
          have R3 := span_written (X ++ uvarint n ++ uvarint (zigzag z) ++ counted s.data.toList) Y l (by omega)
          have e0 : X ++ uvarint n ++ (uvarint (zigzag z) ++ (counted s.data.toList ++ (counted l ++ Y))) = T := by rw [esp]; simp [one, List.append_assoc]
          have e1 : X ++ uvarint n ++ uvarint (zigzag z) ++ (counted s.data.toList ++ (counted l ++ Y)) = T := by rw [esp]; simp [one, List.append_assoc]
          have e2 : X ++ uvarint n ++ uvarint (zigzag z) ++ counted s.data.toList ++ (counted l ++ Y) = T := by rw [esp]; simp [one, List.append_assoc]
          have e3 : X ++ uvarint n ++ uvarint (zigzag z) ++ counted s.data.toList ++ counted l ++ Y = T := by rw [esp]; simp [one, List.append_assoc]
          have e4 : p4 = (encs (L.take (j + 1))).length := by rw [enx, hp4]; simp [one, List.append_assoc]
          rw [e0, ← hp, ← hp1] at R0
          rw [e1, ← hp1, ← hp2] at R1
          rw [e2, ← hp2, ← hp3] at R2
          rw [e3, ← hp3, ← hp4] at R3
          have hgt : (p0 : Int) < p4 := by
            simp only [List.length_append] at hp4
            omega
          have Q0 := Lib.hid R0
          have Q1 := Lib.hid R1
          have Q2 := Lib.hid R2
          have Q3 := Lib.hid R3
          have E4 := Lib.hid e4
          have HMT := HM
          rw [← hT] at HMT
          have HST := HS
          rw [← hT] at HST
          have HV := Lib.hid hlies
          have hlb : l.length ≤ 1000 := hsm.2
          clear R0 R1 R2 R3 e0 e1 e2 e3 e4 hp1 hp2 hp3 hp4 esp enx hX hY hp hT hsl uz ln hsm hv hlies
          go_wp2_with fail
          refine (ReadU_is A' m c' T p0 n p1 0 _ HMT.out.1 (HST.out.up hx.out.1) (by rw [← HMT.out.1]; omega) (by rw [Q0.out]) (by rw [Q0.out]) (by rw [Q0.out]; rfl)).mono ?_
          rintro e x1 ⟨rfl, hb1⟩
          have y1 := Lib.hid (below_step0 hx.out hb1)
          go_wp2_with fail
          refine (ReadS_is A' m c' T p1 z p2 0 _ HMT.out.1 (HST.out.up y1.out.1) (by rw [← HMT.out.1]; omega) (by rw [Q1.out]; exact Num.zag_zigzag z) (by rw [Q1.out]) (by rw [Q1.out]; rfl)).mono ?_
          rintro e x2 ⟨rfl, hb2⟩
          have y2 := Lib.hid (below_step0 y1.out hb2)
          go_wp2_with fail
          refine (ReadText_is A' m c' T p2 p3 0 s _ HMT.out.1 (HST.out.up y2.out.1) (by rw [← HMT.out.1]; exact HMT.out.2.2.1) HMT.out.2.2.2 (by rw [Q2.out.2]) (by rw [Q2.out.1]) (by rw [Q2.out.1]; rfl)).mono ?_
          rintro e x3 ⟨rfl, hb3⟩
          have y3 := Lib.hid (below_step0 y2.out hb3)
          go_wp2_with fail
          refine (ReadBytes_at A' m c' T p3 p4 0 l l.length _ HMT.out.1 (HST.out.up y3.out.1) (by rw [← HMT.out.1]; exact HMT.out.2.2.1) HMT.out.2.2.2 Q3.out.2 rfl (by rw [Q3.out.1]) (by rw [Q3.out.1]; rfl)).mono ?_
          rintro e x4 ⟨B4, c4, rfl, _, hs4, _, hb4⟩
          have y4 := Lib.hid (below_step0 y3.out hb4)
          have z4 := below_step0 hb.out y4.out.1
          have ⟨g0, g1, g2, g3⟩ := HV.out.below z4.1 hbl
          simp only at g0 g1 g2 g3
          go_wp2_with fail
          refine (Same_yes B4 l.length c4 A l.length vc l l _ hs4 ((hsv.below z4.1).more z4.2) rfl rfl rfl (by omega)).mono ?_
          rintro e x5 ⟨rfl, hb5⟩
          have y5 := Lib.hid (below_step0 y4.out hb5)
          go_wp2_with fail
          go_roundw
          case rel => exact ⟨j + 1, p4, rfl, by push_cast; rfl, by omega, E4, y5⟩
          case measure => simp [intOf]; omega
        · have hj' : j = L.length := by omega
          subst hj'
          have hp := hp0.out
          rw [List.take_length, ← HM.out.1] at hp
          subst hp
          have fin := (below_step0 hb.out hx.out.1).1
          clear hp0
          go_wp2_with fail
          go_ret
          exact ⟨rfl, fin⟩

set_option maxRecDepth 100000 in
theorem contract (H : Type) (enc : TypeId × Value → H) (W : World) (base : Nat) (args : Array Value) (ds gs : List (DataW H)) (before : List MemPlace)
    (hval : ∀ (j : Nat) t v, Try.f9.params[j]? = some t → args[j]? = some v → Value.okWide Try.prog W .any base t v)
    (hW : DataW.Whole enc Try.prog Try.f9.params.toList Rows.wireSequenceSpec.vars false W args.toList ds gs before)
    (hsz : (DataW.weightsEach Try.prog (Try.f9.params.toList ++ Rows.wireSequenceSpec.plain.varTypes Try.prog) (ds ++ gs)).all (· ≤ reachBytes) = true) :
    Calls Try.prog 9 args W fun e W' => ∃ v, e = .returned v ∧ Rows.wireSequenceSpec.post enc Try.prog Try.f9 false true false false W args v W' := by
  have hW' := hW
  obtain ⟨p, q, hA0, hV, rfl, _, _⟩ := hW
  have hA : DataW.TrodAll enc Try.prog W 0 (fun _ => true) true Try.f9.params.toList args.toList ds p := hA0
  rw [Try.params9] at hA hval hsz
  obtain ⟨v0, vs0, d0, ds0, p0, q0, hargs, rfl, rfl, h0, r0⟩ := trodAll_cons hA
  obtain ⟨rfl, rfl, rfl⟩ := trodAll_nil r0
  obtain rfl : args = #[v0] := by cases args; simp_all
  obtain ⟨rfl, rfl⟩ := trodVars_none hV
  have k0 := h0
  have lt0 : ∀ x ∈ p0, x.block < W.heap.size := by obtain ⟨m, hm⟩ := k0; exact DataW.trod_lt m _ _ _ hm
  have S0 : ∀ n ∈ d0.weights Try.prog 48, n ≤ 140737488351232 := weights_le hsz (j := 0) rfl rfl
  obtain ⟨a0, len0, cap0, rfl⟩ := okWide_slice Try.underlying48 (hval 0 48 v0 rfl rfl)
  obtain ⟨fu0, hf0⟩ := h0
  obtain ⟨L0, rfl, hlc0, hcm0, hE0⟩ := open_values hf0
  refine (walk a0 cap0 L0 W hE0 hlc0 hcm0).mono fun e W' ⟨he, bel⟩ => ?_
  subst he
  exact ⟨_, rfl, _, _, _, [], _, [], hW', trodAll_mk1 (shut_bool Try.underlying4 _), (trodAll_cons_mk (Below.trod laidOut (by kernel_rfl) (of_decide_eq_true (by kernel_rfl)) k0 bel lt0) trodAll_mk0), rfl, bel.frame _, fun h => by cases h⟩

set_option maxRecDepth 100000 in
theorem lifted (os : Os) (started : os.Started) (H : Type) (enc : TypeId × Value → H) :
    ReturnsInHanded {} Try.checked os 9 .any (Rows.wireSequenceSpec.pre6 enc Try.prog Try.f9 Rows.wireSequenceRow.domain false) (Rows.wireSequenceSpec.post enc Try.prog Try.f9 false true false false) := by
  refine returnsInHanded_of_change_sized (C := Try.checked) own started (by kernel_rfl) Try.func9
    (ChangeSpec.witness6 (enc := enc) (C := Try.checked) false ⟨#[], #[.slice none 0 0], []⟩ 8 (by kernel_rfl) (by kernel_rfl) (by kernel_rfl) (by kernel_rfl)) ?_
  intro W base args ds gs before hval hW _ hsz _
  exact contract H enc W base args ds gs before hval hW hsz

/-- The statement. -/
theorem proved : Rows.WireSequenceSaid :=
  OpenClaim.holds_of_wide 9 Try.f9 rfl rfl rfl rfl rfl rfl rfl ⟨rfl, rfl, rfl, rfl, rfl⟩ rfl rfl rfl rfl rfl (by kernel_rfl) Try.func9 (by kernel_rfl)
    (of_decide_eq_true (by kernel_rfl)) (by unfold Func.isWrapper; rw [if_neg (of_decide_eq_false (by kernel_rfl))]; exact ⟨rfl, rfl⟩)
    (fun os started H enc _ => lifted os started H enc)

end Go.Proofs.Ytnnefhiffadihaa.wireSeq
