/-
  The reference's Rows: rows from raw numbers, by a contract.
-/
import Derived.Test.YtlndpclgljfloaaNmb
import Derived.Test.YtlndpclgljfloaaJoi
import Derived.BigRegion
namespace Go.Proofs.Ytlndpclgljfloaa
open Go.RowKit

theorem infoCe : (Try.prog.info? 81).map (fun i => (i.zero, i.size, i.bytes)) = some (some (.agg #[.int .i64 0, .bool false, .int .i64 0, .string ⟨#[]⟩]), 4, 40) := by kernel_rfl
theorem infoRo : (Try.prog.info? 77).map (fun i => (i.zero, i.size, i.bytes)) = some (some (.agg #[.slice none 0 0]), 1, 24) := by kernel_rfl
/-- raw numbers that lie in memory -/
structure Rw where
  A : Option Addr
  c : Nat
  l : List Int
def RawAt (X : World) (B : Nat) (A : Option Addr) (rs : List Rw) : Prop := RowAt 1 X B A (rs.map fun r => [.slice r.A r.l.length r.c]) ∧ ∀ r ∈ rs, RowAt 1 X B r.A (r.l.map fun x => [.int .i64 x])
theorem raw_one {X : World} {B : Nat} {A : Option Addr} {rs : List Rw} (h : RawAt X B A rs) {j : Nat} {r : Rw} (hr : rs[j]? = some r) :
    ∃ b off, A = some ⟨b, off, none⟩ ∧ b < B ∧ X.cell? ⟨b, off + j, none⟩ = some (.slice r.A r.l.length r.c) ∧ RowAt 1 X B r.A (r.l.map fun x => [.int .i64 x]) := by
  obtain ⟨b, off, e, hlt, hc⟩ := RowAt.one h.1 (i := j) (vs := [.slice r.A r.l.length r.c]) (by rw [List.getElem?_map, hr]; rfl)
  have := hc 0 _ rfl
  rw [Nat.mul_one] at this
  exact ⟨b, off, e, hlt, this, h.2 r (List.mem_of_getElem? hr)⟩
theorem nums_one {X : World} {B : Nat} {A : Option Addr} {l : List Int} (h : RowAt 1 X B A (l.map fun x => [.int .i64 x])) {j : Nat} {x : Int} (hx : l[j]? = some x) : ∃ b off, A = some ⟨b, off, none⟩ ∧ b < B ∧ X.cell? ⟨b, off + j, none⟩ = some (.int .i64 x) := by
  obtain ⟨b, off, e, hlt, hc⟩ := RowAt.one h (i := j) (vs := [.int .i64 x]) (by rw [List.getElem?_map, hx]; rfl)
  have := hc 0 _ rfl
  rw [Nat.mul_one] at this
  exact ⟨b, off, e, hlt, this⟩
/-- the cells of the first k raw numbers -/
def celL (l : List Int) : Nat → List (Int × Int)
  | 0 => []
  | k + 1 => match l[k]? with
    | some x => if x.tmod 7 = 0 then celL l k else celL l k ++ [(((k : Int) + 1), x)]
    | none => celL l k
theorem celL_skip {l : List Int} {k : Nat} {x : Int} (h : l[k]? = some x) (h0 : x.tmod 7 = 0) : celL l (k + 1) = celL l k := by
  simp only [celL, h, if_pos h0]
theorem celL_push {l : List Int} {k : Nat} {x : Int} (h : l[k]? = some x) (h0 : ¬ x.tmod 7 = 0) : celL l (k + 1) = celL l k ++ [(((k : Int) + 1), x)] := by
  simp only [celL, h, if_neg h0]
theorem celL_len {l : List Int} : ∀ {k : Nat}, (celL l k).length ≤ k
  | 0 => Nat.le_refl _
  | k + 1 => by
    have := celL_len (l := l) (k := k)
    unfold celL
    split
    · split
      · omega
      · rw [List.length_append]; simp; omega
    · omega
def rowC (l : List Int) : List (Int × Int) := celL l (min l.length 2)
theorem own_ne {E E' : TypeId} {k k' : Nat} {w : World} {b b' : Nat} {v v' : Value} {L L' : List (List Value)} (h : Own E k w b v L) (h' : Own E' k' w b' v' L') (ht : E ≠ E') : v.ownBlock = none ∨ v.ownBlock ≠ v'.ownBlock := by
  rcases h.1.2 with ⟨e, _⟩ | ⟨g, cap, cur, e, _, hg, _⟩
  · left; rw [e]; rfl
  · rcases h'.1.2 with ⟨e', _⟩ | ⟨g', cap', cur', e', _, hg', _⟩
    · right; rw [e, e']; intro hx; cases hx
    · right
      rw [e, e']
      intro hx
      have hx' : some g = some g' := hx
      injection hx' with hx'
      subst hx'
      rw [hg] at hg'
      have := Option.some.inj hg'
      injection this with _ h2
      exact ht h2
theorem own_emptyR {E : TypeId} {k : Nat} (w : World) (c : Array Value) (hc : c = #[]) : Own E k (w.alloc (.cells c E)) w.heap.size (.slice (some ⟨w.heap.size, 0, none⟩) 0 0) [] := by
  subst hc
  exact ⟨⟨by simp, .inr ⟨w.heap.size, 0, #[], rfl, Nat.le_refl _, heap_alloc_new w _, Nat.le_refl _, by simp [maxLen], by simp, by simp⟩⟩, fun _ h => by simp at h⟩
def rowV (r : Hr) : List Value := [.slice r.A r.l.length r.c]
def CelO (X : World) (B : Nat) (r : Hr) : Prop := Own 81 4 X B (.slice r.A r.l.length r.c) (r.l.map ceV)
/-- the rows so far -/
structure RwO (w : World) (A : Option Addr) (i c : Nat) (rs : List Hr) (X : World) : Prop where
  bel : Below w.heap.size w X
  out : Own 77 1 X w.heap.size (.slice A i c) (rs.map rowV)
  cel : ∀ r ∈ rs, CelO X w.heap.size r
theorem RwO.up {w X X' : World} {A : Option Addr} {i c : Nat} {rs : List Hr} (h : RwO w A i c rs X) (hb : Below X.heap.size X X') : RwO w A i c rs X' :=
  ⟨below_step h.bel h.bel.size hb, h.out.up hb, fun r hr => Own.up (h.cel r hr) hb⟩
theorem RwO.at_ {w X : World} {A : Option Addr} {i c : Nat} {rs : List Hr} (h : RwO w A i c rs X) : RwsAt X X.heap.size A rs :=
  ⟨h.out.row.2.2.2, fun r hr => (Own.row (h.cel r hr)).2.2.2⟩
/-- the row that is made -/
structure RwI (w : World) (A : Option Addr) (i c : Nat) (rs : List Hr) (W : World) (D : Option Addr) (n d : Nat) (l : List (Int × Int)) (X : World) : Prop where
  rows : RwO w A i c rs W
  bel : Below W.heap.size W X
  box : CB X W.heap.size 77 [.slice D n d]
  cur : Own 81 4 X W.heap.size (.slice D n d) (l.map ceV)
theorem RwI.up {w W X X' : World} {A D : Option Addr} {i c n d : Nat} {rs : List Hr} {l : List (Int × Int)} (h : RwI w A i c rs W D n d l X) (hb : Below X.heap.size X X') : RwI w A i c rs W D n d l X' :=
  ⟨h.rows, below_step h.bel h.bel.size hb, h.box.up hb, h.cur.up hb⟩
set_option maxHeartbeats 8000000 in
set_option maxRecDepth 20000 in
theorem RRows_any (A : Option Addr) (n c N : Nat) (rs : List Rw) (w : World) (hn : n = rs.length) (hs : RawAt w w.heap.size A rs) (hl : n ≤ 140737488351232) (hN : N ≤ 60) (hrl : ∀ r ∈ rs, r.l.length ≤ 140737488351232) :
    Calls Try.prog 17 #[.slice A n c, .int .i64 N] w fun e w' => ∃ (D : Option Addr) (m d : Nat) (out : List Hr), e = .returned (.slice D m d) ∧ m = out.length ∧ (out.map (·.l)) = (rs.take N).map (fun r => rowC r.l) ∧ RwO w D m d out w' := by
  have HN := Li hn
  have HS := Li hs
  have HRL := Li hrl
  clear hn hs hrl
  have O0 := Li (show RwO w (some ⟨w.heap.size, 0, none⟩) 0 0 [] (w.alloc (.cells #[] 77)) from ⟨al1 w _, own_emptyR w _ rfl, fun _ h => by cases h⟩)
  go_enter Try.func17, Try.ntmps17
  go_wp2_with fail
  go_loopw [5, 6, 7] (fun s5 s6 s7 wr => ∃ (i : Nat) (D : Option Addr) (d : Nat) (out : List Hr), i ≤ n ∧ i ≤ N ∧ s6 = .int .i64 i ∧ s5 = .slice D i d ∧ Hid (out.length = i ∧ out.map (·.l) = (rs.take i).map (fun r => rowC r.l)) ∧ Hid (RwO w D i d out wr)) (fun _ s6 _ _ => n - (intOf s6).toNat)
  case atStart => exact ⟨0, _, _, [], by omega, by omega, rfl, rfl, Li ⟨rfl, by simp⟩, O0⟩
  case round =>
    clear O0
    obtain ⟨i, D, d, out, hi, hiN, rfl, rfl, HL, HO⟩ := hrel
    generalize wr = Wi at *
    by_cases hin : i < n
    · have i1 : (i : Int) < (n : Int) := by omega
      by_cases hiN2 : i < N
      · have i2 : (i : Int) < (N : Int) := by omega
        obtain ⟨r, hr⟩ : ∃ r, rs[i]? = some r := ⟨_, List.getElem?_eq_getElem (by rw [← HN.out]; exact hin)⟩
        have HR := Li hr
        obtain ⟨b, off, rfl, zb, cr, hnum⟩ := raw_one HS.out hr
        have CR := Li cr
        have HNU := Li hnum
        have hrl := HRL.out r (List.mem_of_getElem? hr)
        clear hr cr hnum
        obtain ⟨q, hq⟩ : ∃ q, r.l.length = q := ⟨_, rfl⟩
        rw [hq] at hrl
        have HQ := Li hq
        clear hq
        have I0 := Li (show RwI w D i d out Wi none 0 0 (celL r.l 0) (Wi.alloc (.cells #[.slice none 0 0] 77)) from ⟨HO.out, al1 Wi _, CB.new Wi _ [_], Own.nil _ _ _ _⟩)
        go_upto_region 6 with fail
        obtain ⟨g, hg⟩ : ∃ g, Wi.heap.size = g := ⟨_, rfl⟩
        rw [hg]
        have HG := Li hg
        clear hg
        generalize Wi.alloc (.cells #[.slice none 0 0] 77) = X0 at I0
        revert I0
        generalize Wi.alloc (.cells #[.slice none 0 0] 77) = X0
        intro I0
        go_wp2_with fail
        go_loopw [8] (fun s8 wr => ∃ (k : Nat) (E : Option Addr) (m e : Nat), k ≤ q ∧ k ≤ 2 ∧ s8 = .int .i64 k ∧ Hid (RwI w D i d out Wi E m e (celL r.l k) wr)) (fun s8 _ => 2 - (intOf s8).toNat)
        case atStart => exact ⟨0, _, _, _, by omega, by omega, rfl, I0⟩
        case round =>
          clear I0
          obtain ⟨k, E, m, e, hk, hk2, rfl, HI⟩ := hrel
          have c1 : wr.cell? ⟨b, off + i, none⟩ = some (.slice r.A q r.c) := by
            rw [(below_step HO.out.bel HO.out.bel.size HI.out.bel).cell (p := ⟨b, off + i, none⟩) zb, CR.out, HQ.out]
          have c2 : b < wr.heap.size := Nat.lt_of_lt_of_le zb (below_step HO.out.bel HO.out.bel.size HI.out.bel).size
          by_cases hkq : k < q
          · have k1 : (k : Int) < (q : Int) := by omega
            by_cases hk3 : k < 2
            · have k2 : (k : Int) < 2 := by omega
              obtain ⟨x, hx⟩ : ∃ x, r.l[k]? = some x := ⟨_, List.getElem?_eq_getElem (by rw [HQ.out]; exact hkq)⟩
              have HX := Li hx
              obtain ⟨bb, oo, hA, zbb, cx⟩ := nums_one HNU.out hx
              rw [hA] at c1
              have CX := Li cx
              have c3 : wr.cell? ⟨bb, oo + k, none⟩ = some (.int .i64 x) := by
                rw [(below_step HO.out.bel HO.out.bel.size HI.out.bel).cell (p := ⟨bb, oo + k, none⟩) zbb, CX.out]
              have c4 : bb < wr.heap.size := Nat.lt_of_lt_of_le zbb (below_step HO.out.bel HO.out.bel.size HI.out.bel).size
              clear hx cx
              by_cases hx7 : x.tmod 7 = 0
              · have e7 : ((x.tmod 7) != 0) = false := by rw [hx7]; rfl
                have I1 := Li (show RwI w D i d out Wi E m e (celL r.l (k + 1)) wr from by rw [celL_skip HX.out hx7]; exact HI.out)
                go_wp2_with fail
                go_roundw
                case rel => exact ⟨k + 1, _, _, _, by omega, by omega, by go_num, I1⟩
                case measure => first | (simp [intOf]; done) | (simp [intOf]; omega) | omega | (simp; omega)
              · have e7 : ((x.tmod 7) != 0) = true := by simp [hx7]
                go_upto_region 10 with fail
                have I1 := Li (HI.out.up (bd _))
                have CR2 := Li (show w.cell? ⟨b, off + i, none⟩ = some (.slice (some ⟨bb, oo, none⟩) q r.c) from by rw [CR.out, HQ.out, hA])
                clear c1 c2 c3 c4 HI CR
                have PP := Li (below_step HO.out.bel HO.out.bel.size I1.out.bel)
                have wk : IntKind.i64.wrap ((k : Int) + 1) = (k : Int) + 1 := by rw [IntKind.wrap_i64]; omega
                refine wp_region_held_drew (S := fun Z => Hid (Below w.heap.size w Z)) (by kernel_rfl) PP (fun hHeld => ?_)
                revert hHeld PP I1
                generalize wr.drew = Y
                intro I1 PP hHeld
                refine htk 0 ?_
                refine htk 2 ?_
                refine htk 3 ?_
                refine htk 4 ?_
                refine htk 5 ?_
                refine htk 6 ?_
                refine htf 7 (fun _ h => And.intro ((h.out.cell (p := ⟨b, off + i, none⟩) zb).trans CR2.out) (Nat.lt_of_lt_of_le zb h.out.size)) ?_
                refine htk 8 ?_
                refine htk 9 ?_
                refine htf 10 (fun _ h => And.intro ((h.out.cell (p := ⟨bb, oo + k, none⟩) zbb).trans CX.out) (Nat.lt_of_lt_of_le zbb h.out.size)) ?_
                refine htk 11 ?_
                refine htk 12 ?_
                refine rd2 1 13 (fun KK hK => ?_) (fun KK hK => ?_)
                · have b1 := I1.out.box.c1
                  have b2 := I1.out.box.lt
                  rw [HG.out] at b1 b2
                  go_simp
                  refine hK.out _ _ hHeld (fun hHeld => ?_)
                  clear hK KK b1 b2
                  try simp only [pnz]
                  refine rd1 13 fun KK hK => ?_
                  go_simp
                  have Z1 := Li (I1.out.up (al1 Y (.cells #[.int .i64 ((k : Int) + 1), .bool false, .int .i64 x, .string ⟨#[]⟩] 81)))
                  have NC := Li (show CB (Y.alloc (.cells #[.int .i64 ((k : Int) + 1), .bool false, .int .i64 x, .string ⟨#[]⟩] 81)) Y.heap.size 81 (ceV ((k : Int) + 1, x)) from CB.new Y _ (ceV ((k : Int) + 1, x)))
                  refine hK.out _ _ (Li (below_step HO.out.bel HO.out.bel.size Z1.out.bel)) (fun hHeld => ?_)
                  clear hK KK
                  try simp only [pnz]
                  revert hHeld Z1 NC
                  generalize (Y.alloc (.cells #[.int .i64 ((k : Int) + 1), .bool false, .int .i64 x, .string ⟨#[]⟩] 81)) = Z
                  intro Z1 NC hHeld
                  refine rd1 14 fun KK hK => ?_
                  refine step_push rfl (.tmp 45) (.tmp 57) rfl Try.underlying75 infoCe rfl (by decide) Wi.heap.size (.slice E m e) ((celL r.l k).map ceV) (ceV ((k : Int) + 1, x)) Y.heap.size rfl rfl Z1.out.cur NC.out rfl (by simp [ceV, Value.oneCell']) (by have := celL_len (l := r.l) (k := k); rw [List.length_map]; omega) (by decide) Z1.out.bel.size ?_
                  intro A7 c7 w7 ho hg hb
                  have hml : ((celL r.l k).map ceV).length = m := (Own.row Z1.out.cur).1.symm
                  rw [hml] at ho ⊢
                  have B7 := Li (Z1.out.bel.trans hb)
                  have O7 := Li (show Own 81 4 w7 Wi.heap.size (.slice A7 (m + 1) c7) ((celL r.l (k + 1)).map ceV) from by rw [celL_push HX.out hx7, List.map_append]; exact ho)
                  have X7 := Li (Z1.out.box.grown hg (Own.ne Z1.out.cur Z1.out.box (by decide)))
                  have H7 := Li (below_step HO.out.bel HO.out.bel.size B7.out)
                  clear ho hg hb hml
                  refine hK.out _ _ H7 (fun hHeld => ?_)
                  clear hK KK
                  try simp only [pnz]
                  refine htk 15 ?_
                  have q1 := X7.out.lt
                  have q2 := X7.out.frozen 0
                  have q3 := X7.out.c1
                  rw [HG.out] at q1 q2 q3
                  refine rd1 16 fun KK hK => ?_
                  go_simp
                  have hs := grown_set w7 g 0 (.slice A7 (m + 1) c7)
                  have I8 := Li (show RwI w D i d out Wi A7 (m + 1) c7 (celL r.l (k + 1)) (w7.setCell ⟨g, 0, none⟩ (.slice A7 (m + 1) c7)) from ⟨HO.out, below_grown B7.out hs B7.out.size (by rw [HG.out]; exact Nat.le_refl _), by rw [HG.out]; have := (show CB w7 g 77 [.slice E m e] from by have := X7.out; rwa [HG.out] at this).set_ 0 (.slice A7 (m + 1) c7); exact this, O7.out.kept hs (.inr (by have := Own.ne O7.out X7.out (by decide); rw [HG.out] at this; exact this.symm))⟩)
                  refine hK.out _ _ (Li (below_step HO.out.bel HO.out.bel.size I8.out.bel)) (fun hHeld => ?_)
                  clear hK KK
                  refine wpAnyH_done (by kernel_rfl) ?_ _
                  clear q1 q2 q3 hs
                  go_wp2_with fail
                  go_roundw
                  case rel => first | exact ⟨k + 1, _, _, _, by omega, by omega, by go_num, I8⟩ | ((repeat apply Exists.intro); exact ⟨⟨k + 1, _, _, _, by omega, by omega, by go_num, I8⟩, rfl⟩)
                  case measure => first | (simp [intOf]; done) | (simp [intOf]; omega)
                · go_simp
                  have Z1 := Li (I1.out.up (al1 Y (.cells #[.int .i64 ((k : Int) + 1), .bool false, .int .i64 x, .string ⟨#[]⟩] 81)))
                  have NC := Li (show CB (Y.alloc (.cells #[.int .i64 ((k : Int) + 1), .bool false, .int .i64 x, .string ⟨#[]⟩] 81)) Y.heap.size 81 (ceV ((k : Int) + 1, x)) from CB.new Y _ (ceV ((k : Int) + 1, x)))
                  refine hK.out _ _ (Li (below_step HO.out.bel HO.out.bel.size Z1.out.bel)) (fun hHeld => ?_)
                  clear hK KK
                  try simp only [pnz]
                  revert hHeld Z1 NC
                  generalize (Y.alloc (.cells #[.int .i64 ((k : Int) + 1), .bool false, .int .i64 x, .string ⟨#[]⟩] 81)) = Z
                  intro Z1 NC hHeld
                  have b1 := Z1.out.box.c1
                  have b2 := Z1.out.box.lt
                  rw [HG.out] at b1 b2
                  refine rd1 1 fun KK hK => ?_
                  go_simp
                  refine hK.out _ _ hHeld (fun hHeld => ?_)
                  clear hK KK b1 b2
                  try simp only [pnz]
                  refine rd1 14 fun KK hK => ?_
                  refine step_push rfl (.tmp 45) (.tmp 57) rfl Try.underlying75 infoCe rfl (by decide) Wi.heap.size (.slice E m e) ((celL r.l k).map ceV) (ceV ((k : Int) + 1, x)) Y.heap.size rfl rfl Z1.out.cur NC.out rfl (by simp [ceV, Value.oneCell']) (by have := celL_len (l := r.l) (k := k); rw [List.length_map]; omega) (by decide) Z1.out.bel.size ?_
                  intro A7 c7 w7 ho hg hb
                  have hml : ((celL r.l k).map ceV).length = m := (Own.row Z1.out.cur).1.symm
                  rw [hml] at ho ⊢
                  have B7 := Li (Z1.out.bel.trans hb)
                  have O7 := Li (show Own 81 4 w7 Wi.heap.size (.slice A7 (m + 1) c7) ((celL r.l (k + 1)).map ceV) from by rw [celL_push HX.out hx7, List.map_append]; exact ho)
                  have X7 := Li (Z1.out.box.grown hg (Own.ne Z1.out.cur Z1.out.box (by decide)))
                  have H7 := Li (below_step HO.out.bel HO.out.bel.size B7.out)
                  clear ho hg hb hml
                  refine hK.out _ _ H7 (fun hHeld => ?_)
                  clear hK KK
                  try simp only [pnz]
                  refine htk 15 ?_
                  have q1 := X7.out.lt
                  have q2 := X7.out.frozen 0
                  have q3 := X7.out.c1
                  rw [HG.out] at q1 q2 q3
                  refine rd1 16 fun KK hK => ?_
                  go_simp
                  have hs := grown_set w7 g 0 (.slice A7 (m + 1) c7)
                  have I8 := Li (show RwI w D i d out Wi A7 (m + 1) c7 (celL r.l (k + 1)) (w7.setCell ⟨g, 0, none⟩ (.slice A7 (m + 1) c7)) from ⟨HO.out, below_grown B7.out hs B7.out.size (by rw [HG.out]; exact Nat.le_refl _), by rw [HG.out]; have := (show CB w7 g 77 [.slice E m e] from by have := X7.out; rwa [HG.out] at this).set_ 0 (.slice A7 (m + 1) c7); exact this, O7.out.kept hs (.inr (by have := Own.ne O7.out X7.out (by decide); rw [HG.out] at this; exact this.symm))⟩)
                  refine hK.out _ _ (Li (below_step HO.out.bel HO.out.bel.size I8.out.bel)) (fun hHeld => ?_)
                  clear hK KK
                  refine wpAnyH_done (by kernel_rfl) ?_ _
                  clear q1 q2 q3 hs
                  go_wp2_with fail
                  go_roundw
                  case rel => first | exact ⟨k + 1, _, _, _, by omega, by omega, by go_num, I8⟩ | ((repeat apply Exists.intro); exact ⟨⟨k + 1, _, _, _, by omega, by omega, by go_num, I8⟩, rfl⟩)
                  case measure => first | (simp [intOf]; done) | (simp [intOf]; omega)
            · have k2 : ¬ (k : Int) < 2 := by omega
              have hke : k = min r.l.length 2 := by rw [HQ.out]; omega
              have b1 := HI.out.box.c1
              have b2 := HI.out.box.lt
              have HKE := Li hke
              rw [HG.out] at b1 b2
              clear hke
              go_upto_region 11 with fail
              have Z1 := Li (HI.out.up (al1 wr (.cells #[.slice E m e] 77)))
              have R1 := Li (HI.out.rows.up (HI.out.bel))
              have hml : (celL r.l k).length = m := by have := (Own.row HI.out.cur).1; rw [List.length_map] at this; exact this.symm
              go_wp2_with (at_builtin; refine wpList_push (E := 77) (T := 43) (k := 1) rfl (.tmp 60) (.tmp 62) rfl Try.underlying43 infoRo rfl (by decide) w.heap.size (.slice D i d) (out.map rowV) [.slice E m e] wr.heap.size rfl rfl rfl rfl R1.out.out rfl (by simp [Value.oneCell']) (by have := R1.out.out.row.1; omega) (by decide) R1.out.bel.size ?_; intro A7 c7 w7 ho hg hb; have G7 := Li hg; have B7 := Li hb; have O7 := Li ho; clear ho hg hb)
              go_roundw
              case rel =>
                refine ⟨i + 1, A7, c7, out ++ [⟨E, e, rowC r.l⟩], by omega, by omega, by go_num, ?_, Li ⟨by simp [HL.out.1], ?_⟩, Li ⟨?_, ?_, ?_⟩⟩
                · first | rfl | (rw [HL.out.1]) | (simp [HL.out.1]; done)
                · rw [List.map_append, HL.out.2, List.take_add_one, HR.out, List.map_append]; rfl
                · exact R1.out.bel.trans B7.out
                · have e1 : (out ++ [(⟨E, e, rowC r.l⟩ : Hr)]).map rowV = out.map rowV ++ [[.slice E m e]] := by
                    rw [List.map_append]; simp [rowV, rowC, ← HKE.out, hml]
                  have e2 : (out.map rowV ++ [[Value.slice E m e]]).length = i + 1 := by simp [HL.out.1]
                  rw [e1]
                  have := O7.out
                  rw [e2] at this
                  exact this
                · intro t ht
                  rcases List.mem_append.1 ht with ht | ht
                  · exact Own.kept (R1.out.cel t ht) G7.out (own_ne (R1.out.cel t ht) R1.out.out (by decide))
                  · rw [List.mem_singleton] at ht
                    subst ht
                    have o := HI.out.cur.low (b := w.heap.size) HO.out.bel.size
                    have o2 := Own.kept o G7.out (own_ne o R1.out.out (by decide))
                    show Own _ _ _ _ (.slice E (rowC r.l).length e) ((rowC r.l).map ceV)
                    unfold rowC
                    rw [← HKE.out, hml]
                    exact o2
              case measure => first | (simp [intOf]; done) | (simp [intOf]; omega) | omega | (simp; omega)
          · have k1 : ¬ (k : Int) < (q : Int) := by omega
            have hke : k = min r.l.length 2 := by rw [HQ.out]; omega
            have b1 := HI.out.box.c1
            have b2 := HI.out.box.lt
            have HKE := Li hke
            rw [HG.out] at b1 b2
            clear hke
            go_upto_region 11 with fail
            have Z1 := Li (HI.out.up (al1 wr (.cells #[.slice E m e] 77)))
            have R1 := Li (HI.out.rows.up (HI.out.bel))
            have hml : (celL r.l k).length = m := by have := (Own.row HI.out.cur).1; rw [List.length_map] at this; exact this.symm
            go_wp2_with (at_builtin; refine wpList_push (E := 77) (T := 43) (k := 1) rfl (.tmp 60) (.tmp 62) rfl Try.underlying43 infoRo rfl (by decide) w.heap.size (.slice D i d) (out.map rowV) [.slice E m e] wr.heap.size rfl rfl rfl rfl R1.out.out rfl (by simp [Value.oneCell']) (by have := R1.out.out.row.1; omega) (by decide) R1.out.bel.size ?_; intro A7 c7 w7 ho hg hb; have G7 := Li hg; have B7 := Li hb; have O7 := Li ho; clear ho hg hb)
            go_roundw
            case rel =>
              refine ⟨i + 1, A7, c7, out ++ [⟨E, e, rowC r.l⟩], by omega, by omega, by go_num, ?_, Li ⟨by simp [HL.out.1], ?_⟩, Li ⟨?_, ?_, ?_⟩⟩
              · first | rfl | (rw [HL.out.1]) | (simp [HL.out.1]; done)
              · rw [List.map_append, HL.out.2, List.take_add_one, HR.out, List.map_append]; rfl
              · exact R1.out.bel.trans B7.out
              · have e1 : (out ++ [(⟨E, e, rowC r.l⟩ : Hr)]).map rowV = out.map rowV ++ [[.slice E m e]] := by
                  rw [List.map_append]; simp [rowV, rowC, ← HKE.out, hml]
                have e2 : (out.map rowV ++ [[Value.slice E m e]]).length = i + 1 := by simp [HL.out.1]
                rw [e1]
                have := O7.out
                rw [e2] at this
                exact this
              · intro t ht
                rcases List.mem_append.1 ht with ht | ht
                · exact Own.kept (R1.out.cel t ht) G7.out (own_ne (R1.out.cel t ht) R1.out.out (by decide))
                · rw [List.mem_singleton] at ht
                  subst ht
                  have o := HI.out.cur.low (b := w.heap.size) HO.out.bel.size
                  have o2 := Own.kept o G7.out (own_ne o R1.out.out (by decide))
                  show Own _ _ _ _ (.slice E (rowC r.l).length e) ((rowC r.l).map ceV)
                  unfold rowC
                  rw [← HKE.out, hml]
                  exact o2
            case measure => first | (simp [intOf]; done) | (simp [intOf]; omega) | omega | (simp; omega)
      · obtain rfl : i = N := by omega
        go_wp2_with fail
        go_ret
        exact ⟨D, i, d, out, rfl, HL.out.1.symm, HL.out.2, HO.out⟩
    · obtain rfl : n = i := by omega
      go_wp2_with fail
      go_ret
      exact ⟨D, n, d, out, rfl, HL.out.1.symm, by rw [HL.out.2, List.take_of_length_le (by rw [← HN.out]; omega), List.take_of_length_le (by rw [← HN.out]; omega)], HO.out⟩
end Go.Proofs.Ytlndpclgljfloaa
