/-
 The law's own rows of texts.
-/
import Derived.Test.YtfeemipnalgjnaaGreatHd
import Derived.Test.YtfeemipnalgjnaaGreatWth
import Derived.Test.YtfeemipnalgjnaaGreatGG
namespace Go.Proofs.YtfeemipnalgjnaaGreat
open Go.RowKit

/-- texts that can be read from an address on -/
def Sts (w : World) (B : Nat) (A : Option Addr) (l : List ByteArray) : Prop := RowAt 1 w B A (l.map fun s => [.string s])
theorem Sts.below {w w' : World} {B : Nat} {A : Option Addr} {l : List ByteArray} (h : Sts w B A l) (hb : Below B w w') : Sts w' B A l := RowAt.below h hb
theorem Sts.one {w : World} {B : Nat} {A : Option Addr} {l : List ByteArray} {i : Nat} {s : ByteArray} (h : Sts w B A l) (hi : l[i]? = some s) : ∃ b off, A = some ⟨b, off, none⟩ ∧ b < B ∧ w.cell? ⟨b, off + i, none⟩ = some (.string s) := by
 obtain ⟨b, off, e, hlt, hc⟩ := RowAt.one h (vs := [.string s]) (i := i) (by rw [List.getElem?_map, hi]; rfl)
 refine ⟨b, off, e, hlt, ?_⟩
 have := hc 0 _ rfl
 rw [Nat.mul_one] at this
 exact this
theorem getS_of {l : List ByteArray} {k : Nat} (h : k < l.length) : ∃ f, l[k]? = some f := ⟨l[k], List.getElem?_eq_getElem h⟩
/-- a row of texts, the numbers from i on -/
def txR (i : Int) : List ByteArray → List Ce
 | [] => []
 | s :: r => ⟨i, ⟨false, 0, s⟩⟩ :: txR (i + 1) r
theorem tx_app (s : ByteArray) : ∀ (l : List ByteArray) (i : Int), txR i (l ++ [s]) = txR i l ++ [⟨i + l.length, ⟨false, 0, s⟩⟩]
 | [], i => by simp [txR]
 | t :: r, i => by
  rw [List.cons_append, txR, tx_app s r, txR, List.length_cons, List.cons_append, show i + 1 + (r.length : Int) = i + ((r.length + 1 : Nat) : Int) by omega]
theorem tx_len : ∀ (l : List ByteArray) (i : Int), (txR i l).length = l.length
 | [], _ => rfl
 | t :: r, i => by rw [txR, List.length_cons, tx_len r, List.length_cons]
theorem tx_take {l : List ByteArray} {k : Nat} {s : ByteArray} {i : Int} (h : l[k]? = some s) : txR i (l.take (k + 1)) = txR i (l.take k) ++ [⟨i + k, ⟨false, 0, s⟩⟩] := by
 have hl := (List.getElem?_eq_some_iff.1 h).1
 rw [List.take_add_one, h, Option.toList_some, tx_app, List.length_take, Nat.min_eq_left (by omega)]
theorem step_push_ce {w : World} {ops : Array Oper} {o : Oper} {a : Act} {K : Act → World → Prop} {Q : Exit → Act → World → Prop} {F : Prop} (hgd : o.guard = none) (d x : Operand)
  (ho : o.op = .call { callee := .builtin .append, args := #[d, x], argTypes := #[28, 28] }) (base : Nat) (v : Value) (acc : List Ce) (f : Ce) (g n : Nat) (hs : a.eval d = v) (hx : a.eval x = .slice (some ⟨g, 0, none⟩) 1 1) (hn : n = acc.length)
  (hr : Own 66 4 w base v (acc.map Ce.cells)) (hg : CB w g 66 f.cells) (hroom : n ≤ 1000000) (hbase : base ≤ w.heap.size)
  (hK : ∀ A' c' w', Own 66 4 w' base (.slice A' (n + 1) c') ((acc ++ [f]).map Ce.cells) → w.grownBy w' v.ownBlock → Below base w w' → K (a.put o.dst (.slice A' (n + 1) c')) w') : if Region.wanted o (yielded ops a.tmps) = true then Oper.wp Tryz.prog o a w K Q else F := by
 subst hn
 refine step_push hgd d x ho Tryz.underlying28 infoCe rfl (by decide) base v (acc.map Ce.cells) f.cells g hs hx hr hg rfl (one_ce f) (by rw [List.length_map]; omega) (by decide) hbase ?_
 intro A' c' w' h1 h2 h3
 rw [List.length_map] at h1 ⊢
 exact hK A' c' w' (by simpa using h1) h2 h3

set_option maxHeartbeats 4000000 in
set_option maxRecDepth 20000 in
theorem text_any (id : Int) (A : Option Addr) (n c : Nat) (L : List ByteArray) (w : World) (hn : n = L.length) (hs : Sts w w.heap.size A L) (hid : 0 ≤ id ∧ id ≤ 1000) (hl : n ≤ 1000) :
  Calls Tryz.prog 30 #[.int .i64 id, .slice A n c] w fun e w' => RetO w w' (txR id L) e ∧ Below w.heap.size w w' := by
 have HN := Li hn
 have HS := Li hs
 clear hn hs
 have T0 := Li ((CB.new w 30 [.slice none 0 0]).alloc (.cells #[.slice none 0 0] 30))
 have U0 := Li (CB.new1 w (.cells #[.slice none 0 0] 30) 30 [.slice none 0 0])
 have B0 := Li (al2 w (.cells #[.slice none 0 0] 30) (.cells #[.slice none 0 0] 30))
 go_enter Tryz.func30, Tryz.ntmps30
 go_wp2
 go_loopw [6] (fun j wr => ∃ (k c' : Nat) (A' : Option Addr), k ≤ n ∧ j = .int .i64 k ∧ Hid (CB wr w.heap.size 30 [.slice none 0 0]) ∧ Hid (CB wr (w.heap.size + 1) 30 [.slice A' k c']) ∧ Hid (Own 66 4 wr w.heap.size (.slice A' k c') ((txR id (L.take k)).map Ce.cells)) ∧ Hid (Below w.heap.size w wr)) (fun j _ => n - (intOf j).toNat)
 case atStart => exact ⟨0, 0, none, by omega, rfl, T0, U0, Own.nil _ _ _ _, B0⟩
 case round =>
  obtain ⟨k, c', A', hk, rfl, T1, U1, O1, B1⟩ := hrel
  have u0 := U1.out.cell 0 rfl
  have zT := T1.out.lt
  have zU := U1.out.lt
  by_cases hlt : k < n
  ·
   have i1 : (k : Int) < (n : Int) := by omega
   have i0 : (0 : Int) ≤ (k : Int) := by omega
   obtain ⟨s, hf⟩ := getS_of (l := L) (k := k) (by rw [← HN.out]; exact hlt)
   obtain ⟨b, off, rfl, hb, c0⟩ := (HS.out.below B1.out).one hf
   have hwx : IntKind.i64.wrap (id + k) = id + k := IntWalk.i64_in _ (by omega)
   have HT := Li (tx_take (i := id) hf)
   have HLN : Hid (k = (txR id (L.take k)).length) := by show k = _; rw [tx_len, List.length_take]; have := HN.out; omega
   have zb : b < wr.heap.size := Nat.lt_of_lt_of_le hb B1.out.size
   clear hf
   go_upto_region 5 with fail
   replace T1 := Li T1.out.dr
   replace U1 := Li U1.out.dr
   replace O1 := Li O1.out.dr
   replace B1 := Li B1.out.drew
   replace u0 : wr.drew.cell? ⟨w.heap.size + 1, 0, none⟩ = some (.slice A' k c') := u0
   replace c0 : wr.drew.cell? ⟨b, off + k, none⟩ = some (.string s) := c0
   replace zT : w.heap.size < wr.drew.heap.size := zT
   replace zU : w.heap.size + 1 < wr.drew.heap.size := zU
   replace zb : b < wr.drew.heap.size := zb
   refine wp_region_held_drew (S := fun w' => Hid (w'.cell? ⟨b, off + k, none⟩ = some (.string s))) (by kernel_rfl) (Li c0) (fun hHeld => ?_)
   revert hHeld T1 U1 O1 B1 u0 c0 zT zU zb
   generalize wr.drew = X0
   intro T1 U1 O1 B1 u0 c0 zT zU zb hHeld
   have HW := Li ((B1.out.cell (p := ⟨b, off + k, none⟩) hb).symm.trans c0)
   refine htl 0 ?_ ?_ ?_
   rotate_left
   ·
    intro w hSw
    clear hSw
    go_simp
    try with_reducible rfl
   try simp only [pnz]
   refine htl 2 ?_ ?_ ?_
   rotate_left
   ·
    intro w hSw
    clear hSw
    go_simp
    try with_reducible rfl
   try simp only [pnz]
   refine htl 3 ?_ ?_ ?_
   rotate_left
   ·
    intro w hSw
    clear hSw
    go_simp
    try with_reducible rfl
   try simp only [pnz]
   refine htl 4 ?_ ?_ ?_
   rotate_left
   ·
    intro w hSw
    clear hSw
    go_simp
    try with_reducible rfl
   try simp only [pnz]
   refine htl 5 ?_ ?_ ?_
   rotate_left
   ·
    intro w hSw
    clear hSw
    go_simp
    try with_reducible rfl
   try simp only [pnz]
   refine htl 6 ?_ ?_ ?_
   rotate_left
   ·
    intro w hSw
    clear hSw
    go_simp
    try with_reducible rfl
   try simp only [pnz]
   refine htl 7 ?_ ?_ ?_
   rotate_left
   ·
    intro w hSw
    clear hSw
    go_simp
    try with_reducible rfl
   try simp only [pnz]
   refine htl 8 ?_ ?_ ?_
   rotate_left
   ·
    intro w hSw
    have c00 := hSw.out
    clear hSw
    go_simp
    try with_reducible rfl
   try simp only [pnz]
   refine htl 9 ?_ ?_ ?_
   rotate_left
   ·
    intro w hSw
    clear hSw
    go_simp
    try with_reducible rfl
   try simp only [pnz]
   refine htl 10 ?_ ?_ ?_
   rotate_left
   ·
    intro w hSw
    clear hSw
    go_simp
    try with_reducible rfl
   try simp only [pnz]
   refine rd2 1 11 (fun KK hK => ?_) (fun KK hK => ?_)
   ·
    go_simp
    skip
    refine hK.out _ _ (hHeld) (fun hHeld => ?_)
    clear hK KK
    try simp only [pnz]
    refine rd1 11 fun KK hK => ?_
    go_simp
    skip
    refine hK.out _ _ (Li (((al1 _ _).cell (p := ⟨b, off + k, none⟩) zb).trans hHeld.out)) (fun hHeld => ?_)
    clear hK KK
    try simp only [pnz]
    refine rd1 12 fun KK hK => ?_
    refine step_push_ce rfl (.tmp 15) (.tmp 25) rfl w.heap.size (.slice A' k c') (txR id (L.take k)) ⟨id + k, ⟨false, 0, s⟩⟩ X0.heap.size k rfl rfl HLN.out (O1.out.alloc _) (CB.new _ _ _) (by omega) (Nat.le_of_lt (Nat.lt_of_lt_of_le zT (al1 _ _).size)) ?_
    intro A8 c8 w8 ho8 hg8 hb8
    have T8 := Li ((T1.out.alloc _).grown hg8 (Own.ne O1.out T1.out (by decide)))
    have U8 := Li ((U1.out.alloc _).grown hg8 (Own.ne O1.out U1.out (by decide)))
    have HO8 := Li ho8
    have hb9 : Below w.heap.size X0 w8 := (Below.mono (al1 _ _) (Nat.le_of_lt zT)).trans hb8
    have B8 := Li (B1.out.trans hb9)
    have HC8 := Li ((hb9.cell (p := ⟨b, off + k, none⟩) hb).trans c0)
    have y0 := U8.out.cell 0 rfl
    have y1 := U8.out.frozen 0
    have zU8 := U8.out.lt
    clear ho8 hg8 hb8 hb9
    refine hK.out _ _ (HC8) (fun hHeld => ?_)
    clear hK KK
    try simp only [pnz]
    refine htl 13 ?_ ?_ ?_
    rotate_left
    ·
     intro w hSw
     clear hSw
     go_simp
     try with_reducible rfl
    try simp only [pnz]
    refine rd1 14 fun KK hK => ?_
    go_simp
    skip
    refine hK.out _ _ (Li (((B8.out.setCell (p := ⟨w.heap.size + 1, 0, none⟩) (by show w.heap.size ≤ w.heap.size + 1; omega) (.slice A8 (k + 1) c8)).cell (p := ⟨b, off + k, none⟩) hb).trans HW.out)) (fun hHeld => ?_)
    clear hK KK
    try simp only [pnz]
    refine wpAnyH_done (by kernel_rfl) ?_ _
    go_wp2
    go_roundw
    case rel => exact ⟨k + 1, c8, A8, by omega, by go_num, Li (T8.out.set_other (g' := w.heap.size + 1) 0 (.slice A8 (k + 1) c8) (by omega)), Li (U8.out.set_ 0 (.slice A8 (k + 1) c8)), Li (by rw [HT.out]; exact HO8.out.set_ 0 (.slice A8 (k + 1) c8) (Own.ne HO8.out U8.out (by decide))), Li (B8.out.setCell (p := ⟨w.heap.size + 1, 0, none⟩) (by show w.heap.size ≤ w.heap.size + 1; omega) (.slice A8 (k + 1) c8))⟩
    case measure => simp [intOf]; omega
   ·
    go_simp
    skip
    refine hK.out _ _ (Li (((al1 _ _).cell (p := ⟨b, off + k, none⟩) zb).trans hHeld.out)) (fun hHeld => ?_)
    clear hK KK
    try simp only [pnz]
    refine rd1 1 fun KK hK => ?_
    go_simp
    skip
    refine hK.out _ _ (hHeld) (fun hHeld => ?_)
    clear hK KK
    try simp only [pnz]
    refine rd1 12 fun KK hK => ?_
    refine step_push_ce rfl (.tmp 15) (.tmp 25) rfl w.heap.size (.slice A' k c') (txR id (L.take k)) ⟨id + k, ⟨false, 0, s⟩⟩ X0.heap.size k rfl rfl HLN.out (O1.out.alloc _) (CB.new _ _ _) (by omega) (Nat.le_of_lt (Nat.lt_of_lt_of_le zT (al1 _ _).size)) ?_
    intro A8 c8 w8 ho8 hg8 hb8
    have T8 := Li ((T1.out.alloc _).grown hg8 (Own.ne O1.out T1.out (by decide)))
    have U8 := Li ((U1.out.alloc _).grown hg8 (Own.ne O1.out U1.out (by decide)))
    have HO8 := Li ho8
    have hb9 : Below w.heap.size X0 w8 := (Below.mono (al1 _ _) (Nat.le_of_lt zT)).trans hb8
    have B8 := Li (B1.out.trans hb9)
    have HC8 := Li ((hb9.cell (p := ⟨b, off + k, none⟩) hb).trans c0)
    have y0 := U8.out.cell 0 rfl
    have y1 := U8.out.frozen 0
    have zU8 := U8.out.lt
    clear ho8 hg8 hb8 hb9
    refine hK.out _ _ (HC8) (fun hHeld => ?_)
    clear hK KK
    try simp only [pnz]
    refine htl 13 ?_ ?_ ?_
    rotate_left
    ·
     intro w hSw
     clear hSw
     go_simp
     try with_reducible rfl
    try simp only [pnz]
    refine rd1 14 fun KK hK => ?_
    go_simp
    skip
    refine hK.out _ _ (Li (((B8.out.setCell (p := ⟨w.heap.size + 1, 0, none⟩) (by show w.heap.size ≤ w.heap.size + 1; omega) (.slice A8 (k + 1) c8)).cell (p := ⟨b, off + k, none⟩) hb).trans HW.out)) (fun hHeld => ?_)
    clear hK KK
    try simp only [pnz]
    refine wpAnyH_done (by kernel_rfl) ?_ _
    go_wp2
    go_roundw
    case rel => exact ⟨k + 1, c8, A8, by omega, by go_num, Li (T8.out.set_other (g' := w.heap.size + 1) 0 (.slice A8 (k + 1) c8) (by omega)), Li (U8.out.set_ 0 (.slice A8 (k + 1) c8)), Li (by rw [HT.out]; exact HO8.out.set_ 0 (.slice A8 (k + 1) c8) (Own.ne HO8.out U8.out (by decide))), Li (B8.out.setCell (p := ⟨w.heap.size + 1, 0, none⟩) (by show w.heap.size ≤ w.heap.size + 1; omega) (.slice A8 (k + 1) c8))⟩
    case measure => simp [intOf]; omega

  ·
   have i1 : ¬ (k : Int) < (n : Int) := by omega
   have HX := Li (show txR id (L.take k) = txR id L by rw [List.take_of_length_le (by rw [← HN.out]; omega)])
   have HY := Li (show k = (txR id L).length by rw [tx_len, ← HN.out]; omega)
   go_wp2_with ((with_reducible show wpList _ _ _ (Oper.mk none (.store _ _ _) _ _ _ _ :: _) _ _); go_loud (refine wpList_store_cb rfl 30 (.tmp 4) (.tmp 28) rfl w.heap.size [.slice A' k c'] rfl rfl 30 [.slice none 0 0] 1 T1.out sizeRo rfl rfl (fun u hu => by simp at hu; subst hu; rfl) ?_; intro wz hcz hgz hzz))
   refine bodyPost_ret (res_cell1 Tryz.results30 rfl hcz Tryz.underlying30 sizeRo rfl) rfl ⟨?_, below_grown B1.out hgz B1.out.size (Nat.le_refl _)⟩
   have hfin := O1.out.kept hgz (.inr (Own.ne O1.out T1.out (by decide)).symm)
   rw [HX.out] at hfin
   rw [HY.out] at hfin ⊢
   exact ⟨A', c', rfl, hfin⟩
end Go.Proofs.YtfeemipnalgjnaaGreat
