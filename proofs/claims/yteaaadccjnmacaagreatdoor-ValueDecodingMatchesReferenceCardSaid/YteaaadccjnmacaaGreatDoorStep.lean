/-
  What the laws' walks share: append in a region that draws its order, contracts at letters.
-/
import Derived.Test.YteaaadccjnmacaaGreatDoorSanV
import Derived.Test.YteaaadccjnmacaaGreatDoorCodM
import Derived.Test.YteaaadccjnmacaaGreatDoorQuoteP
namespace Go.Proofs.YteaaadccjnmacaaGreatDoor
open Go.RowKit Go.Lib

set_option maxRecDepth 100000 in
theorem step_growB {ops : Array Oper} {o : Oper} {a : Act} {w : World} {K : Act → World → Prop} {Q : Exit → Act → World → Prop} {E : Prop} (hgd : o.guard = none) (d x : Operand)
    (ho : o.op = .call { callee := .builtin .append, args := #[d, x], argTypes := #[22, 22] }) (base : Nat) (w0 : World) (v : Value) (l : List UInt8) (A : Option Addr) (p : List UInt8) (m c B n : Nat)
    (hs : a.eval d = v) (hx : a.eval x = .slice A m c) (hm : m = p.length) (hG : F4 base w0 w v l) (hp : Shows w B A p) (hroom : l.length + m ≤ 140737488355000) (hn : n = (l ++ p).length)
    (hK : ∀ A' c' w', Owns w' base (.slice A' n c') (l ++ p) → Below base w0 w' → w.grownBy w' v.ownBlock → K (a.put o.dst (.slice A' n c')) w') :
    if Region.wanted o (yielded ops a.tmps) = true then Oper.wp Tryz.prog o a w K Q else E := by
  subst hm
  subst hn
  have hw : Region.wanted o (yielded ops a.tmps) = true := by simp [Region.wanted, hgd]
  rw [if_pos hw]
  obtain ⟨i, hi, hz0, hsz, hb⟩ := info_parts info5
  have e : (l ++ p).length = l.length + p.length := by simp
  cases A with
  | none =>
    have h0 : p = [] := by
      rcases Nat.eq_zero_or_pos p.length with h0 | h0
      · exact List.eq_nil_of_length_eq_zero h0
      · obtain ⟨b, off, h, _⟩ := hp h0
        cases h
    subst h0
    have hr := hG.own
    obtain ⟨A', c', rfl⟩ := hr.slice
    have hr' := hr
    have hrun : (Builtin.append_ #[22, 22] o.type #[.slice A' l.length c', .slice none 0 c]).run Tryz.prog w = .ok (.slice A' l.length c') w := by
      rcases hr.shape with ⟨e, rfl⟩ | ⟨g, cap, e, _, _, hcap⟩
      · injection e with e1 e2 e3
        subst e1 e3
        simp [Builtin.append_, run_underlying Tryz.underlying22, sizeOf, typeInfo, hi, Builtin.lenOf, Builtin.firstCells]
      · injection e with e1 e2 e3
        subst e1 e3
        exact run_append_nothing w 22 o.type i Tryz.underlying22 hi g l.length c' c hcap
    unfold Oper.wp execOp
    simp only [ho, resolve, invoke, builtin, Sem.run_bind, Sem.run_pure, Result.andThen_ok, List.map_toArray, List.map_cons, List.map_nil, hs, hx, List.length_nil, hrun]
    have h := hK A' c' w (by simpa using hr') hG.bel (World.grownBy.refl _ _)
    rw [List.append_nil] at h
    exact h
  | some ad =>
    refine wp_append_own _ d x 22 ho base 5 i (.int .u8 0) 1 1 Tryz.underlying22 hi hz0 hsz hb rfl (by decide) v l.length (cb l) hs hG.own ad p.length c (cb p) hx (by simp [cb]) ?_ (cb_one p) (by simp only [maxLen]; omega) (by omega) hG.top ?_
    · intro j u hj
      obtain ⟨v, hv, rfl⟩ := cb_get hj
      obtain ⟨b, off, h, _, hc⟩ := hp (by have := (List.getElem?_eq_some_iff.1 hv).1; omega)
      injection h with h
      subst h
      simpa [Addr.add_lit] using hc j v hv
    · intro v' w' h1 h3 _
      have ho' : Owns w' base v' (l ++ p) := by unfold Owns; rw [cb_app, e]; exact h1
      obtain ⟨A', c', rfl⟩ := ho'.slice
      exact hK A' c' w' ho' (grown_owns hG.own h3 hG.bel hG.top (Nat.le_refl _)) h3

theorem VB.grown {w w' : World} {h : Nat} {b : Bool} {n : Int} {s : ByteArray} {r : Option Nat} (k : VB w h b n s) (hg : w.grownBy w' r) (hne : some h ≠ r) : VB w' h b n s := by
  have e := hg.block h k.lt hne
  have c : ∀ o, w'.cell? ⟨h, o, none⟩ = w.cell? ⟨h, o, none⟩ := fun o => World.cell?_of_block (a := ⟨h, o, none⟩) e
  have f : ∀ o, w'.frozen? ⟨h, o, none⟩ = w.frozen? ⟨h, o, none⟩ := fun o => World.frozen?_of_block (a := ⟨h, o, none⟩) e
  exact ⟨(c 0).trans k.c0, (c 1).trans k.c1, (c 2).trans k.c2, (f 0).trans k.f0, (f 1).trans k.f1, (f 2).trans k.f2, Nat.lt_of_lt_of_le k.lt hg.size⟩
theorem VB.upB {w w' : World} {h B : Nat} {b : Bool} {n : Int} {s : ByteArray} (k : VB w h b n s) (hb : Below B w w') (hB : h < B) : VB w' h b n s :=
  ⟨(hb.cell (p := ⟨h, 0, none⟩) hB).trans k.c0, (hb.cell (p := ⟨h, 1, none⟩) hB).trans k.c1, (hb.cell (p := ⟨h, 2, none⟩) hB).trans k.c2, (hb.frozen (p := ⟨h, 0, none⟩) hB).trans k.f0, (hb.frozen (p := ⟨h, 1, none⟩) hB).trans k.f1, (hb.frozen (p := ⟨h, 2, none⟩) hB).trans k.f2, Nat.lt_of_lt_of_le k.lt hb.size⟩
/-- the world behind a store of a value -/
def set3 (w : World) (h : Nat) (b : Bool) (n : Int) (s : ByteArray) : World := ((w.setCell ⟨h, 0, none⟩ (.bool b)).setCell ⟨h, 1, none⟩ (.int .i64 n)).setCell ⟨h, 2, none⟩ (.string s)
theorem VB.set {w : World} {h : Nat} {b b' : Bool} {n n' : Int} {s s' : ByteArray} (k : VB w h b' n' s') : VB (set3 w h b n s) h b n s := by
  obtain ⟨c0, c1, c2, f0, f1, f2, lt⟩ := k
  unfold set3
  exact ⟨by simp [go_sem, c0, c1, c2, f0, f1, f2], by simp [go_sem, c0, c1, c2, f0, f1, f2], by simp [go_sem, c0, c1, c2, f0, f1, f2], by simp [go_sem, c0, c1, c2, f0, f1, f2], by simp [go_sem, c0, c1, c2, f0, f1, f2], by simp [go_sem, c0, c1, c2, f0, f1, f2], by simpa using lt⟩
theorem VB.put {w : World} {h g : Nat} {b b' : Bool} {n n' : Int} {s s' : ByteArray} (k : VB w h b' n' s') (hne : ¬ h = g) : VB (set3 w g b n s) h b' n' s' := by
  obtain ⟨c0, c1, c2, f0, f1, f2, lt⟩ := k
  have hne' : ¬ g = h := fun e => hne e.symm
  unfold set3
  exact ⟨by simp [go_sem, c0, hne, hne'], by simp [go_sem, c1, hne, hne'], by simp [go_sem, c2, hne, hne'], by simp [f0, hne, hne'], by simp [f1, hne, hne'], by simp [f2, hne, hne'], by simpa using lt⟩
theorem bl_set3 {B : Nat} {w X : World} {h : Nat} {b : Bool} {n : Int} {s : ByteArray} (k : Below B w X) (hB : B ≤ h) : Below B w (set3 X h b n s) := ((k.setCell hB _).setCell hB _).setCell hB _
theorem bl_st {w X : World} {p : Addr} {v : Value} (h : Below w.heap.size w X) (hp : w.heap.size ≤ p.block) : Below w.heap.size w (X.setCell p v) := h.setCell hp v
theorem VB.newAt (w : World) (b : Bool) (n : Int) (s : ByteArray) (g : Nat) (hg : g = w.heap.size) : VB (w.alloc (.cells #[.bool b, .int .i64 n, .string s] 24)) g b n s := by
  subst hg
  exact VB.new w b n s
theorem bl_of_dr {w X : World} (h : Below w.drew.heap.size w.drew X) : Below w.heap.size w X := ((Below.refl w.heap.size w).drew).trans h
theorem own_block {w : World} {base : Nat} {v : Value} {l : List UInt8} (h : Owns w base v l) {n : Nat} (hn : w.heap.size ≤ n) : some n ≠ v.ownBlock := by
  rcases h.shape with ⟨rfl, _⟩ | ⟨g, cap, rfl, _, hg, _⟩
  · intro h; cases h
  · intro h
    have : n = g := Option.some.inj h
    omega
theorem F4.ao {base : Nat} {w0 w : World} {v : Value} {l : List UInt8} (h : F4 base w0 w v l) (o : Obj) : F4 base w0 (w.alloc o) v l := ⟨h.bel.alloc h.top _, World.ownsRow.alloc h.own _, by have := h.top; simp; omega⟩
theorem shows_ao {w : World} {A : Option Addr} {l : List UInt8} (h : Shows w w.heap.size A l) (o : Obj) : Shows (w.alloc o) (w.alloc o).heap.size A l := h.up (val_al _ _)
theorem shows_dr {w : World} {A : Option Addr} {l : List UInt8} (h : Shows w w.heap.size A l) : Shows w.drew w.drew.heap.size A l := h.up ((Below.refl _ _).drew)
theorem shows_dn {w : World} {A : Option Addr} {l : List UInt8} {n : Nat} (h : Shows w w.heap.size A l) : Shows (w.drewN n) (w.drewN n).heap.size A l := h.up (below_dn (Below.refl _ _) n)
theorem F4.dn {base : Nat} {w0 w : World} {v : Value} {l : List UInt8} {n : Nat} (h : F4 base w0 w v l) : F4 base w0 (w.drewN n) v l := ⟨below_dn h.bel n, h.own, h.top⟩
theorem bl_dn {b : Nat} {w X : World} {n : Nat} (h : Below b w X) : Below b w (X.drewN n) := below_dn h n
/-- Encode, the length at a letter -/
theorem enc_rt (A : Option Addr) (N cap L : Nat) (l : List UInt8) (b : Bool) (n : Int) (s : ByteArray) (t : Int) (w : World) (hN : N = l.length) (hl : Shows w w.heap.size A l) (hlen : N ≤ 1000) (hv : Va.Fine ⟨b, n, s⟩) (hL : L = (l ++ encL ⟨b, n, s⟩ t).length) :
    Calls Tryz.prog 9 #[.slice A N cap, .agg #[.bool b, .int .i64 n, .string s], .int .i64 t] w fun e w' =>
      ∃ A' c, e = .returned (.slice A' L c) ∧ Owns w' w.heap.size (.slice A' L c) (l ++ encL ⟨b, n, s⟩ t) ∧ Below w.heap.size w w' := by
  subst hL
  exact Encode_b A N cap l b n s t w hN hl (by omega) hv
/-- Encode behind nothing, the bytes at a letter -/
theorem enc_ni (L : Nat) (l : List UInt8) (b : Bool) (n : Int) (s : ByteArray) (t : Int) (w : World) (hl : encL ⟨b, n, s⟩ t = l) (hL : L = l.length) (hv : Va.Fine ⟨b, n, s⟩) :
    Calls Tryz.prog 9 #[.slice none 0 0, .agg #[.bool b, .int .i64 n, .string s], .int .i64 t] w fun e w' =>
      ∃ A' c, e = .returned (.slice A' L c) ∧ Owns w' w.heap.size (.slice A' L c) l ∧ Below w.heap.size w w' := by
  subst hl
  refine (enc_rt none 0 0 L [] b n s t w rfl Shows.nil (by omega) hv (by rw [hL]; rfl)).mono ?_
  rintro e w' ⟨A, c, he, ho, hb⟩
  exact ⟨A, c, he, ho, hb⟩
/-- the reference's Same, of two beginnings -/
theorem same_tk (A C : Option Addr) (c d n : Nat) (l p : List UInt8) (q : Bool) (w : World) (hq : decide (l.take n = p.take n) = q) (h1 : Shows w w.heap.size A l) (h2 : Shows w w.heap.size C p) (hl : n ≤ l.length) (hp : n ≤ p.length) (hn : n ≤ 100000) :
    Calls Tryz.prog 8 #[.slice A n c, .slice C n d] w fun e w' => e = .returned (.bool q) ∧ Below w.heap.size w w' := by
  subst hq
  exact Same_any A n c (l.take n) C n d (p.take n) w h1.first h2.first (by rw [List.length_take]; omega) (by rw [List.length_take]; omega) (by omega) (by omega)
/-- Decode of what Encode wrote -/
theorem dec_rt (A : Option Addr) (n cap a L : Nat) (l p q : List UInt8) (ub : Bool) (un : Int) (us : ByteArray) (t : Int) (w : World) (hl : l = p ++ encL ⟨ub, un, us⟩ t ++ q) (hn : n = l.length) (ha : a = p.length) (hL : L = (p ++ encL ⟨ub, un, us⟩ t).length) (hs : Shows w w.heap.size A l)
    (hc : n ≤ cap) (hn2 : n ≤ 100000) (hcap : cap ≤ 9223372036854775807) (hk : okV ⟨ub, un, us⟩ t = true) (hf : Va.Fine ⟨ub, un, us⟩) :
    Calls Tryz.prog 13 #[.slice A n cap, .int .i64 (a : Int), .int .i64 t] w fun e w' =>
      e = .returned (.tuple #[.agg #[.bool ub, .int .i64 un, .string us], .int .i64 (L : Int), .int .i64 0]) ∧ Below w.heap.size w w' := by
  refine (Decode_any A n cap l a t w hn hs hc (by omega) hcap).mono ?_
  rintro e w' ⟨rfl, hb⟩
  subst hl ha hL
  rw [dec_enc p q hk hf]
  exact ⟨rfl, hb⟩
/-- Show, at a letter -/
theorem show_rt (b : Bool) (n : Int) (s : ByteArray) (t : Int) (r : ByteArray) (w : World) (hr : str (showL ⟨b, n, s⟩ t) = r) (hG : Glob5 w) (hv : Va.Fine ⟨b, n, s⟩) :
    Calls Tryz.prog 11 #[.agg #[.bool b, .int .i64 n, .string s], .int .i64 t] w fun e w' => e = .returned (.string r) ∧ Below w.heap.size w w' := by
  subst hr
  exact Show_b b n s t w hG hv
/-- Parse of what Show wrote -/
theorem par_rt (ub : Bool) (un : Int) (us : ByteArray) (t : Int) (r : ByteArray) (w : World) (hr : str (showL ⟨ub, un, us⟩ t) = r) (hG : Glob5 w) (hk : okV ⟨ub, un, us⟩ t = true) (hf : Va.Fine ⟨ub, un, us⟩) :
    Calls Tryz.prog 15 #[.string r, .int .i64 t] w fun e w' => e = .returned (.tuple #[.agg #[.bool ub, .int .i64 un, .string us], .int .i64 0]) ∧ Below w.heap.size w w' := by
  subst hr
  have hl := show_len ⟨ub, un, us⟩ t hf
  refine (Parse_any _ t w hG (by rw [str_size]; omega)).mono ?_
  rintro e w' ⟨rfl, hb⟩
  rw [str_data, par_show hk hf]
  exact ⟨rfl, hb⟩
theorem val_rt (b : Bool) (n : Int) (s : ByteArray) (t : Int) (w : World) (hk : okV ⟨b, n, s⟩ t = true) (hf : Va.Fine ⟨b, n, s⟩) :
    Calls Tryz.prog 6 #[.agg #[.bool b, .int .i64 n, .string s], .int .i64 t] w fun e w' => e = .returned (.bool true) ∧ Below w.heap.size w w' :=
  Valid_any ⟨b, n, s⟩ t true w hk hf.len
end Go.Proofs.YteaaadccjnmacaaGreatDoor
