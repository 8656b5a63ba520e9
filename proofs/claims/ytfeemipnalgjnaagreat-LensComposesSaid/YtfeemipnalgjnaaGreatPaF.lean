/-
 pathOf's closure forward, by a contract; what closures keep.
-/
import Derived.Test.YtfeemipnalgjnaaGreatHb
import Derived.Test.YtfeemipnalgjnaaGreatPaO
namespace Go.Proofs.YtfeemipnalgjnaaGreat
open Go.RowKit

/-- rows within bounds that grow by a step -/
structure RBn (j : Nat) (r : List Ce) : Prop where
 inc : Inc r
 len : r.length ≤ 64 + 3 * j
 sz : ∀ d ∈ r, d.v.s.size ≤ 1000
theorem RBn.rb {j : Nat} {r : List Ce} (h : RBn j r) (hj : j ≤ 300) : RB r := ⟨h.inc, by have := h.len; omega, h.sz⟩
theorem sz_set {r : List Ce} {i : Int} {v : Va} (hi : Inc r) (h : ∀ d ∈ r, d.v.s.size ≤ 1000) (hv : v.s.size ≤ 1000) : ∀ d ∈ setL r i v, d.v.s.size ≤ 1000 := fun d hd => by
 rcases (mem_set hi).1 hd with ⟨h', _⟩ | ⟨_, rfl⟩
 ·
  exact h d h'
 ·
  exact hv
theorem RBn.set {j : Nat} {r : List Ce} {i : Int} {v : Va} (h : RBn j r) (hv : v.s.size ≤ 1000) : RBn (j + 1) (setL r i v) := ⟨inc_set h.inc, by have := set_len r i v; have := h.len; omega, sz_set h.inc h.sz hv⟩
theorem nul_sz : Va.nul.s.size ≤ 1000 := by decide
theorem set3_rb {j : Nat} {r : List Ce} {a b c : Int} {x y z : Va} (h : RBn j r) (hx : x.s.size ≤ 1000) (hy : y.s.size ≤ 1000) (hz : z.s.size ≤ 1000) : RBn (j + 1) (setL (setL (setL r a x) b y) c z) :=
 ⟨inc_set (inc_set (inc_set h.inc)), by have := len3 r a b c x y z; have := h.len; omega, sz_set (inc_set (inc_set h.inc)) (sz_set (inc_set h.inc) (sz_set h.inc h.sz hx) hy) hz⟩
theorem divP_sz {t : Va} {sep : ByteArray} (h : t.s.size ≤ 1000) : (divP t sep).1.s.size ≤ 1000 ∧ (divP t sep).2.s.size ≤ 1000 := by
 have hc := cut_parts t.s.data.toList sep.data.toList
 rw [bln] at hc
 unfold divP
 split
 ·
  constructor
  ·
   show ByteArray.size _ ≤ 1000
   rw [bsz]; omega
  ·
   show ByteArray.size _ ≤ 1000
   rw [bsz]; omega
 ·
  exact ⟨h, nul_sz⟩
theorem conL_sz (a b : Va) (sep : ByteArray) : (conL a b sep).s.size ≤ 1000 := by
 unfold conL
 split
 ·
  exact nul_sz
 ·
  show (cut200 _).size ≤ 1000
  rw [cut200_size]; omega
theorem undP_sz {a b : Va} {sep : ByteArray} (h : a.s.size ≤ 1000) : (undP a b sep).s.size ≤ 1000 := by
 unfold undP
 split
 ·
  exact h
 ·
  exact conL_sz a b sep
theorem ap_rb (k : Cl) {j : Nat} {r : List Ce} (h : RBn j r) : RBn (j + 1) (k.ap r) := by
 have hg : ∀ i, (getL r i).s.size ≤ 1000 := vsz h.inc h.sz
 cases k with
 | un => exact ⟨h.inc, by have := h.len; show r.length ≤ _; omega, h.sz⟩
 | drop i => exact h.set nul_sz
 | nar i =>
  show RBn _ (setL _ _ _)
  refine h.set ?_
  split
  ·
   exact hg i
  ·
   exact nul_sz
 | div wh p0 p1 sep => exact set3_rb h nul_sz (divP_sz (hg wh)).1 (divP_sz (hg wh)).2
 | con und p0 p1 wh sep =>
  cases und with
  | true => exact set3_rb h nul_sz nul_sz (undP_sz (hg p0))
  | false => exact set3_rb h nul_sz nul_sz (conL_sz _ _ _)
def runF : List (Cl × Cl) → List Ce → List Ce
 | [], r => r
 | k :: K, r => runF K (k.1.ap r)
/-- a row: the one that was given, or one in memory of the call's own -/
def RowS (w : World) (base : Nat) (A : Option Addr) (c : Nat) (r : List Ce) (A' : Option Addr) (c' : Nat) (q : List Ce) : Prop := (A' = A ∧ c' = c ∧ q = r) ∨ Own 66 4 w base (.slice A' q.length c') (q.map Ce.cells)
section
variable {w w' W : World} {base : Nat} {A A' : Option Addr} {c c' : Nat} {r q : List Ce}
theorem RowS.up (h : RowS w base A c r A' c' q) (hb : Below w.heap.size w w') : RowS w' base A c r A' c' q := h.imp id fun h => h.up hb
theorem RowS.ces (h : RowS w base A c r A' c' q) (hr : Ces w w.heap.size A r) (hc : r.length ≤ c) (hcm : c ≤ 9223372036854775807) : Ces w w.heap.size A' q ∧ q.length ≤ c' ∧ c' ≤ 9223372036854775807 := by
 rcases h with ⟨rfl, rfl, rfl⟩ | ho
 ·
  exact ⟨hr, hc, hcm⟩
 ·
  obtain ⟨_, h1, h2, h3⟩ := ho.row
  exact ⟨h3, by simpa using h1, h2⟩
theorem RowS.grow {U : Nat} {l : List Value} (h : RowS w base A c r A' c' q) (hU : CB w U 30 l) (hg : w.grownBy w' (some U)) : RowS w' base A c r A' c' q := h.imp id fun h => h.kept hg (.inr (h.ne hU (by decide)).symm)
theorem RowS.next {A2 : Option Addr} {c2 : Nat} {q2 : List Ce} (h : RowS w base A c r A' c' q) (hb : Below w.heap.size w w') (hB : base ≤ w.heap.size) (h2 : (A2 = A' ∧ c2 = c' ∧ q2 = q) ∨ Own 66 4 w' w.heap.size (.slice A2 q2.length c2) (q2.map Ce.cells)) : RowS w' base A c r A2 c2 q2 := by
 rcases h2 with ⟨rfl, rfl, rfl⟩ | h2
 ·
  exact h.up hb
 ·
  exact .inr (h2.low hB)
end

set_option maxHeartbeats 8000000 in
set_option maxRecDepth 20000 in
theorem pathF_any (g : Nat) (A2 : Option Addr) (c2 N : Nat) (LV : List (List Value)) (ks : List (Cl × Cl)) (A : Option Addr) (n c : Nat) (r : List Ce) (w : World) (hg : CB w g 101 [.slice A2 N c2]) (hL : RowAt 2 w w.heap.size A2 LV) (hK : LsAt w LV ks) (hG : GV w) (hN : N = ks.length) (hN3 : N ≤ 300) (hn : n = r.length) (hs : Ces w w.heap.size A r) (hc : n ≤ c) (hcm : c ≤ 9223372036854775807) (hr : RBn 0 r) :
  Calls Tryz.prog 75 #[.agg #[.slice A n c], .pointer (some ⟨g, 0, none⟩)] w fun e w' => RetD w w' A c r (runF ks r) e ∧ Below w.heap.size w w' := by
 have HL := Li hL
 have HK := Li hK
 have HG := Li hG
 have HN := Li hN
 have HNr := Li hn
 have HS := Li hs
 have hgl := hg.lt
 have R0 := Li ((CB.new w 30 [.slice A n c]).alloc (.cells #[.slice none 0 0] 30))
 have T0 := Li (CB.new1 w (.cells #[.slice A n c] 30) 30 [.slice none 0 0])
 have B0 := Li (al2 w (.cells #[.slice A n c] 30) (.cells #[.slice none 0 0] 30))
 have G0 := Li ((hg.alloc (.cells #[.slice A n c] 30)).alloc (.cells #[.slice none 0 0] 30))
 have HRc := Li (show r.length ≤ c by omega)
 have HB := Li hr
 have g00 := G0.out.cell 0 rfl
 have zg0 := G0.out.lt
 have HGo := Li hg
 clear hL hK hG hN hn hs hg hr
 go_enter Tryz.func75, Tryz.ntmps75
 go_wp2
 go_loopw [8] (fun j wr => ∃ (k n' c' : Nat) (A' : Option Addr) (q : List Ce), k ≤ N ∧ j = .int .i64 k ∧ n' = q.length ∧ Hid (CB wr w.heap.size 30 [.slice A' n' c']) ∧ Hid (RowS wr w.heap.size A c r A' c' q) ∧ Hid (runF (ks.drop k) q = runF ks r) ∧ Hid (RBn k q) ∧ Hid (CB wr (w.heap.size + 1) 30 [.slice none 0 0]) ∧ Hid (Below w.heap.size w wr)) (fun j _ => N - (intOf j).toNat)
 case atStart => exact ⟨0, n, c, A, r, by omega, rfl, HNr.out, R0, .inl ⟨rfl, rfl, rfl⟩, rfl, HB, T0, B0⟩
 case round =>
  clear R0 T0 B0 G0 g00 zg0
  obtain ⟨k, n', c', A', q, hk, rfl, hnq, R0, S0, hrun, hrb, T0, B0⟩ := hrel
  have HNQ := Li hnq
  clear hnq
  have zR := R0.out.lt
  have zT := T0.out.lt
  have r00 := R0.out.cell 0 rfl
  by_cases hlt : k < N
  ·
   have i1 : (k : Int) < (N : Int) := by omega
   obtain ⟨kk, hkk⟩ : ∃ kk, ks[k]? = some kk := ⟨_, List.getElem?_eq_getElem (by rw [← HN.out]; exact hlt)⟩
   obtain ⟨fv, bv, hlv, hf, hb⟩ := LsAt.get LV ks HK.out k kk hkk
   obtain ⟨gb, off, eA, hgb, hat⟩ := RowAt.one (RowAt.below HL.out B0.out) hlv
   have q0 : wr.cell? ⟨gb, off + k * 2, none⟩ = some fv := hat 0 fv rfl
   have q1 : wr.cell? ⟨gb, off + k * 2 + 1, none⟩ = some bv := hat 1 bv rfl
   have hgb2 : gb < wr.heap.size := Nat.lt_of_lt_of_le hgb B0.out.size
   subst eA
   obtain ⟨f, cs, rfl, he, hcall⟩ := (Cl.does hf HG.out).up B0.out
   have HCall := Li hcall
   have hdr := Li (drop_cons hkk)
   have hb1 := hb.one
   have hfs := fun (a : Addr) (mo : Mode) (W : World) => run_store Tryz.prog W a bv mo hb1
   clear hcall hkk hlv hf hb hat
   go_wp2_with (go_at_fn f; go_loud (have ha := al1 wr (.cells #[.func (.func f) #[] cs.toArray, bv] 73); refine (HCall.out _ A' n' c' q ha HNQ.out ((S0.out.up ha).ces ((HS.out.up B0.out).up ha) HRc.out hcm).1 (by rw [HNQ.out]; exact (S0.out.ces (HS.out.up B0.out) HRc.out hcm).2.1) (S0.out.ces (HS.out.up B0.out) HRc.out hcm).2.2 (hrb.out.rb (by omega))).mono ?_; rintro e w1 ⟨⟨A3, c3, rfl, hd3⟩, hb3⟩; have S1 := Li ((S0.out.up ha).next hb3 (Nat.le_trans B0.out.size ha.size) hd3); have hbb := ha.trans (hb3.mono ha.size); have R1 := Li (R0.out.up hbb); have T1 := Li (T0.out.up hbb); have B1 := Li (below_step B0.out B0.out.size hbb); have zR1 := R1.out.lt; have r10 := R1.out.cell 0 rfl; have r1f := R1.out.frozen 0; clear ha hb3 hd3 hbb))
   go_roundw
   case rel => exact ⟨k + 1, (kk.1.ap q).length, c3, A3, kk.1.ap q, by omega, by go_num, rfl, R1.out.set_ 0 _, S1.out.grow R1.out (grown_set _ _ _ _), by have := hrun.out; rw [hdr.out] at this; exact this, ap_rb _ hrb.out, T1.out.grown (grown_set w1 w.heap.size 0 _) (by intro h; injection h with h; omega), B1.out.setCell (p := ⟨w.heap.size, 0, none⟩) (Nat.le_refl _) _⟩
   case measure => simp [intOf]; omega
  ·
   have i1 : ¬ (k : Int) < (N : Int) := by omega
   have HQ := Li (show q = runF ks r by rw [← hrun.out, List.drop_of_length_le (by rw [← HN.out]; omega)]; rfl)
   have t00 := T0.out.cell 0 rfl
   have t0f := T0.out.frozen 0
   go_wp2
   refine bodyPost_ret (res_cell1 Tryz.results75 rfl (T0.out.set_ 0 (.slice A' n' c')) Tryz.underlying30 sizeRw rfl) rfl ⟨⟨A', c', by rw [← HQ.out, HNQ.out]; rfl, ?_⟩, B0.out.setCell (p := ⟨w.heap.size + 1, 0, none⟩) (by show w.heap.size ≤ w.heap.size + 1; omega) _⟩
   rw [← HQ.out]
   exact S0.out.grow T0.out (grown_set _ _ _ _)
end Go.Proofs.YtfeemipnalgjnaaGreat
