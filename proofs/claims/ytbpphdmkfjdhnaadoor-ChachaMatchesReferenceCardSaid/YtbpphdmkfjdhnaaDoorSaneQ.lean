/-
  sanity: the fixed examples.
-/
import Derived.Test.YtbpphdmkfjdhnaaDoorXorP
import Derived.Test.YtbpphdmkfjdhnaaDoorSame
import Derived.Test.YtbpphdmkfjdhnaaDoorVecQ
namespace Go.Proofs.YtbpphdmkfjdhnaaDoor
open Go.RowKit

/-- A whole array out of a block, at an operation that its guard lets. -/
theorem wpList_load_on {P : Program} {w : World} {ops : Array Oper} {rest : List Oper} {o : Oper} {a : Act} {Q : Exit → Act → World → Prop} (hw : Region.wanted o (yielded ops a.tmps) = true) (ty : TypeId) (x : Operand) (ho : o.op = .load ty x)
    (g : Nat) (hx : a.eval x = .pointer (some ⟨g, 0, none⟩)) (t : TypeId) (l : List Value) (e : TypeId) (n : Nat) (hg : w.heap[g]? = some (.cells l.toArray t (0, 0)))
    (hu : P.underlying ty = some (.array n e)) (hi : (P.info? ty).map (·.size) = some n) (hl : l.length = n)
    (h : wpList P ops Q rest (a.put o.dst (.agg l.toArray)) w) : wpList P ops Q (o :: rest) a w :=
  wpList_step fun K hK => by rw [if_pos hw]; exact wp_load_row ty x ho g hx t l.toArray (0, 0) _ hg hu rfl (by rw [hi]; simp [hl]) (hK _ _ h)
def kq : Nat → List UInt8
  | 0 => List.replicate 32 0
  | j + 1 => (kq j).set j (UInt8.ofNat j)
theorem kq_len (j : Nat) : (kq j).length = 32 := by
  induction j with
  | zero => simp [kq]
  | succ j ih => simp [kq, ih]
theorem kq_32 : kq 32 = keyA := by decide
theorem j_u8 (j : Nat) (h : j < 32) : ∃ c : UInt8, Hid (c = UInt8.ofNat j) ∧ (j : Int) % 256 = (c.toNat : Int) ∧ IntKind.u8.wrap (j : Int) = (c.toNat : Int) := by
  have e : ((UInt8.ofNat j).toNat : Int) = (j : Int) := by simp; omega
  exact ⟨_, rfl, by rw [e]; omega, by rw [e, IntKind.wrap_u8]; omega⟩

theorem bytesA : ((byte blkA 0).toNat : Int) = 16 ∧ ((byte blkA 1).toNat : Int) = 241 ∧ ((byte blkA 2).toNat : Int) = 231 ∧ ((byte blkA 3).toNat : Int) = 228 ∧ ((byte blkA 62).toNat : Int) = 60 ∧ ((byte blkA 63).toNat : Int) = 78 := by decide
theorem bytesB : ((byte blkB 0).toNat : Int) = 118 ∧ ((byte blkB 1).toNat : Int) = 184 := by decide
/-- what sanity has: the key, the two blocks -/
structure SQ (w wr : World) (g1 g3 g4 : Nat) : Prop where
  kk : BT wr g1 26 keyA
  b3 : BT wr g3 30 blkA
  b4 : BT wr g4 30 blkB
  glob : GlobQ wr
  low : w.heap.size ≤ wr.heap.size
  bel : Below w.heap.size w wr
theorem SQ.up {w wr w' : World} {g1 g3 g4 : Nat} (s : SQ w wr g1 g3 g4) (hb : Below wr.heap.size wr w') : SQ w w' g1 g3 g4 :=
  ⟨s.kk.up hb, s.b3.up hb, s.b4.up hb, s.glob.up hb, Nat.le_trans s.low hb.size, s.bel.trans (hb.mono s.low)⟩
theorem SQ.bytes {w wr : World} {g1 g3 g4 : Nat} (s : SQ w wr g1 g3 g4) : wr.cell? ⟨g3, 0, none⟩ = some (.int .u8 16) ∧ wr.cell? ⟨g3, 1, none⟩ = some (.int .u8 241) ∧ wr.cell? ⟨g3, 2, none⟩ = some (.int .u8 231) ∧ wr.cell? ⟨g3, 3, none⟩ = some (.int .u8 228) ∧ wr.cell? ⟨g3, 62, none⟩ = some (.int .u8 60) ∧ wr.cell? ⟨g3, 63, none⟩ = some (.int .u8 78) ∧
    wr.cell? ⟨g4, 0, none⟩ = some (.int .u8 118) ∧ wr.cell? ⟨g4, 1, none⟩ = some (.int .u8 184) := by
  have a := bytesA
  have b := bytesB
  have l := lens
  refine ⟨?_, ?_, ?_, ?_, ?_, ?_, ?_, ?_⟩
  · rw [← a.1]; exact s.b3.cell 0 (by rw [l.2.2.2.2.1]; decide)
  · rw [← a.2.1]; exact s.b3.cell 1 (by rw [l.2.2.2.2.1]; decide)
  · rw [← a.2.2.1]; exact s.b3.cell 2 (by rw [l.2.2.2.2.1]; decide)
  · rw [← a.2.2.2.1]; exact s.b3.cell 3 (by rw [l.2.2.2.2.1]; decide)
  · rw [← a.2.2.2.2.1]; exact s.b3.cell 62 (by rw [l.2.2.2.2.1]; decide)
  · rw [← a.2.2.2.2.2]; exact s.b3.cell 63 (by rw [l.2.2.2.2.1]; decide)
  · rw [← b.1]; exact s.b4.cell 0 (by rw [l.2.2.2.2.2]; decide)
  · rw [← b.2]; exact s.b4.cell 1 (by rw [l.2.2.2.2.2]; decide)
theorem sq_of {w wo w2 w3 w4 w5 w6 : World} (hv : BT wo w.heap.size 26 keyA) (hb : Below w.heap.size w wo) (hb2 : Below wo.heap.size wo w2) (h3 : BT w3 w2.heap.size 30 blkA ∧ Below w2.heap.size w2 w3) (hb4 : Below w3.heap.size w3 w4)
    (h5 : BT w5 w4.heap.size 30 blkB ∧ Below w4.heap.size w4 w5) (hb6 : Below w5.heap.size w5 w6) (G : GlobQ wo) : SQ w w6 w.heap.size w2.heap.size w4.heap.size := by
  have b23 := hb2.trans (h3.2.mono hb2.size)
  have b24 := b23.trans (hb4.mono b23.size)
  have b25 := b24.trans (h5.2.mono b24.size)
  have b26 := b25.trans (hb6.mono b25.size)
  have b46 := h5.2.trans (hb6.mono h5.2.size)
  have b36 := hb4.trans (b46.mono hb4.size)
  exact ⟨hv.up b26, h3.1.up b36, h5.1.up hb6, G.up b26, Nat.le_trans hb.size b26.size, hb.trans (b26.mono hb.size)⟩
/-- a new block that is filled -/
theorem new_fill {w w' : World} {o : Obj} {l : List UInt8} {t : TypeId} (hb : BT w' w.heap.size t l) (hg : (w.alloc o).grownBy w' (some w.heap.size)) : BT w' w.heap.size t l ∧ Below w.heap.size w w' :=
  ⟨hb, (below_alloc o).grown hg (by simp) (fun k hk => by injection hk with hk; omega)⟩
theorem shows4 (w : World) (a b c d : Int) (l : List UInt8) (h : (cb l).toArray = #[.int .u8 a, .int .u8 b, .int .u8 c, .int .u8 d]) : BT (w.alloc (.cells #[.int .u8 a, .int .u8 b, .int .u8 c, .int .u8 d] 5)) w.heap.size 5 l := by
  rw [← h]
  exact heap_alloc_new w _
theorem BlockP_is (key nonce : List UInt8) (n : UInt32) (z : Int) (bl : List UInt8) (w : World) (hk : key.length = 32) (hn : nonce.length = 12) (hz : wd n = z) (hb : blockOf (initS key nonce n) = bl) (G : GlobQ w) :
    Calls Tryd.prog 12 #[.agg (cb key).toArray, .agg (cb nonce).toArray, .int .u32 z] w fun e w' => e = .returned (.agg (cb bl).toArray) ∧ Below w.heap.size w w' := by
  subst hz hb
  exact BlockP_any key nonce n w hk hn G
theorem XorP_is (key nonce : List UInt8) (A : Option Addr) (n cap : Nat) (b x : List UInt8) (w : World) (hk : key.length = 32) (hn : nonce.length = 12) (hl : n = b.length) (hb : Shows w w.heap.size A b) (h6 : b.length ≤ 1000000) (hx : xorOf key nonce b = x) (G : GlobQ w) :
    Calls Tryd.prog 15 #[.agg (cb key).toArray, .agg (cb nonce).toArray, .slice A n cap] w
      fun e w' => ∃ c, e = .returned (.slice (some ⟨c, 0, none⟩) n n) ∧ BT w' c 5 x ∧ w.heap.size ≤ c ∧ Below w.heap.size w w' := by
  subst hl hx
  exact XorP_any key nonce A cap b w hk hn hb h6 G
theorem keyB_z : keyB = List.replicate 32 0 := by decide
theorem nonB_z : nonB = List.replicate 12 0 := by decide
attribute [local irreducible] blkA blkB keyA

set_option maxHeartbeats 4000000 in
set_option maxRecDepth 20000 in
theorem sane_any (w : World) (G : GlobQ w) :
    Calls Tryd.prog 10 #[] w fun e w' => e = .returned (.bool true) ∧ Below w.heap.size w w' := by
  have HG := Lib.hid G
  clear G
  go_enter Tryd.func10, Tryd.ntmps10
  go_wp2_with ((with_reducible show wpList _ _ _ _ _ _); refine wpList_store_all rfl 26 (.tmp 1) (.tmp 6) rfl w.heap.size (cb (kq 0)) rfl rfl 26 (cb (List.replicate 32 0)).toArray 32 (bt_new (w := w) (n := 32) rfl rfl) info26 (by simp [cb]) (by rw [cb_len, kq_len]) (cb_one _) ?_; intro w1 hb1 hg1 hz1; have H1 := Lib.hid (new_fill hb1 hg1); clear hb1 hg1 hz1)
  go_loopw [2] (fun i wr => ∃ k : Nat, k ≤ 32 ∧ i = .int .i64 k ∧ Hid (BT wr w.heap.size 26 (kq k)) ∧ Hid (Below w.heap.size w wr)) (fun i _ => 32 - (intOf i).toNat)
  case atStart => exact ⟨0, by omega, rfl, H1.out.1, H1.out.2⟩
  case round =>
    clear H1
    obtain ⟨k, hk, rfl, hv, hb⟩ := hrel
    obtain ⟨wo, hwo⟩ : ∃ wo : World, wo = wr := ⟨_, rfl⟩
    subst hwo
    by_cases hlt : k < 32
    · have i1 : (k : Int) < 32 := by omega
      obtain ⟨c, hc, j1, j2⟩ := j_u8 k hlt
      have ck := hv.out.cell k (by rw [kq_len]; exact hlt)
      have fk := hv.out.frozen k
      go_wp2
      go_roundw
      case rel =>
        refine ⟨k + 1, by omega, by go_num, ?_, hb.out.setCell (Nat.le_refl _) _⟩
        have := hv.out.set_ k c
        rw [hc.out] at this ⊢
        exact this
      case measure => simp [intOf]; omega
    · have hk32 : k = 32 := by omega
      rw [hk32, kq_32] at hv
      clear hk32 hk
      have HGo := Lib.hid (HG.out.up hb.out)
      go_wp2_with (first
        | ((with_reducible show wpList _ _ _ _ _ _); refine wpList_load_all rfl 26 (.tmp 1) rfl w.heap.size rfl 26 (cb keyA) 5 32 hv.out Tryd.underlying26 info26 (by rw [cb_len, lens.1]) ?_)
        | (go_at_call 12; (with_reducible show Calls _ _ #[_, _, .int .u32 1] _ _); refine (BlockP_is keyA nonA 1 1 blkA wo lens.1 lens.2.1 (by decide) A_is HGo.out).mono ?_; rintro e w2 ⟨rfl, hb2⟩; have HB2 := Lib.hid hb2; clear hb2)
        | ((with_reducible show wpList _ _ _ _ _ _); refine wpList_store_all rfl 30 (.tmp 3) (.tmp 17) rfl w2.heap.size (cb blkA) rfl rfl 30 (cb (List.replicate 64 0)).toArray 64 (bt_new (w := w2) (n := 64) rfl rfl) info30 (by simp [cb]) (by rw [cb_len, lens.2.2.2.2.1]) (cb_one _) ?_; intro w3 hb3 hg3 hz3; have H3 := Lib.hid (new_fill hb3 hg3); have HG3 := Lib.hid ((HGo.out.up HB2.out).up H3.out.2); clear hb3 hg3 hz3)
        | (go_at_call 12; (with_reducible show Calls _ _ #[_, _, .int .u32 0] _ _); refine (BlockP_is keyB nonB 0 0 blkB w3 lens.2.2.1 lens.2.2.2.1 (by decide) B_is HG3.out).mono ?_; rintro e w4 ⟨rfl, hb4⟩; have HB4 := Lib.hid hb4; clear hb4)
        | ((with_reducible show wpList _ _ _ _ _ _); refine wpList_store_all rfl 30 (.tmp 4) (.tmp 20) rfl w4.heap.size (cb blkB) rfl rfl 30 (cb (List.replicate 64 0)).toArray 64 (bt_new (w := w4) (n := 64) rfl rfl) info30 (by simp [cb]) (by rw [cb_len, lens.2.2.2.2.2]) (cb_one _) ?_; intro w5 hb5 hg5 hz5; have H5 := Lib.hid (new_fill hb5 hg5); have HG5 := Lib.hid ((HG3.out.up HB4.out).up H5.out.2); clear hb5 hg5 hz5; have hsh := Lib.hid (shows4 w5 118 184 224 172 [118, 184, 224, 172] rfl))
        | (go_at_call 15; (with_reducible show Calls _ _ #[_, _, .slice _ 4 4] _ _); refine (XorP_is keyB nonB (some ⟨w5.heap.size, 0, none⟩) 4 4 [118, 184, 224, 172] [0, 0, 0, 1] _ lens.2.2.1 lens.2.2.2.1 rfl (hsh.out.shows (by simp)) (by decide) X_is (HG5.out.up (below_alloc _))).mono ?_; rintro e w6 ⟨c, rfl, hx6, hc6, hb6⟩; have HX6 := Lib.hid hx6; have h56 : Below w5.heap.size w5 w6 := (below_alloc _).trans (hb6.mono (by simp)); have HS6 : Hid (SQ w w6 w.heap.size w2.heap.size w4.heap.size) := sq_of hv.out hb.out HB2.out H3.out HB4.out H5.out h56 HGo.out; obtain ⟨c0, c1, c2, c3, c62, c63, d0, d1⟩ := HS6.out.bytes; clear hx6 hc6 hb6 h56; generalize Value.agg #[Value.int IntKind.u8 0, Value.int IntKind.u8 0, Value.int IntKind.u8 0, Value.int IntKind.u8 0, Value.int IntKind.u8 0, Value.int IntKind.u8 0, Value.int IntKind.u8 0, Value.int IntKind.u8 0, Value.int IntKind.u8 0, Value.int IntKind.u8 0, Value.int IntKind.u8 0, Value.int IntKind.u8 0, Value.int IntKind.u8 0, Value.int IntKind.u8 0, Value.int IntKind.u8 0, Value.int IntKind.u8 0, Value.int IntKind.u8 0, Value.int IntKind.u8 0, Value.int IntKind.u8 0, Value.int IntKind.u8 0, Value.int IntKind.u8 0, Value.int IntKind.u8 0, Value.int IntKind.u8 0, Value.int IntKind.u8 0, Value.int IntKind.u8 0, Value.int IntKind.u8 0, Value.int IntKind.u8 0, Value.int IntKind.u8 0, Value.int IntKind.u8 0, Value.int IntKind.u8 0, Value.int IntKind.u8 0, Value.int IntKind.u8 0] = z32; generalize Value.agg #[Value.int IntKind.u8 0, Value.int IntKind.u8 0, Value.int IntKind.u8 0, Value.int IntKind.u8 0, Value.int IntKind.u8 0, Value.int IntKind.u8 0, Value.int IntKind.u8 0, Value.int IntKind.u8 0, Value.int IntKind.u8 0, Value.int IntKind.u8 0, Value.int IntKind.u8 0, Value.int IntKind.u8 0] = z12; generalize Value.agg (cb keyA).toArray = z3; generalize Value.agg (cb blkA).toArray = z4; generalize Value.agg (cb blkB).toArray = z5)
        | (go_at_call 14; refine (Same_same (some ⟨c, 0, none⟩) 4 4 (some ⟨w6.heap.size, 0, none⟩) 4 4 [0, 0, 0, 1] _ rfl rfl ((HX6.out.alloc _).shows (by have := HX6.out.lt; simp; omega)) ((shows4 w6 0 0 0 1 [0, 0, 0, 1] rfl).shows (by simp))).mono ?_; rintro e w7 ⟨rfl, rfl⟩; have HS7 : Hid (SQ w (w6.alloc (.cells #[.int .u8 0, .int .u8 0, .int .u8 0, .int .u8 1] 5)) w.heap.size w2.heap.size w4.heap.size) := Lib.hid (HS6.out.up (below_alloc _)))
        | ((with_reducible show wpList _ _ _ _ _ _); refine wpList_load_on rfl 26 (.tmp 1) rfl w.heap.size rfl 26 (cb keyA) 5 32 HS7.out.kk Tryd.underlying26 info26 (by rw [cb_len, lens.1]) ?_)
        | (go_at_call 15; (with_reducible show Calls _ _ #[_, _, .slice none 0 0] _ _); refine (XorP_is keyA nonB none 0 0 [] [] _ lens.1 lens.2.2.2.1 rfl Shows.nil (by decide) rfl HS7.out.glob).mono ?_; rintro e w8 ⟨c8, rfl, hx8, hc8, hb8⟩))
      go_ret
      exact ⟨rfl, (HS7.out.up hb8).bel⟩
end Go.Proofs.YtbpphdmkfjdhnaaDoor
