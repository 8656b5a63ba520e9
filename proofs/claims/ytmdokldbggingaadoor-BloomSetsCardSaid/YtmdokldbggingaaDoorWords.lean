/-
  Rows of words: make and append. Plain theorems, and one closed fact of the dump.
-/
import Derived.Test.YtmdokldbggingaaDoorProg
import Derived.Test.YtmdokldbggingaaDoorRows8
namespace Go.Proofs.YtmdokldbggingaaDoor
open Go.RowKit

theorem info40 : (Tryd.prog.info? 74).map (fun i => (i.zero, i.size, i.bytes)) = some (some (.int .u32 0), 1, 4) := by kernel_rfl

/-- The value v is a slice over the call's own row that holds just the words l. -/
def Owns32 (w : World) (base : Nat) (v : Value) (l : List UInt32) : Prop := w.ownsRow base 74 1 v l.length (cw l)
theorem Owns32.shape {w : World} {B : Nat} {v : Value} {l : List UInt32} (h : Owns32 w B v l) (hl : 0 < l.length) : ∃ g cap tail, v = .slice (some ⟨g, 0, none⟩) l.length cap ∧ B ≤ g ∧ WR w g 74 l tail := by
  have h2 := h.2
  rcases h2 with ⟨rfl, hl0⟩ | ⟨g, cap, cur, rfl, hb, hg, hn, _, _, ht⟩
  · omega
  · refine ⟨g, cap, cur.toList.drop l.length, rfl, hb, ?_⟩
    unfold WR
    rw [hg]
    congr 2
    have e : cw l = cur.toList.take l.length := by rw [← ht]; simp
    rw [e, List.take_append_drop]
theorem owns32_empty (w : World) (c : Array Value) (hc : c = #[]) : Owns32 (w.alloc (.cells c 74)) w.heap.size (.slice (some ⟨w.heap.size, 0, none⟩) 0 0) [] := by
  subst hc
  exact ⟨rfl, .inr ⟨w.heap.size, 0, #[], rfl, Nat.le_refl _, heap_alloc_new w _, Nat.le_refl _, by simp [maxLen], rfl, rfl⟩⟩

/-- make([]uint32, n): a new block of n zero words. -/
theorem wpList_make32 {P : Program} (w : World) {ops : Array Oper} {rest : List Oper} {o : Oper} {a : Act} {Q : Exit → Act → World → Prop}
    (hg : o.guard = none) (l c : Operand) (t : TypeId) (hop : o.op = Op.makeSlice t l c) (h1 : P.underlying t = some (.slice 74))
    (h2 : (P.info? 74).map (fun i => (i.zero, i.size, i.bytes)) = some (some (.int .u32 0), 1, 4))
    (kl kc : IntKind) (L : Int) (n : Nat) (hl : a.eval l = .int kl L) (hc : a.eval c = .int kc L) (hL : L = (n : Int)) (hm : n ≤ 1000000)
    (hK : wpList P ops Q rest (a.put o.dst (.slice (some ⟨w.heap.size, 0, none⟩) n n)) (w.alloc (.cells (cw (List.replicate n 0)).toArray 74))) :
    wpList P ops Q (o :: rest) a w := by
  subst hL
  obtain ⟨i, hi, hz, hs, hb⟩ := info_parts h2
  refine wpList_plain hg fun K hK' => ?_
  have hr := run_make (P := P) w t 74 i (.int .u32 0) h1 hi hz kl kc (n : Int) (n : Int) (by omega) (by omega) (by rw [hb]; omega) (by omega)
  simp only [Int.toNat_natCast] at hr
  have e : madeCells (Value.cells (.int .u32 0)) (n * i.size) = (cw (List.replicate n 0)).toArray := by
    apply Array.ext'
    rw [hs, Nat.mul_one, show Value.cells (.int .u32 0) = #[.int .u32 0] from rfl, toList_madeCells_one]
    simp [cw, wd]
  rw [e] at hr
  unfold Oper.wp
  simp [execOp, hop, hl, hc, hr, Result.andThen]
  exact hK' _ _ hK

/-- append(v, p...), v the call's own, p a block of words: it may grow. -/
theorem wpList_grow32 {P : Program} {w : World} {ops : Array Oper} {rest : List Oper} {o : Oper} {a : Act} {Q : Exit → Act → World → Prop} (hgd : o.guard = none) (d x : Operand) (t : TypeId)
    (ho : o.op = .call { callee := .builtin .append, args := #[d, x], argTypes := #[t, t] }) (ht : P.underlying t = some (.slice 74))
    (h2 : (P.info? 74).map (fun i => (i.zero, i.size, i.bytes)) = some (some (.int .u32 0), 1, 4)) (base : Nat) (v : Value) (l : List UInt32) (gp : Nat) (p : List UInt32) (c : Nat)
    (hs : a.eval d = v) (hx : a.eval x = .slice (some ⟨gp, 0, none⟩) p.length c) (hr : Owns32 w base v l) (hp : WB w gp 74 p) (hroom : l.length + p.length ≤ 1000000) (hbase : base ≤ w.heap.size)
    (hK : ∀ v' w', Owns32 w' base v' (l ++ p) → w.grownBy w' v.ownBlock → wpList P ops Q rest (a.put o.dst v') w') : wpList P ops Q (o :: rest) a w := by
  obtain ⟨i, hi, hz, hsz, hb⟩ := info_parts h2
  have e : (l ++ p).length = l.length + p.length := by simp
  refine wpList_append_own _ hgd d x t ho base 74 i (.int .u32 0) 1 4 ht hi hz hsz hb rfl (by decide) v l.length (cw l) hs hr ⟨gp, 0, none⟩ p.length c (cw p) hx (by rw [cw_len, Nat.mul_one]) ?_ (cw_one p) (by simp only [maxLen]; omega) (by omega) hbase ?_
  · intro j u hj
    have hj' : j < p.length := by have := (List.getElem?_eq_some_iff.1 hj).1; rwa [cw_len] at this
    rw [Addr.add_mid, Nat.zero_add, hp.cell j hj', ← hj, cw_get p j hj']
  · intro v' w' h1 h3 _
    exact hK v' w' (by unfold Owns32; rw [cw_app, e]; exact h1) h3

end Go.Proofs.YtmdokldbggingaaDoor
