/-
  The reference's word, Quarters, Initial, by contracts.
-/
import Derived.Test.YtbpphdmkfjdhnaaDoorQuartR
import Derived.Test.YtbpphdmkfjdhnaaDoorInitP
import Derived.Test.YtbpphdmkfjdhnaaDoorWords
import Derived.StillTailTactics
import Derived.LoopTactic
namespace Go.Proofs.YtbpphdmkfjdhnaaDoor
open Go.RowKit

theorem u8w_nat (c : UInt8) : (u8w c).toNat = c.toNat := by
  have := wd_u8w c
  unfold wd at this
  omega
theorem shl_nat (n : Nat) (c : UInt8) (hn : n ≤ 24) : (shl n (u8w c)).toNat = c.toNat * 2 ^ n := by
  have h := wd_shl' n (u8w c)
  unfold wd at h
  rw [u8w_nat] at h
  have hc := c.toNat_lt
  have hp : 2 ^ n ≤ 2 ^ 24 := Nat.pow_le_pow_right (by decide) hn
  have hm : c.toNat * 2 ^ n ≤ 255 * 2 ^ 24 := Nat.mul_le_mul (by omega) hp
  have e : ((c.toNat : Int) * 2 ^ n) = ((c.toNat * 2 ^ n : Nat) : Int) := by push_cast; rfl
  rw [e] at h
  omega
theorem or_add (a b n : Nat) (h : a < 2 ^ n) : a ||| b * 2 ^ n = a + b * 2 ^ n := by
  rw [Nat.or_comm, ← Nat.shiftLeft_eq, ← Nat.shiftLeft_add_eq_or_of_lt h, Nat.shiftLeft_eq, Nat.add_comm]
theorem word4_int (bs : List UInt8) (k : Nat) : wd (word4 bs k) = ((byte bs k).toNat : Int) + 256 * ((byte bs (k + 1)).toNat : Int) + 65536 * ((byte bs (k + 2)).toNat : Int) + 16777216 * ((byte bs (k + 3)).toNat : Int) := by
  have h0 := (byte bs k).toNat_lt
  have h1 := (byte bs (k + 1)).toNat_lt
  have h2 := (byte bs (k + 2)).toNat_lt
  have h3 := (byte bs (k + 3)).toNat_lt
  unfold wd word4
  rw [UInt32.toNat_or, UInt32.toNat_or, UInt32.toNat_or, u8w_nat, shl_nat 8 _ (by decide), shl_nat 16 _ (by decide), shl_nat 24 _ (by decide)]
  rw [or_add _ _ 8 (by omega), or_add _ _ 16 (by omega), or_add _ _ 24 (by omega)]
  simp only [Nat.reducePow]
  omega
theorem q_mod_id (c : UInt8) : IntKind.u32.wrap (c.toNat : Int) = (c.toNat : Int) := by rw [IntKind.wrap_u32]; have := c.toNat_lt; omega
attribute [local go_sem] q_u8_mod q_u8_wrap
set_option maxHeartbeats 1000000 in
set_option maxRecDepth 20000 in
theorem word_any (p off c : Nat) (bs : List UInt8) (k : Nat) (w : World) (h0 : w.cell? ⟨p, off, none⟩ = some (.int .u8 ((byte bs k).toNat : Int))) (h1 : w.cell? ⟨p, off + 1, none⟩ = some (.int .u8 ((byte bs (k + 1)).toNat : Int)))
    (h2 : w.cell? ⟨p, off + 2, none⟩ = some (.int .u8 ((byte bs (k + 2)).toNat : Int))) (h3 : w.cell? ⟨p, off + 3, none⟩ = some (.int .u8 ((byte bs (k + 3)).toNat : Int))) :
    Calls Tryd.prog 28 #[.slice (some ⟨p, off, none⟩) 4 c] w fun e w' => e = .returned (.int .u32 (wd (word4 bs k))) ∧ w' = w.drew := by
  have hw := Lib.hid (word4_int bs k)
  have l0 := Lib.hid (byte bs k).toNat_lt
  have l1 := Lib.hid (byte bs (k + 1)).toNat_lt
  have l2 := Lib.hid (byte bs (k + 2)).toNat_lt
  have l3 := Lib.hid (byte bs (k + 3)).toNat_lt
  go_enter Tryd.func28, Tryd.ntmps28
  go_wp2
  go_still_tail 22, (by kernel_rfl)
  change wpList _ _ _ _ _ w.drew
  go_wp2
  go_ret
  refine ⟨?_, rfl⟩
  rw [hw.out]
  have e : IntKind.u32.wrap (IntKind.u32.wrap (IntKind.u32.wrap (((byte bs k).toNat : Int) + IntKind.u32.wrap (256 * ((byte bs (k + 1)).toNat : Int))) + IntKind.u32.wrap (65536 * ((byte bs (k + 2)).toNat : Int))) + IntKind.u32.wrap (16777216 * ((byte bs (k + 3)).toNat : Int))) =
      ((byte bs k).toNat : Int) + 256 * ((byte bs (k + 1)).toNat : Int) + 65536 * ((byte bs (k + 2)).toNat : Int) + 16777216 * ((byte bs (k + 3)).toNat : Int) := by
    have := l0.out
    have := l1.out
    have := l2.out
    have := l3.out
    simp only [IntKind.wrap_u32]
    omega
  exact congrArg (fun z => Ending.returned (.int .u32 z)) e

theorem owns32_new (w : World) (l : List UInt32) (c : Array Value) (hc : c = (cw l).toArray) (hl : l.length ≤ 1000) : Owns32 (w.alloc (.cells c 23)) w.heap.size (.slice (some ⟨w.heap.size, 0, none⟩) l.length l.length) l := by
  subst hc
  refine ⟨by rw [cw_len, Nat.mul_one], .inr ⟨w.heap.size, l.length, _, rfl, Nat.le_refl _, heap_alloc_new w _, Nat.le_refl _, by simp only [maxLen]; omega, by simp [cw_len], ?_⟩⟩
  have e : (cw l).length = l.length := cw_len l
  simp [← e]
/-- append(v, x): one word more. -/
theorem wpList_one32 {w wr : World} {ops : Array Oper} {rest : List Oper} {o : Oper} {a : Act} {Q : Exit → Act → World → Prop} (hgd : o.guard = none) (d x : Operand)
    (ho : o.op = .call { callee := .builtin .append, args := #[d, x], argTypes := #[40, 40] }) (base : Nat) (v : Value) (l : List UInt32) (y : UInt32)
    (hs : a.eval d = v) (hx : a.eval x = .slice (some ⟨wr.heap.size, 0, none⟩) 1 1) (hw : w = wr.alloc (.cells #[.int .u32 (wd y)] 23) ∨ w = (wr.alloc (.cells #[.int .u32 (wd y)] 23)).drew) (hr : Hid (Owns32 wr base v l)) (hroom : l.length + 1 ≤ 1000000) (hbase : base ≤ wr.heap.size)
    (hK : ∀ v' w', Hid (Owns32 w' base v' (l ++ [y])) → Hid (∀ B w0, Below B w0 wr → B ≤ base → Below B w0 w') → wpList Tryd.prog ops Q rest (a.put o.dst v') w') : wpList Tryd.prog ops Q (o :: rest) a w := by
  have hp : WB w wr.heap.size 23 [y] := by rcases hw with rfl | rfl <;> exact heap_alloc_new wr _
  have hz : w.heap.size = wr.heap.size + 1 := by rcases hw with rfl | rfl <;> simp
  have hr2 : Owns32 w base v l := by rcases hw with rfl | rfl <;> exact World.ownsRow.alloc hr.out _
  have hb2 : ∀ B w0, Below B w0 wr → B ≤ base → Below B w0 w := by
    intro B w0 hb hB
    rcases hw with rfl | rfl
    · exact hb.alloc (by omega) _
    · exact (hb.alloc (by omega) _).drew
  refine wpList_grow32 hgd d x 40 ho Tryd.underlying40 info40 base v l wr.heap.size [y] 1 hs hx hr2 hp hroom (by omega) ?_
  intro v' w' ho hg
  refine hK v' w' ho (fun B w0 hb hB => (hb2 B w0 hb hB).grown hg (by omega) (fun k hk => ?_))
  have := (World.ownsRow.lt hr.out k hk).1
  omega
end Go.Proofs.YtbpphdmkfjdhnaaDoor
