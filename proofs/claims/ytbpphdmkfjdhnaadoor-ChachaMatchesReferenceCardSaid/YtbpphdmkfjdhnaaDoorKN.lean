/-
  What the laws' walks share: the key, the nonce and the bytes at hand.
-/
import Derived.Test.YtbpphdmkfjdhnaaDoorSaneQ
import Derived.Test.YtbpphdmkfjdhnaaDoorMade
namespace Go.Proofs.YtbpphdmkfjdhnaaDoor
open Go.RowKit

structure SN (w wr : World) (gk gn : Nat) (key nonce : List UInt8) : Prop where
  kk : BT wr gk 26 key
  nn : BT wr gn 27 nonce
  kl : key.length = 32
  nl : nonce.length = 12
  glob : GlobQ wr
  low : w.heap.size ≤ wr.heap.size
  bel : Below w.heap.size w wr
section
variable {w wr w' : World} {gk gn : Nat} {key nonce : List UInt8}
theorem SN.up (s : SN w wr gk gn key nonce) (hb : Below wr.heap.size wr w') : SN w w' gk gn key nonce :=
  ⟨s.kk.up hb, s.nn.up hb, s.kl, s.nl, s.glob.up hb, Nat.le_trans s.low hb.size, s.bel.trans (hb.mono s.low)⟩
theorem SN.drew (s : SN w wr gk gn key nonce) : SN w wr.drew gk gn key nonce := ⟨s.kk, s.nn, s.kl, s.nl, s.glob.drew, s.low, s.bel.drew⟩
end
/-- the key and the nonce, stored -/
theorem sn_of {w w2 w3 w4 : World} {o o' : Obj} {key nonce : List UInt8} (h2 : Below w.heap.size w w2) (h3 : BT w3 w2.heap.size 26 key) (hg3 : ((w2.alloc o).alloc o').grownBy w3 (some w2.heap.size)) (hz3 : w3.heap.size = ((w2.alloc o).alloc o').heap.size)
    (h4 : BT w4 (w2.heap.size + 1) 27 nonce) (hg4 : w3.grownBy w4 (some (w2.heap.size + 1))) (kl : key.length = 32) (nl : nonce.length = 12) (G : GlobQ w) : SN w w4 w2.heap.size (w2.heap.size + 1) key nonce := by
  have z : ∀ (w : World) (o : Obj), (w.alloc o).heap.size = w.heap.size + 1 := fun w o => by simp
  rw [z, z] at hz3
  have hs2 := h2.size
  have b3 : Below w.heap.size w w3 := ((h2.alloc hs2 _).alloc (by rw [z]; omega) _).grown hg3 (by rw [z, z]; omega) (fun k hk => by injection hk with hk; omega)
  have b4 : Below w.heap.size w w4 := b3.grown hg4 (by omega) (fun k hk => by injection hk with hk; omega)
  exact ⟨h3.grown hg4 (by simp), h4, kl, nl, G.up b4, b4.size, b4⟩
theorem old12 {w w3 : World} {o : Obj} {z : Array Value} (hz : z = (cb (List.replicate 12 0)).toArray) (hg3 : ((w.alloc o).alloc (.cells z 27)).grownBy w3 (some w.heap.size)) : BT w3 (w.heap.size + 1) 27 (List.replicate 12 0) := by
  subst hz
  have := bt_new (w := w.alloc o) (n := 12) (t := 27) rfl rfl
  have z : (w.alloc o).heap.size = w.heap.size + 1 := by simp
  rw [z] at this
  exact this.grown hg3 (by simp)
theorem old32 {w : World} {o : Obj} {z : Array Value} (hz : z = (cb (List.replicate 32 0)).toArray) : BT ((w.alloc (.cells z 26)).alloc o) w.heap.size 26 (List.replicate 32 0) := by
  subst hz
  exact (bt_new rfl rfl).alloc _
theorem cut_of (b : List UInt8) (n : Nat) : ∃ x : List UInt8, Hid (x = b.take n) ∧ x.length = min b.length n ∧ x.length ≤ b.length := by
  refine ⟨b.take n, rfl, ?_, ?_⟩ <;> rw [List.length_take] <;> omega
end Go.Proofs.YtbpphdmkfjdhnaaDoor
