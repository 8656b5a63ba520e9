/-
  What the laws' walks share: the reference's readers at letters; a []byte argument opened.
-/
import Derived.Test.YteaaadccjnmacaaGreatDoorSane
import Derived.Test.YteaaadccjnmacaaGreatDoorRows
import Derived.ProofKit
import Derived.OpenShut
import Derived.ShutString
import Derived.SizedLaws
namespace Go.Proofs.YteaaadccjnmacaaGreatDoor
open Go.RowKit Go.ChangeShapes Go.WideShapes Go.ChangeAt
open Go.Lib (uvarint zigzag)

theorem RReadU_is (A : Option Addr) (k cap : Nat) (l : List UInt8) (a x y z : Int) (w : World) (hk : k = l.length) (hs : Shows w w.heap.size A l) (hl : l.length ≤ 9223372036854775807)
    (h1 : ((Num.readU l a).1 : Int) = x) (h2 : ((Num.readU l a).2.1 : Int) = y) (h3 : ((Num.readU l a).2.2 : Int) = z) :
    Calls Tryz.prog 57 #[.slice A k cap, .int .i64 a] w fun e w' => e = .returned (.tuple #[.int .u64 x, .int .i64 y, .int .i64 z]) ∧ Below w.heap.size w w' := by
  subst hk h1 h2 h3
  exact (RReadU_any A cap l a w hs hl).mono fun e w' ⟨he, hw⟩ => ⟨he, hw ▸ Below.refl _ _⟩
theorem RReadS_is (A : Option Addr) (k cap : Nat) (l : List UInt8) (a x y z : Int) (w : World) (hk : k = l.length) (hs : Shows w w.heap.size A l) (hl : l.length ≤ 9223372036854775807)
    (h1 : Num.zag (Num.readU l a).1 = x) (h2 : ((Num.readU l a).2.1 : Int) = y) (h3 : ((Num.readU l a).2.2 : Int) = z) :
    Calls Tryz.prog 36 #[.slice A k cap, .int .i64 a] w fun e w' => e = .returned (.tuple #[.int .i64 x, .int .i64 y, .int .i64 z]) ∧ Below w.heap.size w w' := by
  subst hk h1 h2 h3
  exact (RReadS_any A cap l a w hs hl).mono fun e w' ⟨he, hw⟩ => ⟨he, hw ▸ Below.refl _ _⟩
theorem RReadText_is (A : Option Addr) (k cap : Nat) (l : List UInt8) (a y z : Int) (s : ByteArray) (w : World) (hk : k = l.length) (hs : Shows w w.heap.size A l) (hc : l.length ≤ cap) (hl : cap ≤ 9223372036854775807)
    (h1 : (⟨(Num.taken l a).toArray⟩ : ByteArray) = s) (h2 : ((Num.span l a).2.1 : Int) = y) (h3 : ((Num.span l a).2.2 : Int) = z) :
    Calls Tryz.prog 35 #[.slice A k cap, .int .i64 a] w fun e w' => e = .returned (.tuple #[.string s, .int .i64 y, .int .i64 z]) ∧ Below w.heap.size w w' := by
  subst hk h1 h2 h3
  exact RReadText_any A cap l a w hs hc hl
theorem RReadBytes_at (A : Option Addr) (k cap : Nat) (l : List UInt8) (a y z : Int) (p : List UInt8) (m : Nat) (w : World) (hk : k = l.length) (hs : Shows w w.heap.size A l) (hc : l.length ≤ cap) (hl : cap ≤ 9223372036854775807)
    (hp : Num.taken l a = p) (hm : m = p.length) (h2 : ((Num.span l a).2.1 : Int) = y) (h3 : ((Num.span l a).2.2 : Int) = z) :
    Calls Tryz.prog 56 #[.slice A k cap, .int .i64 a] w fun e w' => ∃ B c, e = .returned (.tuple #[.slice B m c, .int .i64 y, .int .i64 z]) ∧ Owns w' w.heap.size (.slice B m c) p ∧ Shows w' w'.heap.size B p ∧ Below w.heap.size w w' := by
  subst hk h2 h3 hm hp
  exact (RReadBytes_any A cap l a w hs hc hl).mono fun e w' ⟨B, c, he, ho, hb⟩ => ⟨B, c, he, ho, ho.shows.2.2, hb⟩

theorem own : ownKnob Tryz.prog.godebug = none := by kernel_rfl
theorem laidOut : laidOutB Tryz.prog = true := by kernel_rfl
theorem cells5 : Tryz.prog.cellsOf 5 = 1 := by kernel_rfl
theorem bytes5 : Tryz.prog.bytesOf 5 = 1 := by kernel_rfl

theorem block_add (a : Addr) (n : Nat) : (a.add n).block = a.block := by unfold Addr.add; split <;> rfl
theorem add_zero' (a : Addr) : a.add 0 = a := by unfold Addr.add; simp

/-- The number of places of a slice's datum. -/
def places {H : Type} : DataW H → Nat
  | .slice elems spare => elems.length + spare.length
  | _ => 0

/-- A []byte that came in: its bytes, its room. -/
theorem open_bytes {H : Type} {enc : TypeId × Value → H} {W : World} {held : Bool} {fuel : Nat} {a : Option Addr} {len cap : Nat} {x : DataW H × List MemPlace}
    (h : DataW.trod enc Tryz.prog W 0 (fun _ => true) held fuel 22 [.slice a len cap] = some x) :
    ∃ l : List UInt8, len = l.length ∧ len ≤ cap ∧ cap ≤ maxLen ∧ Shows W W.heap.size a l ∧ cap = places x.1 ∧ (x.1 = .nil ∨ ∃ e s, x.1 = .slice e s) := by
  rcases open_ints Tryz.underlying22 Tryz.underlying5 cells5 h with ⟨hcs, hx⟩ | ⟨ad, l, c, zs, hcs, _, hl, hm, hz, hx, hcell, hwz⟩
  · simp at hcs
    obtain ⟨rfl, rfl, rfl⟩ := hcs
    exact ⟨[], rfl, Nat.le_refl _, by simp [maxLen], Shows.nil, by rw [hx]; rfl, .inl (by rw [hx])⟩
  · simp at hcs
    obtain ⟨rfl, rfl, rfl⟩ := hcs
    simp only [if_true] at hz
    have hlen : ((zs.take len).map fun n => UInt8.ofNat n.toNat).length = len := by simp; omega
    refine ⟨(zs.take len).map fun n => UInt8.ofNat n.toNat, hlen.symm, hl, hm, fun hpos => ?_, by rw [hx]; simp [places, lits]; omega, .inr ⟨_, _, by rw [hx]⟩⟩
    rw [hlen] at hpos
    obtain ⟨b, off, spot⟩ := ad
    have h0 := hcell 0 (by omega)
    have hspot : spot = none := by simpa [Addr.add] using World.cell?_spot h0
    subst hspot
    refine ⟨b, off, rfl, ?_, fun i c hi => ?_⟩
    · have := World.block_lt_of_cell? W _ h0
      rwa [block_add] at this
    · have hil : i < len := by have := (List.getElem?_eq_some_iff.1 hi).1; rw [hlen] at this; exact this
      have hc := hcell i (by omega)
      rw [Addr.add_lit] at hc
      rw [hc]
      simp only [List.getElem?_map, List.getElem?_take, if_pos hil] at hi
      have hiz : i < zs.length := by omega
      rw [List.getElem?_eq_getElem hiz] at hi
      simp at hi
      have hw := hwz zs[i] (List.getElem_mem hiz)
      have hb : 0 ≤ zs[i] ∧ zs[i] ≤ 255 := by simpa [Lit.wf, IntKind.min, IntKind.max, IntKind.signed, IntKind.bits] using hw
      subst hi
      have e : zs.getD i 0 = zs[i] := by simp [List.getD, List.getElem?_eq_getElem hiz]
      rw [e]
      congr 2
      rw [UInt8.toNat_ofNat']
      omega

theorem weights_le {H : Type} {ts : List TypeId} {ds : List (DataW H)} (h : (DataW.weightsEach Tryz.prog ts ds).all (· ≤ reachBytes) = true) {j : Nat} {t : TypeId} {d : DataW H} (ht : ts[j]? = some t) (hd : ds[j]? = some d) :
    ∀ n ∈ d.weights Tryz.prog t, n ≤ 140737488351232 := by
  intro n hn
  exact of_decide_eq_true (List.all_eq_true.1 h n (DataW.weights_mem_each ht hd n hn))
theorem places_le {H : Type} {d : DataW H} (hd : d = .nil ∨ ∃ e s, d = .slice e s) (h : ∀ n ∈ d.weights Tryz.prog 22, n ≤ 140737488351232) : places d ≤ 140737488351232 := by
  rcases hd with rfl | ⟨e, s, rfl⟩
  · simp [places]
  · have := h ((e.length + s.length) * Tryz.prog.bytesOf 5) (by simp [DataW.weights, Tryz.underlying22])
    rw [bytes5, Nat.mul_one] at this
    exact this
theorem open_u64 {x : Int} (h : (Lit.int .u64 x).wf = true) : ∃ n : Nat, x = (n : Int) ∧ Num.U64 n := by
  have b : 0 ≤ x ∧ x ≤ 18446744073709551615 := by simpa [Lit.wf, IntKind.min, IntKind.max, IntKind.signed, IntKind.bits] using h
  obtain ⟨n, rfl⟩ := Int.eq_ofNat_of_zero_le b.1
  exact ⟨n, rfl, show n < 18446744073709551616 by omega⟩

end Go.Proofs.YteaaadccjnmacaaGreatDoor
