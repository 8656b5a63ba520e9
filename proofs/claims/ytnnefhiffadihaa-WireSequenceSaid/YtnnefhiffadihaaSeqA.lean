/-
  A []fenlandlaw01.Value that came in, opened; what WireSequence writes, as bytes.
-/
import Derived.Test.YtnnefhiffadihaaOpenV
import Derived.Test.YtnnefhiffadihaaMath2
import Derived.Deep.Slices
namespace Go.Proofs.Ytnnefhiffadihaa
open Go.RowKit Go.ChangeShapes Go.WideShapes Go.ChangeAt Go.Deep
open Go.Lib (uvarint zigzag)

/-- A value that came in: its fields, the bytes of its last field read. -/
structure Val where
  n : Nat
  z : Int
  s : ByteArray
  A : Option Addr
  cap : Nat
  l : List UInt8
instance : Inhabited Val := ⟨⟨0, 0, ⟨#[]⟩, none, 0, []⟩⟩
def Good (w : World) (B : Nat) (v : Val) : Prop := Num.U64 v.n ∧ -9223372036854775808 ≤ v.z ∧ v.z ≤ 9223372036854775807 ∧ Shows w B v.A v.l ∧ v.l.length ≤ v.cap
def Lies (w : World) (b o : Nat) (v : Val) : Prop :=
  w.cell? ⟨b, o, none⟩ = some (.int .u64 v.n) ∧ w.cell? ⟨b, o + 1, none⟩ = some (.int .i64 v.z) ∧ w.cell? ⟨b, o + 2, none⟩ = some (.string v.s) ∧ w.cell? ⟨b, o + 3, none⟩ = some (.slice v.A v.l.length v.cap)
theorem Lies.below {w w' : World} {b o B : Nat} {v : Val} (h : Lies w b o v) (hb : Below B w w') (hB : b < B) : Lies w' b o v :=
  ⟨(hb.cell (p := ⟨b, o, none⟩) hB).trans h.1, (hb.cell (p := ⟨b, o + 1, none⟩) hB).trans h.2.1, (hb.cell (p := ⟨b, o + 2, none⟩) hB).trans h.2.2.1, (hb.cell (p := ⟨b, o + 3, none⟩) hB).trans h.2.2.2⟩
def Elems (w : World) (B : Nat) (a : Option Addr) (L : List Val) : Prop := ∀ i v, L[i]? = some v → ∃ b off, a = some ⟨b, off, none⟩ ∧ b < B ∧ Lies w b (off + i * 4) v ∧ Good w B v

/-- A struct of four one-cell fields, its cells known: each field read. -/
theorem fields4 {H : Type} {enc : TypeId × Value → H} {P : Program} {W : World} {base : Nat} {spare : Nat → Bool} {held : Bool} {t : TypeId} {f0 f1 f2 f3 : Field} {fuel : Nat} {c0 c1 c2 c3 : Value} {x : DataW H × List MemPlace}
    (hs : P.underlying t = some (.struct #[f0, f1, f2, f3])) (hone : oneCellFields P #[f0, f1, f2, f3] = true) (h : DataW.trod enc P W base spare held fuel t [c0, c1, c2, c3] = some x) :
    ∃ (y0 y1 y2 y3 : DataW H × List MemPlace) (n : Nat), DataW.trod enc P W base spare held n f0.type [c0] = some y0 ∧ DataW.trod enc P W base spare held n f1.type [c1] = some y1 ∧ DataW.trod enc P W base spare held n f2.type [c2] = some y2 ∧ DataW.trod enc P W base spare held n f3.type [c3] = some y3 := by
  obtain ⟨y0, y1, y2, y3, n, _, _, h0, h1, h2, h3⟩ := Joins.trod_struct4 hs h
  obtain ⟨o0, k0⟩ := hone_of hone 0 f0 rfl
  obtain ⟨o1, k1⟩ := hone_of hone 1 f1 rfl
  obtain ⟨o2, k2⟩ := hone_of hone 2 f2 rfl
  obtain ⟨o3, k3⟩ := hone_of hone 3 f3 rfl
  exact ⟨y0, y1, y2, y3, n, by simpa [o0, k0] using h0, by simpa [o1, k1] using h1, by simpa [o2, k2] using h2, by simpa [o3, k3] using h3⟩

theorem open_one {H : Type} {enc : TypeId × Value → H} {W : World} {held : Bool} {fuel : Nat} {ad : Addr} {cs : List Value} {x : DataW H × List MemPlace}
    (hc : W.cells? 0 ad 4 = some cs) (h : DataW.trod enc Try.prog W 0 (fun _ => true) held fuel 25 cs = some x) :
    ad.spot = none ∧ ad.block < W.heap.size ∧ ∃ v : Val, Lies W ad.block ad.off v ∧ Good W W.heap.size v := by
  obtain ⟨_, hlen, hcell⟩ := World.cells?_some hc
  match cs, hlen with
  | [v0, v1, v2, v3], _ =>
  have c0 := hcell 0 (by omega)
  have c1 := hcell 1 (by omega)
  have c2 := hcell 2 (by omega)
  have c3 := hcell 3 (by omega)
  simp only [List.getElem?_cons_zero, List.getElem?_cons_succ] at c0 c1 c2 c3
  obtain ⟨b, o, spot⟩ := ad
  have hspot : spot = none := by simpa [Addr.add] using World.cell?_spot c0
  subst hspot
  have hlt := World.block_lt_of_cell? W _ c0
  rw [block_add] at hlt
  simp only [Addr.add_lit, Nat.add_zero] at c0 c1 c2 c3
  refine ⟨rfl, hlt, ?_⟩
  obtain ⟨y0, y1, y2, y3, n, h0, h1, h2, h3⟩ := fields4 Try.underlying25 (by kernel_rfl) h
  obtain ⟨n0, e0, rfl, w0⟩ := DataW.trod_int Try.underlying23 h0
  obtain ⟨z, e1, rfl, w1⟩ := DataW.trod_int Try.underlying2 h1
  obtain ⟨s, e2, rfl, _⟩ := DataW.trod_string Try.underlying9 h2
  obtain ⟨A, len, cap, e3⟩ := Joins.slice_form Try.underlying22 h3
  simp only [List.cons.injEq, and_true] at e0 e1 e2 e3
  subst e0 e1 e2 e3
  obtain ⟨l, rfl, hlc, _, hsh, _, _⟩ := open_bytes h3
  obtain ⟨n, rfl, hu⟩ := open_u64 w0
  have b1 : -9223372036854775808 ≤ z ∧ z ≤ 9223372036854775807 := by simpa [Lit.wf, IntKind.min, IntKind.max, IntKind.signed, IntKind.bits] using w1
  exact ⟨⟨n, z, s, A, cap, l⟩, ⟨c0, c1, c2, c3⟩, hu, b1.1, b1.2, hsh, hlc⟩

/-- A []fenlandlaw01.Value that came in. -/
theorem open_values {H : Type} {enc : TypeId × Value → H} {W : World} {held : Bool} {fuel : Nat} {a : Option Addr} {len cap : Nat} {x : DataW H × List MemPlace}
    (h : DataW.trod enc Try.prog W 0 (fun _ => true) held fuel 48 [.slice a len cap] = some x) :
    ∃ L : List Val, len = L.length ∧ len ≤ cap ∧ cap ≤ maxLen ∧ Elems W W.heap.size a L := by
  rcases open_slice Try.underlying48 h with ⟨hcs, _⟩ | ⟨ad, len', cap', m, n, D, Pl, hcs, _, hl, hm, hmm, _, hi⟩
  · simp at hcs
    obtain ⟨rfl, rfl, rfl⟩ := hcs
    exact ⟨[], rfl, Nat.le_refl _, by simp [maxLen], fun i v hv => by simp at hv⟩
  · simp at hcs
    obtain ⟨rfl, rfl, rfl⟩ := hcs
    simp only [if_true] at hmm
    subst hmm
    rw [cells25] at hi
    have hex : ∀ i, i < len → ∃ v : Val, ad.spot = none ∧ ad.block < W.heap.size ∧ Lies W ad.block (ad.off + i * 4) v ∧ Good W W.heap.size v := fun i hil => by
      obtain ⟨cs', hc, ht⟩ := hi i (by omega)
      obtain ⟨_, hlt, v, hv, hg⟩ := open_one hc ht
      obtain ⟨c0, hc0, ht0⟩ := hi 0 (by omega)
      obtain ⟨hsp, _⟩ := open_one hc0 ht0
      rw [Nat.zero_mul, add_zero'] at hsp
      obtain ⟨b, o, spot⟩ := ad
      simp only at hsp
      subst hsp
      rw [Addr.add_lit] at hlt hv
      exact ⟨v, rfl, hlt, hv, hg⟩
    obtain ⟨f, hf⟩ := choose_lt hex
    refine ⟨(List.range len).map f, by simp, hl, hm, fun i v hv => ?_⟩
    have hil : i < len := by have := (List.getElem?_eq_some_iff.1 hv).1; simpa using this
    have hfv : f i = v := by simpa [List.getElem?_map, List.getElem?_range hil] using hv
    subst hfv
    obtain ⟨hsp, hlt, hv, hg⟩ := hf i hil
    obtain ⟨b, o, spot⟩ := ad
    simp only at hsp
    subst hsp
    exact ⟨b, o, rfl, hlt, hv, hg⟩

/-- What is written of one value, and of a list of them. -/
def one (v : Val) : List UInt8 := uvarint v.n ++ (uvarint (zigzag v.z) ++ (counted v.s.data.toList ++ counted v.l))
def encs : List Val → List UInt8
  | [] => []
  | v :: r => one v ++ encs r
theorem encs_app (L R : List Val) : encs (L ++ R) = encs L ++ encs R := by
  induction L with
  | nil => rfl
  | cons v r ih => simp [encs, ih]
theorem encs_next {L : List Val} {k : Nat} {v : Val} (h : L[k]? = some v) : encs (L.take (k + 1)) = encs (L.take k) ++ one v := by
  rw [List.take_add_one, h, encs_app]
  simp [encs]
theorem encs_split {L : List Val} {k : Nat} {v : Val} (h : L[k]? = some v) : encs L = encs (L.take k) ++ (one v ++ encs (L.drop (k + 1))) := by
  have hl := (List.getElem?_eq_some_iff.1 h).1
  have e : L = L.take k ++ (v :: L.drop (k + 1)) := by
    have h1 := List.drop_eq_getElem_cons hl
    have h2 : L[k] = v := (List.getElem?_eq_some_iff.1 h).2
    rw [h2] at h1
    rw [← h1, List.take_append_drop]
  conv => lhs; rw [e]
  rw [encs_app]
  rfl
theorem one_pos (v : Val) : 0 < (one v).length := by
  have := Lib.uvarint_pos v.n
  simp only [one, List.length_append]
  omega

end Go.Proofs.Ytnnefhiffadihaa
