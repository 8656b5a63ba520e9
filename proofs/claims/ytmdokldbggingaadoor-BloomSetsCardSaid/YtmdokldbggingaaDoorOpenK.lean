/-
  What the frames share: a []byte argument opened; arrays of numbers opened.
-/
import Derived.Test.YtmdokldbggingaaDoorMem
import Derived.Test.YtmdokldbggingaaDoorRows
import Derived.ProofKit
import Derived.OpenShut
import Derived.ShutString
import Derived.SizedLaws
import Derived.LaidMore
import Derived.Stop.Joined
namespace Go.Proofs.YtmdokldbggingaaDoor
open Go.RowKit Go.ChangeShapes Go.WideShapes Go.ChangeAt

theorem own : ownKnob Tryd.prog.godebug = none := by kernel_rfl
theorem laidOut : laidOutB Tryd.prog = true := by kernel_rfl
theorem cells5 : Tryd.prog.cellsOf 5 = 1 := by kernel_rfl
theorem bytes5 : Tryd.prog.bytesOf 5 = 1 := by kernel_rfl

theorem block_add (a : Addr) (n : Nat) : (a.add n).block = a.block := by unfold Addr.add; split <;> rfl

/-- The number of places of a slice's datum. -/
def places {H : Type} : DataW H → Nat
  | .slice elems spare => elems.length + spare.length
  | _ => 0

/-- A []byte that came in: its bytes, its room. -/
theorem open_bytes {H : Type} {enc : TypeId × Value → H} {W : World} {held : Bool} {fuel : Nat} {a : Option Addr} {len cap : Nat} {x : DataW H × List MemPlace}
    (h : DataW.trod enc Tryd.prog W 0 (fun _ => true) held fuel 22 [.slice a len cap] = some x) :
    ∃ l : List UInt8, len = l.length ∧ len ≤ cap ∧ cap ≤ maxLen ∧ Shows W W.heap.size a l ∧ cap = places x.1 ∧ (x.1 = .nil ∨ ∃ e s, x.1 = .slice e s) := by
  rcases open_ints Tryd.underlying22 Tryd.underlying5 cells5 h with ⟨hcs, hx⟩ | ⟨ad, l, c, zs, hcs, _, hl, hm, hz, hx, hcell, hwz⟩
  · simp at hcs
    obtain ⟨rfl, rfl, rfl⟩ := hcs
    exact ⟨[], rfl, Nat.le_refl _, by simp [maxLen], Shows.nil, by rw [hx]; rfl, .inl (by rw [hx])⟩
  · simp at hcs
    obtain ⟨rfl, rfl, rfl⟩ := hcs
    simp only [if_true] at hz
    have hlen : ((zs.take len).map fun n => UInt8.ofNat n.toNat).length = len := by simp; omega
    refine ⟨(zs.take len).map fun n => UInt8.ofNat n.toNat, hlen.symm, hl, hm, fun hpos => ?_, by rw [hx]; simp [places, lits]; omega, .inr ⟨_, _, by rw [hx]⟩⟩
    rw [hlen] at hpos
    obtain ⟨b, off, spot⟩ := ad
    have h0 := hcell 0 (by omega)
    have hspot : spot = none := by simpa [Addr.add] using World.cell?_spot h0
    subst hspot
    refine ⟨b, off, rfl, ?_, fun i c hi => ?_⟩
    · have := World.block_lt_of_cell? W _ h0
      rwa [block_add] at this
    · have hil : i < len := by have := (List.getElem?_eq_some_iff.1 hi).1; rw [hlen] at this; exact this
      have hc := hcell i (by omega)
      rw [Addr.add_lit] at hc
      rw [hc]
      simp only [List.getElem?_map, List.getElem?_take, if_pos hil] at hi
      have hiz : i < zs.length := by omega
      rw [List.getElem?_eq_getElem hiz] at hi
      simp at hi
      have hw := hwz zs[i] (List.getElem_mem hiz)
      have hb : 0 ≤ zs[i] ∧ zs[i] ≤ 255 := by simpa [Lit.wf, IntKind.min, IntKind.max, IntKind.signed, IntKind.bits] using hw
      subst hi
      have e : zs.getD i 0 = zs[i] := by simp [List.getD, List.getElem?_eq_getElem hiz]
      rw [e]
      congr 2
      rw [UInt8.toNat_ofNat']
      omega

theorem weights_le {H : Type} {ts : List TypeId} {ds : List (DataW H)} (h : (DataW.weightsEach Tryd.prog ts ds).all (· ≤ reachBytes) = true) {j : Nat} {t : TypeId} {d : DataW H} (ht : ts[j]? = some t) (hd : ds[j]? = some d) :
    ∀ n ∈ d.weights Tryd.prog t, n ≤ 140737488351232 := by
  intro n hn
  exact of_decide_eq_true (List.all_eq_true.1 h n (DataW.weights_mem_each ht hd n hn))
theorem places_le {H : Type} {d : DataW H} (hd : d = .nil ∨ ∃ e s, d = .slice e s) (h : ∀ n ∈ d.weights Tryd.prog 22, n ≤ 140737488351232) : places d ≤ 140737488351232 := by
  rcases hd with rfl | ⟨e, s, rfl⟩
  · simp [places]
  · have := h ((e.length + s.length) * Tryd.prog.bytesOf 5) (by simp [DataW.weights, Tryd.underlying22])
    rw [bytes5, Nat.mul_one] at this
    exact this

section
variable {H : Type} {enc : TypeId × Value → H} {P : Program} {w : World} {base : Nat} {sp : Nat → Bool} {held : Bool} {fuel n : Nat} {t e : TypeId} {k : IntKind} {cs : List Value}

theorem one_of {cs : List Value} {i : Nat} {v : Value} (h : (cs.drop i).take 1 = [v]) : cs[i]? = some v := by
  have := congrArg (·[0]?) h
  simpa [List.getElem?_take, List.getElem?_drop] using this

/-- An array of numbers: each of its cells. -/
theorem arr_ints {x : DataW H × List MemPlace} (ht : P.underlying t = some (.array n e)) (he : P.underlying e = some (.int k)) (hc : P.cellsOf e = 1) (hn : P.cellsOf t = n)
    (h : DataW.trod enc P w base sp held fuel t cs = some x) : ∃ zs : List Int, zs.length = n ∧ cs = zs.map (Value.int k) ∧ x.1 = .agg (zs.map fun z => .lit (.int k z)) ∧ ∀ z ∈ zs, (Lit.int k z).wf = true := by
  obtain ⟨xs, m, rfl, hx, hl, hxl, hel⟩ := DataW.trod_array ht h
  rw [hn] at hl
  have key : ∀ i, i < n → ∃ z, cs[i]? = some (.int k z) ∧ xs[i]? = some (.lit (.int k z), []) ∧ (Lit.int k z).wf = true := fun i hi => by
    have h1 := hel i hi
    rw [hc, Nat.mul_one] at h1
    have hi' : i < xs.length := by omega
    rw [List.getElem?_eq_getElem hi'] at h1
    obtain ⟨z, e1, e2, e3⟩ := DataW.trod_int he h1
    exact ⟨z, one_of e1, by rw [List.getElem?_eq_getElem hi', e2], e3⟩
  refine ⟨cs.map fun v => match v with | .int _ z => z | _ => 0, by simp [hl], ?_, ?_, ?_⟩
  · apply List.ext_getElem?
    intro i
    rcases Nat.lt_or_ge i n with hi | hi
    · obtain ⟨z, h1, _⟩ := key i hi
      simp [h1]
    · rw [List.getElem?_eq_none (by omega), List.getElem?_eq_none (by simp; omega)]
  · rw [hx]
    show DataW.agg _ = DataW.agg _
    refine congrArg DataW.agg ?_
    apply List.ext_getElem?
    intro i
    rcases Nat.lt_or_ge i n with hi | hi
    · obtain ⟨z, h1, h2, _⟩ := key i hi
      simp [h1, h2]
    · rw [List.getElem?_eq_none (by simp; omega), List.getElem?_eq_none (by simp; omega)]
  · intro z hz
    simp only [List.mem_map] at hz
    obtain ⟨v, hv, rfl⟩ := hz
    obtain ⟨i, hi, rfl⟩ := List.mem_iff_getElem.1 hv
    obtain ⟨z, h1, _, h3⟩ := key i (by omega)
    rw [List.getElem?_eq_getElem hi] at h1
    injection h1 with h1
    rw [h1]
    exact h3

/-- An array of numbers that reads as given. -/
theorem arr_is {q : List MemPlace} {ds : List Int} (ht : P.underlying t = some (.array n e)) (he : P.underlying e = some (.int k)) (hc : P.cellsOf e = 1) (hn : P.cellsOf t = n)
    (h : DataW.trod enc P w base sp held fuel t cs = some (.agg (ds.map fun z => .lit (.int k z)), q)) : cs = ds.map (Value.int k) := by
  obtain ⟨zs, _, e1, e2, _⟩ := arr_ints ht he hc hn h
  simp only [DataW.agg.injEq] at e2
  have : zs = ds := by
    apply List.ext_getElem?
    intro i
    have h1 := congrArg (·[i]?) e2
    simp only [List.getElem?_map] at h1
    cases hz : zs[i]? <;> cases hd : ds[i]? <;> simp_all
  rw [e1, this]

/-- A table of numbers that reads as given. -/
theorem table_is {q : List MemPlace} {m : Nat} {u : TypeId} {rs : List (List Int)} (hu : P.underlying u = some (.array m t)) (ht : P.underlying t = some (.array n e)) (he : P.underlying e = some (.int k)) (hc : P.cellsOf e = 1) (hn : P.cellsOf t = n)
    (h : DataW.trod enc P w base sp held fuel u cs = some (.agg (rs.map fun r => .agg (r.map fun z => .lit (.int k z))), q)) : ∀ i r, i < m → rs[i]? = some r → (cs.drop (i * n)).take n = r.map (Value.int k) := by
  obtain ⟨xs, f, rfl, hx, hl, hxl, hel⟩ := DataW.trod_array hu h
  intro i r hi hr
  have h1 := hel i hi
  rw [hn] at h1
  have hi' : i < xs.length := by omega
  rw [List.getElem?_eq_getElem hi'] at h1
  simp only [Prod.mk.injEq, DataW.agg.injEq] at hx
  have h2 := congrArg (·[i]?) hx.1
  simp only [List.getElem?_map, hr, List.getElem?_eq_getElem hi', Option.map_some, Option.some.injEq] at h2
  exact arr_is (fuel := f) (q := xs[i].2) ht he hc hn (by rw [h1]; exact congrArg some (Prod.ext h2.symm rfl))
end

/-- Bytes in an array. -/
theorem ints_bytes {zs : List Int} (h : ∀ z ∈ zs, (Lit.int .u8 z).wf = true) : ∃ l : List UInt8, l.length = zs.length ∧ zs.map (Value.int .u8) = cb l := by
  refine ⟨zs.map fun z => UInt8.ofNat z.toNat, by simp, ?_⟩
  unfold cb
  rw [List.map_map]
  refine List.map_congr_left fun z hz => ?_
  have hb : 0 ≤ z ∧ z ≤ 255 := by simpa [Lit.wf, IntKind.min, IntKind.max, IntKind.signed, IntKind.bits] using h z hz
  show Value.int .u8 z = Value.int .u8 ((UInt8.ofNat z.toNat).toNat : Int)
  rw [UInt8.toNat_ofNat']
  congr 1
  omega
end Go.Proofs.YtmdokldbggingaaDoor
