/-
  Arguments opened: keys, and a set of keys with its two numbers.
-/
import Derived.Test.YtmdokldbggingaaDoorBlA
import Derived.Test.YtmdokldbggingaaDoorOpenG
import Derived.Deep.Slices
import Derived.Deep.Strs
import Derived.Lib.SmallJoins
namespace Go.Proofs.YtmdokldbggingaaDoor
open Go.RowKit Go.ChangeShapes Go.WideShapes Go.ChangeAt Go.Deep
set_option maxRecDepth 100000

theorem add_zero' (a : Addr) : a.add 0 = a := by unfold Addr.add; simp
theorem cKeys : Tryd.prog.cellsOf 22 = 1 := by kernel_rfl
theorem bKeys : 1 ≤ Tryd.prog.bytesOf 22 := of_decide_eq_true (by kernel_rfl)
theorem cSet : Tryd.prog.cellsOf 39 = 3 := by kernel_rfl
theorem pick_lt {α : Type} {n : Nat} {P : Nat → α → Prop} (h : ∀ i, i < n → ∃ v, P i v) (d : α) : ∃ f : Nat → α, ∀ i, i < n → P i (f i) := by
  classical
  refine ⟨fun i => if hi : i < n then (h i hi).choose else d, fun i hi => ?_⟩
  simp only [dif_pos hi]
  exact (h i hi).choose_spec
theorem weightsAll_mem {H : Type} {P : Program} {e : TypeId} : ∀ {ds : List (DataW H)} {d : DataW H}, d ∈ ds → ∀ n ∈ d.weights P e, n ∈ DataW.weightsAll P e ds
  | [], _, h, _, _ => by cases h
  | a :: r, d, h, n, hn => by
    rw [DataW.weightsAll]
    rcases List.mem_cons.1 h with rfl | h
    · exact List.mem_append_left _ hn
    · exact List.mem_append_right _ (weightsAll_mem h n hn)
/-- a key that came in -/
theorem open_key {H : Type} {enc : TypeId × Value → H} {W : World} {held : Bool} {fuel : Nat} {cs : List Value} {y : DataW H × List MemPlace}
    (h : DataW.trod enc Tryd.prog W 0 (fun _ => true) held fuel 22 cs = some y) :
    ∃ c : Ky, cs = [c.val] ∧ Shows W W.heap.size c.A c.l ∧ c.l.length ≤ c.c ∧ ((∀ n ∈ y.1.weights Tryd.prog 22, n ≤ 140737488351232) → c.c ≤ 140737488351232) := by
  obtain ⟨A, len, cap, rfl⟩ := Joins.slice_form Tryd.underlying22 h
  obtain ⟨l, rfl, hlc, _, hs, hcp, hd⟩ := open_bytes h
  exact ⟨⟨A, l, cap⟩, rfl, hs, hlc, fun hw => by rw [hcp]; exact places_le hd hw⟩
/-- keys that came in -/
theorem open_keys {H : Type} {enc : TypeId × Value → H} {W : World} {held : Bool} {fuel : Nat} {a : Option Addr} {len cap : Nat} {x : DataW H × List MemPlace}
    (hw : ∀ n ∈ x.1.weights Tryd.prog 37, n ≤ 140737488351232) (h : DataW.trod enc Tryd.prog W 0 (fun _ => true) held fuel 37 [.slice a len cap] = some x) :
    ∃ ks : List Ky, len = ks.length ∧ len ≤ 140737488351232 ∧ KsAt W W.heap.size a ks := by
  rcases DataW.trod_slice Tryd.underlying37 h with ⟨hcs, _⟩ | ⟨ad, len', cap', E, R, n, hf, hcs, hx, _, hl, hm, hE, hel, hsp, _⟩
  · simp at hcs
    obtain ⟨rfl, rfl, rfl⟩ := hcs
    exact ⟨[], rfl, by omega, ⟨fun h => by simp at h, (fun k hk => by cases hk), (fun k hk => by cases hk)⟩⟩
  · simp at hcs
    obtain ⟨rfl, rfl, rfl⟩ := hcs
    have hr : R.length = cap - len := (hsp rfl).1
    rw [cKeys] at hel
    have hwx : x.1.weights Tryd.prog 37 = (E.length + R.length) * Tryd.prog.bytesOf 22 :: (DataW.weightsAll Tryd.prog 22 (E.map (·.1)) ++ DataW.weightsAll Tryd.prog 22 (R.map (·.1))) := by
      rw [hx]
      simp [DataW.weights, Tryd.underlying37]
    have hex : ∀ i, i < len → ∃ c : Ky, ad.spot = none ∧ ad.block < W.heap.size ∧ W.cell? ⟨ad.block, ad.off + i, none⟩ = some c.val ∧ Shows W W.heap.size c.A c.l ∧ c.l.length ≤ c.c ∧ c.c ≤ 140737488351232 := fun i hil => by
      have hi := hel i hil
      rw [List.getElem?_eq_getElem (by omega), Option.bind_eq_some_iff] at hi
      obtain ⟨cs', hc, ht'⟩ := hi
      obtain ⟨c, rfl, hQ1, hQ2, hQ3⟩ := open_key ht'
      obtain ⟨_, _, hcell⟩ := World.cells?_some hc
      have h0 := hcell 0 (by decide)
      have hlt := World.block_lt_of_cell? W _ h0
      rw [block_add, block_add] at hlt
      rw [add_zero', Nat.mul_one] at h0
      have hi0 := hel 0 (by omega)
      rw [List.getElem?_eq_getElem (by omega), Option.bind_eq_some_iff] at hi0
      obtain ⟨cs0, hc0, ht0⟩ := hi0
      obtain ⟨c0, rfl, _⟩ := open_key ht0
      obtain ⟨_, _, hcell0⟩ := World.cells?_some hc0
      have h00 := hcell0 0 (by decide)
      rw [add_zero', Nat.zero_mul, add_zero'] at h00
      obtain ⟨b, o, spot⟩ := ad
      have hspot : spot = none := World.cell?_spot h00
      subst hspot
      rw [Addr.add_lit] at h0
      refine ⟨c, rfl, hlt, h0, hQ1, hQ2, hQ3 fun n hn => hw n ?_⟩
      rw [hwx]
      exact List.mem_cons_of_mem _ (List.mem_append_left _ (weightsAll_mem (List.mem_map_of_mem (List.getElem_mem _)) n hn))
    obtain ⟨f, hff⟩ := pick_lt hex ⟨none, [], 0⟩
    have hcap : cap ≤ 140737488351232 := by
      have h1 := hw _ (by rw [hwx]; exact List.mem_cons_self ..)
      rw [show E.length + R.length = cap by omega] at h1
      have h2 : cap * 1 ≤ cap * Tryd.prog.bytesOf 22 := Nat.mul_le_mul_left _ bKeys
      omega
    refine ⟨(List.range len).map f, by simp, by omega, ⟨fun hpos => ?_, fun k hk => ?_, fun k hk => ?_⟩⟩
    · obtain ⟨b, o, spot⟩ := ad
      have h0 := hff 0 (by simpa using hpos)
      simp only at h0
      obtain ⟨rfl, hlt, _⟩ := h0
      refine ⟨b, o, rfl, hlt, fun i k hk => ?_⟩
      rw [List.getElem?_map] at hk
      have hil : i < len := by
        by_cases h : i < len
        · exact h
        · rw [List.getElem?_eq_none (by simpa using h)] at hk
          cases hk
      rw [List.getElem?_range hil] at hk
      obtain rfl : f i = k := by simpa using hk
      exact (hff i hil).2.2.1
    · obtain ⟨i, hi, rfl⟩ := List.mem_map.1 hk
      exact (hff i (by simpa using hi)).2.2.2.1
    · obtain ⟨i, hi, rfl⟩ := List.mem_map.1 hk
      exact (hff i (by simpa using hi)).2.2.2.2
/-- a set of keys that came in -/
theorem open_set {H : Type} {enc : TypeId × Value → H} {W : World} {base : Nat} {held : Bool} {v : Value} {d : DataW H} {p : List MemPlace}
    (hv : Value.okWide Tryd.prog W .any base 39 v) (h : DataW.Trod enc Tryd.prog W 0 (fun _ => true) held 39 v d p) (hw : ∀ n ∈ d.weights Tryd.prog 39, n ≤ 140737488351232) :
    ∃ (A : Option Addr) (nk ck n k : Nat) (ks : List Ky), v = .agg #[.slice A nk ck, .int .u8 (n : Int), .int .u8 (k : Int)] ∧ nk = ks.length ∧ KsAt W W.heap.size A ks ∧ nk ≤ 140737488351232 ∧ n < 256 ∧ k < 256 := by
  obtain ⟨v0, v1, v2, y0, y1, y2, fu, rfl, rfl, rfl, h0, h1, h2⟩ := Joins.open_agg3 Tryd.underlying39 (by kernel_rfl) cSet hv h
  obtain ⟨A, len, cap, e0⟩ := Joins.slice_form Tryd.underlying37 h0
  obtain ⟨z1, e1, _, w1⟩ := DataW.trod_int Tryd.underlying5 h1
  obtain ⟨z2, e2, _, w2⟩ := DataW.trod_int Tryd.underlying5 h2
  simp only [List.cons.injEq, and_true] at e0 e1 e2
  subst e0 e1 e2
  obtain ⟨ks, hl, hl2, hk⟩ := open_keys (fun n hn => hw n (by
    simp only [DataW.weights, Tryd.underlying39, DataW.weightsEach, List.map_cons, List.map_nil]
    simp only [List.mem_append]
    exact .inl hn)) h0
  have b1 : 0 ≤ z1 ∧ z1 ≤ 255 := by simpa [Lit.wf, IntKind.min, IntKind.max, IntKind.signed, IntKind.bits] using w1
  have b2 : 0 ≤ z2 ∧ z2 ≤ 255 := by simpa [Lit.wf, IntKind.min, IntKind.max, IntKind.signed, IntKind.bits] using w2
  obtain ⟨n, rfl⟩ := Int.eq_ofNat_of_zero_le b1.1
  obtain ⟨k, rfl⟩ := Int.eq_ofNat_of_zero_le b2.1
  exact ⟨A, len, cap, n, k, ks, rfl, hl, hk, hl2, by omega, by omega⟩
end Go.Proofs.YtmdokldbggingaaDoor
