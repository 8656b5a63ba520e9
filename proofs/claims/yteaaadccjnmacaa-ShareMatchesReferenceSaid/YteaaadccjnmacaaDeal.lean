/-
  A fenlandlaw04.Deal that came in, opened; what the laws' walks share.
-/
import Derived.Test.YteaaadccjnmacaaOpen
import Derived.Test.YteaaadccjnmacaaFits
import Derived.Test.YteaaadccjnmacaaCombM
import Derived.Lib.SmallJoins
import Derived.JoinedCond
namespace Go.Proofs.Yteaaadccjnmacaa
open Go.RowKit Go.ChangeShapes Go.WideShapes Go.ChangeAt

theorem cellsD : Try.prog.cellsOf 24 = 4 := by kernel_rfl
theorem open_deal {H : Type} {enc : TypeId × Value → H} {W : World} {base : Nat} {held : Bool} {v : Value} {d : DataW H} {p : List MemPlace}
    (hv : Value.okWide Try.prog W .any base 24 v) (h : DataW.Trod enc Try.prog W 0 (fun _ => true) held 24 v d p) :
    ∃ (A : Option Addr) (ca : Nat) (sl : List UInt8) (B : Option Addr) (cb : Nat) (rl : List UInt8) (x y : UInt8), v = .agg #[.slice A sl.length ca, .slice B rl.length cb, .int .u8 (x.toNat : Int), .int .u8 (y.toNat : Int)] ∧
      Shows W W.heap.size A sl ∧ sl.length ≤ ca ∧ Shows W W.heap.size B rl ∧ rl.length ≤ cb ∧
      ((∀ x ∈ d.weights Try.prog 24, x ≤ 140737488351232) → ca ≤ 140737488351232 ∧ cb ≤ 140737488351232) := by
  obtain ⟨v0, v1, v2, v3, y0, y1, y2, y3, fu, rfl, rfl, rfl, h0, h1, h2, h3⟩ := Joins.open_agg4 Try.underlying24 (by kernel_rfl) cellsD hv h
  obtain ⟨A, len, cap, e0⟩ := Joins.slice_form Try.underlying22 h0
  obtain ⟨B, len2, cap2, e1⟩ := Joins.slice_form Try.underlying22 h1
  obtain ⟨z2, e2, hz2, w2⟩ := DataW.trod_int Try.underlying5 h2
  obtain ⟨z3, e3, hz3, w3⟩ := DataW.trod_int Try.underlying5 h3
  simp only [List.cons.injEq, and_true] at e0 e1 e2 e3
  subst e0 e1 e2 e3
  obtain ⟨l, rfl, hlc, _, hsh, hcp, hd⟩ := open_bytes h0
  obtain ⟨m, rfl, hmc, _, hsm, hcp2, hd2⟩ := open_bytes h1
  obtain ⟨x, rfl⟩ := open_u8 w2
  obtain ⟨y, rfl⟩ := open_u8 w3
  refine ⟨A, cap, l, B, cap2, m, x, y, rfl, hsh, hlc, hsm, hmc, fun hw => ⟨?_, ?_⟩⟩
  · rw [hcp]
    refine places_le hd fun x hx => hw x ?_
    simp only [DataW.weights, Try.underlying24, DataW.weightsEach, List.map_cons, List.map_nil]
    simp only [List.mem_append]
    exact .inl hx
  · rw [hcp2]
    refine places_le hd2 fun x hx => hw x ?_
    simp only [DataW.weights, Try.underlying24, DataW.weightsEach, List.map_cons, List.map_nil]
    simp only [List.mem_append]
    exact .inr (.inl hx)

theorem fits_is (A B : Option Addr) (n c m d P T : Nat) (x y : UInt8) (z : Bool) (w : World) (hP : P = 1 + x.toNat % 8) (hT : T = P + y.toNat % 9) (hn : n ≤ 9223372036854775807) (hm : m ≤ 9223372036854775807) (hz : (decide (n ≤ 40) && decide (m ≤ 400)) = z) :
    Calls Try.prog 15 #[.agg #[.slice A n c, .slice B m d, .int .u8 (x.toNat : Int), .int .u8 (y.toNat : Int)]] w
      fun e w' => e = .returned (.tuple #[.agg #[.int .i64 (P : Int), .int .i64 (T : Int)], .bool z]) ∧ Below w.heap.size w w' := by
  have h := fits_any A B n c m d (x.toNat % 8) (y.toNat % 9) x y w rfl rfl hn hm
  rw [hz] at h
  have e1 : (1 : Int) + ((x.toNat % 8 : Nat) : Int) = (P : Int) := by omega
  have e2 : (1 : Int) + ((x.toNat % 8 : Nat) : Int) + ((y.toNat % 9 : Nat) : Int) = (T : Int) := by omega
  rw [e2, e1] at h
  exact h
theorem split_is (A : Option Addr) (n cap : Nat) (secret : List UInt8) (R : Option Addr) (q rcap : Nat) (r : List UInt8) (P T : Nat) (w : World) (hn : n = secret.length) (hq : q = r.length) (hs : Shows w w.heap.size A secret) (hsl : secret.length ≤ 140737488351232) (hsc : secret.length ≤ cap ∧ cap ≤ 9223372036854775807)
    (hr : Shows w w.heap.size R r) (hrl : r.length ≤ 140737488351232) (hrc : r.length ≤ rcap ∧ rcap ≤ 9223372036854775807) (h1 : 1 ≤ P) (h2 : P ≤ T) (h3 : T ≤ 255) :
    Calls Try.prog 7 #[.slice A n cap, .slice R q rcap, .agg #[.int .i64 (P : Int), .int .i64 (T : Int)]] w
      fun e w' => ∃ g, e = .returned (.tuple #[.slice (some ⟨g, 0, none⟩) T T, .int .i64 0]) ∧ ShL w' w'.heap.size (some ⟨g, 0, none⟩) (splitL secret r P T) ∧ Below w.heap.size w w' := by
  subst hn hq
  have h := split_any A cap secret R rcap r (P : Int) (T : Int) w hs hsl hsc hr hrl hrc ⟨by omega, by omega, by omega⟩
  rw [Int.toNat_natCast, Int.toNat_natCast] at h
  exact h

/-- The law's two boxes: the deal, and its numbers. -/
structure BX (w : World) (D F : Nat) (a b : Value) (P T : Nat) : Prop where
  d0 : w.cell? ⟨D, 0, none⟩ = some a
  d1 : w.cell? ⟨D, 1, none⟩ = some b
  f0 : w.cell? ⟨F, 0, none⟩ = some (.int .i64 (P : Int))
  f1 : w.cell? ⟨F, 1, none⟩ = some (.int .i64 (T : Int))
  lD : D < w.heap.size
  lF : F < w.heap.size
theorem BX.up {w w' : World} {D F P T : Nat} {a b : Value} (h : BX w D F a b P T) (hb : Below w.heap.size w w') : BX w' D F a b P T :=
  ⟨(hb.cell (p := ⟨D, 0, none⟩) h.lD).trans h.d0, (hb.cell (p := ⟨D, 1, none⟩) h.lD).trans h.d1, (hb.cell (p := ⟨F, 0, none⟩) h.lF).trans h.f0, (hb.cell (p := ⟨F, 1, none⟩) h.lF).trans h.f1, Nat.lt_of_lt_of_le h.lD hb.size, Nat.lt_of_lt_of_le h.lF hb.size⟩
/-- What any of Split's shares give back. -/
theorem comb_back {secret r : List UInt8} {P T : Nat} (h1 : 1 ≤ P) (hT : T ≤ 255) {L : List Sh} (hL : ∀ s ∈ L, s ∈ splitL secret r P T) (hd : (L.map (·.1)).Nodup) (hle : P ≤ L.length) :
    wfB L = true ∧ Fits L P secret.length ∧ interpB (L.take P) 0 secret.length = secret ∧ ∀ s ∈ L, s.2.length = secret.length := by
  have hn : ∀ s ∈ L, s.2.length = secret.length := fun s hs => split_lens (hL s hs)
  have hli := split_lies (need := P) (n := T) h1 hL
  exact ⟨wf_of (fun s hs => split_nz hT (hL s hs)) hd hn, fits_of_poly hd hle hn hli, (interp_of_poly hd hle hli 0).trans (vals_coef secret r (P - 1)), hn⟩
end Go.Proofs.Yteaaadccjnmacaa
