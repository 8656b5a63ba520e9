/-
  Arguments opened: arrays of numbers.
-/
import Derived.Test.YtlndpclgljfloaaLwH
import Derived.Test.YtlndpclgljfloaaRows
import Derived.ProofKit
import Derived.OpenShut
import Derived.SizedLaws
namespace Go.Proofs.Ytlndpclgljfloaa
open Go.RowKit Go.ChangeShapes Go.WideShapes Go.ChangeAt
set_option maxRecDepth 100000

theorem own : ownKnob Try.prog.godebug = none := by kernel_rfl
theorem laidOut : laidOutB Try.prog = true := by kernel_rfl
theorem okWide_arr {P : Program} {w : World} {r : Reach} {base : Nat} {t e : TypeId} {n : Nat} {v : Value} (ht : P.underlying t = some (.array n e)) (h : Value.okWide P w r base t v) : ∃ cs, v = .agg cs := by
  unfold Value.okWide at h
  rw [ht] at h
  obtain ⟨cs, rfl, _⟩ := h
  exact ⟨cs, rfl⟩
theorem open_arr {H : Type} {enc : TypeId × Value → H} {W : World} {base : Nat} {held : Bool} {v : Value} {d : DataW H} {p : List MemPlace} {t e : TypeId} {n : Nat} {k : IntKind}
    (ht : Try.prog.underlying t = some (.array n e)) (he : Try.prog.underlying e = some (.int k)) (hce : Try.prog.cellsOf e = 1) (hct : Try.prog.cellsOf t = n)
    (hv : Value.okWide Try.prog W .any base t v) (h : DataW.Trod enc Try.prog W 0 (fun _ => true) held t v d p) :
    ∃ cs : Array Value, v = .agg cs ∧ cs.toList.length = n ∧ ∀ i, i < n → ∃ z, cs.toList[i]? = some (.int k z) ∧ (Lit.int k z).wf = true := by
  obtain ⟨cs, rfl⟩ := okWide_arr ht hv
  obtain ⟨fu, hf⟩ := h
  obtain ⟨xs, m, rfl, hx, hl, hxl, hel⟩ := DataW.trod_array ht hf
  rw [hct] at hl
  refine ⟨cs, rfl, hl, fun i hin => ?_⟩
  have h0 := hel i hin
  rw [hce, Nat.mul_one, List.getElem?_eq_getElem (by omega)] at h0
  obtain ⟨z, e, _, hw⟩ := DataW.trod_int he h0
  refine ⟨z, ?_, hw⟩
  have h1 : ((cs.toList.drop i).take 1)[0]? = some (.int k z) := by
    have e' : (cs.toList.drop i).take 1 = [.int k z] := e
    rw [e']; rfl
  simpa [List.getElem?_take, List.getElem?_drop] using h1
theorem u32_nat {z : Int} (w : (Lit.int .u32 z).wf = true) : ∃ n : Nat, z = (n : Int) ∧ n < 4294967296 := by
  have b : 0 ≤ z ∧ z ≤ 4294967295 := by simpa [Lit.wf, IntKind.min, IntKind.max, IntKind.signed, IntKind.bits] using w
  obtain ⟨n, rfl⟩ := Int.eq_ofNat_of_zero_le b.1
  exact ⟨n, rfl, by omega⟩
theorem i64_of {z : Int} (w : (Lit.int .i64 z).wf = true) : I64 z := by
  have b : -9223372036854775808 ≤ z ∧ z ≤ 9223372036854775807 := by simpa [Lit.wf, IntKind.min, IntKind.max, IntKind.signed, IntKind.bits] using w
  exact b
theorem arr2 {cs : Array Value} {a b : Value} (hl : cs.toList.length = 2) (h0 : cs.toList[0]? = some a) (h1 : cs.toList[1]? = some b) : cs = #[a, b] := by
  apply Array.ext'
  apply List.ext_getElem?
  intro i
  rcases i with _ | _ | i
  · rw [h0]; rfl
  · rw [h1]; rfl
  · rw [List.getElem?_eq_none (by omega)]; rfl
theorem arr4 {cs : Array Value} {a b c d : Value} (hl : cs.toList.length = 4) (h0 : cs.toList[0]? = some a) (h1 : cs.toList[1]? = some b) (h2 : cs.toList[2]? = some c) (h3 : cs.toList[3]? = some d) : cs = #[a, b, c, d] := by
  apply Array.ext'
  apply List.ext_getElem?
  intro i
  rcases i with _ | _ | _ | _ | i
  · rw [h0]; rfl
  · rw [h1]; rfl
  · rw [h2]; rfl
  · rw [h3]; rfl
  · rw [List.getElem?_eq_none (by omega)]; rfl
section
variable {H : Type} {enc : TypeId × Value → H} {W : World} {base : Nat} {held : Bool} {v : Value} {d : DataW H} {p : List MemPlace}
theorem open_a2 (hv : Value.okWide Try.prog W .any base 23 v) (h : DataW.Trod enc Try.prog W 0 (fun _ => true) held 23 v d p) :
    ∃ a b : Nat, v = .agg #[.int .u32 a, .int .u32 b] ∧ a < 4294967296 ∧ b < 4294967296 := by
  obtain ⟨cs, rfl, hl, hc⟩ := open_arr Try.underlying23 Try.underlying22 (by kernel_rfl) (by kernel_rfl) hv h
  obtain ⟨z0, e0, w0⟩ := hc 0 (by decide)
  obtain ⟨z1, e1, w1⟩ := hc 1 (by decide)
  obtain ⟨a, rfl, ha⟩ := u32_nat w0
  obtain ⟨b, rfl, hb⟩ := u32_nat w1
  exact ⟨a, b, by rw [arr2 hl e0 e1], ha, hb⟩
theorem open_a4 (hv : Value.okWide Try.prog W .any base 34 v) (h : DataW.Trod enc Try.prog W 0 (fun _ => true) held 34 v d p) :
    ∃ a b c e : Nat, v = .agg #[.int .u32 a, .int .u32 b, .int .u32 c, .int .u32 e] ∧ (a < 4294967296 ∧ b < 4294967296) ∧ c < 4294967296 ∧ e < 4294967296 := by
  obtain ⟨cs, rfl, hl, hc⟩ := open_arr Try.underlying34 Try.underlying22 (by kernel_rfl) (by kernel_rfl) hv h
  obtain ⟨z0, e0, w0⟩ := hc 0 (by decide)
  obtain ⟨z1, e1, w1⟩ := hc 1 (by decide)
  obtain ⟨z2, e2, w2⟩ := hc 2 (by decide)
  obtain ⟨z3, e3, w3⟩ := hc 3 (by decide)
  obtain ⟨a, rfl, ha⟩ := u32_nat w0
  obtain ⟨b, rfl, hb⟩ := u32_nat w1
  obtain ⟨c, rfl, hc⟩ := u32_nat w2
  obtain ⟨e, rfl, he⟩ := u32_nat w3
  exact ⟨a, b, c, e, by rw [arr4 hl e0 e1 e2 e3], ⟨ha, hb⟩, hc, he⟩
theorem open_a4i (hv : Value.okWide Try.prog W .any base 37 v) (h : DataW.Trod enc Try.prog W 0 (fun _ => true) held 37 v d p) :
    ∃ a b c e : Int, v = .agg #[.int .i64 a, .int .i64 b, .int .i64 c, .int .i64 e] ∧ (I64 a ∧ I64 b) ∧ I64 c ∧ I64 e := by
  obtain ⟨cs, rfl, hl, hc⟩ := open_arr Try.underlying37 Try.underlying2 (by kernel_rfl) (by kernel_rfl) hv h
  obtain ⟨z0, e0, w0⟩ := hc 0 (by decide)
  obtain ⟨z1, e1, w1⟩ := hc 1 (by decide)
  obtain ⟨z2, e2, w2⟩ := hc 2 (by decide)
  obtain ⟨z3, e3, w3⟩ := hc 3 (by decide)
  exact ⟨z0, z1, z2, z3, by rw [arr4 hl e0 e1 e2 e3], ⟨i64_of w0, i64_of w1⟩, i64_of w2, i64_of w3⟩
end
end Go.Proofs.Ytlndpclgljfloaa
