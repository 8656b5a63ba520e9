/-
  The program's isOrder, isCoordinate, square, quadrants and the functions in its fields: by contracts.
-/
import Derived.Test.YtlndpclgljfloaaProg
import Derived.Test.YtlndpclgljfloaaHd
import Derived.Test.YtlndpclgljfloaaHbL
import Derived.LoopTactic
import Derived.RegionTactic
import Derived.Laws.EntriesVeiled
namespace Go.Proofs.Ytlndpclgljfloaa
open Go.RowKit

def isOB (K : Int) : Bool := decide (1 ≤ K ∧ K ≤ 16)
theorem isOrder_any (K : Int) (w : World) : Calls Try.prog 26 #[.int .i64 K] w fun e w' => e = .returned (.bool (isOB K)) ∧ w' = w := by
  by_cases h1 : (1 : Int) ≤ K
  · by_cases h2 : K ≤ 16
    · have e : Hid (isOB K = true) := Li (decide_eq_true ⟨h1, h2⟩)
      go_enter Try.func26, Try.ntmps26
      go_wp2
      go_ret
      exact ⟨by rw [e.out]; rfl, rfl⟩
    · have e : Hid (isOB K = false) := Li (decide_eq_false (fun h => h2 h.2))
      have h3 : decide (K ≤ 16) = false := decide_eq_false h2
      go_enter Try.func26, Try.ntmps26
      go_wp2
      go_ret
      exact ⟨by rw [e.out]; rfl, rfl⟩
  · have e : Hid (isOB K = false) := Li (decide_eq_false (fun h => h1 h.1))
    have h3 : decide ((1 : Int) ≤ K) = false := decide_eq_false h1
    go_enter Try.func26, Try.ntmps26
    go_wp2
    go_ret
    exact ⟨by rw [e.out]; rfl, rfl⟩
theorem coordB (x k : Nat) : ((x : Int) / 2 ^ k == 0) = decide (x < 2 ^ k) := by
  have e : (x : Int) / 2 ^ k = ((x / 2 ^ k : Nat) : Int) := by push_cast; rfl
  have hp := Nat.two_pow_pos k
  rw [e]
  by_cases h : x < 2 ^ k
  · rw [decide_eq_true h, Nat.div_eq_of_lt h]; rfl
  · rw [decide_eq_false h]
    have : 0 < x / 2 ^ k := Nat.div_pos (by omega) hp
    exact beq_false_of_ne (by omega)
theorem isCoord_any (x k : Nat) (w : World) (hk : k ≤ 16) : Calls Try.prog 27 #[.int .u32 x, .int .i64 k] w fun e w' => e = .returned (.bool (decide (x < 2 ^ k))) ∧ w' = w := by
  have k0 : (0 : Int) ≤ (k : Int) := by omega
  go_enter Try.func27, Try.ntmps27
  go_wp2
  go_ret
  exact ⟨by rw [← coordB]; rfl, rfl⟩
theorem square_any (s : Nat) (w : World) (hs : s < 2 ^ 32) : Calls Try.prog 40 #[.int .u32 s] w fun e w' => e = .returned (.int .u64 (s * s : Nat)) ∧ w' = w := by
  have hb : s * s ≤ 4294967295 * 4294967295 := Nat.mul_le_mul (by omega) (by omega)
  have e0 : IntKind.u64.wrap (s : Int) = s := by rw [IntKind.wrap_u64]; omega
  have e1 : IntKind.u64.wrap ((s : Int) * s) = ((s * s : Nat) : Int) := by rw [← Int.natCast_mul, IntKind.wrap_u64]; omega
  go_enter Try.func40, Try.ntmps40
  go_wp2
  go_ret
  exact ⟨rfl, rfl⟩
theorem q1_any (x y s : Nat) (w : World) : Calls Try.prog 42 #[.int .u32 x, .int .u32 y, .int .u32 s] w fun e w' => e = .returned (.tuple #[.int .u32 y, .int .u32 x]) ∧ w' = w := by
  go_enter Try.func42, Try.ntmps42
  go_wp2
  go_ret2
  exact ⟨rfl, rfl⟩
theorem q2_any (x y s : Nat) (w : World) (h : s ≤ y) (hy : y < 2 ^ 32) : Calls Try.prog 43 #[.int .u32 x, .int .u32 y, .int .u32 s] w fun e w' => e = .returned (.tuple #[.int .u32 x, .int .u32 (y - s : Nat)]) ∧ w' = w := by
  have e1 : IntKind.u32.wrap ((y : Int) - s) = ((y - s : Nat) : Int) := by rw [IntKind.wrap_u32]; omega
  go_enter Try.func43, Try.ntmps43
  go_wp2
  go_ret2
  exact ⟨rfl, rfl⟩
theorem q3_any (x y s : Nat) (w : World) (hy : y + s < 2 ^ 32) : Calls Try.prog 44 #[.int .u32 x, .int .u32 y, .int .u32 s] w fun e w' => e = .returned (.tuple #[.int .u32 x, .int .u32 (y + s : Nat)]) ∧ w' = w := by
  have e1 : IntKind.u32.wrap ((y : Int) + s) = ((y + s : Nat) : Int) := by rw [IntKind.wrap_u32]; omega
  go_enter Try.func44, Try.ntmps44
  go_wp2
  go_ret2
  exact ⟨rfl, rfl⟩
theorem q4_any (x y s : Nat) (w : World) (h1 : s ≤ x) (h2 : s ≤ y) (hx : x < 2 ^ 32) (hy : y < 2 ^ 32) : Calls Try.prog 45 #[.int .u32 x, .int .u32 y, .int .u32 s] w fun e w' => e = .returned (.tuple #[.int .u32 (x - s : Nat), .int .u32 (y - s : Nat)]) ∧ w' = w := by
  have e1 : IntKind.u32.wrap ((y : Int) - s) = ((y - s : Nat) : Int) := by rw [IntKind.wrap_u32]; omega
  have e2 : IntKind.u32.wrap ((x : Int) - s) = ((x - s : Nat) : Int) := by rw [IntKind.wrap_u32]; omega
  go_enter Try.func45, Try.ntmps45
  go_wp2
  go_ret2
  exact ⟨rfl, rfl⟩
theorem q5_any (x y s : Nat) (w : World) (hx : x + s < 2 ^ 32) (hy : y + s < 2 ^ 32) : Calls Try.prog 46 #[.int .u32 x, .int .u32 y, .int .u32 s] w fun e w' => e = .returned (.tuple #[.int .u32 (x + s : Nat), .int .u32 (y + s : Nat)]) ∧ w' = w := by
  have e1 : IntKind.u32.wrap ((y : Int) + s) = ((y + s : Nat) : Int) := by rw [IntKind.wrap_u32]; omega
  have e2 : IntKind.u32.wrap ((x : Int) + s) = ((x + s : Nat) : Int) := by rw [IntKind.wrap_u32]; omega
  go_enter Try.func46, Try.ntmps46
  go_wp2
  go_ret2
  exact ⟨rfl, rfl⟩
theorem rev_wrap (s y : Nat) (h : y < s) (hs : s < 2 ^ 31) : IntKind.u32.wrap ((s : Int) - 1) = ((s - 1 : Nat) : Int) ∧ IntKind.u32.wrap (((s - 1 : Nat) : Int) - y) = ((s - 1 - y : Nat) : Int) ∧ IntKind.u32.wrap (2 * (s : Int)) = ((2 * s : Nat) : Int) ∧ IntKind.u32.wrap (((2 * s : Nat) : Int) - 1) = ((2 * s - 1 : Nat) : Int) := by
  refine ⟨?_, ?_, ?_, ?_⟩ <;> (rw [IntKind.wrap_u32]; omega)
theorem q6_any (x y s : Nat) (w : World) (hs : s < 2 ^ 31) (h1 : y < s) (h2 : x < 2 * s) : Calls Try.prog 47 #[.int .u32 x, .int .u32 y, .int .u32 s] w fun e w' => e = .returned (.tuple #[.int .u32 (s - 1 - y : Nat), .int .u32 (2 * s - 1 - x : Nat)]) ∧ w' = w := by
  obtain ⟨e1, e2, e3, e4⟩ := rev_wrap s y h1 hs
  have e5 := Li (show 2 * (s : Int) - 1 - x = ((2 * s - 1 - x : Nat) : Int) by omega)
  go_enter Try.func47, Try.ntmps47
  go_wp2
  go_ret2
  exact ⟨by rw [← e5.out]; rfl, rfl⟩
theorem q7_any (x y s : Nat) (w : World) (hs : s < 2 ^ 31) (h1 : x < s) (h2 : y < 2 * s) : Calls Try.prog 48 #[.int .u32 x, .int .u32 y, .int .u32 s] w fun e w' => e = .returned (.tuple #[.int .u32 (2 * s - 1 - y : Nat), .int .u32 (s - 1 - x : Nat)]) ∧ w' = w := by
  obtain ⟨e1, e2, e3, e4⟩ := rev_wrap s x h1 hs
  have e5 := Li (show 2 * (s : Int) - 1 - y = ((2 * s - 1 - y : Nat) : Int) by omega)
  go_enter Try.func48, Try.ntmps48
  go_wp2
  go_ret2
  exact ⟨by rw [← e5.out]; rfl, rfl⟩
theorem res_cell1 {fn : Func} {p : Tmp} {ty T : TypeId} {tmps : Array Value} {P : Program} {w : World} {g : Nat} {l : List Value} {n : Nat} {el : TypeId} (h : fn.results = #[.cell p ty]) (hp : tmps.getD p undef = .pointer (some ⟨g, 0, none⟩))
    (hg : CB w g T l) (hu : P.underlying ty = some (.array n el)) (hi : (P.info? ty).map (·.size) = some l.toArray.size) :
    (results fn tmps).run P w = .ok (.agg l.toArray) w := by
  rw [Array.getD_eq_getD_getElem?] at hp
  simp only [results, h]
  simp [hp, asAddr, run_loadVar_row _ _ _ _ _ (0, 0) _ hg hu rfl hi]
theorem res_cell2 {fn : Func} {p u : Tmp} {ty T : TypeId} {tmps : Array Value} {P : Program} {w : World} {g : Nat} {l : List Value} {n : Nat} {el : TypeId} {x : Value} (h : fn.results = #[.cell p ty, .tmp u]) (hp : tmps.getD p undef = .pointer (some ⟨g, 0, none⟩)) (hx : tmps.getD u undef = x)
    (hg : CB w g T l) (hu : P.underlying ty = some (.array n el)) (hi : (P.info? ty).map (·.size) = some l.toArray.size) :
    (results fn tmps).run P w = .ok (.tuple #[.agg l.toArray, x]) w := by
  rw [Array.getD_eq_getD_getElem?] at hp hx
  simp only [results, h]
  simp [Result.andThen, hp, hx, asAddr, run_loadVar_row _ _ _ _ _ (0, 0) _ hg hu rfl hi]
/-- the four quadrants as cells -/
def QS : List Value := [.int .u32 0, .int .u32 0, .func (.func 42) #[] #[], .func (.func 42) #[] #[], .int .u32 0, .int .u32 1, .func (.func 43) #[] #[], .func (.func 44) #[] #[], .int .u32 1, .int .u32 1, .func (.func 45) #[] #[], .func (.func 46) #[] #[], .int .u32 1, .int .u32 0, .func (.func 47) #[] #[], .func (.func 48) #[] #[]]
theorem quadrants_any (w : World) : Calls Try.prog 28 #[] w fun e w' => e = .returned (.agg QS.toArray) ∧ w' = w.alloc (.cells QS.toArray 67) := by
  go_enter Try.func28, Try.ntmps28
  go_wp2
  exact bodyPost_ret (v := .agg QS.toArray) (res_cell1 (T := 67) rfl rfl (CB.new w 67 QS) Try.underlying67 (by kernel_rfl)) rfl ⟨rfl, rfl⟩
end Go.Proofs.Ytlndpclgljfloaa
