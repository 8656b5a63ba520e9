/-
  The program's isType, isSeparator, isName, limited, New, by contracts.
-/
import Derived.Test.YtpgbpfdedpppeaaFldP
import Derived.BigGuardPart
namespace Go.Proofs.Ytpgbpfdedpppeaa
open Go.RowKit

def typB (t : Int) : Bool := decide (1 ≤ t ∧ t ≤ 6)
def sepB (s : ByteArray) : Bool := decide (1 ≤ s.size ∧ s.size ≤ 16)
def okC (c : UInt8) : Bool := decide ((97 ≤ c.toNat ∧ c.toNat ≤ 122) ∨ (48 ≤ c.toNat ∧ c.toNat ≤ 57) ∨ c.toNat = 95)
def namB (s : ByteArray) : Bool := decide (1 ≤ s.size ∧ s.size ≤ 32) && s.data.toList.all okC
def limB (s : Sc) : Bool := decide (s.fs.length ≤ 64 ∧ s.next ≤ 1073741824)

theorem schType_any (t : Int) (z : Bool) (w : World) (hz : typB t = z) : Calls Try.prog 74 #[.int .i64 t] w fun e w' => e = .returned (.bool z) ∧ w' = w := by
  unfold typB at hz
  by_cases h1 : 1 ≤ t
  · by_cases h2 : t ≤ 6
    · obtain rfl : z = true := by rw [← hz]; simp; omega
      clear hz
      go_enter Try.func74, Try.ntmps74
      go_wp2
      go_ret
      exact ⟨rfl, rfl⟩
    · obtain rfl : z = false := by rw [← hz]; simp; omega
      clear hz
      go_enter Try.func74, Try.ntmps74
      go_wp2
      go_ret
      exact ⟨rfl, rfl⟩
  · obtain rfl : z = false := by rw [← hz]; simp; omega
    clear hz
    go_enter Try.func74, Try.ntmps74
    go_wp2
    go_ret
    exact ⟨rfl, rfl⟩
theorem isSep_any (s : ByteArray) (z : Bool) (w : World) (hz : sepB s = z) (hs : s.size ≤ 9223372036854775807) : Calls Try.prog 78 #[.string s] w fun e w' => e = .returned (.bool z) ∧ w' = w := by
  unfold sepB at hz
  by_cases h1 : 1 ≤ s.size
  · by_cases h2 : s.size ≤ 16
    · obtain rfl : z = true := by rw [← hz]; simp; omega
      clear hz
      have i1 : (1 : Int) ≤ (s.size : Int) := by omega
      have i2 : (s.size : Int) ≤ 16 := by omega
      go_enter Try.func78, Try.ntmps78
      go_wp2
      go_ret
      exact ⟨rfl, rfl⟩
    · obtain rfl : z = false := by rw [← hz]; simp; omega
      clear hz
      have i1 : (1 : Int) ≤ (s.size : Int) := by omega
      have i2 : ¬ (s.size : Int) ≤ 16 := by omega
      go_enter Try.func78, Try.ntmps78
      go_wp2
      go_ret
      exact ⟨rfl, rfl⟩
  · obtain rfl : z = false := by rw [← hz]; simp; omega
    clear hz
    have i1 : ¬ (1 : Int) ≤ (s.size : Int) := by omega
    go_enter Try.func78, Try.ntmps78
    go_wp2
    go_ret
    exact ⟨rfl, rfl⟩
theorem limited_any (A : Option Addr) (n c : Nat) (x : Int) (z : Bool) (w : World) (hz : decide (n ≤ 64 ∧ x ≤ 1073741824) = z) (hn : n ≤ 9223372036854775807) : Calls Try.prog 35 #[.agg #[.slice A n c, .int .i64 x]] w fun e w' => e = .returned (.bool z) ∧ Below w.heap.size w w' := by
  by_cases h1 : n ≤ 64
  · by_cases h2 : x ≤ 1073741824
    · obtain rfl : z = true := by rw [← hz]; simp; omega
      clear hz
      have i1 : (n : Int) ≤ 64 := by omega
      go_enter Try.func35, Try.ntmps35
      go_wp2
      go_ret
      exact ⟨rfl, al1 _ _⟩
    · obtain rfl : z = false := by rw [← hz]; simp; omega
      clear hz
      have i1 : (n : Int) ≤ 64 := by omega
      go_enter Try.func35, Try.ntmps35
      go_wp2
      go_ret
      exact ⟨rfl, al1 _ _⟩
  · obtain rfl : z = false := by rw [← hz]; simp; omega
    clear hz
    have i1 : ¬ (n : Int) ≤ 64 := by omega
    go_enter Try.func35, Try.ntmps35
    go_wp2
    go_ret
    exact ⟨rfl, al1 _ _⟩
theorem New_any (w : World) : Calls Try.prog 30 #[] w fun e w' => e = .returned (.agg #[.slice none 0 0, .int .i64 1]) ∧ Below w.heap.size w w' := by
  go_enter Try.func30, Try.ntmps30
  go_wp2
  refine bodyPost_ret (v := .agg #[.slice none 0 0, .int .i64 1]) (by simp [results, Try.results30, go_sem]) rfl ⟨rfl, ?_⟩
  exact al1 _ _

theorem nam_drop {s : ByteArray} {k : Nat} (hk : k < s.size) : s.data.toList.drop k = s[k] :: s.data.toList.drop (k + 1) := by
  rw [List.drop_eq_getElem_cons (by simpa using hk)]
  rfl
theorem all_step {l : List UInt8} {k : Nat} {c : UInt8} (hd : l.drop k = c :: l.drop (k + 1)) (h : (l.drop k).all okC = l.all okC) (hc : okC c = true) : (l.drop (k + 1)).all okC = l.all okC := by
  rw [← h, hd, List.all_cons, hc, Bool.true_and]
theorem all_stop {l : List UInt8} {k : Nat} {c : UInt8} (hd : l.drop k = c :: l.drop (k + 1)) (h : (l.drop k).all okC = l.all okC) (hc : okC c = false) : l.all okC = false := by
  rw [← h, hd, List.all_cons, hc, Bool.false_and]
theorem c_cases (c : UInt8) : (okC c = true ∧ ((97 ≤ c.toNat ∧ c.toNat ≤ 122) ∨ (48 ≤ c.toNat ∧ c.toNat ≤ 57) ∨ c.toNat = 95)) ∨ (okC c = false ∧ (c.toNat < 48 ∨ (57 < c.toNat ∧ c.toNat < 95) ∨ c.toNat = 96 ∨ 122 < c.toNat)) := by
  unfold okC
  by_cases h : (97 ≤ c.toNat ∧ c.toNat ≤ 122) ∨ (48 ≤ c.toNat ∧ c.toNat ≤ 57) ∨ c.toNat = 95
  · exact .inl ⟨by simpa using h, h⟩
  · exact .inr ⟨by simpa using h, by omega⟩

set_option maxHeartbeats 4000000 in
theorem isName_any (s : ByteArray) (w : World) (hs : s.size ≤ 9223372036854775807) : Calls Try.prog 61 #[.string s] w fun e w' => e = .returned (.bool (namB s)) ∧ w' = w := by
  by_cases h1 : 1 ≤ s.size
  · by_cases h2 : s.size ≤ 32
    · have hz : Hid (namB s = s.data.toList.all okC) := by show _ = _; unfold namB; simp [h1, h2]
      have i1 : ¬ (s.size : Int) < 1 := by omega
      have i2 : ¬ 32 < (s.size : Int) := by omega
      have i3 : decide (32 < (s.size : Int)) = false := decide_eq_false i2
      go_enter Try.func61, Try.ntmps61
      go_wp2
      go_loop [15] (fun i => ∃ k : Nat, k ≤ s.size ∧ i = .int .i64 k ∧ Hid ((s.data.toList.drop k).all okC = s.data.toList.all okC)) (fun i => s.size - (intOf i).toNat)
      case atStart => exact ⟨0, Nat.zero_le _, rfl, rfl⟩
      case round =>
        obtain ⟨k, hk, rfl, hgo⟩ := hrel
        by_cases hlt : k < s.size
        · have j1 : (k : Int) < (s.size : Int) := by omega
          have hd := Lib.hid (nam_drop hlt)
          have hx := s[k].toNat_lt
          rcases c_cases s[k] with ⟨hc, hcs⟩ | ⟨hc, hcs⟩
          · have HC := Lib.hid hc
            clear hc
            rcases hcs with ⟨a, b⟩ | ⟨a, b⟩ | a
            all_goals
              go_wp2
              all_goals (first | (exfalso; omega) | skip)
              all_goals
                go_round
                case rel => exact ⟨k + 1, by omega, by go_num, all_step hd.out hgo.out HC.out⟩
                case measure => simp [intOf]; omega
          · have HC := Lib.hid hc
            clear hc
            rcases hcs with a | ⟨a, b⟩ | a | a
            all_goals
              go_wp2
              all_goals (first | (exfalso; omega) | skip)
              all_goals
                go_ret
                refine ⟨?_, rfl⟩
                rw [hz.out, all_stop hd.out hgo.out HC.out]; rfl
        · have j1 : ¬ (k : Int) < (s.size : Int) := by omega
          go_wp2
          go_ret
          refine ⟨?_, rfl⟩
          rw [hz.out, ← hgo.out, List.drop_of_length_le (by simpa using by omega)]
          rfl
    · have hz := Lib.hid (show namB s = false by unfold namB; simp [h2])
      have i1 : ¬ (s.size : Int) < 1 := by omega
      have i2 : 32 < (s.size : Int) := by omega
      go_enter Try.func61, Try.ntmps61
      go_wp2
      go_ret
      exact ⟨by rw [hz.out]; rfl, rfl⟩
  · have hz := Lib.hid (show namB s = false by unfold namB; simp [h1])
    have i1 : (s.size : Int) < 1 := by omega
    go_enter Try.func61, Try.ntmps61
    go_wp2
    go_ret
    exact ⟨by rw [hz.out]; rfl, rfl⟩
end Go.Proofs.Ytpgbpfdedpppeaa
