/-
  Rows in memory; the program's number: by a contract.
-/
import Derived.Test.YtlndpclgljfloaaHi1
import Derived.BigQuiet
import Derived.Deep.QuietTactic
import Derived.Deep.LoopGhost
namespace Go.Proofs.Ytlndpclgljfloaa
open Go.RowKit

/-- a row that lies in memory: its cells' numbers -/
structure Hr where
  A : Option Addr
  c : Nat
  l : List (Int × Int)
def ceV (p : Int × Int) : List Value := [.int .i64 p.1, .bool false, .int .i64 p.2, .string ⟨#[]⟩]
def CesAt (X : World) (B : Nat) (A : Option Addr) (l : List (Int × Int)) : Prop := RowAt 4 X B A (l.map ceV)
def RwsAt (X : World) (B : Nat) (A : Option Addr) (rs : List Hr) : Prop := RowAt 1 X B A (rs.map fun r => [.slice r.A r.l.length r.c]) ∧ ∀ r ∈ rs, CesAt X B r.A r.l
theorem CesAt.up {X X' : World} {A : Option Addr} {l : List (Int × Int)} (h : CesAt X X.heap.size A l) (hb : Below X.heap.size X X') : CesAt X' X'.heap.size A l := RowAt.up h hb
theorem RwsAt.up {X X' : World} {A : Option Addr} {rs : List Hr} (h : RwsAt X X.heap.size A rs) (hb : Below X.heap.size X X') : RwsAt X' X'.heap.size A rs := ⟨RowAt.up h.1 hb, fun r hr => (h.2 r hr).up hb⟩
theorem ce_one {X : World} {B : Nat} {A : Option Addr} {l : List (Int × Int)} (h : CesAt X B A l) {j : Nat} {p : Int × Int} (hp : l[j]? = some p) :
    ∃ b off, A = some ⟨b, off, none⟩ ∧ b < B ∧ X.cell? ⟨b, off + j * 4, none⟩ = some (.int .i64 p.1) ∧ X.cell? ⟨b, off + j * 4 + 1, none⟩ = some (.bool false) ∧ X.cell? ⟨b, off + j * 4 + 2, none⟩ = some (.int .i64 p.2) ∧ X.cell? ⟨b, off + j * 4 + 3, none⟩ = some (.string ⟨#[]⟩) := by
  obtain ⟨b, off, e, hlt, hc⟩ := RowAt.one h (i := j) (vs := ceV p) (by rw [List.getElem?_map, hp]; rfl)
  exact ⟨b, off, e, hlt, hc 0 _ rfl, hc 1 _ rfl, hc 2 _ rfl, hc 3 _ rfl⟩
theorem rw_one {X : World} {B : Nat} {A : Option Addr} {rs : List Hr} (h : RwsAt X B A rs) {j : Nat} {r : Hr} (hr : rs[j]? = some r) :
    ∃ b off, A = some ⟨b, off, none⟩ ∧ b < B ∧ X.cell? ⟨b, off + j, none⟩ = some (.slice r.A r.l.length r.c) ∧ CesAt X B r.A r.l := by
  obtain ⟨b, off, e, hlt, hc⟩ := RowAt.one h.1 (i := j) (vs := [.slice r.A r.l.length r.c]) (by rw [List.getElem?_map, hr]; rfl)
  have := hc 0 _ rfl
  rw [Nat.mul_one] at this
  exact ⟨b, off, e, hlt, this, h.2 r (List.mem_of_getElem? hr)⟩
/-- the number of a field in a row -/
def numL : List (Int × Int) → Int → Option Int
  | [], _ => none
  | p :: r, i => if p.1 = i then some p.2 else numL r i
theorem drop_at {α : Type} {l : List α} {j : Nat} {p : α} (hp : l[j]? = some p) : l.drop j = p :: l.drop (j + 1) := by
  rw [List.drop_eq_getElem?_toList_append]; simp [hp]
theorem numL_yes {l : List (Int × Int)} {j : Nat} {p : Int × Int} {i : Int} (hp : l[j]? = some p) (hg : numL (l.drop j) i = numL l i) (h : p.1 = i) : numL l i = some p.2 := by
  rw [← hg, drop_at hp, numL, if_pos h]
theorem numL_go {l : List (Int × Int)} {j : Nat} {p : Int × Int} {i : Int} (hp : l[j]? = some p) (hg : numL (l.drop j) i = numL l i) (h : ¬ p.1 = i) : numL (l.drop (j + 1)) i = numL l i := by
  rw [← hg, drop_at hp, numL, if_neg h]
set_option maxHeartbeats 2000000 in
set_option maxRecDepth 20000 in
theorem number_any (A : Option Addr) (n c : Nat) (l : List (Int × Int)) (i : Int) (w : World) (hn : n = l.length) (hs : CesAt w w.heap.size A l) (hl : n ≤ 1000000) :
    Calls Try.prog 50 #[.agg #[.slice A n c], .int .i64 i] w fun e w' => e = .returned (.tuple #[.int .i64 ((numL l i).getD 0), .bool (numL l i).isSome]) ∧ Below w.heap.size w w' := by
  have HN := Li hn
  have HS := Li hs
  have B0 := Li (al1 w (.cells #[.slice A n c] 77))
  clear hn hs
  go_enter Try.func50, Try.ntmps50
  go_wp2_with fail
  go_loopw [11] (fun s11 wr => ∃ j : Nat, j ≤ n ∧ s11 = .int .i64 j ∧ Hid (numL (l.drop j) i = numL l i) ∧ Hid (Below w.heap.size w wr)) (fun s11 _ => n - (intOf s11).toNat)
  case atStart => exact ⟨0, by omega, rfl, rfl, B0⟩
  case round =>
    clear B0
    obtain ⟨j, hj, rfl, HG, HB⟩ := hrel
    by_cases hlt : j < n
    · obtain ⟨p, hp⟩ : ∃ p, l[j]? = some p := ⟨_, List.getElem?_eq_getElem (by rw [← HN.out]; exact hlt)⟩
      obtain ⟨b, off, rfl, hb, c0, c1, c2, c3⟩ := ce_one (HS.out.up HB.out) hp
      have HP := Li hp
      have j1 : (j : Int) < (n : Int) := by omega
      have hsz := HB.out.size
      clear hp
      by_cases hid : p.1 = i
      · have e1 : (p.1 == i) = true := by simpa using hid
        have HE := Li (numL_yes HP.out HG.out hid)
        clear hid
        go_wp2_with fail
        go_quiet (fail)
        go_wp2_with fail
        go_ret2
        exact ⟨by rw [HE.out]; rfl, below_drewN (HB.out.alloc HB.out.size _) _⟩
      · have e1 : (p.1 == i) = false := by simpa using hid
        have HE := Li (numL_go HP.out HG.out hid)
        clear hid
        go_wp2_with fail
        go_roundw
        case rel => exact ⟨j + 1, by omega, by go_num, HE, Li (HB.out.alloc HB.out.size _)⟩
        case measure => simp [intOf]; omega
    · obtain rfl : j = n := by omega
      have HE := Li (show numL l i = none by rw [← HG.out, List.drop_of_length_le (by rw [← HN.out]; exact Nat.le_refl _)]; rfl)
      go_wp2_with fail
      go_ret2
      exact ⟨by rw [HE.out]; rfl, HB.out⟩
end Go.Proofs.Ytlndpclgljfloaa
