/-
 The law's own fixed examples: what they are, by evaluation, and what is kept while they are walked.
-/
import Derived.Test.YtfeemipnalgjnaaGreatHb
import Derived.Test.YtfeemipnalgjnaaGreatHb
import Derived.Test.YtfeemipnalgjnaaGreatTxt
import Derived.Test.YtfeemipnalgjnaaGreatSml
import Derived.Test.YtfeemipnalgjnaaGreatTrn
import Derived.Test.YtfeemipnalgjnaaGreatLos
namespace Go.Proofs.YtfeemipnalgjnaaGreat
open Go.RowKit

theorem sz_of {r : List Ce} (h : r.all (fun q => decide (q.v.s.size ≤ 9223372036854775807)) = true) : ∀ q ∈ r, q.v.s.size ≤ 9223372036854775807 := fun q hq => by
 simpa using List.all_eq_true.1 h q hq
theorem cw1 (c : Ch) (h : ((Lit.int .i64 c.kind).wf && decide (c.nm.size ≤ 9223372036854775807) && decide (c.ot.size ≤ 9223372036854775807) && decide (c.sep.size ≤ 9223372036854775807)) = true) : CW c := by
 simp only [Bool.and_eq_true, decide_eq_true_iff] at h
 exact ⟨h.1.1.1, h.1.1.2, h.1.2, h.2⟩
def sfL : List Fd := [⟨1, ⟨#[97]⟩, 4, 0⟩, ⟨2, ⟨#[98]⟩, 4, 0⟩]
def spC : Ch := ⟨6, 1, 0, ⟨#[99]⟩, ⟨#[100]⟩, 0, 0, ⟨#[45]⟩⟩
def joC : Ch := ⟨7, 1, 2, ⟨#[99]⟩, ⟨#[]⟩, 0, 0, ⟨#[45]⟩⟩
def drC : Ch := ⟨2, 1, 0, ⟨#[]⟩, ⟨#[]⟩, 0, 0, ⟨#[]⟩⟩
def zeC : Ch := ⟨0, 0, 0, ⟨#[]⟩, ⟨#[]⟩, 0, 0, ⟨#[]⟩⟩
def adC : Ch := ⟨1, 0, 0, ⟨#[97]⟩, ⟨#[]⟩, 4, 0, ⟨#[]⟩⟩
theorem sfOk : Ok ⟨sfL, 3⟩ := vld_iff.1 (by kernel_rfl)
def t1 : List Ce := txR 1 [⟨#[97, 45, 98, 45, 99]⟩]
def t2 : List Ce := txR 3 [⟨#[97]⟩]
def t3 : List Ce := txR 2 [⟨#[120]⟩]
def t4 : List Ce := txR 3 [⟨#[45, 120]⟩]
def t5 : List Ce := txR 1 [⟨#[120]⟩]
def t6 : List Ce := txR 1 [⟨#[120]⟩, ⟨#[121]⟩]
def t7 : List Ce := txR 1 [⟨#[97, 45, 98]⟩]
def q1 : List Ce := txR 3 [⟨#[97]⟩, ⟨#[98, 45, 99]⟩]
def q2 : List Ce := txR 1 [⟨#[97]⟩]
def q3 : List Ce := txR 3 [⟨#[45, 120]⟩]
def q4 : List Ce := txR 1 [⟨#[]⟩, ⟨#[120]⟩]
def q6 : List Ce := txR 2 [⟨#[121]⟩]
theorem ev1 : fwdQ ⟨sfL, 3⟩ spC t1 = q1 := by kernel_rfl
theorem ev2 : bakQ ⟨sfL, 3⟩ spC t2 = q2 := by kernel_rfl
theorem ev3 : fwdQ ⟨sfL, 3⟩ joC t3 = q3 := by kernel_rfl
theorem ev4 : bakQ ⟨sfL, 3⟩ joC t4 = q4 := by kernel_rfl
theorem ev5 : trQ [adC] [] 0 2 = ([], 1) := by kernel_rfl
theorem ev6 : trQ [adC] t5 0 1 = ([], 7) := by kernel_rfl
theorem ev7 : trQ [adC] t5 1 0 = ([], 0) := by kernel_rfl
theorem ev8 : fwdQ ⟨sfL, 3⟩ drC t6 = q6 := by kernel_rfl
theorem ev9 : losQ ⟨sfL, 3⟩ joC t3 = false := by kernel_rfl
theorem ev10 : losQ ⟨sfL, 3⟩ spC t7 = true := by kernel_rfl
theorem ev11 : fwdQ ⟨sfL, 3⟩ zeC t5 = [] := by kernel_rfl
theorem t1_sz : ∀ q ∈ t1, q.v.s.size ≤ 9223372036854775807 := sz_of (by kernel_rfl)
theorem t2_sz : ∀ q ∈ t2, q.v.s.size ≤ 9223372036854775807 := sz_of (by kernel_rfl)
theorem t3_sz : ∀ q ∈ t3, q.v.s.size ≤ 9223372036854775807 := sz_of (by kernel_rfl)
theorem t4_sz : ∀ q ∈ t4, q.v.s.size ≤ 9223372036854775807 := sz_of (by kernel_rfl)
theorem t5_sz : ∀ q ∈ t5, q.v.s.size ≤ 9223372036854775807 := sz_of (by kernel_rfl)
theorem t6_sz : ∀ q ∈ t6, q.v.s.size ≤ 9223372036854775807 := sz_of (by kernel_rfl)
theorem t7_sz : ∀ q ∈ t7, q.v.s.size ≤ 9223372036854775807 := sz_of (by kernel_rfl)
theorem q1_sz : ∀ q ∈ q1, q.v.s.size ≤ 9223372036854775807 := sz_of (by kernel_rfl)
theorem q2_sz : ∀ q ∈ q2, q.v.s.size ≤ 9223372036854775807 := sz_of (by kernel_rfl)
theorem q3_sz : ∀ q ∈ q3, q.v.s.size ≤ 9223372036854775807 := sz_of (by kernel_rfl)
theorem q4_sz : ∀ q ∈ q4, q.v.s.size ≤ 9223372036854775807 := sz_of (by kernel_rfl)
theorem q6_sz : ∀ q ∈ q6, q.v.s.size ≤ 9223372036854775807 := sz_of (by kernel_rfl)
theorem spC_cw : CW spC := cw1 _ (by kernel_rfl)
theorem joC_cw : CW joC := cw1 _ (by kernel_rfl)
theorem drC_cw : CW drC := cw1 _ (by kernel_rfl)
theorem zeC_cw : CW zeC := cw1 _ (by kernel_rfl)
theorem adC_cw : CW adC := cw1 _ (by kernel_rfl)
theorem cbRow {k : Nat} {w : World} {g : Nat} {t : TypeId} {l : List Value} {L : List (List Value)} (h : CB w g t l) (hl : l = L.flatten) (hk : ∀ vs ∈ L, vs.length = k) : RowAt k w w.heap.size (some ⟨g, 0, none⟩) L := fun _ => by
 refine ⟨g, 0, rfl, h.lt, fun i vs hi j v hj => ?_⟩
 have := flat_get hk hi hj
 rw [← hl] at this
 rw [Nat.zero_add]
 exact h.cell _ this
theorem sts1 {w : World} {g : Nat} {s : ByteArray} (h : CB w g 9 [.string s]) : Sts w w.heap.size (some ⟨g, 0, none⟩) [s] := cbRow h rfl (fun vs h => by simp at h; subst h; rfl)
theorem sts2 {w : World} {g : Nat} {s t : ByteArray} (h : CB w g 9 [.string s, .string t]) : Sts w w.heap.size (some ⟨g, 0, none⟩) [s, t] := cbRow h rfl (fun vs h => by simp at h; rcases h with rfl | rfl <;> rfl)
/-- what stays while the examples are walked: the schema and the changes -/
def SN (w X : World) : Prop := Below w.heap.size w X ∧ GV X ∧ CB X w.heap.size 58 [.int .i64 1, .string ⟨#[97]⟩, .int .i64 4, .int .i64 0, .int .i64 2, .string ⟨#[98]⟩, .int .i64 4, .int .i64 0] ∧ CB X (w.heap.size + 1) 35 [.slice (some ⟨w.heap.size, 0, none⟩) 2 2, .int .i64 3] ∧ CB X (w.heap.size + 1 + 1) 24 [.int .i64 6, .int .i64 1, .int .i64 0, .string ⟨#[99]⟩, .string ⟨#[100]⟩, .int .i64 0, .int .i64 0, .string ⟨#[45]⟩] ∧ CB X (w.heap.size + 1 + 1 + 1) 24 [.int .i64 7, .int .i64 1, .int .i64 2, .string ⟨#[99]⟩, .string ⟨#[]⟩, .int .i64 0, .int .i64 0, .string ⟨#[45]⟩]
theorem SN.up {w X Y : World} (h : SN w X) (hb : Below X.heap.size X Y) : SN w Y := ⟨below_step h.1 h.1.size hb, h.2.1.up hb, h.2.2.1.up hb, h.2.2.2.1.up hb, h.2.2.2.2.1.up hb, h.2.2.2.2.2.up hb⟩
theorem SN.dr {w X : World} (h : SN w X) : SN w X.drew := h.up (bd X)
theorem SN.alloc {w X : World} (h : SN w X) (o : Obj) : SN w (X.alloc o) := h.up (al1 X o)
theorem SN.put {w X Y : World} {g : Nat} {l : List Value} (h : SN w X) (hU : CB X g 30 l) (hg : X.grownBy Y (some g)) (hgw : (w.heap.size + 1 + 1 + 1) < g) : SN w Y := by
 refine ⟨below_grown h.1 hg h.1.size (by omega), ?_, h.2.2.1.grown hg (cb_ne h.2.2.1 hU (by decide)), h.2.2.2.1.grown hg (cb_ne h.2.2.2.1 hU (by decide)), h.2.2.2.2.1.grown hg (cb_ne h.2.2.2.2.1 hU (by decide)), h.2.2.2.2.2.grown hg (cb_ne h.2.2.2.2.2 hU (by decide))⟩
 obtain ⟨m, hm⟩ := h.2.1
 refine ⟨m, ?_⟩
 have h0 := GV.lt ⟨m, hm⟩
 have hb := hg.block 0 h0 (by intro e; injection e with e; omega)
 simp only [World.cell?, hb] at hm ⊢
 exact hm
theorem SN.fds {w X : World} (h : SN w X) : Fds X X.heap.size (some ⟨w.heap.size, 0, none⟩) sfL := cbRow h.2.2.1 rfl (fun vs h => by obtain ⟨c, _, rfl⟩ := List.mem_map.1 h; rfl)
theorem SN.cs {w X : World} (h : SN w X) : (X.cell? ⟨(w.heap.size + 1), 0, none⟩ = some (.slice (some ⟨w.heap.size, 0, none⟩) 2 2) ∧ X.cell? ⟨(w.heap.size + 1), 1, none⟩ = some (.int .i64 3)) ∧ (w.heap.size + 1) < X.heap.size ∧ (X.cell? ⟨(w.heap.size + 1 + 1), 0, none⟩ = some (.int .i64 6) ∧ X.cell? ⟨(w.heap.size + 1 + 1), 1, none⟩ = some (.int .i64 1) ∧ X.cell? ⟨(w.heap.size + 1 + 1), 2, none⟩ = some (.int .i64 0) ∧ X.cell? ⟨(w.heap.size + 1 + 1), 3, none⟩ = some (.string ⟨#[99]⟩) ∧ X.cell? ⟨(w.heap.size + 1 + 1), 4, none⟩ = some (.string ⟨#[100]⟩) ∧ X.cell? ⟨(w.heap.size + 1 + 1), 5, none⟩ = some (.int .i64 0) ∧ X.cell? ⟨(w.heap.size + 1 + 1), 6, none⟩ = some (.int .i64 0) ∧ X.cell? ⟨(w.heap.size + 1 + 1), 7, none⟩ = some (.string ⟨#[45]⟩)) ∧ (w.heap.size + 1 + 1) < X.heap.size ∧ (X.cell? ⟨(w.heap.size + 1 + 1 + 1), 0, none⟩ = some (.int .i64 7) ∧ X.cell? ⟨(w.heap.size + 1 + 1 + 1), 1, none⟩ = some (.int .i64 1) ∧ X.cell? ⟨(w.heap.size + 1 + 1 + 1), 2, none⟩ = some (.int .i64 2) ∧ X.cell? ⟨(w.heap.size + 1 + 1 + 1), 3, none⟩ = some (.string ⟨#[99]⟩) ∧ X.cell? ⟨(w.heap.size + 1 + 1 + 1), 4, none⟩ = some (.string ⟨#[]⟩) ∧ X.cell? ⟨(w.heap.size + 1 + 1 + 1), 5, none⟩ = some (.int .i64 0) ∧ X.cell? ⟨(w.heap.size + 1 + 1 + 1), 6, none⟩ = some (.int .i64 0) ∧ X.cell? ⟨(w.heap.size + 1 + 1 + 1), 7, none⟩ = some (.string ⟨#[45]⟩)) ∧ (w.heap.size + 1 + 1 + 1) < X.heap.size := And.intro h.2.2.2.1.c2 (And.intro h.2.2.2.1.lt (And.intro h.2.2.2.2.1.c8 (And.intro h.2.2.2.2.1.lt (And.intro h.2.2.2.2.2.c8 h.2.2.2.2.2.lt))))
theorem SN.w3 {w X : World} (h : SN w X) : (w.heap.size + 1 + 1 + 1) < X.heap.size := h.2.2.2.2.2.lt
/-- a row of its own, kept -/
def OX (X : World) (A : Option Addr) (c : Nat) (r : List Ce) : Prop := ∃ b, Own 66 4 X b (.slice A r.length c) (r.map Ce.cells)
theorem OX.up {X Y : World} {A : Option Addr} {c : Nat} {r : List Ce} (h : OX X A c r) (hb : Below X.heap.size X Y) : OX Y A c r := h.imp fun _ h => h.up hb
theorem OX.alloc {X : World} {A : Option Addr} {c : Nat} {r : List Ce} (h : OX X A c r) (o : Obj) : OX (X.alloc o) A c r := h.up (al1 X o)
theorem OX.put {X Y : World} {A : Option Addr} {c g' : Nat} {r : List Ce} {l : List Value} (h : OX X A c r) (hU : CB X g' 30 l) (hg : X.grownBy Y (some g')) : OX Y A c r := h.imp fun _ h => h.kept hg (.inr (h.ne hU (by decide)).symm)
theorem OX.ces {X : World} {A : Option Addr} {c : Nat} {r : List Ce} (h : OX X A c r) : Ces X X.heap.size A r ∧ r.length ≤ c ∧ c ≤ 9223372036854775807 := by
 obtain ⟨b, h⟩ := h
 have h1 := h.row.2.1
 rw [List.length_map] at h1
 exact ⟨h.row.2.2.2, h1, h.row.2.2.1⟩
/-- a row in a box of its own -/
def RX (X : World) (g : Nat) (A : Option Addr) (c : Nat) (r : List Ce) : Prop := CB X g 30 [.slice A r.length c] ∧ OX X A c r
theorem RX.up {X Y : World} {g : Nat} {A : Option Addr} {c : Nat} {r : List Ce} (h : RX X g A c r) (hb : Below X.heap.size X Y) : RX Y g A c r := ⟨h.1.up hb, h.2.up hb⟩
theorem RX.put {X Y : World} {g g' : Nat} {A : Option Addr} {c : Nat} {r : List Ce} {l : List Value} (h : RX X g A c r) (hU : CB X g' 30 l) (hg : X.grownBy Y (some g')) (hne : g < g') : RX Y g A c r :=
 ⟨h.1.grown hg (by intro e; injection e with e; omega), h.2.put hU hg⟩
/-- a fact of worlds that new blocks, and stores into boxes of rows from N on, leave -/
def Kp (N : Nat) (P : World → Prop) : Prop := (∀ X Y, P X → Below X.heap.size X Y → P Y) ∧ ∀ X Y g l, P X → CB X g 30 l → N ≤ g → X.grownBy Y (some g) → P Y
theorem Kp.sn {w : World} {N : Nat} (hN : (w.heap.size + 1 + 1 + 1) < N) : Kp N (SN w) := ⟨fun _ _ h hb => h.up hb, fun _ _ _ _ h hU hg hw => h.put hU hw (by omega)⟩
theorem Kp.row {N N' g c : Nat} {A : Option Addr} {P : World → Prop} {r : List Ce} (h : Kp N P) (hN : N ≤ N') (hg : g < N') : Kp N' (fun X => P X ∧ RX X g A c r) := ⟨fun X Y h1 hb => ⟨h.1 X Y h1.1 hb, h1.2.up hb⟩, fun X Y g' l h1 hU hg' hw => ⟨h.2 X Y g' l h1.1 hU (by omega) hw, h1.2.put hU hw (by omega)⟩⟩
theorem Kp.mono {N N' : Nat} {P : World → Prop} (h : Kp N P) (hN : N ≤ N') : Kp N' P := ⟨h.1, fun X Y g l h1 hU hg hw => h.2 X Y g l h1 hU (by omega) hw⟩
theorem Kp.box {N g : Nat} {P : World → Prop} {l : List Value} (h : Kp N P) : Kp N (fun X => P X ∧ CB X g 24 l) := ⟨fun X Y h1 hb => ⟨h.1 X Y h1.1 hb, h1.2.up hb⟩, fun X Y g' l h1 hU hg' hw => ⟨h.2 X Y g' l h1.1 hU hg' hw, h1.2.grown hw (cb_ne h1.2 hU (by decide))⟩⟩
theorem ex1 (A : Option Addr) (c : Nat) (w X : World) (hS : SN w X) (h : OX X A c t1) : Calls Tryz.prog 16 #[.agg #[.slice (some ⟨w.heap.size, 0, none⟩) 2 2, .int .i64 3], .agg #[.int .i64 6, .int .i64 1, .int .i64 0, .string ⟨#[99]⟩, .string ⟨#[100]⟩, .int .i64 0, .int .i64 0, .string ⟨#[45]⟩], .agg #[.slice A t1.length c]] X fun e Y => (∃ A' c', e = .returned (.agg #[.slice A' q1.length c']) ∧ OX Y A' c' q1) ∧ Below X.heap.size X Y := by
 refine (Forward_any (some ⟨w.heap.size, 0, none⟩) 2 2 3 sfL spC A t1.length c t1 X rfl hS.fds sfOk spC_cw rfl h.ces.1 (by decide) t1_sz h.ces.2.1 h.ces.2.2 hS.2.1).mono ?_
 rintro e Y ⟨⟨A', c', rfl, ho⟩, hb⟩
 rw [ev1] at ho ⊢
 exact ⟨⟨A', c', rfl, _, ho⟩, hb⟩
theorem ex2 (A : Option Addr) (c : Nat) (w X : World) (hS : SN w X) (h : OX X A c t2) : Calls Tryz.prog 18 #[.agg #[.slice (some ⟨w.heap.size, 0, none⟩) 2 2, .int .i64 3], .agg #[.int .i64 6, .int .i64 1, .int .i64 0, .string ⟨#[99]⟩, .string ⟨#[100]⟩, .int .i64 0, .int .i64 0, .string ⟨#[45]⟩], .agg #[.slice A t2.length c]] X fun e Y => (∃ A' c', e = .returned (.agg #[.slice A' q2.length c']) ∧ OX Y A' c' q2) ∧ Below X.heap.size X Y := by
 refine (Back_any (some ⟨w.heap.size, 0, none⟩) 2 2 3 sfL spC A t2.length c t2 X rfl hS.fds sfOk spC_cw rfl h.ces.1 (by decide) t2_sz h.ces.2.1 h.ces.2.2 hS.2.1).mono ?_
 rintro e Y ⟨⟨A', c', rfl, ho⟩, hb⟩
 rw [ev2] at ho ⊢
 exact ⟨⟨A', c', rfl, _, ho⟩, hb⟩
theorem ex3 (A : Option Addr) (c : Nat) (w X : World) (hS : SN w X) (h : OX X A c t3) : Calls Tryz.prog 16 #[.agg #[.slice (some ⟨w.heap.size, 0, none⟩) 2 2, .int .i64 3], .agg #[.int .i64 7, .int .i64 1, .int .i64 2, .string ⟨#[99]⟩, .string ⟨#[]⟩, .int .i64 0, .int .i64 0, .string ⟨#[45]⟩], .agg #[.slice A t3.length c]] X fun e Y => (∃ A' c', e = .returned (.agg #[.slice A' q3.length c']) ∧ OX Y A' c' q3) ∧ Below X.heap.size X Y := by
 refine (Forward_any (some ⟨w.heap.size, 0, none⟩) 2 2 3 sfL joC A t3.length c t3 X rfl hS.fds sfOk joC_cw rfl h.ces.1 (by decide) t3_sz h.ces.2.1 h.ces.2.2 hS.2.1).mono ?_
 rintro e Y ⟨⟨A', c', rfl, ho⟩, hb⟩
 rw [ev3] at ho ⊢
 exact ⟨⟨A', c', rfl, _, ho⟩, hb⟩
theorem ex4 (A : Option Addr) (c : Nat) (w X : World) (hS : SN w X) (h : OX X A c t4) : Calls Tryz.prog 18 #[.agg #[.slice (some ⟨w.heap.size, 0, none⟩) 2 2, .int .i64 3], .agg #[.int .i64 7, .int .i64 1, .int .i64 2, .string ⟨#[99]⟩, .string ⟨#[]⟩, .int .i64 0, .int .i64 0, .string ⟨#[45]⟩], .agg #[.slice A t4.length c]] X fun e Y => (∃ A' c', e = .returned (.agg #[.slice A' q4.length c']) ∧ OX Y A' c' q4) ∧ Below X.heap.size X Y := by
 refine (Back_any (some ⟨w.heap.size, 0, none⟩) 2 2 3 sfL joC A t4.length c t4 X rfl hS.fds sfOk joC_cw rfl h.ces.1 (by decide) t4_sz h.ces.2.1 h.ces.2.2 hS.2.1).mono ?_
 rintro e Y ⟨⟨A', c', rfl, ho⟩, hb⟩
 rw [ev4] at ho ⊢
 exact ⟨⟨A', c', rfl, _, ho⟩, hb⟩
theorem ex8 (A : Option Addr) (c : Nat) (w X : World) (hS : SN w X) (h : OX X A c t6) : Calls Tryz.prog 16 #[.agg #[.slice (some ⟨w.heap.size, 0, none⟩) 2 2, .int .i64 3], .agg #[.int .i64 2, .int .i64 1, .int .i64 0, .string ⟨#[]⟩, .string ⟨#[]⟩, .int .i64 0, .int .i64 0, .string ⟨#[]⟩], .agg #[.slice A t6.length c]] X fun e Y => (∃ A' c', e = .returned (.agg #[.slice A' q6.length c']) ∧ OX Y A' c' q6) ∧ Below X.heap.size X Y := by
 refine (Forward_any (some ⟨w.heap.size, 0, none⟩) 2 2 3 sfL drC A t6.length c t6 X rfl hS.fds sfOk drC_cw rfl h.ces.1 (by decide) t6_sz h.ces.2.1 h.ces.2.2 hS.2.1).mono ?_
 rintro e Y ⟨⟨A', c', rfl, ho⟩, hb⟩
 rw [ev8] at ho ⊢
 exact ⟨⟨A', c', rfl, _, ho⟩, hb⟩
theorem ex11 (A : Option Addr) (c : Nat) (w X : World) (hS : SN w X) (h : OX X A c t5) : Calls Tryz.prog 16 #[.agg #[.slice (some ⟨w.heap.size, 0, none⟩) 2 2, .int .i64 3], .agg #[.int .i64 0, .int .i64 0, .int .i64 0, .string ⟨#[]⟩, .string ⟨#[]⟩, .int .i64 0, .int .i64 0, .string ⟨#[]⟩], .agg #[.slice A t5.length c]] X fun e Y => (∃ A' c', e = .returned (.agg #[.slice A' ([] : List Ce).length c']) ∧ OX Y A' c' ([] : List Ce)) ∧ Below X.heap.size X Y := by
 refine (Forward_any (some ⟨w.heap.size, 0, none⟩) 2 2 3 sfL zeC A t5.length c t5 X rfl hS.fds sfOk zeC_cw rfl h.ces.1 (by decide) t5_sz h.ces.2.1 h.ces.2.2 hS.2.1).mono ?_
 rintro e Y ⟨⟨A', c', rfl, ho⟩, hb⟩
 rw [ev11] at ho ⊢
 exact ⟨⟨A', c', rfl, _, ho⟩, hb⟩
theorem ex9 (A : Option Addr) (c : Nat) (w X : World) (hS : SN w X) (h : OX X A c t3) : Calls Tryz.prog 20 #[.agg #[.slice (some ⟨w.heap.size, 0, none⟩) 2 2, .int .i64 3], .agg #[.int .i64 7, .int .i64 1, .int .i64 2, .string ⟨#[99]⟩, .string ⟨#[]⟩, .int .i64 0, .int .i64 0, .string ⟨#[45]⟩], .agg #[.slice A t3.length c]] X fun e Y => e = .returned (.bool false) ∧ Below X.heap.size X Y := by
 refine (Lossless_any (some ⟨w.heap.size, 0, none⟩) 2 2 3 sfL joC A t3.length c t3 X rfl hS.fds sfOk joC_cw rfl h.ces.1 (by decide) t3_sz h.ces.2.1 h.ces.2.2 hS.2.1).mono ?_
 rintro e Y ⟨rfl, hb⟩
 exact ⟨by rw [ev9], hb⟩
theorem ex10 (A : Option Addr) (c : Nat) (w X : World) (hS : SN w X) (h : OX X A c t7) : Calls Tryz.prog 20 #[.agg #[.slice (some ⟨w.heap.size, 0, none⟩) 2 2, .int .i64 3], .agg #[.int .i64 6, .int .i64 1, .int .i64 0, .string ⟨#[99]⟩, .string ⟨#[100]⟩, .int .i64 0, .int .i64 0, .string ⟨#[45]⟩], .agg #[.slice A t7.length c]] X fun e Y => e = .returned (.bool true) ∧ Below X.heap.size X Y := by
 refine (Lossless_any (some ⟨w.heap.size, 0, none⟩) 2 2 3 sfL spC A t7.length c t7 X rfl hS.fds sfOk spC_cw rfl h.ces.1 (by decide) t7_sz h.ces.2.1 h.ces.2.2 hS.2.1).mono ?_
 rintro e Y ⟨rfl, hb⟩
 exact ⟨by rw [ev10], hb⟩
theorem adS {X : World} {g : Nat} (h : CB X g 24 [.int .i64 1, .int .i64 0, .int .i64 0, .string ⟨#[97]⟩, .string ⟨#[]⟩, .int .i64 4, .int .i64 0, .string ⟨#[]⟩]) : Chs X X.heap.size (some ⟨g, 0, none⟩) [adC] := cbRow h rfl (fun vs h => by obtain ⟨c, _, rfl⟩ := List.mem_map.1 h; rfl)
theorem ad_cw : ∀ q ∈ [adC], CW q := fun q hq => by rw [List.mem_singleton] at hq; subst hq; exact adC_cw
theorem ex5 (g : Nat) (X : World) (hg : CB X g 24 [.int .i64 1, .int .i64 0, .int .i64 0, .string ⟨#[97]⟩, .string ⟨#[]⟩, .int .i64 4, .int .i64 0, .string ⟨#[]⟩]) (hG : GV X) : Calls Tryz.prog 23 #[.slice (some ⟨g, 0, none⟩) 1 1, .agg #[.slice none 0 0], .agg #[.int .i64 0, .int .i64 2]] X fun e Y => (∃ A' c', e = .returned (.tuple #[.agg #[.slice A' 0 c'], .int .i64 1]) ∧ OX Y A' c' []) ∧ Below X.heap.size X Y := by
 refine (Translate_any (some ⟨g, 0, none⟩) 1 1 [adC] none 0 0 ([] : List Ce) 0 2 X rfl (adS hg) (by decide) (by decide) (by decide) ad_cw rfl Ces.nil (by decide) (fun _ h => by simp at h) (Nat.le_refl 0) (by decide) hG).mono ?_
 rintro e Y ⟨⟨A', c', rfl, ho⟩, hb⟩
 rw [ev5] at ho ⊢
 exact ⟨⟨A', c', rfl, _, ho⟩, hb⟩
theorem ex6 (A : Option Addr) (c : Nat) (g : Nat) (X : World) (hg : CB X g 24 [.int .i64 1, .int .i64 0, .int .i64 0, .string ⟨#[97]⟩, .string ⟨#[]⟩, .int .i64 4, .int .i64 0, .string ⟨#[]⟩]) (hG : GV X) (h : OX X A c t5) : Calls Tryz.prog 23 #[.slice (some ⟨g, 0, none⟩) 1 1, .agg #[.slice A t5.length c], .agg #[.int .i64 0, .int .i64 1]] X fun e Y => (∃ A' c', e = .returned (.tuple #[.agg #[.slice A' 0 c'], .int .i64 7]) ∧ OX Y A' c' []) ∧ Below X.heap.size X Y := by
 refine (Translate_any (some ⟨g, 0, none⟩) 1 1 [adC] A t5.length c t5 0 1 X rfl (adS hg) (by decide) (by decide) (by decide) ad_cw rfl h.ces.1 (by decide) t5_sz h.ces.2.1 h.ces.2.2 hG).mono ?_
 rintro e Y ⟨⟨A', c', rfl, ho⟩, hb⟩
 rw [ev6] at ho ⊢
 exact ⟨⟨A', c', rfl, _, ho⟩, hb⟩
theorem ex7 (A : Option Addr) (c : Nat) (g : Nat) (X : World) (hg : CB X g 24 [.int .i64 1, .int .i64 0, .int .i64 0, .string ⟨#[97]⟩, .string ⟨#[]⟩, .int .i64 4, .int .i64 0, .string ⟨#[]⟩]) (hG : GV X) (h : OX X A c t5) : Calls Tryz.prog 23 #[.slice (some ⟨g, 0, none⟩) 1 1, .agg #[.slice A t5.length c], .agg #[.int .i64 1, .int .i64 0]] X fun e Y => (∃ A' c', e = .returned (.tuple #[.agg #[.slice A' 0 c'], .int .i64 0]) ∧ OX Y A' c' []) ∧ Below X.heap.size X Y := by
 refine (Translate_any (some ⟨g, 0, none⟩) 1 1 [adC] A t5.length c t5 1 0 X rfl (adS hg) (by decide) (by decide) (by decide) ad_cw rfl h.ces.1 (by decide) t5_sz h.ces.2.1 h.ces.2.2 hG).mono ?_
 rintro e Y ⟨⟨A', c', rfl, ho⟩, hb⟩
 rw [ev7] at ho ⊢
 exact ⟨⟨A', c', rfl, _, ho⟩, hb⟩
theorem tx1 (i : Int) (s : ByteArray) (r : List Ce) (hr : txR i [s] = r) (g : Nat) (X : World) (hg : CB X g 9 [.string s]) (hi : 0 ≤ i ∧ i ≤ 1000) : Calls Tryz.prog 30 #[.int .i64 i, .slice (some ⟨g, 0, none⟩) 1 1] X fun e Y => (∃ A' c', e = .returned (.agg #[.slice A' r.length c']) ∧ OX Y A' c' r) ∧ Below X.heap.size X Y := by
 refine (text_any i (some ⟨g, 0, none⟩) 1 1 [s] X rfl (sts1 hg) hi (by decide)).mono ?_
 rintro e Y ⟨⟨A', c', rfl, ho⟩, hb⟩
 rw [hr] at ho ⊢
 exact ⟨⟨A', c', rfl, _, ho⟩, hb⟩
theorem tx2 (i : Int) (s t : ByteArray) (r : List Ce) (hr : txR i [s, t] = r) (g : Nat) (X : World) (hg : CB X g 9 [.string s, .string t]) (hi : 0 ≤ i ∧ i ≤ 1000) : Calls Tryz.prog 30 #[.int .i64 i, .slice (some ⟨g, 0, none⟩) 2 2] X fun e Y => (∃ A' c', e = .returned (.agg #[.slice A' r.length c']) ∧ OX Y A' c' r) ∧ Below X.heap.size X Y := by
 refine (text_any i (some ⟨g, 0, none⟩) 2 2 [s, t] X rfl (sts2 hg) hi (by decide)).mono ?_
 rintro e Y ⟨⟨A', c', rfl, ho⟩, hb⟩
 rw [hr] at ho ⊢
 exact ⟨⟨A', c', rfl, _, ho⟩, hb⟩
theorem sameR (A A' : Option Addr) (c c' : Nat) (r : List Ce) (X : World) (h : Ces X X.heap.size A r) (h' : OX X A' c' r) (hl : r.length ≤ 9223372036854775807) : Calls Tryz.prog 15 #[.agg #[.slice A r.length c], .agg #[.slice A' r.length c']] X fun e Y => e = .returned (.bool true) ∧ Below X.heap.size X Y := by
 refine (RSameRow_any A r.length c r A' r.length c' r X rfl h rfl h'.ces.1 hl hl).mono ?_
 rintro e Y ⟨rfl, hb⟩
 exact ⟨by rw [eqCs_iff.2 rfl], hb⟩
end Go.Proofs.YtfeemipnalgjnaaGreat
