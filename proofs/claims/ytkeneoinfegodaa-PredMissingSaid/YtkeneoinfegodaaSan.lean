/-
  The laws' fixed examples: what they are made of, and what they are worth.
-/
import Derived.Test.YtkeneoinfegodaaKln
import Derived.Test.YtkeneoinfegodaaInt
import Derived.Test.YtkeneoinfegodaaSiz
import Derived.Test.YtkeneoinfegodaaVld
import Derived.Test.YtkeneoinfegodaaRef
namespace Go.Proofs.Ytkeneoinfegodaa
open Go.RowKit
theorem cb_row {k : Nat} {w : World} {g : Nat} {t : TypeId} {l : List Value} {L : List (List Value)} (h : CB w g t l) (hl : l = L.flatten) (hk : ∀ vs ∈ L, vs.length = k) : RowAt k w w.heap.size (some ⟨g, 0, none⟩) L := fun _ => by
  refine ⟨g, 0, rfl, h.lt, fun i vs hi j v hj => ?_⟩
  have := flat_get hk hi hj
  rw [← hl] at this
  rw [Nat.zero_add]
  exact h.cell _ this
theorem len_pr {l : List Pr} {vs : List Value} (h : vs ∈ l.map Pr.cells) : vs.length = 7 := by
  obtain ⟨c, _, rfl⟩ := List.mem_map.1 h
  rfl
theorem len_ce {l : List Ce} {vs : List Value} (h : vs ∈ l.map Ce.cells) : vs.length = 4 := by
  obtain ⟨c, _, rfl⟩ := List.mem_map.1 h
  rfl
theorem len_va {l : List Va} {vs : List Value} (h : vs ∈ l.map Va.cells3) : vs.length = 3 := by
  obtain ⟨c, _, rfl⟩ := List.mem_map.1 h
  rfl
theorem len_fd {l : List Fd} {vs : List Value} (h : vs ∈ l.map Fd.cells) : vs.length = 4 := by
  obtain ⟨c, _, rfl⟩ := List.mem_map.1 h
  rfl
theorem len_in {l : List Int} {vs : List Value} (h : vs ∈ l.map fun i => [Value.int .i64 i]) : vs.length = 1 := by
  obtain ⟨c, _, rfl⟩ := List.mem_map.1 h
  rfl
def btw (i lo hi : Int) : Pr := .mk 1 i lo hi none 0 [] ⟨#[]⟩ none 0 []
def nulP (i : Int) : Pr := .mk 4 i 0 0 none 0 [] ⟨#[]⟩ none 0 []
def truP : Pr := .mk 0 0 0 0 none 0 [] ⟨#[]⟩ none 0 []
def preP : Pr := .mk 3 2 0 0 none 0 [] ⟨#[97]⟩ none 0 []
def inP (g : Nat) : Pr := .mk 2 2 0 0 (some ⟨g, 0, none⟩) 1 [⟨false, 0, ⟨#[97, 98]⟩⟩] ⟨#[]⟩ none 0 []
/-- a number of the machine -/
def I64 (z : Int) : Prop := -9223372036854775808 ≤ z ∧ z ≤ 9223372036854775807
theorem leaf_at {w : World} {B : Nat} {o i lo hi : Int} {t : ByteArray} (h1 : I64 i) (h2 : I64 lo) (h3 : I64 hi) (ht : t.size ≤ 9223372036854775807) : PrAt w B (.mk o i lo hi none 0 [] t none 0 []) :=
  ⟨RowAt.nil, Nat.le_refl _, by show (0 : Nat) ≤ _; omega, ht, RowAt.nil, Nat.le_refl _, by show (0 : Nat) ≤ _; omega, (fun v hv => by cases hv), ⟨h1.1, h1.2, h2.1, h2.2, h3.1, h3.2⟩, fun k hk => by cases hk⟩
theorem btw_at {w : World} {B : Nat} {i lo hi : Int} (h1 : I64 i) (h2 : I64 lo) (h3 : I64 hi) : PrAt w B (btw i lo hi) := leaf_at h1 h2 h3 (by decide)
theorem nulP_at {w : World} {B : Nat} {i : Int} (h1 : I64 i) : PrAt w B (nulP i) := leaf_at h1 (by unfold I64; omega) (by unfold I64; omega) (by decide)
theorem truP_at {w : World} {B : Nat} : PrAt w B truP := leaf_at (by unfold I64; omega) (by unfold I64; omega) (by unfold I64; omega) (by decide)
theorem preP_at {w : World} {B : Nat} : PrAt w B preP := leaf_at (by unfold I64; omega) (by unfold I64; omega) (by unfold I64; omega) (by decide)
/-- an operator over Kids that lie in a block of their own -/
theorem op_at {w : World} {g : Nat} {t : TypeId} {l : List Value} {o : Int} {ks : List Pr} {n : Nat} (h : CB w g t l) (hl : l = (ks.map Pr.cells).flatten) (hn : n = ks.length) (hm : n ≤ 1000) (hp : ∀ k ∈ ks, PrAt w w.heap.size k) : PrAt w w.heap.size (mkP o (some ⟨g, 0, none⟩) n ks) :=
  mkP_at (cb_row h hl (fun _ hv => len_pr hv)) (by omega) (by omega) hp
def r0 : List Ce := [⟨1, ⟨false, 5, ⟨#[]⟩⟩⟩, ⟨2, ⟨false, 0, ⟨#[97, 98]⟩⟩⟩]
/-- where the examples' row, set and predicates lie -/
structure S4 (w X : World) : Prop where
  r : CB X w.heap.size 39 [.int .i64 1, .bool false, .int .i64 5, .string ⟨#[]⟩, .int .i64 2, .bool false, .int .i64 0, .string ⟨#[97, 98]⟩]
  b : CB X (w.heap.size + 1) 29 [.slice (some ⟨w.heap.size, 0, none⟩) 2 2]
  s : CB X (w.heap.size + 1 + 1) 37 [.bool false, .int .i64 0, .string ⟨#[97, 98]⟩]
  i : CB X (w.heap.size + 1 + 1 + 1) 25 [.int .i64 2, .int .i64 2, .int .i64 0, .int .i64 0, .slice (some ⟨w.heap.size + 1 + 1, 0, none⟩) 1 1, .string ⟨#[]⟩, .slice none 0 0]
  p : CB X (w.heap.size + 1 + 1 + 1 + 1) 25 [.int .i64 3, .int .i64 2, .int .i64 0, .int .i64 0, .slice none 0 0, .string ⟨#[97]⟩, .slice none 0 0]
  d : Below w.heap.size w X
section
variable {w X X' : World}
theorem S4.up (h : S4 w X) (hb : Below X.heap.size X X') : S4 w X' := ⟨h.r.up hb, h.b.up hb, h.s.up hb, h.i.up hb, h.p.up hb, below_step h.d h.d.size hb⟩
theorem S4.dr (h : S4 w X) : S4 w X.drew := ⟨h.r.dr, h.b.dr, h.s.dr, h.i.dr, h.p.dr, below_drewN h.d 1⟩
theorem S4.row (h : S4 w X) : Ces X X.heap.size (some ⟨w.heap.size, 0, none⟩) r0 := cb_row h.r rfl (fun _ hv => len_ce hv)
theorem S4.inp (h : S4 w X) : PrAt X X.heap.size (inP (w.heap.size + 1 + 1)) :=
  ⟨cb_row h.s rfl (fun _ hv => len_va hv), by show (1 : Nat) ≤ 1; omega, by show (1 : Nat) ≤ _; omega, by show (0 : Nat) ≤ _; omega, RowAt.nil, Nat.le_refl _, by show (0 : Nat) ≤ _; omega,
    (fun v hv => by
      have e : v = ⟨false, 0, ⟨#[97, 98]⟩⟩ := by simpa [inP, Pr.set] using hv
      subst e
      exact ⟨by show _ ≤ (0 : Int); omega, by show (0 : Int) ≤ _; omega, by show (2 : Nat) ≤ _; omega⟩),
    ⟨by show _ ≤ (2 : Int); omega, by show (2 : Int) ≤ _; omega, by show _ ≤ (0 : Int); omega, by show (0 : Int) ≤ _; omega, by show _ ≤ (0 : Int); omega, by show (0 : Int) ≤ _; omega⟩, fun k hk => by cases hk⟩
theorem S4.ev (h : S4 w X) (p : Pr) (hp : PrAt X X.heap.size p) {t : Int} (ht : Go.Proofs.Ytkeneoinfegodaa.ev r0 p = t) :
    Calls Try.prog 13 #[.agg #[.int .i64 p.op, .int .i64 p.id, .int .i64 p.lo, .int .i64 p.hi, .slice p.S p.set.length p.sc, .string p.tx, .slice p.K p.kids.length p.kc], .agg #[.slice (some ⟨w.heap.size, 0, none⟩) 2 2]] X fun e w' => e = .returned (.int .i64 t) ∧ Below X.heap.size X w' :=
  ht ▸ Eval_any _ 2 2 r0 rfl (by decide) p X hp h.row
end
theorem vB1 : ev r0 (btw 1 0 4) = 0 := by rw [ev_eq]; kernel_rfl
theorem vB2 : ev r0 (btw 1 5 5) = 1 := by rw [ev_eq]; kernel_rfl
theorem vB3 : ev r0 (btw 3 0 9) = 2 := by rw [ev_eq]; kernel_rfl
theorem vIn (g : Nat) : ev r0 (inP g) = 1 := by rw [ev_eq]; kernel_rfl
theorem vPre : ev r0 preP = 1 := by rw [ev_eq]; kernel_rfl
theorem vNul : ev r0 (nulP 3) = 1 := by rw [ev_eq]; kernel_rfl
theorem vNot (K : Option Addr) : ev r0 (mkP 7 K 1 [nulP 3]) = 0 := by rw [ev_not, vNul]; kernel_rfl
theorem vAnd (K : Option Addr) : ev r0 (mkP 5 K 2 [btw 3 0 9, btw 1 0 4]) = 0 := by rw [ev_jn _ _ _ _ _ (.inl rfl), List.map_cons, List.map_cons, List.map_nil, vB3, vB1]; kernel_rfl
theorem vOr (K : Option Addr) : ev r0 (mkP 6 K 2 [btw 3 0 9, btw 1 0 4]) = 2 := by rw [ev_jn _ _ _ _ _ (.inr rfl), List.map_cons, List.map_cons, List.map_nil, vB3, vB1]; kernel_rfl
theorem vAnd0 : ev r0 (mkP 5 none 0 []) = 1 := by rw [ev_eq]; kernel_rfl
theorem vOr0 : ev r0 (mkP 6 none 0 []) = 0 := by rw [ev_eq]; kernel_rfl
theorem vNine : ev r0 (mkP 9 none 0 []) = 2 := by rw [ev_eq]; kernel_rfl
def treP (K : Option Addr) : Pr := mkP 6 K 3 [nulP 2, btw 1 0 4, nulP 2]
theorem pre_btw (lv i lo hi : Int) : preO lv (btw i lo hi) = [(lv, btw i lo hi)] := by rw [preO_eq]; rfl
theorem pre_nul (lv i : Int) : preO lv (nulP i) = [(lv, nulP i)] := by rw [preO_eq]; rfl
theorem pre_leaf {lv : Int} {p : Pr} (h : p.kids = []) : preO lv p = [(lv, p)] := by rw [preO_eq, h]; rfl
theorem dep_leaf {p : Pr} (h : p.kids = []) : dep p = 1 := by rw [dep_eq, h]; rfl
theorem pre_op (lv o : Int) (K : Option Addr) (n : Nat) (ks : List Pr) (h : ∀ k ∈ ks, k.kids = []) : preO lv (mkP o K n ks) = (lv, mkP o K n ks) :: ks.map fun k => (lv + 1, k) := by
  rw [preO_eq]
  show _ :: preOs (lv + 1) ks = _
  congr 1
  induction ks with
  | nil => rfl
  | cons k ks ih =>
    rw [preOs, ih (fun q hq => h q (by simp [hq])), preO_eq, h k (by simp)]
    rfl
theorem dep_op (o : Int) (K : Option Addr) (n : Nat) (ks : List Pr) (h : ∀ k ∈ ks, k.kids = []) : dep (mkP o K n ks) ≤ 2 := by
  rw [dep_eq]
  show deps ks + 1 ≤ 2
  have : deps ks ≤ 1 := by
    induction ks with
    | nil => rw [deps]; omega
    | cons k ks ih =>
      rw [deps, dep_leaf (h k (by simp))]
      have := ih (fun q hq => h q (by simp [hq]))
      omega
  omega
theorem tre_kids (K : Option Addr) : preO 1 (treP K) = [(1, treP K), (2, nulP 2), (2, btw 1 0 4), (2, nulP 2)] := by
  unfold treP
  rw [pre_op _ _ _ _ _ (by intro k hk; simp only [List.mem_cons, List.not_mem_nil, or_false] at hk; rcases hk with rfl | rfl | rfl <;> rfl)]
  rfl
theorem srt212 : srt [2, 1, 2] = [1, 2, 2] := by
  unfold srt
  simp [List.mergeSort, List.MergeSort.Internal.splitInTwo, List.merge]
theorem fTre (K : Option Addr) : fldL (treP K) = [1, 2] := by
  unfold fldL
  rw [tre_kids, show idsL [(1, treP K), (2, nulP 2), (2, btw 1 0 4), (2, nulP 2)] = [2, 1, 2] from by kernel_rfl, srt212]
  kernel_rfl
theorem dTre (K : Option Addr) : dep (treP K) ≤ 2 := dep_op _ _ _ _ (by intro k hk; simp only [List.mem_cons, List.not_mem_nil, or_false] at hk; rcases hk with rfl | rfl | rfl <;> rfl)
theorem cBtw : encL (btw 3 0 64) = [1, 6, 0, 128, 1] := by unfold encL; rw [pre_btw]; kernel_rfl
theorem cNot (K : Option Addr) : encL (mkP 7 K 1 [truP]) = [7, 1, 0] := by
  unfold encL
  rw [pre_op _ _ _ _ _ (by intro k hk; rw [List.mem_singleton] at hk; subst hk; rfl)]
  kernel_rfl
theorem cNot0 : encL (mkP 7 none 0 []) = [] := by unfold encL; rw [pre_leaf rfl]; kernel_rfl
def s0 : List Fd := [⟨1, ⟨#[]⟩, 3, 0⟩, ⟨2, ⟨#[]⟩, 4, 0⟩]

theorem S4.al {w X : World} (h : S4 w X) (o : Obj) : S4 w (X.alloc o) := h.up (al1 X o)
theorem S4.mt {w X : World} (h : S4 w X) (p : Pr) (hp : PrAt X X.heap.size p) {t : Int} (ht : Go.Proofs.Ytkeneoinfegodaa.ev r0 p = t) {b : Bool} (hb : (t == 1) = b) :
    Calls Try.prog 17 #[.agg #[.int .i64 p.op, .int .i64 p.id, .int .i64 p.lo, .int .i64 p.hi, .slice p.S p.set.length p.sc, .string p.tx, .slice p.K p.kids.length p.kc], .agg #[.slice (some ⟨w.heap.size, 0, none⟩) 2 2]] X fun e w' => e = .returned (.bool b) ∧ Below X.heap.size X w' := by
  subst ht hb
  exact Match_any _ 2 2 r0 rfl (by decide) p X hp h.row
/-- how the examples begin -/
theorem S4.new (w : World) : S4 w (((((w.alloc (.cells #[.int .i64 1, .bool false, .int .i64 5, .string ⟨#[]⟩, .int .i64 2, .bool false, .int .i64 0, .string ⟨#[97, 98]⟩] 39)).alloc (.cells #[.slice (some ⟨w.heap.size, 0, none⟩) 2 2] 29)).alloc
    (.cells #[.bool false, .int .i64 0, .string ⟨#[97, 98]⟩] 37)).alloc (.cells #[.int .i64 2, .int .i64 2, .int .i64 0, .int .i64 0, .slice (some ⟨w.heap.size + 1 + 1, 0, none⟩) 1 1, .string ⟨#[]⟩, .slice none 0 0] 25)).alloc
    (.cells #[.int .i64 3, .int .i64 2, .int .i64 0, .int .i64 0, .slice none 0 0, .string ⟨#[97]⟩, .slice none 0 0] 25)) where
  r := ((((CB.new w _ _).alloc _).alloc _).alloc _).alloc _
  b := (((CB.new1 w _ _ _).alloc _).alloc _).alloc _
  s := ((CB.new2 w _ _ _ _).alloc _).alloc _
  i := by
    refine CB.alloc ?_ _
    have := CB.new (((w.alloc (.cells #[.int .i64 1, .bool false, .int .i64 5, .string ⟨#[]⟩, .int .i64 2, .bool false, .int .i64 0, .string ⟨#[97, 98]⟩] 39)).alloc (.cells #[.slice (some ⟨w.heap.size, 0, none⟩) 2 2] 29)).alloc (.cells #[.bool false, .int .i64 0, .string ⟨#[97, 98]⟩] 37)) 25 [.int .i64 2, .int .i64 2, .int .i64 0, .int .i64 0, .slice (some ⟨w.heap.size + 1 + 1, 0, none⟩) 1 1, .string ⟨#[]⟩, .slice none 0 0]
    rwa [asz, asz, asz] at this
  p := by
    have := CB.new ((((w.alloc (.cells #[.int .i64 1, .bool false, .int .i64 5, .string ⟨#[]⟩, .int .i64 2, .bool false, .int .i64 0, .string ⟨#[97, 98]⟩] 39)).alloc (.cells #[.slice (some ⟨w.heap.size, 0, none⟩) 2 2] 29)).alloc (.cells #[.bool false, .int .i64 0, .string ⟨#[97, 98]⟩] 37)).alloc (.cells #[.int .i64 2, .int .i64 2, .int .i64 0, .int .i64 0, .slice (some ⟨w.heap.size + 1 + 1, 0, none⟩) 1 1, .string ⟨#[]⟩, .slice none 0 0] 25)) 25 [.int .i64 3, .int .i64 2, .int .i64 0, .int .i64 0, .slice none 0 0, .string ⟨#[97]⟩, .slice none 0 0]
    rwa [asz, asz, asz, asz] at this
  d := (al4 w _ _ _ _).alloc (by simp; omega) _
/-- and the tree of the fifth row -/
structure S5 (w : World) (K T : Nat) (X : World) : Prop where
  s : S4 w X
  k : CB X K 25 [.int .i64 4, .int .i64 2, .int .i64 0, .int .i64 0, .slice none 0 0, .string ⟨#[]⟩, .slice none 0 0, .int .i64 1, .int .i64 1, .int .i64 0, .int .i64 4, .slice none 0 0, .string ⟨#[]⟩, .slice none 0 0, .int .i64 4, .int .i64 2, .int .i64 0, .int .i64 0, .slice none 0 0, .string ⟨#[]⟩, .slice none 0 0]
  t : CB X T 25 [.int .i64 6, .int .i64 0, .int .i64 0, .int .i64 0, .slice none 0 0, .string ⟨#[]⟩, .slice (some ⟨K, 0, none⟩) 3 3]
theorem two_at {w : World} {B : Nat} {a b : Pr} (h1 : PrAt w B a) (h2 : PrAt w B b) : ∀ k ∈ [a, b], PrAt w B k := fun k hk => by
  simp only [List.mem_cons, List.not_mem_nil, or_false] at hk
  rcases hk with rfl | rfl
  · exact h1
  · exact h2
section
variable {w X X' : World} {K T : Nat}
theorem S5.up (h : S5 w K T X) (hb : Below X.heap.size X X') : S5 w K T X' := ⟨h.s.up hb, h.k.up hb, h.t.up hb⟩
theorem S5.dr (h : S5 w K T X) : S5 w K T X.drew := ⟨h.s.dr, h.k.dr, h.t.dr⟩
theorem S5.al (h : S5 w K T X) (o : Obj) : S5 w K T (X.alloc o) := h.up (al1 X o)
theorem S5.tree (h : S5 w K T X) : PrAt X X.heap.size (treP (some ⟨K, 0, none⟩)) := op_at h.k rfl rfl (by omega) (fun k hk => by
  simp only [List.mem_cons, List.not_mem_nil, or_false] at hk
  rcases hk with rfl | rfl | rfl
  · exact nulP_at (by unfold I64; omega)
  · exact btw_at (by unfold I64; omega) (by unfold I64; omega) (by unfold I64; omega)
  · exact nulP_at (by unfold I64; omega))
end
theorem bIn {w : World} {B : Nat} {i lo hi : Int} (h : (decide (-1000 ≤ i) && decide (i ≤ 1000) && decide (-1000 ≤ lo) && decide (lo ≤ 1000) && decide (-1000 ≤ hi) && decide (hi ≤ 1000)) = true) : PrAt w B (btw i lo hi) := by
  simp only [Bool.and_eq_true, decide_eq_true_iff] at h
  exact btw_at (by unfold I64; omega) (by unfold I64; omega) (by unfold I64; omega)
theorem op0_at {w : World} {B : Nat} {o : Int} : PrAt w B (mkP o none 0 []) := mkP_at RowAt.nil (by simp) (by omega) (fun k hk => by cases hk)

theorem shows_lit (w : World) (cs : Array Value) (bs : List UInt8) (h : cs = (cb bs).toArray) : Shows (w.alloc (.cells cs 5)) (w.alloc (.cells cs 5)).heap.size (some ⟨w.heap.size, 0, none⟩) bs := fun _ =>
  ⟨w.heap.size, 0, rfl, by simp, fun i c hi => by
    subst h
    have : (w.alloc (.cells (cb bs).toArray 5)).cell? ⟨w.heap.size, i, none⟩ = (cb bs).toArray[i]? := cell_of_row _ _ _ _ _ (0, 0) (heap_alloc_new w _)
    rw [Nat.zero_add, this]
    simp [cb, hi]⟩

theorem shows_lit1 (w : World) (o : Obj) (cs : Array Value) (bs : List UInt8) (h : cs = (cb bs).toArray) : Shows ((w.alloc o).alloc (.cells cs 5)) ((w.alloc o).alloc (.cells cs 5)).heap.size (some ⟨w.heap.size + 1, 0, none⟩) bs := by
  have := shows_lit (w.alloc o) cs bs h
  simp only [asz] at this ⊢
  exact this
def Pr.ar (p : Pr) : Value := .agg #[.int .i64 p.op, .int .i64 p.id, .int .i64 p.lo, .int .i64 p.hi, .slice p.S p.set.length p.sc, .string p.tx, .slice p.K p.kids.length p.kc]
theorem Ints_yes (A : Option Addr) (n cap : Nat) (l : List Int) (C : Option Addr) (m d : Nat) (w : World) (hs : Ints w w.heap.size A l) (hp : Ints w w.heap.size C l) (h1 : n = l.length) (h2 : m = l.length) (hn : n ≤ 9223372036854775806) :
    Calls Try.prog 18 #[.slice A n cap, .slice C m d] w fun e w' => e = .returned (.bool true) ∧ Below w.heap.size w w' :=
  (Ints_any A n cap l C m d l w hs hp h1 h2 hn).mono fun e w' h => by
    obtain ⟨h1, k, rfl⟩ := h
    exact ⟨by rw [h1]; simp, below_drewN (Below.refl _ _) k⟩
theorem Same_yes (A : Option Addr) (n cap : Nat) (l : List UInt8) (C : Option Addr) (m d : Nat) (w : World) (hs : Shows w w.heap.size A l) (hp : Shows w w.heap.size C l) (h1 : n = l.length) (h2 : m = l.length) (hn : n ≤ 9223372036854775807) :
    Calls Try.prog 20 #[.slice A n cap, .slice C m d] w fun e w' => e = .returned (.bool true) ∧ Below w.heap.size w w' :=
  (Same_any A n cap l C m d l w hs hp h1 h2 hn (by omega)).mono fun e w' h => ⟨by rw [h.1]; simp, h.2⟩
theorem Encode_is (A : Option Addr) (k cap : Nat) (b : List UInt8) (p : Pr) (r : List UInt8) (n : Nat) (w : World) (hk : k = b.length) (hs : Shows w w.heap.size A b) (hb : b.length ≤ 100000000) (hp : PrAt w w.heap.size p) (hd : dep p ≤ 2) (hN : (preO 1 p).length ≤ 100) (hr : b ++ encL p = r) (hn : n = r.length) :
    Calls Try.prog 21 #[.slice A k cap, .agg #[.int .i64 p.op, .int .i64 p.id, .int .i64 p.lo, .int .i64 p.hi, .slice p.S p.set.length p.sc, .string p.tx, .slice p.K p.kids.length p.kc]] w fun e w' => ∃ A' c', e = .returned (.slice A' n c') ∧ Shows w' w'.heap.size A' r ∧ Below w.heap.size w w' := by
  subst hk hn hr
  refine (Encode_any A cap b p w hs hb hp (by omega) (by omega)).mono fun e w' h => ?_
  obtain ⟨⟨A', c', e, ho⟩, hb⟩ := h
  exact ⟨A', c', e, (Owns.shows ho).2.2, hb⟩
theorem S5.fld {w X : World} {K T : Nat} (h : S5 w K T X) : Calls Try.prog 12 #[.agg #[.int .i64 6, .int .i64 0, .int .i64 0, .int .i64 0, .slice none 0 0, .string ⟨#[]⟩, .slice (some ⟨K, 0, none⟩) 3 3]] X fun e w' => (∃ A c, e = .returned (.slice A 2 c) ∧ Ints w' w'.heap.size A [1, 2]) ∧ Below X.heap.size X w' := by
  have := Fields_any (treP (some ⟨K, 0, none⟩)) X h.tree (Nat.le_trans (dTre _) (by omega)) (by rw [tre_kids]; show 4 ≤ _; omega)
  rw [fTre] at this
  exact this
theorem S5.siz {w X : World} {K T : Nat} (h : S5 w K T X) : Calls Try.prog 19 #[.agg #[.int .i64 6, .int .i64 0, .int .i64 0, .int .i64 0, .slice none 0 0, .string ⟨#[]⟩, .slice (some ⟨K, 0, none⟩) 3 3]] X fun e w' => e = .returned (.int .i64 4) ∧ Below X.heap.size X w' := by
  have := Size_any (treP (some ⟨K, 0, none⟩)) X h.tree (Nat.le_trans (dTre _) (by omega)) (by rw [tre_kids]; show 4 ≤ _; omega)
  rw [tre_kids] at this
  exact this
def badV (e : Int) : Value := .tuple #[.agg #[.int .i64 0, .int .i64 0, .int .i64 0, .int .i64 0, .slice none 0 0, .string ⟨#[]⟩, .slice none 0 0], .int .i64 0, .int .i64 e]
/-- and the schema -/
structure S6 (w : World) (K T G : Nat) (X : World) : Prop where
  s : S5 w K T X
  f : CB X (G + 1) 60 [.int .i64 1, .string ⟨#[]⟩, .int .i64 3, .int .i64 0, .int .i64 2, .string ⟨#[]⟩, .int .i64 4, .int .i64 0]
  c : CB X (G + 1 + 1) 63 [.slice (some ⟨G + 1, 0, none⟩) 2 2, .int .i64 0]
theorem S6.up {w X X' : World} {K T G : Nat} (h : S6 w K T G X) (hb : Below X.heap.size X X') : S6 w K T G X' := ⟨h.s.up hb, h.f.up hb, h.c.up hb⟩
theorem S6.dr {w X : World} {K T G : Nat} (h : S6 w K T G X) : S6 w K T G X.drew := ⟨h.s.dr, h.f.dr, h.c.dr⟩
theorem S6.al {w X : World} {K T G : Nat} (h : S6 w K T G X) (o : Obj) : S6 w K T G (X.alloc o) := h.up (al1 X o)
theorem S6.vl {w X : World} {K T G : Nat} (h : S6 w K T G X) (p : Pr) (hp : PrAt X X.heap.size p) (hd : dep p ≤ 2) {b : Bool} (hb : validP s0 p = b) :
    Calls Try.prog 23 #[.agg #[.slice (some ⟨G + 1, 0, none⟩) 2 2, .int .i64 0], .agg #[.int .i64 p.op, .int .i64 p.id, .int .i64 p.lo, .int .i64 p.hi, .slice p.S p.set.length p.sc, .string p.tx, .slice p.K p.kids.length p.kc]] X fun e w' => e = .returned (.bool b) ∧ Below X.heap.size X w' := by
  subst hb
  exact validP_any _ 2 2 0 s0 p X rfl (cb_row h.f rfl (fun _ hv => len_fd hv)) (by decide) hp (by omega)
theorem val_nil (X : World) : Calls Try.prog 23 #[.agg #[.slice none 0 0, .int .i64 0], .agg #[.int .i64 0, .int .i64 0, .int .i64 0, .int .i64 0, .slice none 0 0, .string ⟨#[]⟩, .slice none 0 0]] X fun e w' => e = .returned (.bool true) ∧ Below X.heap.size X w' := by
  have := validP_any none 0 0 0 [] truP X rfl RowAt.nil (by decide) truP_at (by rw [dep_leaf rfl]; omega)
  rw [show validP [] truP = true from by unfold validP; rw [pre_leaf rfl]; kernel_rfl] at this
  exact this
theorem wTre (K : Option Addr) : validP s0 (treP K) = true := by unfold validP; rw [tre_kids]; kernel_rfl
theorem wOr (K : Option Addr) : validP s0 (mkP 6 K 2 [nulP 2, btw 1 4 0]) = true := by
  unfold validP
  rw [pre_op _ _ _ _ _ (by intro k hk; simp only [List.mem_cons, List.not_mem_nil, or_false] at hk; rcases hk with rfl | rfl <;> rfl)]
  kernel_rfl
theorem dOr (K : Option Addr) : dep (mkP 6 K 2 [nulP 2, btw 1 4 0]) ≤ 2 := dep_op _ _ _ _ (by intro k hk; simp only [List.mem_cons, List.not_mem_nil, or_false] at hk; rcases hk with rfl | rfl <;> rfl)
theorem wBtw : validP s0 (btw 2 0 1) = false := by unfold validP; rw [pre_btw]; kernel_rfl
theorem wNul : validP s0 (nulP 3) = false := by unfold validP; rw [pre_nul]; kernel_rfl
theorem wIn (g : Nat) : validP s0 (inP g) = true := by unfold validP; rw [pre_leaf rfl]; kernel_rfl
theorem d1 {p : Pr} (h : p.kids = []) : dep p ≤ 2 := by rw [dep_leaf h]; omega
theorem n1 {p : Pr} (h : p.kids = []) : (preO 1 p).length ≤ 100 := by rw [pre_leaf h]; show 1 ≤ 100; omega
theorem not_kid : ∀ k ∈ [truP], k.kids = [] := by intro k hk; rw [List.mem_singleton] at hk; subst hk; rfl
theorem dN (K : Option Addr) : dep (mkP 7 K 1 [truP]) ≤ 2 := dep_op _ _ _ _ not_kid
theorem nN (K : Option Addr) : (preO 1 (mkP 7 K 1 [truP])).length ≤ 100 := by rw [pre_op _ _ _ _ _ not_kid]; show 2 ≤ 100; omega
end Go.Proofs.Ytkeneoinfegodaa
