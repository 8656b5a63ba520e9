/-
  Predicates as trees that know where they lie in memory; their truth values, fields and sizes, plain.
-/
import Derived.Test.YtkeneoinfegodaaCel
namespace Go.Proofs.Ytkeneoinfegodaa
open Go.RowKit

/-- a predicate; S, sc and K, kc: where its elements and its Kids lie, and their rooms -/
inductive Pr where
  | mk (op id lo hi : Int) (S : Option Addr) (sc : Nat) (set : List Va) (tx : ByteArray) (K : Option Addr) (kc : Nat) (kids : List Pr)
namespace Pr
def op : Pr → Int | mk o _ _ _ _ _ _ _ _ _ _ => o
def id : Pr → Int | mk _ i _ _ _ _ _ _ _ _ _ => i
def lo : Pr → Int | mk _ _ l _ _ _ _ _ _ _ _ => l
def hi : Pr → Int | mk _ _ _ h _ _ _ _ _ _ _ => h
def S : Pr → Option Addr | mk _ _ _ _ s _ _ _ _ _ _ => s
def sc : Pr → Nat | mk _ _ _ _ _ c _ _ _ _ _ => c
def set : Pr → List Va | mk _ _ _ _ _ _ l _ _ _ _ => l
def tx : Pr → ByteArray | mk _ _ _ _ _ _ _ t _ _ _ => t
def K : Pr → Option Addr | mk _ _ _ _ _ _ _ _ k _ _ => k
def kc : Pr → Nat | mk _ _ _ _ _ _ _ _ _ c _ => c
def kids : Pr → List Pr | mk _ _ _ _ _ _ _ _ _ _ l => l
/-- its seven cells -/
def cells (p : Pr) : List Value := [.int .i64 p.op, .int .i64 p.id, .int .i64 p.lo, .int .i64 p.hi, .slice p.S p.set.length p.sc, .string p.tx, .slice p.K p.kids.length p.kc]
theorem induct {P : Pr → Prop} (h : ∀ p : Pr, (∀ k ∈ p.kids, P k) → P p) : ∀ p, P p := fun p =>
  Pr.rec (motive_1 := P) (motive_2 := fun l => ∀ k ∈ l, P k) (fun _ _ _ _ _ _ _ _ _ _ _ ih => h _ ih) (fun _ h => by cases h)
    (fun _ _ hk hks q hq => by
      rcases List.mem_cons.1 hq with rfl | hq
      · exact hk
      · exact hks q hq) p
end Pr
/-- its numbers are the machine's -/
structure Pr.Fine (p : Pr) : Prop where
  i0 : -9223372036854775808 ≤ p.id
  i1 : p.id ≤ 9223372036854775807
  l0 : -9223372036854775808 ≤ p.lo
  l1 : p.lo ≤ 9223372036854775807
  h0 : -9223372036854775808 ≤ p.hi
  h1 : p.hi ≤ 9223372036854775807
/-- p lies in memory below B -/
inductive PrAt (w : World) (B : Nat) : Pr → Prop
  | mk {p : Pr} (hs : Vas w B p.S p.set) (hsc : p.set.length ≤ p.sc) (hsm : p.sc ≤ 9223372036854775807) (ht : p.tx.size ≤ 9223372036854775807) (hk : RowAt 7 w B p.K (p.kids.map Pr.cells)) (hkc : p.kids.length ≤ p.kc) (hkm : p.kc ≤ 9223372036854775807) (hv : ∀ v ∈ p.set, v.Fine) (hf : p.Fine) (hp : ∀ k ∈ p.kids, PrAt w B k) : PrAt w B p
namespace PrAt
variable {w w' : World} {B : Nat} {p : Pr}
theorem hs (h : PrAt w B p) : Vas w B p.S p.set := by cases h; assumption
theorem hsc (h : PrAt w B p) : p.set.length ≤ p.sc := by cases h; assumption
theorem hsm (h : PrAt w B p) : p.sc ≤ 9223372036854775807 := by cases h; assumption
theorem ht (h : PrAt w B p) : p.tx.size ≤ 9223372036854775807 := by cases h; assumption
theorem hk (h : PrAt w B p) : RowAt 7 w B p.K (p.kids.map Pr.cells) := by cases h; assumption
theorem hkc (h : PrAt w B p) : p.kids.length ≤ p.kc := by cases h; assumption
theorem hkm (h : PrAt w B p) : p.kc ≤ 9223372036854775807 := by cases h; assumption
theorem hv (h : PrAt w B p) : ∀ v ∈ p.set, v.Fine := by cases h; assumption
theorem hf (h : PrAt w B p) : p.Fine := by cases h; assumption
theorem hp (h : PrAt w B p) : ∀ k ∈ p.kids, PrAt w B k := by cases h; assumption
end PrAt
theorem PrAt.bel {w w' : World} {B : Nat} (hb : Below B w w') : ∀ p, PrAt w B p → PrAt w' B p :=
  Pr.induct fun p ih h => ⟨RowAt.below h.hs hb, h.hsc, h.hsm, h.ht, h.hk.below hb, h.hkc, h.hkm, h.hv, h.hf, fun k hk => ih k hk (h.hp k hk)⟩
theorem PrAt.more {w : World} {B B' : Nat} (hB : B ≤ B') : ∀ p, PrAt w B p → PrAt w B' p :=
  Pr.induct fun p ih h => ⟨RowAt.more h.hs hB, h.hsc, h.hsm, h.ht, h.hk.more hB, h.hkc, h.hkm, h.hv, h.hf, fun k hk => ih k hk (h.hp k hk)⟩
theorem PrAt.up {w w' : World} {p : Pr} (h : PrAt w w.heap.size p) (hb : Below w.heap.size w w') : PrAt w' w'.heap.size p := PrAt.more hb.size p (PrAt.bel hb p h)
theorem Pr.cells_len (p : Pr) : p.cells.length = 7 := rfl
/-- the cells of a predicate in a row of them -/
theorem prs_one {w : World} {B : Nat} {A : Option Addr} {ks : List Pr} {q : Pr} (h : RowAt 7 w B A (ks.map Pr.cells)) {i : Nat} (hi : ks[i]? = some q) : ∃ b off, A = some ⟨b, off, none⟩ ∧ b < B ∧ w.cell? ⟨b, off + i * 7, none⟩ = some (.int .i64 q.op) ∧ w.cell? ⟨b, off + i * 7 + 1, none⟩ = some (.int .i64 q.id) ∧ w.cell? ⟨b, off + i * 7 + 2, none⟩ = some (.int .i64 q.lo) ∧ w.cell? ⟨b, off + i * 7 + 3, none⟩ = some (.int .i64 q.hi) ∧ w.cell? ⟨b, off + i * 7 + 4, none⟩ = some (.slice q.S q.set.length q.sc) ∧ w.cell? ⟨b, off + i * 7 + 5, none⟩ = some (.string q.tx) ∧ w.cell? ⟨b, off + i * 7 + 6, none⟩ = some (.slice q.K q.kids.length q.kc) := by
  obtain ⟨b, off, e, hlt, hc⟩ := h.one (vs := q.cells) (i := i) (by rw [List.getElem?_map, hi]; rfl)
  exact ⟨b, off, e, hlt, hc 0 _ rfl, hc 1 _ rfl, hc 2 _ rfl, hc 3 _ rfl, hc 4 _ rfl, hc 5 _ rfl, hc 6 _ rfl⟩

/-- the opposite truth value: 0 no, 1 yes, 2 unknown -/
def neg3 (t : Int) : Int := if t = 1 then 0 else if t = 0 then 1 else 2
def tr3 (b : Bool) : Int := if b = true then 1 else 0
/-- what a junction makes of the values of Kids: d decides -/
def junG (d : Int) (acc : Int) : List Int → Int
  | [] => acc
  | t :: l => if t = d then d else if t = 2 then junG d 2 l else junG d acc l
/-- whether Between, In or Prefix is yes for a value that is not null -/
def holdB (op lo hi : Int) (set : List Va) (tx : ByteArray) (v : Va) : Bool :=
  if op = 1 then decide (lo ≤ v.n) && decide (v.n ≤ hi) else if op = 2 then set.any (fun y => eqVa v y) else Lib.hasPrefix v.s.data.toList tx.data.toList
def evO (v : Va) (op lo hi : Int) (set : List Va) (tx : ByteArray) (ts : List Int) : Int :=
  if op = 0 then 1 else if op = 1 ∨ op = 2 ∨ op = 3 then (if v.b = true then 2 else tr3 (holdB op lo hi set tx v)) else if op = 4 then tr3 v.b
  else if op = 5 then junG 0 1 ts else if op = 6 then junG 1 0 ts else if op = 7 then (match ts with | [t] => neg3 t | _ => 2) else 2
mutual
/-- the truth value of a predicate for a row -/
def ev (r : List Ce) : Pr → Int
  | .mk op id lo hi _ _ set tx _ _ ks => evO (getL r id) op lo hi set tx (evs r ks)
def evs (r : List Ce) : List Pr → List Int
  | [] => []
  | k :: ks => ev r k :: evs r ks
end
theorem evs_map (r : List Ce) : ∀ ks, evs r ks = ks.map (ev r)
  | [] => by rw [evs]; rfl
  | k :: ks => by rw [evs, evs_map r ks]; rfl
theorem ev_eq (r : List Ce) (p : Pr) : ev r p = evO (getL r p.id) p.op p.lo p.hi p.set p.tx (p.kids.map (ev r)) := by
  cases p
  rw [ev, evs_map]
  rfl
theorem junG_in (d : Int) : ∀ (l : List Int) (acc : Int), junG d acc l = d ∨ junG d acc l = acc ∨ junG d acc l = 2
  | [], acc => .inr (.inl rfl)
  | t :: l, acc => by
    unfold junG
    split
    · exact .inl rfl
    · split
      · rcases junG_in d l 2 with h | h | h
        · exact .inl h
        · exact .inr (.inr h)
        · exact .inr (.inr h)
      · exact junG_in d l acc
theorem neg3_in (t : Int) : neg3 t = 0 ∨ neg3 t = 1 ∨ neg3 t = 2 := by
  unfold neg3
  split
  · exact .inl rfl
  · split
    · exact .inr (.inl rfl)
    · exact .inr (.inr rfl)
theorem tr3_in (b : Bool) : tr3 b = 0 ∨ tr3 b = 1 ∨ tr3 b = 2 := by cases b <;> simp [tr3]
theorem evO_in (v : Va) (op lo hi : Int) (set : List Va) (tx : ByteArray) (ts : List Int) : evO v op lo hi set tx ts = 0 ∨ evO v op lo hi set tx ts = 1 ∨ evO v op lo hi set tx ts = 2 := by
  unfold evO
  repeat' split
  all_goals first | exact tr3_in _ | exact neg3_in _ | (right; left; rfl) | (right; right; rfl) | skip
  · rcases junG_in 0 ts 1 with h | h | h <;> rw [h] <;> simp
  · rcases junG_in 1 ts 0 with h | h | h <;> rw [h] <;> simp
theorem ev_in (r : List Ce) (p : Pr) : ev r p = 0 ∨ ev r p = 1 ∨ ev r p = 2 := by rw [ev_eq]; exact evO_in _ _ _ _ _ _ _
end Go.Proofs.Ytkeneoinfegodaa
