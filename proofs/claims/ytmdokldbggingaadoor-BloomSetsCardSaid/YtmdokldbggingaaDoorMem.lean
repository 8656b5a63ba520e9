/-
  Words for bytes in memory: a slice value that shows a list of bytes; a row of the call's own that holds bytes; make with a length and a capacity; copy. Plain theorems; no function of the dump.
-/
import Derived.Test.YtmdokldbggingaaDoorWord
import Derived.WalkKit
import Derived.Laws.CopyOwn
import Derived.Lib.AppendStr
import Derived.Lib.Hide
namespace Go.Proofs.YtmdokldbggingaaDoor
open Go.RowKit

/-- bytes as cells -/
def cb (l : List UInt8) : List Value := l.map fun c => Value.int .u8 (c.toNat : Int)
theorem cb_len (l : List UInt8) : (cb l).length = l.length := by simp [cb]
theorem cb_app (l r : List UInt8) : cb (l ++ r) = cb l ++ cb r := by simp [cb]
theorem cb_one (l : List UInt8) : ∀ u ∈ cb l, u.oneCell' = true := by
  intro u hu
  obtain ⟨c, _, rfl⟩ := List.mem_map.1 hu
  rfl
theorem cb_get {l : List UInt8} {j : Nat} {u : Value} (h : (cb l)[j]? = some u) : ∃ c, l[j]? = some c ∧ u = .int .u8 (c.toNat : Int) := by
  simp only [cb, List.getElem?_map] at h
  cases hc : l[j]? with
  | none => rw [hc] at h; cases h
  | some c => rw [hc] at h; exact ⟨c, rfl, by simpa using h.symm⟩
theorem cb_str (s : ByteArray) : Lib.strCells s = cb s.data.toList := rfl

theorem str_len (s : ByteArray) : s.data.toList.length = s.size := by rw [Array.length_toList]; rfl

/-- The bytes l can be read at address A, in a block below B. Of an empty list nothing is asked. -/
def Shows (w : World) (B : Nat) (A : Option Addr) (l : List UInt8) : Prop :=
  0 < l.length → ∃ b off, A = some ⟨b, off, none⟩ ∧ b < B ∧ ∀ i c, l[i]? = some c → w.cell? ⟨b, off + i, none⟩ = some (.int .u8 (c.toNat : Int))

section
variable {w w' : World} {B B' : Nat} {A : Option Addr} {l : List UInt8} {v : Value}
theorem Shows.nil : Shows w B A [] := fun h => absurd h (by simp)
theorem Shows.keep (h : Shows w B A l) (hk : ∀ p : Addr, p.block < B → w'.cell? p = w.cell? p) : Shows w' B A l := fun hl => by
  obtain ⟨b, off, e, hb, hc⟩ := h hl
  exact ⟨b, off, e, hb, fun i c hi => (hk _ hb).trans (hc i c hi)⟩
theorem Shows.below (h : Shows w B A l) (hb : Below B w w') : Shows w' B A l := h.keep fun _ hp => hb.cell hp
theorem Shows.more (h : Shows w B A l) (hB : B ≤ B') : Shows w B' A l := fun hl => by
  obtain ⟨b, off, e, hb, hc⟩ := h hl
  exact ⟨b, off, e, by omega, hc⟩
theorem Shows.up (h : Shows w w.heap.size A l) (hb : Below w.heap.size w w') : Shows w' w'.heap.size A l := (h.below hb).more hb.size
/-- A cut of what is shown: the address moves on by k, unless the cut stands at the capacity's end. -/
theorem Shows.cut (h : Shows w B A l) {k n cap : Nat} (hn : k + n ≤ l.length) (hc : l.length ≤ cap) :
    Shows w B (if cap = k then A else A.map (·.add k)) ((l.drop k).take n) := fun hl => by
  have hn0 : 0 < n := by simp only [List.length_take, List.length_drop] at hl; omega
  obtain ⟨b, off, rfl, hb, hcell⟩ := h (by omega)
  rw [if_neg (by omega)]
  refine ⟨b, off + k, by simp [Addr.add_lit], hb, fun i c hi => ?_⟩
  have hi' : i < n := by have := (List.getElem?_eq_some_iff.1 hi).1; simp only [List.length_take] at this; omega
  rw [Nat.add_assoc]
  refine hcell _ _ ?_
  rw [← hi, List.getElem?_take, if_pos hi', List.getElem?_drop]
theorem Shows.cutAt (h : Shows w B A l) {k n cap : Nat} (hn : k + n ≤ l.length) (hc : l.length ≤ cap) (hk : ¬ cap = k) : Shows w B (A.map (·.add k)) ((l.drop k).take n) := by
  have := h.cut hn hc
  rwa [if_neg hk] at this
theorem Shows.cutEnd {C : Option Addr} {k n cap : Nat} (hn : k + n ≤ l.length) (hc : l.length ≤ cap) (hk : cap = k) : Shows w B C ((l.drop k).take n) := fun hl => by
  simp only [List.length_take, List.length_drop] at hl
  omega
theorem Shows.first (h : Shows w B A l) {n : Nat} : Shows w B A (l.take n) := fun hl => by
  obtain ⟨b, off, e, hb, hc⟩ := h (by simp only [List.length_take] at hl; omega)
  refine ⟨b, off, e, hb, fun i c hi => hc i c ?_⟩
  rw [List.getElem?_take] at hi
  split at hi
  · exact hi
  · cases hi

/-- The value v is a slice over the call's own row that holds just the bytes l. -/
def Owns (w : World) (base : Nat) (v : Value) (l : List UInt8) : Prop := w.ownsRow base 5 1 v l.length (cb l)

theorem Owns.shape (h : Owns w B v l) : (v = .slice none 0 0 ∧ l = []) ∨ ∃ g cap, v = .slice (some ⟨g, 0, none⟩) l.length cap ∧ B ≤ g ∧ g < w.heap.size ∧ l.length ≤ cap := by
  have h2 := h.2
  rcases h2 with ⟨rfl, hl⟩ | ⟨g, cap, cur, rfl, hb, hg, hn, _⟩
  · exact .inl ⟨rfl, List.eq_nil_of_length_eq_zero hl⟩
  · exact .inr ⟨g, cap, rfl, hb, (Array.getElem?_eq_some_iff.1 hg).1, hn⟩

theorem Owns.shows {n c : Nat} (h : Owns w B (.slice A n c) l) : n = l.length ∧ l.length ≤ c ∧ Shows w w.heap.size A l := by
  rcases h.shape with ⟨hv, rfl⟩ | ⟨g, cap, hv, _, hlt, hcap⟩
  · injection hv with h1 h2 h3
    subst h1 h2 h3
    exact ⟨rfl, by simp, Shows.nil⟩
  · injection hv with h1 h2 h3
    subst h1 h2 h3
    refine ⟨rfl, hcap, fun _ => ⟨g, 0, rfl, hlt, fun i c hi => ?_⟩⟩
    have := World.ownsRow.cells h (g := g) rfl i (.int .u8 (c.toNat : Int)) (by simp [cb, hi])
    simpa [Addr.add_lit] using this
theorem Owns.cap_le {n c : Nat} (h : Owns w B (.slice A n c) l) : c ≤ 9223372036854775807 := by
  have h2 := h.2
  rcases h2 with ⟨e, _⟩ | ⟨g, cap, cur, e, _, _, _, hm, _⟩
  · injection e with _ _ e
    omega
  · injection e with _ _ e
    subst e
    simpa [maxLen] using hm
theorem Owns.slice (h : Owns w B v l) : ∃ A c, v = .slice A l.length c := by
  rcases h.shape with ⟨rfl, rfl⟩ | ⟨g, cap, rfl, _⟩
  · exact ⟨_, _, rfl⟩
  · exact ⟨_, _, rfl⟩
end

/-- A block that holds bytes and is not frozen. -/
def Blk (w : World) (g : Nat) (l : List UInt8) : Prop := w.heap[g]? = some (.cells (cb l).toArray 5 (0, 0))

section
variable {w w' : World} {B g : Nat} {l : List UInt8}
theorem Blk.lt (h : Blk w g l) : g < w.heap.size := (Array.getElem?_eq_some_iff.1 h).1
theorem Blk.below {b : Nat} (h : Blk w g l) (hb : Below b w w') (hg : g < b) : Blk w' g l := (hb.block g hg).trans h
theorem Blk.owns (h : Blk w g l) {n : Nat} (hn : n ≤ l.length) (hl : l.length ≤ maxLen) (hB : B ≤ g) : Owns w B (.slice (some ⟨g, 0, none⟩) n l.length) (l.take n) := by
  have e : (l.take n).length = n := by simp; omega
  refine ⟨by simp [cb_len, e], .inr ⟨g, l.length, _, by rw [e], hB, h, by rw [e]; exact hn, hl, by simp [cb_len], ?_⟩⟩
  simp [e, cb, List.map_take]
end

theorem byte_info {P : Program} (h : (P.info? 5).map (fun i => (i.zero, i.size, i.bytes)) = some (some (.int .u8 0), 1, 1)) : (P.info? 5).map (·.size) = some 1 := by
  obtain ⟨i, hi, hz⟩ := Option.map_eq_some_iff.1 h
  simp only [Prod.mk.injEq] at hz
  rw [hi]
  simp [hz.2.1]

theorem cb_zeros (n : Nat) : List.replicate n (Value.int .u8 0) = cb (List.replicate n 0) := by simp [cb]

/-- make([]byte, n, m): a new block of m zero bytes; the world behind it is left as a letter. -/
theorem wpList_make_bytes {P : Program} (w : World) {ops : Array Oper} {rest : List Oper} {o : Oper} {a : Act} {Q : Exit → Act → World → Prop}
    (hg : o.guard = none) (l c : Operand) (t : TypeId) (hop : o.op = Op.makeSlice t l c) (h1 : P.underlying t = some (.slice 5))
    (h2 : (P.info? 5).map (fun i => (i.zero, i.size, i.bytes)) = some (some (.int .u8 0), 1, 1))
    (kl kc : IntKind) (L C : Int) (n m : Nat) (hl : a.eval l = .int kl L) (hc : a.eval c = .int kc C) (hL : L = (n : Int)) (hC : C = (m : Int)) (hnm : n ≤ m) (hm : m ≤ 281474976710656)
    (hK : ∀ w', Hid (Blk w' w.heap.size (List.replicate m 0)) → Below w.heap.size w w' → w'.heap.size = w.heap.size + 1 → wpList P ops Q rest (a.put o.dst (.slice (some ⟨w.heap.size, 0, none⟩) n m)) w') :
    wpList P ops Q (o :: rest) a w := by
  obtain ⟨i, hi, hz, hs, hb⟩ := info_parts h2
  refine wpList_plain hg fun K hK' => ?_
  have hr := run_make (P := P) w t 5 i (.int .u8 0) h1 hi hz kl kc (n : Int) (m : Int) (by omega) (by omega) (by rw [hb]; omega) (by omega)
  simp only [Int.toNat_natCast] at hr
  subst hL
  subst hC
  unfold Oper.wp
  simp [execOp, hop, hl, hc, hr, Result.andThen]
  refine hK' _ _ (hK _ ?_ ((Below.refl _ _).alloc (Nat.le_refl _) _) (by simp))
  show Blk _ _ _
  unfold Blk
  rw [heap_alloc_new]
  congr 2
  apply Array.ext'
  rw [hs, Nat.mul_one, show Value.cells (.int .u8 0) = #[.int .u8 0] from rfl, toList_madeCells_one, cb_zeros]

/-- copy(row, src): the row is the call's own block; src shows bytes. -/
theorem wpList_copy_bytes {P : Program} {w : World} {ops : Array Oper} {rest : List Oper} {o : Oper} {a : Act} {Q : Exit → Act → World → Prop} (hgd : o.guard = none) (d s : Operand) (dT sT : TypeId)
    (ho : o.op = .call { callee := .builtin .copy, args := #[d, s], argTypes := #[dT, sT] }) (hu : P.underlying dT = some (.slice 5)) (h2 : (P.info? 5).map (fun i => (i.zero, i.size, i.bytes)) = some (some (.int .u8 0), 1, 1))
    (sp : Option Addr) (dLen dCap sCap : Nat) (g : Nat) (hd : a.eval d = .slice (some ⟨g, 0, none⟩) dLen dCap) (l : List UInt8) (hs : a.eval s = .slice sp l.length sCap)
    (cur : List UInt8) (hg : Blk w g cur) (hsh : Shows w g sp l) (hlen : l.length = dLen) (hfit : l.length ≤ cur.length) (B : Nat) (w0 : World) (hb : Below B w0 w) (hBg : B ≤ g)
    (h : ∀ w', Hid (Blk w' g (l ++ cur.drop l.length)) → Below B w0 w' → w'.heap.size = w.heap.size → wpList P ops Q rest (a.put o.dst (goInt l.length)) w') :
    wpList P ops Q (o :: rest) a w := by
  have hsz := byte_info h2
  rcases Nat.eq_zero_or_pos l.length with h0 | hpos
  · obtain rfl : l = [] := List.eq_nil_of_length_eq_zero h0
    refine wpList_copy_nothing hgd d s dT sT ho 5 hu hsz _ sp dLen dCap _ sCap hd hs (by simp) ?_
    exact h w (show Blk _ _ _ by simpa using hg) hb rfl
  · obtain ⟨b, off, rfl, hlt, hc⟩ := hsh hpos
    refine wpList_copy_own hgd d s dT sT ho 5 hu hsz g 0 dLen dCap ⟨b, off, none⟩ l.length sCap hd hs (cb cur).toArray 5 hg (cb l) (by rw [cb_len, hlen]; simp) ?_ (by simpa [cb_len] using hfit) (cb_one l) ?_
    · intro j v hj
      obtain ⟨c, hc1, rfl⟩ := cb_get hj
      simpa [Addr.add_lit] using hc j c hc1
    · rw [cb_len]
      refine h _ ?_ (below_setRow hb hBg _) (by simp [World.setRow])
      show Blk _ _ _
      unfold Blk
      rw [setRow_heap w g _ _ 5 _ hg]
      congr 2
      simp [cb, List.map_drop]

/-- What a row of bytes of the call's own is like, its place and its room known. -/
def Row (w : World) (base g cap : Nat) (l : List UInt8) : Prop := w.ownsRow base 5 1 (.slice (some ⟨g, 0, none⟩) l.length cap) l.length (cb l)
theorem Row.at_ {w : World} {base g cap : Nat} {l : List UInt8} (h : Row w base g cap l) : base ≤ g ∧ g < w.heap.size := World.ownsRow.lt h g rfl
theorem Row.owns {w : World} {base g cap : Nat} {l : List UInt8} (h : Row w base g cap l) : Owns w base (.slice (some ⟨g, 0, none⟩) l.length cap) l := h
theorem Row.shows {w : World} {base g cap : Nat} {l : List UInt8} (h : Row w base g cap l) : l.length ≤ cap ∧ Shows w w.heap.size (some ⟨g, 0, none⟩) l := (Owns.shows h).2
theorem Row.below {w w' : World} {base g cap b : Nat} {l : List UInt8} (h : Row w base g cap l) (hb : Below b w w') (hg : g < b) : Row w' base g cap l := by
  refine ⟨h.1, ?_⟩
  have h2 := h.2
  rcases h2 with ⟨e, _⟩ | ⟨g', cap', cur, e, r⟩
  · cases e
  · injection e with e1 e2 e3
    injection e1 with e1
    injection e1 with e1
    subst e1 e3
    exact .inr ⟨g, cap, cur, rfl, r.1, (hb.block g hg).trans r.2.1, r.2.2⟩
theorem Blk.row {w : World} {base g : Nat} {l : List UInt8} (h : Blk w g l) {n : Nat} (hn : n ≤ l.length) (hl : l.length ≤ maxLen) (hB : base ≤ g) : Row w base g l.length (l.take n) := by
  have := h.owns hn hl hB
  have e : (l.take n).length = n := by simp; omega
  unfold Row
  rw [e]
  unfold Owns at this
  rw [e] at this
  exact this

theorem grown_trans {a b c : World} {g : Option Nat} (h : a.grownBy b g) (k : b.grownBy c g) : a.grownBy c g :=
  ⟨k.os.trans h.os, k.tape.trans h.tape, k.output.trans h.output, Nat.le_trans h.size k.size, fun i hi hn => (k.block i (Nat.lt_of_lt_of_le hi h.size) hn).trans (h.block i hi hn)⟩
/-- What the row alone has turned, and new blocks, does not reach below it. -/
theorem below_grown {w0 w w' : World} {base g : Nat} (h : Below base w0 w) (hg : w.grownBy w' (some g)) (hB : base ≤ w.heap.size) (hr : base ≤ g) : Below base w0 w' :=
  h.grown hg hB (fun k hk => by injection hk with hk; omega)

/-- append(row, c): there is room. -/
theorem wpList_push {P : Program} {w wr : World} {ops : Array Oper} {rest : List Oper} {o : Oper} {a : Act} {Q : Exit → Act → World → Prop} (hgd : o.guard = none) (s x : Operand) (t : TypeId)
    (ho : o.op = .call { callee := .builtin .append, args := #[s, x], argTypes := #[t, t] }) (ht : P.underlying t = some (.slice 5))
    (h2 : (P.info? 5).map (fun i => (i.zero, i.size, i.bytes)) = some (some (.int .u8 0), 1, 1)) (base g cap : Nat) (l : List UInt8) (c : UInt8) (v : Int)
    (hs : a.eval s = .slice (some ⟨g, 0, none⟩) l.length cap) (hx : a.eval x = .slice (some ⟨wr.heap.size, 0, none⟩) 1 1) (hw : w = wr.alloc (.cells #[.int .u8 v] 5)) (hv : v = (c.toNat : Int))
    (hr : Row wr base g cap l) (hroom : l.length + 1 ≤ cap)
    (hK : ∀ w', Row w' base g cap (l ++ [c]) → wr.grownBy w' (some g) → wpList P ops Q rest (a.put o.dst (.slice (some ⟨g, 0, none⟩) (l ++ [c]).length cap)) w') : wpList P ops Q (o :: rest) a w := by
  obtain ⟨i, hi, hz, hsz, hb⟩ := info_parts h2
  subst hw hv
  refine wpList_append_fits _ hgd s x t ho base 5 i 1 ht hi hsz g l.length cap (cb l) hs (World.ownsRow.alloc hr _) ⟨wr.heap.size, 0, none⟩ 1 1 [.int .u8 (c.toNat : Int)] hx rfl ?_ ?_ hroom ?_
  · intro j u hj
    match j, hj with
    | 0, hj => simp at hj; subst hj; simp [Addr.add]
  · intro u hu; simp at hu; subst hu; rfl
  · intro w' h1 h3
    have e : (l ++ [c]).length = l.length + 1 := by simp
    rw [← e] at h1 ⊢
    refine hK w' (by unfold Row; rw [cb_app]; exact h1) ⟨h3.os, h3.tape, h3.output, Nat.le_trans (by simp) h3.size, fun k hk hne => ?_⟩
    exact (h3.block k (by simp; omega) hne).trans (Below.heap_alloc _ _ _ hk)

/-- append(row, s...), s a string: there is room. -/
theorem wpList_pushS {P : Program} {w : World} {ops : Array Oper} {rest : List Oper} {o : Oper} {a : Act} {Q : Exit → Act → World → Prop} (hgd : o.guard = none) (d x : Operand) (t u : TypeId)
    (ho : o.op = .call { callee := .builtin .append, args := #[d, x], argTypes := #[t, u] }) (ht : P.underlying t = some (.slice 5)) (hu : P.underlying u = some .string)
    (h2 : (P.info? 5).map (fun i => (i.zero, i.size, i.bytes)) = some (some (.int .u8 0), 1, 1)) (base g cap : Nat) (l : List UInt8) (s : ByteArray)
    (hs : a.eval d = .slice (some ⟨g, 0, none⟩) l.length cap) (hx : a.eval x = .string s) (hr : Row w base g cap l) (hroom : l.length + s.size ≤ cap)
    (hK : ∀ w', Row w' base g cap (l ++ s.data.toList) → w.grownBy w' (some g) → wpList P ops Q rest (a.put o.dst (.slice (some ⟨g, 0, none⟩) (l ++ s.data.toList).length cap)) w') : wpList P ops Q (o :: rest) a w := by
  obtain ⟨i, hi, hz, hsz, hb⟩ := info_parts h2
  have hsl : s.data.toList.length = s.size := by rw [Array.length_toList]; rfl
  have hr2 := hr.2
  rcases hr2 with ⟨e, _⟩ | ⟨g', cap', cur, e, hbg, hg, hnc, hcm, hcs, htake⟩
  · cases e
  injection e with e1 e2 e3
  injection e1 with e1
  injection e1 with e1
  subst e1 e3
  have hcs' : cur.size = cap := by simpa using hcs
  have hrun := Lib.run_append_room_string (P := P) w t u o.type 5 i ht hu hi hsz g l.length cap cur hg s hroom (by omega)
  refine wpList_plain hgd fun K hK' => ?_
  unfold Oper.wp execOp
  simp only [ho, resolve, invoke, builtin, Sem.run_bind, Sem.run_pure, Result.andThen_ok, List.map_toArray, List.map_cons, List.map_nil, hs, hx, hrun]
  have e : (l ++ s.data.toList).length = l.length + s.size := by rw [List.length_append, hsl]
  rw [← e]
  refine hK' _ _ (hK _ ⟨by rw [cb_len]; simp, .inr ⟨g, cap, _, rfl, hbg, setRow_heap w g cur _ 5 _ hg, by omega, hcm, ?_, ?_⟩⟩ ⟨rfl, rfl, rfl, by simp [World.setRow], fun k _ hk => setRow_other w g k _ (fun e => hk (by simp [e]))⟩)
  · have h1 : min l.length cur.size = l.length := Nat.min_eq_left (by omega)
    simp only [List.size_toArray, List.length_append, List.length_take, List.length_drop, Array.length_toList, Lib.strCells_length, h1]
    show l.length + s.size + (cur.size - (l.length + s.size)) = cap * 1
    omega
  · have ht' : cur.toList.take l.length = cb l := by simpa using htake
    rw [ht', Nat.mul_one, cb_app, cb_str]
    have e3 : (cb l ++ cb s.data.toList).length = (l ++ s.data.toList).length := by simp [cb]
    rw [← e3]
    exact List.take_left

theorem run_append_nothing {P : Program} (w : World) (t ty : TypeId) (i : TypeInfo) (ht : P.underlying t = some (.slice 5)) (hi : P.info? 5 = some i) (g n cap c : Nat) (hn : n ≤ cap) :
    (Builtin.append_ #[t, t] ty #[.slice (some ⟨g, 0, none⟩) n cap, .slice none 0 c]).run P w = .ok (.slice (some ⟨g, 0, none⟩) n cap) w := by
  simp [Builtin.append_, run_underlying ht, sizeOf, typeInfo, hi, Builtin.lenOf, Builtin.firstCells, hn, storeCells]

/-- append(row, p...), p a slice of bytes: there is room. -/
theorem wpList_pushB {P : Program} {w : World} {ops : Array Oper} {rest : List Oper} {o : Oper} {a : Act} {Q : Exit → Act → World → Prop} (hgd : o.guard = none) (d x : Operand) (t : TypeId)
    (ho : o.op = .call { callee := .builtin .append, args := #[d, x], argTypes := #[t, t] }) (ht : P.underlying t = some (.slice 5))
    (h2 : (P.info? 5).map (fun i => (i.zero, i.size, i.bytes)) = some (some (.int .u8 0), 1, 1)) (base g cap : Nat) (l : List UInt8) (A : Option Addr) (p : List UInt8) (c B : Nat)
    (hs : a.eval d = .slice (some ⟨g, 0, none⟩) l.length cap) (hx : a.eval x = .slice A p.length c) (hr : Row w base g cap l) (hp : Shows w B A p) (hroom : l.length + p.length ≤ cap)
    (hK : ∀ w', Row w' base g cap (l ++ p) → w.grownBy w' (some g) → wpList P ops Q rest (a.put o.dst (.slice (some ⟨g, 0, none⟩) (l ++ p).length cap)) w') : wpList P ops Q (o :: rest) a w := by
  obtain ⟨i, hi, hz, hsz, hb⟩ := info_parts h2
  have e : (l ++ p).length = l.length + p.length := by simp
  cases A with
  | none =>
    have h0 : p = [] := by
      rcases Nat.eq_zero_or_pos p.length with h0 | h0
      · exact List.eq_nil_of_length_eq_zero h0
      · obtain ⟨b, off, h, _⟩ := hp h0
        cases h
    subst h0
    have hrun := run_append_nothing (P := P) w t o.type i ht hi g l.length cap c (by simpa using hroom)
    refine wpList_plain hgd fun K hK' => ?_
    unfold Oper.wp execOp
    simp only [ho, resolve, invoke, builtin, Sem.run_bind, Sem.run_pure, Result.andThen_ok, List.map_toArray, List.map_cons, List.map_nil, hs, hx, List.length_nil, hrun]
    have h := hK w (by simpa using hr) (World.grownBy.refl _ _)
    rw [List.append_nil] at h
    exact hK' _ _ h
  | some ad =>
    refine wpList_append_fits _ hgd d x t ho base 5 i 1 ht hi hsz g l.length cap (cb l) hs hr ad p.length c (cb p) hx (by rw [cb_len, Nat.mul_one]) ?_ (cb_one p) hroom ?_
    · intro j u hj
      obtain ⟨v, hv, rfl⟩ := cb_get hj
      obtain ⟨b, off, h, _, hc⟩ := hp (by have := (List.getElem?_eq_some_iff.1 hv).1; omega)
      injection h with h
      subst h
      simpa [Addr.add_lit] using hc j v hv
    · intro w' h1 h3
      rw [← e] at h1 ⊢
      exact hK w' (by unfold Row; rw [cb_app]; exact h1) h3

theorem grown_owns {w w' : World} {base : Nat} {l : List UInt8} {v : Value} (h : Owns w base v l) (hg : w.grownBy w' v.ownBlock) {b0 : Nat} {w0 : World} (hb : Below b0 w0 w) (h1 : b0 ≤ w.heap.size) (h2 : b0 ≤ base) : Below b0 w0 w' :=
  hb.grown hg h1 (fun k hk => by have := (World.ownsRow.lt h k hk).1; omega)

/-- append(v, p...), v the call's own, p a slice of bytes: it may grow. -/
theorem wpList_growB {P : Program} {w : World} {ops : Array Oper} {rest : List Oper} {o : Oper} {a : Act} {Q : Exit → Act → World → Prop} (hgd : o.guard = none) (d x : Operand) (t : TypeId)
    (ho : o.op = .call { callee := .builtin .append, args := #[d, x], argTypes := #[t, t] }) (ht : P.underlying t = some (.slice 5))
    (h2 : (P.info? 5).map (fun i => (i.zero, i.size, i.bytes)) = some (some (.int .u8 0), 1, 1)) (base : Nat) (v : Value) (l : List UInt8) (A : Option Addr) (p : List UInt8) (c B : Nat)
    (hs : a.eval d = v) (hx : a.eval x = .slice A p.length c) (hr : Owns w base v l) (hp : Shows w B A p) (hroom : l.length + p.length ≤ 140737488355328) (hbase : base ≤ w.heap.size)
    (hK : ∀ A' c' w', Owns w' base (.slice A' (l ++ p).length c') (l ++ p) → w.grownBy w' v.ownBlock → wpList P ops Q rest (a.put o.dst (.slice A' (l ++ p).length c')) w') : wpList P ops Q (o :: rest) a w := by
  obtain ⟨i, hi, hz, hsz, hb⟩ := info_parts h2
  have e : (l ++ p).length = l.length + p.length := by simp
  cases A with
  | none =>
    have h0 : p = [] := by
      rcases Nat.eq_zero_or_pos p.length with h0 | h0
      · exact List.eq_nil_of_length_eq_zero h0
      · obtain ⟨b, off, h, _⟩ := hp h0
        cases h
    subst h0
    obtain ⟨A', c', rfl⟩ := hr.slice
    have hr' := hr
    have hrun : (Builtin.append_ #[t, t] o.type #[.slice A' l.length c', .slice none 0 c]).run P w = .ok (.slice A' l.length c') w := by
      rcases hr.shape with ⟨e, rfl⟩ | ⟨g, cap, e, _, _, hcap⟩
      · injection e with e1 e2 e3
        subst e1 e3
        simp [Builtin.append_, run_underlying ht, sizeOf, typeInfo, hi, Builtin.lenOf, Builtin.firstCells]
      · injection e with e1 e2 e3
        subst e1 e3
        exact run_append_nothing w t o.type i ht hi g l.length c' c hcap
    refine wpList_plain hgd fun K hK' => ?_
    unfold Oper.wp execOp
    simp only [ho, resolve, invoke, builtin, Sem.run_bind, Sem.run_pure, Result.andThen_ok, List.map_toArray, List.map_cons, List.map_nil, hs, hx, List.length_nil, hrun]
    have h := hK A' c' w (by simpa using hr') (World.grownBy.refl _ _)
    rw [List.append_nil] at h
    exact hK' _ _ h
  | some ad =>
    refine wpList_append_own _ hgd d x t ho base 5 i (.int .u8 0) 1 1 ht hi hz hsz hb rfl (by decide) v l.length (cb l) hs hr ad p.length c (cb p) hx (by rw [cb_len, Nat.mul_one]) ?_ (cb_one p) (by simp only [maxLen]; omega) (by omega) hbase ?_
    · intro j u hj
      obtain ⟨v, hv, rfl⟩ := cb_get hj
      obtain ⟨b, off, h, _, hc⟩ := hp (by have := (List.getElem?_eq_some_iff.1 hv).1; omega)
      injection h with h
      subst h
      simpa [Addr.add_lit] using hc j v hv
    · intro v' w' h1 h3 _
      have ho' : Owns w' base v' (l ++ p) := by unfold Owns; rw [cb_app, e]; exact h1
      obtain ⟨A', c', rfl⟩ := ho'.slice
      exact hK A' c' w' ho' h3

/-- append(v, c), v the call's own: it may grow. -/
theorem wpList_growC {P : Program} {w wr : World} {ops : Array Oper} {rest : List Oper} {o : Oper} {a : Act} {Q : Exit → Act → World → Prop} (hgd : o.guard = none) (d x : Operand) (t : TypeId)
    (ho : o.op = .call { callee := .builtin .append, args := #[d, x], argTypes := #[t, t] }) (ht : P.underlying t = some (.slice 5))
    (h2 : (P.info? 5).map (fun i => (i.zero, i.size, i.bytes)) = some (some (.int .u8 0), 1, 1)) (base : Nat) (v : Value) (l : List UInt8) (c : UInt8) (z : Int)
    (hs : a.eval d = v) (hx : a.eval x = .slice (some ⟨wr.heap.size, 0, none⟩) 1 1) (hw : w = wr.alloc (.cells #[.int .u8 z] 5)) (hz : z = (c.toNat : Int)) (hr : Owns wr base v l) (hroom : l.length + 1 ≤ 140737488355328) (hbase : base ≤ wr.heap.size)
    (hK : ∀ A' c' w', Owns w' base (.slice A' (l ++ [c]).length c') (l ++ [c]) → wr.grownBy w' v.ownBlock → wpList P ops Q rest (a.put o.dst (.slice A' (l ++ [c]).length c')) w') : wpList P ops Q (o :: rest) a w := by
  subst hw hz
  have hr2 : Owns (wr.alloc (.cells #[.int .u8 (c.toNat : Int)] 5)) base v l := World.ownsRow.alloc hr _
  have hp : Shows (wr.alloc (.cells #[.int .u8 (c.toNat : Int)] 5)) (wr.heap.size + 1) (some ⟨wr.heap.size, 0, none⟩) [c] := fun _ => ⟨wr.heap.size, 0, rfl, by omega, fun i x hi => by
    have h0 : i = 0 := by have := (List.getElem?_eq_some_iff.1 hi).1; simpa using this
    subst h0
    simp at hi
    subst hi
    simp⟩
  refine wpList_growB hgd d x t ho ht h2 base v l (some ⟨wr.heap.size, 0, none⟩) [c] 1 _ hs hx hr2 hp hroom (by simp; omega) ?_
  intro A' c' w' h1 h3
  exact hK A' c' w' h1 ⟨h3.os, h3.tape, h3.output, Nat.le_trans (by simp) h3.size, fun k hk hne => (h3.block k (by simp; omega) hne).trans (Below.heap_alloc _ _ _ hk)⟩

/-- append(v, s...), v the call's own, s a string: it may grow. -/
theorem wpList_growS {P : Program} {w : World} {ops : Array Oper} {rest : List Oper} {o : Oper} {a : Act} {Q : Exit → Act → World → Prop} (hgd : o.guard = none) (d x : Operand) (t u : TypeId)
    (ho : o.op = .call { callee := .builtin .append, args := #[d, x], argTypes := #[t, u] }) (ht : P.underlying t = some (.slice 5)) (hu : P.underlying u = some .string)
    (h2 : (P.info? 5).map (fun i => (i.zero, i.size, i.bytes)) = some (some (.int .u8 0), 1, 1)) (base : Nat) (v : Value) (l : List UInt8) (s : ByteArray)
    (hs : a.eval d = v) (hx : a.eval x = .string s) (hr : Owns w base v l) (hroom : l.length + s.size ≤ 140737488355328) (hbase : base ≤ w.heap.size)
    (hK : ∀ A' c' w', Owns w' base (.slice A' (l ++ s.data.toList).length c') (l ++ s.data.toList) → w.grownBy w' v.ownBlock → wpList P ops Q rest (a.put o.dst (.slice A' (l ++ s.data.toList).length c')) w') : wpList P ops Q (o :: rest) a w := by
  obtain ⟨i, hi, hz, hsz, hb⟩ := info_parts h2
  have e : (l ++ s.data.toList).length = l.length + s.size := by rw [List.length_append, str_len]
  refine Lib.wpList_append_own_string _ hgd d x t u ho base 5 i ht hu hi hz hsz hb v l.length (cb l) hs hr s hx (by simp only [maxLen]; omega) (by omega) hbase ?_
  intro v' w' h1 h3 _
  have ho' : Owns w' base v' (l ++ s.data.toList) := by unfold Owns; rw [cb_app, e]; exact h1
  obtain ⟨A', c', rfl⟩ := ho'.slice
  exact hK A' c' w' ho' h3

theorem owns_empty (w : World) (c : Array Value) (hc : c = #[]) : Owns (w.alloc (.cells c 5)) w.heap.size (.slice (some ⟨w.heap.size, 0, none⟩) 0 0) [] := by
  subst hc
  exact ⟨rfl, .inr ⟨w.heap.size, 0, #[], rfl, Nat.le_refl _, heap_alloc_new w _, Nat.le_refl _, by simp [maxLen], rfl, rfl⟩⟩

end Go.Proofs.YtmdokldbggingaaDoor
