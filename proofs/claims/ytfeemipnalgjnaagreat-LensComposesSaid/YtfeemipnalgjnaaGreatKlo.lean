/-
 Closures as plain data: what they are in memory, what they do to rows; calls of them by one contract. What fitting rows are bounded by.
-/
import Derived.Test.YtfeemipnalgjnaaGreatCng
import Derived.Test.YtfeemipnalgjnaaGreatLnL
namespace Go.Proofs.YtfeemipnalgjnaaGreat
open Go.RowKit

/-- a closure on rows -/
inductive Cl
 | un
 | drop (i : Int)
 | nar (i : Int)
 | div (wh p0 p1 : Int) (sep : ByteArray)
 | con (und : Bool) (p0 p1 wh : Int) (sep : ByteArray)
def Cl.ap : Cl → List Ce → List Ce
 | .un, r => r
 | .drop i, r => setL r i Va.nul
 | .nar i, r => narP r i
 | .div wh p0 p1 sep, r => diP r wh p0 p1 sep
 | .con true p0 p1 wh sep, r => coP undP r p0 p1 wh sep
 | .con false p0 p1 wh sep, r => coP conL r p0 p1 wh sep
def FnC (f : Nat) (g : Nat) : List Value := [.func (.func f) #[] #[.pointer (some ⟨g, 0, none⟩)]]
def Cl.At (w : World) (v : Value) : Cl → Prop
 | .un => v = .func (.func 62) #[] #[]
 | .drop i => ∃ g, v = .func (.func 84) #[] #[.pointer (some ⟨g, 0, none⟩)] ∧ CB w g 3 [.int .i64 i]
 | .nar i => ∃ g, v = .func (.func 87) #[] #[.pointer (some ⟨g, 0, none⟩)] ∧ CB w g 3 [.int .i64 i]
 | .div wh p0 p1 sep => ∃ g1 g2 g3, v = .func (.func 89) #[] #[.pointer (some ⟨g1, 0, none⟩), .pointer (some ⟨g2, 0, none⟩), .pointer (some ⟨g3, 0, none⟩)] ∧ CB w g1 3 [.int .i64 wh] ∧ CB w g2 9 [.string sep] ∧ CB w g3 46 [.int .i64 p0, .int .i64 p1]
 | .con und p0 p1 wh sep => ∃ g1 g2 g3 gc kd id wi nm ot ty pa, v = .func (.func 91) #[] #[.pointer (some ⟨g1, 0, none⟩), .pointer (some ⟨g2, 0, none⟩), .pointer (some ⟨g3, 0, none⟩)] ∧
   CB w g1 99 [.func (.func (if und = true then 67 else 69)) #[] #[.pointer (some ⟨gc, 0, none⟩)]] ∧ CB w g2 46 [.int .i64 p0, .int .i64 p1] ∧ CB w g3 3 [.int .i64 wh] ∧
   CB w gc 24 [.int .i64 kd, .int .i64 id, .int .i64 wi, .string nm, .string ot, .int .i64 ty, .int .i64 pa, .string sep] ∧ sep.size ≤ 1000000
section
variable {w w' : World} {v : Value} {k : Cl}
theorem Cl.At.up (h : Cl.At w v k) (hb : Below w.heap.size w w') : Cl.At w' v k := by
 cases k with
 | un => exact h
 | drop i => obtain ⟨g, e, h1⟩ := h; exact ⟨g, e, h1.up hb⟩
 | nar i => obtain ⟨g, e, h1⟩ := h; exact ⟨g, e, h1.up hb⟩
 | div wh p0 p1 sep => obtain ⟨g1, g2, g3, e, h1, h2, h3⟩ := h; exact ⟨g1, g2, g3, e, h1.up hb, h2.up hb, h3.up hb⟩
 | con und p0 p1 wh sep =>
  obtain ⟨g1, g2, g3, gc, kd, id, wi, nm, ot, ty, pa, e, h1, h2, h3, h4, h5⟩ := h
  exact ⟨g1, g2, g3, gc, kd, id, wi, nm, ot, ty, pa, e, h1.up hb, h2.up hb, h3.up hb, h4.up hb, h5⟩
theorem Cl.At.one (h : Cl.At w v k) : v.oneCell' = true := by
 cases k with
 | un => rw [show v = _ from h]; rfl
 | drop i => obtain ⟨g, e, h1⟩ := h; rw [e]; rfl
 | nar i => obtain ⟨g, e, h1⟩ := h; rw [e]; rfl
 | div wh p0 p1 sep => obtain ⟨g1, g2, g3, e, h1, h2, h3⟩ := h; rw [e]; rfl
 | con und p0 p1 wh sep =>
  obtain ⟨g1, g2, g3, gc, kd, id, wi, nm, ot, ty, pa, e, h1, h2, h3, h4, h5⟩ := h; rw [e]; rfl
end
/-- rows within bounds -/
structure RB (r : List Ce) : Prop where
 inc : Inc r
 len : r.length ≤ 1000
 sz : ∀ d ∈ r, d.v.s.size ≤ 1000
/-- a row that is returned: the one that was given, or one in memory of the call's own -/
def RetD (w w' : World) (A : Option Addr) (c : Nat) (r q : List Ce) (e : Ending) : Prop := ∃ (A' : Option Addr) (c' : Nat), e = .returned (.agg #[.slice A' q.length c']) ∧ ((A' = A ∧ c' = c ∧ q = r) ∨ Own 66 4 w' w.heap.size (.slice A' q.length c') (q.map Ce.cells))
theorem RetO.d {w w' : World} {q : List Ce} {e : Ending} (h : RetO w w' q e) (A : Option Addr) (c : Nat) (r : List Ce) : RetD w w' A c r q e := by
 obtain ⟨A', c', e, ho⟩ := h
 exact ⟨A', c', e, .inr ho⟩
theorem RetD.c {w w' : World} {A : Option Addr} {c : Nat} {r q : List Ce} {e : Ending} (h : RetD w w' A c r q e) (hb : Below w.heap.size w w') (hs : Ces w w.heap.size A r) (hc : r.length ≤ c) (hcm : c ≤ 9223372036854775807) : RetC w' q e := by
 obtain ⟨A', c', e, ⟨rfl, rfl, rfl⟩ | ho⟩ := h
 ·
  exact ⟨_, _, e, hs.up hb, hc, hcm⟩
 ·
  exact RetO.c ⟨A', c', e, ho⟩
/-- a function value that does φ to rows of a kind D -/
def Does (w : World) (v : Value) (D : List Ce → Prop) (φ : List Ce → List Ce) : Prop := ∃ (f : Nat) (cs : List Value), v = .func (.func f) #[] cs.toArray ∧ (∀ args w', (callFunc f args).run Tryz.prog w' = .ok (.enter f args) w') ∧
 ∀ (W : World) (A : Option Addr) (n c : Nat) (r : List Ce), Below w.heap.size w W → n = r.length → Ces W W.heap.size A r → n ≤ c → c ≤ 9223372036854775807 → D r →
  Calls Tryz.prog f (Value.agg #[.slice A n c] :: cs).toArray W fun e W' => RetD W W' A c r (φ r) e ∧ Below W.heap.size W W'
theorem Does.up {w w' : World} {v : Value} {D : List Ce → Prop} {φ : List Ce → List Ce} (h : Does w v D φ) (hb : Below w.heap.size w w') : Does w' v D φ := by
 obtain ⟨f, cs, e, h1, h2⟩ := h
 exact ⟨f, cs, e, h1, fun W A n c r hW => h2 W A n c r (hb.trans (hW.mono hb.size))⟩
theorem Cl.does {w : World} {v : Value} {k : Cl} (h : Cl.At w v k) (hG : GV w) : Does w v RB k.ap := by
 cases k with
 | un =>
  refine ⟨_, [], h, enters_of Tryz.func62 (by kernel_rfl) rfl, fun W A n c r hW hn hs hc hcm hr => ?_⟩
  exact (unchanged_any A n c W).mono fun e w' h => ⟨⟨A, c, by rw [h.1, hn]; rfl, .inl ⟨rfl, rfl, rfl⟩⟩, h.2⟩
 | drop i =>
  obtain ⟨g, e, h1⟩ := h
  refine ⟨_, [_], e, enters_of Tryz.func84 (by kernel_rfl) rfl, fun W A n c r hW hn hs hc hcm hr => ?_⟩
  exact (dropping1_any A n c r i g W hn hs (by rw [hn]; exact hr.len) hc hcm hr.inc (h1.up hW)).mono fun e w' h => ⟨h.1.d A c r, h.2⟩
 | nar i =>
  obtain ⟨g, e, h1⟩ := h
  refine ⟨_, [_], e, enters_of Tryz.func87 (by kernel_rfl) rfl, fun W A n c r hW hn hs hc hcm hr => ?_⟩
  exact (narrowing1_any A n c r i g W hn hs (by rw [hn]; exact hr.len) hc hcm hr.inc hr.sz (h1.up hW)).mono fun e w' h => ⟨h.1.d A c r, h.2⟩
 | div wh p0 p1 sep =>
  obtain ⟨g1, g2, g3, e, h1, h2, h3⟩ := h
  refine ⟨_, [_, _, _], e, enters_of Tryz.func89 (by kernel_rfl) rfl, fun W A n c r hW hn hs hc hcm hr => ?_⟩
  exact (dividing1_any A n c r wh p0 p1 sep g1 g2 g3 W hn hs (by rw [hn]; exact hr.len) hc hcm hr.inc hr.sz (hG.up hW) (h1.up hW) (h2.up hW) (h3.up hW)).mono fun e w' h => ⟨h.1.d A c r, h.2⟩
 | con und p0 p1 wh sep =>
  obtain ⟨g1, g2, g3, gc, kd, id, wi, nm, ot, ty, pa, e, h1, h2, h3, h4, h5⟩ := h
  cases und with
  | true =>
   refine ⟨_, [_, _, _], e, enters_of Tryz.func91 (by kernel_rfl) rfl, fun W A n c r hW hn hs hc hcm hr => ?_⟩
   exact (connecting1_any A n c r p0 p1 wh kd id wi nm ot ty pa sep g1 g2 g3 gc W hn hs (by rw [hn]; exact hr.len) hc hcm hr.inc hr.sz h5 (h1.up hW) (h2.up hW) (h3.up hW) (h4.up hW)).mono fun e w' h => ⟨h.1.d A c r, h.2⟩
  | false =>
   refine ⟨_, [_, _, _], e, enters_of Tryz.func91 (by kernel_rfl) rfl, fun W A n c r hW hn hs hc hcm hr => ?_⟩
   exact (connecting2_any A n c r p0 p1 wh kd id wi nm ot ty pa sep g1 g2 g3 gc W hn hs (by rw [hn]; exact hr.len) hc hcm hr.inc hr.sz h5 (h1.up hW) (h2.up hW) (h3.up hW) (h4.up hW)).mono fun e w' h => ⟨h.1.d A c r, h.2⟩

theorem ok_size {v : Va} {y : Int} (hb : v.b = false) (h : okV v y = true) : v.s.size ≤ 200 := by
 obtain ⟨b, n, s⟩ := v
 subst hb
 have he : ∀ {q : Bool}, (q && empS s) = true → s.size ≤ 200 := fun {q} h => by
  rw [Bool.and_eq_true] at h
  have := (empS_iff s).1 h.2
  omega
 unfold okV at h
 simp only [Bool.false_eq_true, if_false] at h
 split at h
 ·
  exact he h
 split at h
 ·
  exact he h
 split at h
 ·
  exact he h
 split at h
 ·
  have := (empS_iff s).1 h; show s.size ≤ 200; omega
 split at h
 ·
  rw [Bool.and_eq_true, decide_eq_true_eq, decide_eq_true_eq] at h; exact h.2
 ·
  cases h
theorem ids_len : ∀ {l : List Fd} {r : List Ce}, Srt l → Inc r → (∀ c ∈ r, ∃ f ∈ l, f.id = c.id) → r.length ≤ l.length
 | [], [], _, _, _ => Nat.le_refl _
 | [], c :: r, _, _, h => by obtain ⟨f, hf, _⟩ := h c (by simp); simp at hf
 | f :: l, [], _, _, _ => by simp
 | f :: l, c :: r, hl, hr, h => by
  have h1 := List.pairwise_cons.1 hl
  have h2 := List.pairwise_cons.1 hr
  have step : ∀ d ∈ (c :: r), f.id < d.id → ∃ g ∈ l, g.id = d.id := fun d hd hlt => by
   obtain ⟨g, hg, he⟩ := h d hd
   rcases List.mem_cons.1 hg with rfl | hg
   ·
    omega
   ·
    exact ⟨g, hg, he⟩
  by_cases he : f.id < c.id
  ·
   have := ids_len (l := l) (r := c :: r) h1.2 hr (fun d hd => step d hd (by
    rcases List.mem_cons.1 hd with rfl | hd'
    ·
     exact he
    ·
     have := h2.1 d hd'; omega))
   simp only [List.length_cons] at this ⊢
   omega
  ·
   have hc : f.id ≤ c.id := by
    obtain ⟨g, hg, hgc⟩ := h c (by simp)
    rcases List.mem_cons.1 hg with rfl | hg
    ·
     omega
    ·
     have := h1.1 g hg; omega
   have := ids_len (l := l) (r := r) h1.2 h2.2 (fun d hd => step d (by simp [hd]) (by have := h2.1 d hd; omega))
   simp only [List.length_cons]
   omega
theorem fit_rb {s : Sc} {r : List Ce} (ho : Ok s) (hf : FitL s.fs r) : RB r ∧ r.length ≤ 64 ∧ ∀ d ∈ r, d.v.s.size ≤ 200 := by
 have h := (fit_ty.1 hf).2
 have hz : ∀ d ∈ r, d.v.s.size ≤ 200 := fun d hd => by
  obtain ⟨hb, y, _, hk⟩ := h d hd
  exact ok_size hb hk
 have hl := ids_len (l := s.fs) ho.srt hf.2 (fun c hc => by
  obtain ⟨f, hf', he, _⟩ := hf.1 c hc
  exact ⟨f, hf', he⟩)
 have := ho.big.1
 exact ⟨⟨hf.2, by omega, fun d hd => by have := hz d hd; omega⟩, by omega, hz⟩
theorem fit_of_go {s : Sc} {r : List Ce} (ho : Ok s) : fitGo s.fs 0 r = true ↔ FitL s.fs r := by
 rw [fit_iff ho.srt]
 refine ⟨fun h => h.1, fun h => ⟨h, fun c hc => ?_⟩⟩
 obtain ⟨f, hf, he, _⟩ := h.1 c hc
 rw [← he]
 exact ho.pos f hf
end Go.Proofs.YtfeemipnalgjnaaGreat
