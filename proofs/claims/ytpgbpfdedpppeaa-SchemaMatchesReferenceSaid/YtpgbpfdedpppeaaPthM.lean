/-
  In a valid schema paths identify fields (plain).
-/
import Derived.Test.YtpgbpfdedpppeaaPln3
import Derived.Lib.Join
namespace Go.Proofs.Ytpgbpfdedpppeaa
open Go.RowKit

theorem join_mem {b : UInt8} : ∀ {xs : List (List UInt8)}, b ∈ Lib.join xs [46] → b = 46 ∨ ∃ x ∈ xs, b ∈ x
  | [], h => by simp [Lib.join_nil] at h
  | x :: r, h => by
    rw [Lib.join_cons] at h
    rcases List.mem_append.1 h with h | h
    · exact .inr ⟨x, by simp, h⟩
    · unfold Lib.joinTail at h
      obtain ⟨y, hy, hb⟩ := List.mem_flatten.1 h
      obtain ⟨z, hz, rfl⟩ := List.mem_map.1 hy
      simp only [List.cons_append, List.nil_append, List.mem_cons] at hb
      rcases hb with rfl | hb
      · exact .inl rfl
      · exact .inr ⟨z, by simp [hz], hb⟩
/-- a text up to the first 46 -/
theorem split46 : ∀ {x y u v : List UInt8}, 46 ∉ x → 46 ∉ y → x ++ 46 :: u = y ++ 46 :: v → x = y ∧ u = v
  | [], [], _, _, _, _, h => by simpa using h
  | [], b :: y, _, _, _, hy, h => by
    simp only [List.nil_append, List.cons_append, List.cons.injEq] at h
    exact absurd (by simp [← h.1]) hy
  | a :: x, [], _, _, hx, _, h => by
    simp only [List.nil_append, List.cons_append, List.cons.injEq] at h
    exact absurd (by simp [h.1]) hx
  | a :: x, b :: y, u, v, hx, hy, h => by
    simp only [List.cons_append, List.cons.injEq] at h
    obtain ⟨h1, h2⟩ := split46 (x := x) (y := y) (fun h => hx (by simp [h])) (fun h => hy (by simp [h])) h.2
    exact ⟨by rw [h.1, h1], h2⟩
theorem tail_cons (x : List UInt8) (r : List (List UInt8)) : Lib.joinTail [46] (x :: r) = 46 :: Lib.join (x :: r) [46] := by
  rw [Lib.join_cons]
  unfold Lib.joinTail
  simp
theorem join_inj : ∀ {xs ys : List (List UInt8)}, xs ≠ [] → ys ≠ [] → (∀ x ∈ xs, 46 ∉ x) → (∀ y ∈ ys, 46 ∉ y) → Lib.join xs [46] = Lib.join ys [46] → xs = ys
  | [], _, h, _, _, _, _ => absurd rfl h
  | _ :: _, [], _, h, _, _, _ => absurd rfl h
  | [x], [y], _, _, _, _, h => by rw [Lib.join_one, Lib.join_one] at h; rw [h]
  | [x], y :: z :: r, _, _, hx, hy, h => by
    rw [Lib.join_one, Lib.join_cons, tail_cons] at h
    exact absurd (by rw [h]; simp) (hx x (by simp))
  | x :: z :: r, [y], _, _, hx, hy, h => by
    rw [Lib.join_one, Lib.join_cons, tail_cons] at h
    exact absurd (by rw [← h]; simp) (hy y (by simp))
  | x :: z :: r, y :: t :: q, _, _, hx, hy, h => by
    rw [Lib.join_cons, Lib.join_cons, tail_cons, tail_cons] at h
    obtain ⟨h1, h2⟩ := split46 (hx x (by simp)) (hy y (by simp)) h
    have := join_inj (xs := z :: r) (ys := t :: q) (by simp) (by simp) (fun a ha => hx a (by simp [ha])) (fun a ha => hy a (by simp [ha])) h2
    rw [h1, this]
/-- the fields from a number up to the top -/
inductive Line (l : List Fd) : List Fd → Int → Prop
  | nil : Line l [] 0
  | cons {f : Fd} {c : List Fd} (hf : f ∈ l) (h : Line l c f.pa) : Line l (f :: c) f.id
theorem line_inv {l c : List Fd} {i : Int} (h : Line l c i) : (c = [] ∧ i = 0) ∨ ∃ f d, c = f :: d ∧ f ∈ l ∧ f.id = i ∧ Line l d f.pa := by
  cases h with
  | nil => exact .inl ⟨rfl, rfl⟩
  | cons hf h => exact .inr ⟨_, _, rfl, hf, rfl, h⟩
theorem line_anc {l : List Fd} : ∀ {m : Nat} {fi : Bool} {i : Int}, (anc l m fi i).2 = 0 → Line l (anc l m fi i).1 i
  | 0, _, i, h => by
    unfold anc at h ⊢
    have h : i = 0 := h
    subst h
    exact .nil
  | m + 1, fi, i, h => by
    unfold anc at h ⊢
    by_cases h0 : i = 0
    · subst h0
      rw [if_pos rfl]
      exact .nil
    · rw [if_neg h0] at h ⊢
      cases hf : fieldG fi l i with
      | none => rw [hf] at h; exact absurd h h0
      | some f =>
        rw [hf] at h
        have := fieldG_mem hf
        rw [← this.2.1]
        exact .cons this.1 (line_anc h)
theorem line_nm {s : Sc} (ho : Ok s) : ∀ {c d : List Fd} {i j : Int}, Line s.fs c i → Line s.fs d j → c.map (·.nm) = d.map (·.nm) → i = j
  | [], d, i, j, hc, hd, h => by
    obtain rfl : d = [] := by simpa using h.symm
    rcases line_inv hc with ⟨_, rfl⟩ | ⟨_, _, e, _⟩
    · rcases line_inv hd with ⟨_, rfl⟩ | ⟨_, _, e, _⟩
      · rfl
      · cases e
    · cases e
  | f :: c, d, i, j, hc, hd, h => by
    rcases line_inv hc with ⟨e, _⟩ | ⟨f', c', e, hf, hi, hc'⟩
    · cases e
    · cases e
      rcases line_inv hd with ⟨rfl, _⟩ | ⟨g, d', rfl, hg, hj, hd'⟩
      · simp at h
      · simp only [List.map_cons, List.cons.injEq] at h
        have hp := line_nm ho hc' hd' h.2
        by_cases he : f.id = g.id
        · omega
        · have hcl := ho.nam.2 f hf g hg he
          unfold clash at hcl
          rw [decide_eq_true (p := g.pa = f.pa) hp.symm, Bool.true_and, sameB_iff.2 h.1.symm] at hcl
          cases hcl
theorem line_mem {l c : List Fd} {i : Int} (h : Line l c i) : ∀ f ∈ c, f ∈ l := by
  induction h with
  | nil => intro f hf; simp at hf
  | cons hf _ ih =>
    intro g hg
    rcases List.mem_cons.1 hg with rfl | hg
    · exact hf
    · exact ih g hg
theorem nam_bytes {b : ByteArray} (h : namB b = true) : b.data.toList ≠ [] ∧ ∀ c ∈ b.data.toList, okC c = true := by
  unfold namB at h
  simp only [Bool.and_eq_true, decide_eq_true_iff] at h
  refine ⟨fun e => ?_, List.all_eq_true.1 h.2⟩
  have h1 := h.1.1
  have : b.size = b.data.toList.length := rfl
  rw [this, e] at h1
  simp at h1
section
variable {s : Sc} {f g : Fd}
theorem path_line (ho : Ok s) (hf : f ∈ s.fs) : ∃ c, (anc s.fs 8 true f.id).1 = f :: c ∧ Line s.fs (f :: c) f.id := by
  have hp : (anc s.fs 8 true f.id).2 = 0 := by
    have := (plc_iff ho.num hf).2 (ho.plc f hf)
    unfold plcB at this
    simpa using this
  have hl := line_anc hp
  rcases line_inv hl with ⟨_, h0⟩ | ⟨g, d, e, hg, hi, _⟩
  · have := ho.pos f hf; omega
  · rw [srt_uniq ho.srt hg hf hi] at e
    exact ⟨d, e, e ▸ hl⟩
theorem path_bytes (ho : Ok s) (hf : f ∈ s.fs) : (pathB (anc s.fs 8 true f.id).1) ≠ [] ∧ ∀ b ∈ pathB (anc s.fs 8 true f.id).1, b = 46 ∨ okC b = true := by
  obtain ⟨c, e, hl⟩ := path_line ho hf
  have hm := line_mem hl
  rw [e]
  unfold pathB
  constructor
  · intro h0
    obtain ⟨x, r, hxr⟩ : ∃ x r, (f :: c).reverse.map (fun f => f.nm.data.toList) = x :: r := by
      cases h : (f :: c).reverse.map (fun f => f.nm.data.toList) with
      | nil => simp at h
      | cons x r => exact ⟨x, r, rfl⟩
    rw [hxr, Lib.join_cons] at h0
    have hx : x ∈ (f :: c).reverse.map (fun f => f.nm.data.toList) := by rw [hxr]; simp
    obtain ⟨k, hk, rfl⟩ := List.mem_map.1 hx
    exact (nam_bytes (ho.nam.1 k (hm k (List.mem_reverse.1 hk)))).1 (List.append_eq_nil_iff.1 h0).1
  · intro b hb
    rcases join_mem hb with h | ⟨x, hx, hb⟩
    · exact .inl h
    · obtain ⟨k, hk, rfl⟩ := List.mem_map.1 hx
      exact .inr ((nam_bytes (ho.nam.1 k (hm k (List.mem_reverse.1 hk)))).2 b hb)
theorem path_inj (ho : Ok s) (hf : f ∈ s.fs) (hg : g ∈ s.fs) (h : pathOf s.fs f.id = pathOf s.fs g.id) : f.id = g.id := by
  obtain ⟨c, e, hl⟩ := path_line ho hf
  obtain ⟨d, e', hl'⟩ := path_line ho hg
  unfold pathOf at h
  rw [e, e'] at h
  have h : (pathB (f :: c)).toArray = (pathB (g :: d)).toArray := congrArg ByteArray.data h
  have h : pathB (f :: c) = pathB (g :: d) := by simpa using congrArg Array.toList h
  unfold pathB at h
  have h46 : okC 46 = false := by decide
  have hn : ∀ {c : List Fd} {i : Int}, Line s.fs c i → ∀ x ∈ c.reverse.map (fun f => f.nm.data.toList), 46 ∉ x := fun hl x hx hb => by
    obtain ⟨k, hk, rfl⟩ := List.mem_map.1 hx
    have := (nam_bytes (ho.nam.1 k (line_mem hl k (List.mem_reverse.1 hk)))).2 46 hb
    rw [h46] at this
    cases this
  have hj := join_inj (by simp) (by simp) (hn hl) (hn hl') h
  rw [List.map_reverse, List.map_reverse, List.reverse_inj] at hj
  refine line_nm ho hl hl' ?_
  have hcomp : ∀ c : List Fd, c.map (·.nm) = (c.map (fun f => f.nm.data.toList)).map (fun b => (⟨b.toArray⟩ : ByteArray)) := fun c => by
    rw [List.map_map]
    exact List.map_congr_left fun k _ => rfl
  rw [hcomp, hcomp, hj]
theorem find_path (ho : Ok s) (hf : f ∈ s.fs) : ∀ {l : List Fd}, (∀ k ∈ l, k ∈ s.fs) → f ∈ l → findGo (fun f => pathOf s.fs f.id) (pathOf s.fs f.id) l = some f.id
  | [], _, h => by simp at h
  | g :: r, hl, h => by
    unfold findGo
    by_cases he : pathOf s.fs g.id = pathOf s.fs f.id
    · rw [if_pos (sameB_iff.2 he), path_inj ho (hl g (by simp)) hf he]
    · rw [if_neg (fun h => he (sameB_iff.1 h))]
      rcases List.mem_cons.1 h with rfl | h
      · exact absurd rfl he
      · exact find_path ho hf (fun k hk => hl k (by simp [hk])) h
theorem path_ne (ho : Ok s) (hf : f ∈ s.fs) : pathOf s.fs f.id ≠ ⟨#[]⟩ := fun h => by
  unfold pathOf at h
  have h : (pathB (anc s.fs 8 true f.id).1).toArray = #[] := congrArg ByteArray.data h
  exact (path_bytes ho hf).1 (by simpa using congrArg Array.toList h)
def nsf : ByteArray := ⟨#[110, 111, 32, 115, 117, 99, 104, 32, 102, 105, 101, 108, 100]⟩
theorem no_such (ho : Ok s) : ∀ {l : List Fd}, (∀ k ∈ l, k ∈ s.fs) → findGo (fun f => pathOf s.fs f.id) nsf l = none
  | [], _ => rfl
  | g :: r, hl => by
    unfold findGo
    have hne : ¬ sameB (pathOf s.fs g.id) nsf = true := fun h => by
      have h := sameB_iff.1 h
      unfold pathOf at h
      have h : (pathB (anc s.fs 8 true g.id).1).toArray = nsf.data := congrArg ByteArray.data h
      have h : pathB (anc s.fs 8 true g.id).1 = nsf.data.toList := by simpa using congrArg Array.toList h
      have h32 : (32 : UInt8) ∈ pathB (anc s.fs 8 true g.id).1 := by rw [h]; decide
      rcases (path_bytes ho (hl g (by simp))).2 32 h32 with h | h
      · exact absurd h (by decide)
      · exact absurd h (by decide)
    rw [if_neg hne]
    exact no_such ho (fun k hk => hl k (by simp [hk]))
end
end Go.Proofs.Ytpgbpfdedpppeaa
