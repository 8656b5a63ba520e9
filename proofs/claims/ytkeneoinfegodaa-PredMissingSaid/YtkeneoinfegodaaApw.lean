/-
  Where a row that append grew lies: where it lay, or in a new block. Plain.
-/
import Derived.Test.YtkeneoinfegodaaMm
import Derived.Laws.AppendOwn
namespace Go.Proofs.Ytkeneoinfegodaa
open Go.RowKit
section
variable {P : Program} (w : World)
theorem append_where (base : Nat) (t ty e : TypeId) (i : TypeInfo) (z : Value) (size bytes : Nat) (ht : P.underlying t = some (.slice e)) (hi : P.info? e = some i) (hz : i.zero = some z)
    (hsize : i.size = size) (hby : i.bytes = bytes) (hsz : 0 < size)
    (v : Value) (n : Nat) (xs : List Value) (hown : w.ownsRow base e size v n xs)
    (a : Addr) (m c : Nat) (news : List Value) (hl : news.length = m * size) (hnews : ∀ j u, news[j]? = some u → w.cell? (a.add j) = some u) (h1 : ∀ u ∈ news, u.oneCell' = true)
    (h63 : n + m ≤ maxLen) (hbytes : (n + m) * bytes ≤ 140737488355328) (hm : 0 < m) (v' : Value) (w' : World)
    (hr : (Builtin.append_ #[t, t] ty #[v, .slice (some a) m c]).run P w = .ok v' w') : v'.ownBlock = v.ownBlock ∨ v'.ownBlock = some w.heap.size := by
  subst hsize
  subst hby
  have hsmall : n + m ≤ 9223372036854775807 := by simp only [maxLen] at h63; omega
  rcases hown.2 with ⟨rfl, rfl⟩ | ⟨g, cap, cur, rfl, hbg, hg, hnc, hcm, hcs, htake⟩
  · have h2 := run_append_nil (P := P) w t ty e i z ht hi hz a m c news hl hnews (by omega) (by omega) (by have hb := hbytes; simp only [Nat.zero_add] at hb; omega)
    rw [h2] at hr
    injection hr with e1 e2
    subst e1
    exact .inr rfl
  · by_cases hroom : n + m ≤ cap
    · have hfit : n * i.size + news.length ≤ cur.size := by rw [hl, hcs, ← Nat.add_mul]; exact Nat.mul_le_mul_right _ hroom
      have h2 := run_append_room (P := P) w t ty e i ht hi g n cap cur hg a m c news hl hnews h1 hroom hfit
      rw [h2] at hr
      injection hr with e1 e2
      subst e1
      exact .inl rfl
    · have holds : ∀ j u, xs[j]? = some u → w.cell? ((⟨g, 0, none⟩ : Addr).add j) = some u := hown.cells (g := g) rfl
      have h2 := run_append_grow (P := P) w t ty e i z ht hi hz ⟨g, 0, none⟩ n cap xs hown.1 holds a m c news hl hnews (by omega) (by omega) (growslice_fits (by omega) hbytes)
      rw [h2] at hr
      injection hr with e1 e2
      subst e1
      exact .inr rfl
end
section
variable {P : Program} {w : World} {ops : Array Oper} {o : Oper} {a : Act} {K : Act → World → Prop} {Q : Exit → Act → World → Prop} {F : Prop}
/-- step_push, and where the row lies behind it -/
theorem step_pushW {E T : TypeId} {k : Nat} {z : Value} {by_ : Nat} (hgd : o.guard = none) (d x : Operand) (ho : o.op = .call { callee := .builtin .append, args := #[d, x], argTypes := #[T, T] })
    (hT : P.underlying T = some (.slice E)) (hE : (P.info? E).map (fun i => (i.zero, i.size, i.bytes)) = some (some z, k, by_)) (hz : z.cells.size = k) (hk : 0 < k)
    (base : Nat) (v : Value) (L : List (List Value)) (vs : List Value) (g : Nat) (hs : a.eval d = v) (hx : a.eval x = .slice (some ⟨g, 0, none⟩) 1 1)
    (hr : Own E k w base v L) (hg : CB w g E vs) (hvs : vs.length = k) (h1 : ∀ u ∈ vs, u.oneCell' = true) (hroom : L.length + 1 ≤ 1000000000) (hby : by_ ≤ 1000) (hbase : base ≤ w.heap.size)
    (hK : ∀ A' c' w', Own E k w' base (.slice A' (L.length + 1) c') (L ++ [vs]) → w.grownBy w' v.ownBlock → Below base w w' → ((Value.slice A' (L.length + 1) c').ownBlock = v.ownBlock ∨ (Value.slice A' (L.length + 1) c').ownBlock = some w.heap.size) → K (a.put o.dst (.slice A' (L.length + 1) c')) w') : if Region.wanted o (yielded ops a.tmps) = true then Oper.wp P o a w K Q else F := by
  rw [if_pos (by simp [Region.wanted, hgd])]
  obtain ⟨i, hi, hz0, hsz, hb⟩ := info_parts hE
  have hnews : ∀ j u, vs[j]? = some u → w.cell? ((⟨g, 0, none⟩ : Addr).add j) = some u := fun j u hj => by
    rw [Addr.add_lit, Nat.zero_add]
    exact hg.cell j hj
  have hby2 : (L.length + 1) * by_ ≤ 140737488355328 := Nat.le_trans (Nat.mul_le_mul hroom hby) (by decide)
  have h63 : L.length + 1 ≤ maxLen := by simp only [maxLen]; omega
  obtain ⟨v', w', hrun, g1, g2, g3⟩ := run_append_own (P := P) w base T o.type E i z k by_ hT hi hz0 hsz hb hz hk v L.length L.flatten hr.1 ⟨g, 0, none⟩ 1 1 vs (by omega) hnews h1 h63 hby2 hbase
  have hw := append_where (P := P) w base T o.type E i z k by_ hT hi hz0 hsz hb hk v L.length L.flatten hr.1 ⟨g, 0, none⟩ 1 1 vs (by omega) hnews h1 h63 hby2 (by omega) v' w' hrun
  have ho' : Own E k w' base v' (L ++ [vs]) := by
    refine ⟨by simpa using g1, fun u hu => ?_⟩
    rcases List.mem_append.1 hu with hu | hu
    · exact hr.2 u hu
    · rw [List.mem_singleton] at hu; rw [hu, hvs]
  obtain ⟨A', c', rfl, _⟩ := ho'.slice
  have e : (L ++ [vs]).length = L.length + 1 := by simp
  rw [e] at ho' hrun hw
  unfold Oper.wp execOp
  simp only [ho, resolve, invoke, builtin, Sem.run_bind, Sem.run_pure, Result.andThen_ok, List.map_toArray, List.map_cons, List.map_nil, hs, hx, hrun]
  exact hK A' c' w' ho' g2 ((Below.refl base w).grown g2 hbase (fun g hg => (World.ownsRow.lt hr.1 g hg).1)) hw
end
end Go.Proofs.Ytkeneoinfegodaa
