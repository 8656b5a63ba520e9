/-
  The reference's Made: some key and some nonce, by a contract.
-/
import Derived.Test.YtbpphdmkfjdhnaaDoorInitP
import Derived.Test.YtbpphdmkfjdhnaaDoorHand
namespace Go.Proofs.YtbpphdmkfjdhnaaDoor
open Go.RowKit

theorem results_two_rows {P : Program} {fn : Func} {p q : Tmp} {ty uy : TypeId} (h : fn.results = #[.cell p ty, .cell q uy]) (tmps : Array Value) (w : World) (g g' : Nat) (t t' : TypeId) (cs cs' : Array Value) (fr fr' : Nat × Nat) (d d' : TypeDesc)
    (hp : tmps.getD p undef = .pointer (some ⟨g, 0, none⟩)) (hg : w.heap[g]? = some (.cells cs t fr)) (hu : P.underlying ty = some d) (hd : (match d with | .struct _ | .array _ _ => true | _ => false) = true) (hi : (P.info? ty).map (·.size) = some cs.size)
    (hp' : tmps.getD q undef = .pointer (some ⟨g', 0, none⟩)) (hg' : w.heap[g']? = some (.cells cs' t' fr')) (hu' : P.underlying uy = some d') (hd' : (match d' with | .struct _ | .array _ _ => true | _ => false) = true) (hi' : (P.info? uy).map (·.size) = some cs'.size) :
    (results fn tmps).run P w = .ok (.tuple #[.agg cs, .agg cs']) w := by
  have h1 : tmps[p]?.getD undef = .pointer (some ⟨g, 0, none⟩) := by simpa using hp
  have h2 : tmps[q]?.getD undef = .pointer (some ⟨g', 0, none⟩) := by simpa using hp'
  simp [results, h, h1, h2, asAddr, run_loadVar_row w g t ty cs fr d hg hu hd hi, run_loadVar_row w g' t' uy cs' fr' d' hg' hu' hd' hi']

/-- the blocks of a call of Made: the two results, the key, the nonce -/
structure SK4 (w wr : World) (B r g p : Nat) (key nonce : List UInt8) : Prop where
  r1 : BT wr B 26 (List.replicate 32 0)
  r2 : BT wr r 27 (List.replicate 12 0)
  kk : BT wr g 26 key
  nn : BT wr p 27 nonce
  kl : key.length = 32
  nl : nonce.length = 12
  bel : Below B w wr
  low : B < r ∧ r < g ∧ g < p
section
variable {w wr w' : World} {B r g p : Nat} {key nonce l : List UInt8}
theorem SK4.drew (h : SK4 w wr B r g p key nonce) : SK4 w wr.drew B r g p key nonce := ⟨h.r1, h.r2, h.kk, h.nn, h.kl, h.nl, h.bel.drew, h.low⟩
theorem SK4.setK (h : SK4 w wr B r g p key nonce) (hg : wr.grownBy w' (some g)) (hl : BT w' g 26 l) (ll : l.length = 32) : SK4 w w' B r g p l nonce := by
  have lo := h.low
  have hlt := h.r1.lt
  exact ⟨h.r1.grown hg (by simp; omega), h.r2.grown hg (by simp; omega), hl, h.nn.grown hg (by simp; omega), ll, h.nl, h.bel.grown hg (by omega) (fun k hk => by injection hk with hk; omega), lo⟩
theorem SK4.setN (h : SK4 w wr B r g p key nonce) (hg : wr.grownBy w' (some p)) (hl : BT w' p 27 l) (ll : l.length = 12) : SK4 w w' B r g p key l := by
  have lo := h.low
  have hlt := h.r1.lt
  exact ⟨h.r1.grown hg (by simp; omega), h.r2.grown hg (by simp; omega), h.kk.grown hg (by simp; omega), hl, h.kl, ll, h.bel.grown hg (by omega) (fun k hk => by injection hk with hk; omega), lo⟩
end
/-- the first three of them -/
structure SK3 (w wr : World) (B r g : Nat) : Prop where
  r1 : BT wr B 26 (List.replicate 32 0)
  r2 : BT wr r 27 (List.replicate 12 0)
  kk : BT wr g 26 (List.replicate 32 0)
  bel : Below B w wr
  low : B < r ∧ r < g
theorem sk_new3 (w : World) : BT (((w.alloc (.cells (cb (List.replicate 32 0)).toArray 26)).alloc (.cells (cb (List.replicate 12 0)).toArray 27)).alloc (.cells (cb (List.replicate 32 0)).toArray 26)) (w.heap.size + 1 + 1) 26 (List.replicate 32 0) := by
  have z : ∀ (w : World) (o : Obj), (w.alloc o).heap.size = w.heap.size + 1 := fun w o => by simp
  have := bt_new (w := (w.alloc (.cells (cb (List.replicate 32 0)).toArray 26)).alloc (.cells (cb (List.replicate 12 0)).toArray 27)) (n := 32) (t := 26) rfl rfl
  rw [z, z] at this
  exact this
theorem sk3_new (w : World) {w' : World} (hb : BT w' (w.heap.size + 1 + 1) 26 (List.replicate 32 0))
    (hg : (((w.alloc (.cells (cb (List.replicate 32 0)).toArray 26)).alloc (.cells (cb (List.replicate 12 0)).toArray 27)).alloc (.cells (cb (List.replicate 32 0)).toArray 26)).grownBy w' (some (w.heap.size + 1 + 1)))
    (_hz : w'.heap.size = (((w.alloc (.cells (cb (List.replicate 32 0)).toArray 26)).alloc (.cells (cb (List.replicate 12 0)).toArray 27)).alloc (.cells (cb (List.replicate 32 0)).toArray 26)).heap.size) : SK3 w w' w.heap.size (w.heap.size + 1) (w.heap.size + 1 + 1) := by
  have z : ∀ (w : World) (o : Obj), (w.alloc o).heap.size = w.heap.size + 1 := fun w o => by simp
  refine ⟨(((bt_new rfl rfl).alloc _).alloc _).grown hg (by simp; omega), ?_, hb, (((below_alloc _).alloc (by simp) _).alloc (by simp; omega) _).grown hg (by simp; omega) (fun k hk => by injection hk with hk; omega), by omega⟩
  have := bt_new (w := w.alloc (.cells (cb (List.replicate 32 0)).toArray 26)) (n := 12) (t := 27) rfl rfl
  rw [z] at this
  exact (this.alloc _).grown hg (by simp)
theorem SK3.four {w wr w' : World} {B r g : Nat} {o : Obj} (h : SK3 w wr B r g) (hb : BT w' wr.heap.size 27 (List.replicate 12 0)) (hg : (wr.alloc o).grownBy w' (some wr.heap.size)) : SK4 w w' B r g wr.heap.size (List.replicate 32 0) (List.replicate 12 0) := by
  have lo := h.low
  have lt := h.kk.lt
  exact ⟨(h.r1.alloc _).grown hg (by simp; omega), (h.r2.alloc _).grown hg (by simp; omega), (h.kk.alloc _).grown hg (by simp; omega), hb, by simp, by simp, (h.bel.alloc (by omega) _).grown hg (by simp; omega) (fun k hk => by injection hk with hk; omega), by omega⟩
/-- what the last statement needs: the key, the nonce; places for the results -/
structure SE (w wr : World) (B r g p : Nat) (key nonce : List UInt8) : Prop where
  kk : BT wr g 26 key
  nn : BT wr p 27 nonce
  o1 : ∃ l : List UInt8, BT wr B 26 l ∧ l.length = 32
  o2 : ∃ l : List UInt8, BT wr r 27 l ∧ l.length = 12
  bel : Below B w wr
  low : B < r ∧ r < g ∧ g < p
theorem BT.rangeQ {w : World} {g : Nat} {t : TypeId} {l : List UInt8} (h : BT w g t l) : w.rangeAt g 0 (cb l) := fun j v hv => by
  rw [Nat.zero_add, cell_of_row w g j _ _ (0, 0) h, List.getElem?_toArray]
  exact hv
theorem BT.there {w : World} {g n : Nat} {t : TypeId} {l : List UInt8} (h : BT w g t l) (hn : n = l.length) : w.there g 0 n := fun j hj => by
  rw [Nat.zero_add, cell_of_row w g j _ t (0, 0) h, frozen_of_row w g j _ t h]
  simp [cb_len]; omega
theorem BT.row {w : World} {g : Nat} {t : TypeId} {l m : List UInt8} (h : BT w g t l) (hl : l.length = m.length) : BT (w.setCells g 0 (cb m).toArray.toList) g t m := setCells_block h (by simp [cb_len, hl])

theorem SK4.se {w wr : World} {B r g p : Nat} {key nonce : List UInt8} (h : SK4 w wr B r g p key nonce) : SE w wr.drew B r g p key nonce := ⟨h.kk, h.nn, ⟨_, h.r1, by simp⟩, ⟨_, h.r2, by simp⟩, h.bel.drew, h.low⟩
theorem SE.st1 {w wr : World} {B r g p : Nat} {key nonce : List UInt8} (h : SE w wr B r g p key nonce) (hl : key.length = 32) : SE w (wr.setCells B 0 (cb key).toArray.toList) B r g p key nonce ∧ BT (wr.setCells B 0 (cb key).toArray.toList) B 26 key := by
  have lo := h.low
  obtain ⟨l, hb, ll⟩ := h.o1
  obtain ⟨m, hm, lm⟩ := h.o2
  have hr := hb.row (m := key) (by omega)
  have hg := setCells_grown B (cb key).toArray.toList 0 wr
  exact ⟨⟨h.kk.grown hg (by simp; omega), h.nn.grown hg (by simp; omega), ⟨_, hr, hl⟩, ⟨_, hm.grown hg (by simp; omega), lm⟩, h.bel.grown hg (Nat.le_of_lt hb.lt) (fun k hk => by injection hk with hk; omega), lo⟩, hr⟩
theorem SE.st2 {w wr : World} {B r g p : Nat} {key nonce : List UInt8} (h : SE w wr B r g p key nonce) (hl : nonce.length = 12) (hk : BT wr B 26 key) :
    SE w (wr.setCells r 0 (cb nonce).toArray.toList) B r g p key nonce ∧ BT (wr.setCells r 0 (cb nonce).toArray.toList) B 26 key ∧ BT (wr.setCells r 0 (cb nonce).toArray.toList) r 27 nonce := by
  have lo := h.low
  obtain ⟨l, hb, ll⟩ := h.o1
  obtain ⟨m, hm, lm⟩ := h.o2
  have hr := hm.row (m := nonce) (by omega)
  have hg := setCells_grown r (cb nonce).toArray.toList 0 wr
  exact ⟨⟨h.kk.grown hg (by simp; omega), h.nn.grown hg (by simp; omega), ⟨_, hb.grown hg (by simp; omega), ll⟩, ⟨_, hr, hl⟩, h.bel.grown hg (Nat.le_of_lt hb.lt) (fun k hk => by injection hk with hk; omega), lo⟩, hk.grown hg (by simp; omega), hr⟩

set_option maxHeartbeats 4000000 in
set_option maxRecDepth 20000 in
theorem made_any (A : Option Addr) (cap : Nat) (b : List UInt8) (w : World) (hb : Shows w w.heap.size A b) (hl : b.length ≤ 140737488351232) :
    Calls Tryd.prog 11 #[.slice A b.length cap] w fun e w' => ∃ key nonce : List UInt8, key.length = 32 ∧ nonce.length = 12 ∧ e = .returned (.tuple #[.agg (cb key).toArray, .agg (cb nonce).toArray]) ∧ Below w.heap.size w w' := by
  have HA := Lib.hid hb
  obtain ⟨N, hN⟩ : ∃ N, N = b.length := ⟨_, rfl⟩
  rw [← hN] at hl ⊢
  have HN := Lib.hid hN
  clear hb hN
  go_enter Tryd.func11, Tryd.ntmps11
  go_wp2_with (first
    | ((with_reducible show wpList _ _ _ _ _ _); refine wpList_store_all rfl 26 (.tmp 4) (.tmp 7) rfl (w.heap.size + 1 + 1) (cb (List.replicate 32 0)) rfl rfl 26 (cb (List.replicate 32 0)).toArray 32 (show BT _ _ _ _ from sk_new3 w) info26 (by simp [cb]) (by simp [cb]) (cb_one _) ?_; intro w3 hb3 hg3 hz3; have H3 : Hid (SK3 w w3 w.heap.size (w.heap.size + 1) (w.heap.size + 1 + 1)) := sk3_new w hb3 hg3 hz3; clear hb3 hg3))
  have hz : w3.heap.size = w.heap.size + 1 + 1 + 1 := by simpa using hz3
  have hs : Hid (SK4 w (w3.alloc (.cells (cb (List.replicate 12 0)).toArray 27)) w.heap.size (w.heap.size + 1) (w.heap.size + 1 + 1) (w.heap.size + 1 + 1 + 1) (List.replicate 32 0) (List.replicate 12 0)) := by
    rw [← hz]
    exact H3.out.four (bt_new rfl rfl) (World.grownBy.refl _ _)
  clear hz hz3 H3
  generalize hB : w.heap.size = B at *
  have HB := Lib.hid hB
  clear hB
  generalize B + 1 + 1 + 1 = p at *
  generalize B + 1 + 1 = g at *
  generalize B + 1 = r at *
  go_loopw [6] (fun i wr => ∃ k : Nat, k ≤ 44 ∧ k ≤ N ∧ i = .int .i64 k ∧ Hid (∃ key nonce, SK4 w wr B r g p key nonce)) (fun i _ => 44 - (intOf i).toNat)
  case atStart => exact ⟨0, by omega, by omega, rfl, ⟨_, _, hs.out⟩⟩
  case round =>
    clear hs
    obtain ⟨k, hk, hkN, rfl, ht⟩ := hrel
    obtain ⟨wo, hwo⟩ : ∃ wo : World, wo = wr := ⟨_, rfl⟩
    subst hwo
    obtain ⟨key, nonce, hs⟩ := ht.out
    have HS := Lib.hid hs
    clear hs ht
    by_cases hlt : k < N
    · have i1 : (k : Int) < (N : Int) := by omega
      by_cases h44 : k < 44
      · have i2 : (k : Int) < 44 := by omega
        obtain ⟨x, hx⟩ : ∃ x, b[k]? = some x := ⟨b[k]'(by rw [← HN.out]; exact hlt), by simp⟩
        obtain ⟨q, off, rfl, hqB, hcell⟩ := HA.out (by rw [← HN.out]; omega)
        have cx := (HS.out.bel.cell (p := ⟨q, off + k, none⟩) hqB).trans (hcell k x hx)
        clear hcell
        by_cases h32 : k < 32
        · have i3 : (k : Int) < 32 := by omega
          have ck := HS.out.kk.cell k (by rw [HS.out.kl]; exact h32)
          have fk := HS.out.kk.frozen k
          go_wp2
          go_roundw
          case rel => exact ⟨k + 1, by omega, by omega, by go_num, ⟨key.set k x, nonce, HS.out.setK (grown_set _ _ _ _) (HS.out.kk.set_ k x) (by rw [List.length_set, HS.out.kl])⟩⟩
          case measure => simp [intOf]; omega
        · have i3 : ¬ (k : Int) < 32 := by omega
          obtain ⟨d, hd⟩ : ∃ d, d + 32 = k := ⟨k - 32, by omega⟩
          have e1 : IntKind.i64.wrap ((k : Int) - 32) = (d : Int) := by rw [IntWalk.i64_in _ ⟨by omega, by omega⟩]; omega
          have e2 : (k : Int) - 32 = (d : Int) := by omega
          have e3 : (d : Int) < 12 := by omega
          have cn := HS.out.nn.cell d (by rw [HS.out.nl]; omega)
          have fn := HS.out.nn.frozen d
          go_wp2
          go_roundw
          case rel => exact ⟨k + 1, by omega, by omega, by go_num, ⟨key, nonce.set d x, HS.out.setN (grown_set _ _ _ _) (HS.out.nn.set_ d x) (by rw [List.length_set, HS.out.nl])⟩⟩
          case measure => simp [intOf]; omega
      · have i2 : ¬ (k : Int) < 44 := by omega
        go_wp2
        have hs0 := Lib.hid HS.out.se
        refine wp_region_held_drew (S := fun w' => Hid (SE w w' B r g p key nonce)) (by kernel_rfl) hs0 (fun hHeld => ?_)
        refine hand_take (i := 0) rfl (by kernel_rfl) (by kernel_rfl) (by kernel_rfl) (fun _ _ _ h => h) (yieldsIf_load_mid (by rfl) _ _ rfl g 0 rfl (cb key) _ (fun _ h => h.out.kk.rangeQ) Tryd.underlying26 rfl (by rw [info26, cb_len, HS.out.kl])) (by assumption) ?_
        try simp only [Act.put, List.setIfInBounds_toArray, List.set_cons_zero, List.set_cons_succ]
        refine hand_take (i := 1) rfl (by kernel_rfl) (by kernel_rfl) (by kernel_rfl) (fun _ _ _ h => h) (yieldsIf_load_mid (by rfl) _ _ rfl p 0 rfl (cb nonce) _ (fun _ h => h.out.nn.rangeQ) Tryd.underlying27 rfl (by rw [info27, cb_len, HS.out.nl])) (by assumption) ?_
        try simp only [Act.put, List.setIfInBounds_toArray, List.set_cons_zero, List.set_cons_succ]
        refine wpAnyH_ready (rs := [2]) (by kernel_rfl) (by simp) ?_
        refine hand_cons rfl (fun KK hK => ?_) AllReadyH.nil
        rw [if_pos (by rfl)]
        refine wp_store_mid _ _ _ rfl B 0 (cb key).toArray rfl rfl (hHeld.out.o1.choose_spec.1.there (by simp [cb_len, HS.out.kl, hHeld.out.o1.choose_spec.2])) (by rw [info26]; simp [cb_len, HS.out.kl]) (all_oneCell_toArray (cb_one _)) ?_
        have hs5 := Lib.hid (hHeld.out.st1 HS.out.kl)
        refine hK.out _ _ (hs5.out.1) (fun hHeld => ?_)
        clear hK KK
        try simp only [Act.put]
        refine wpAnyH_ready (rs := [3]) (by kernel_rfl) (by simp) ?_
        refine hand_cons rfl (fun KK hK => ?_) AllReadyH.nil
        rw [if_pos (by rfl)]
        refine wp_store_mid _ _ _ rfl r 0 (cb nonce).toArray rfl rfl (hHeld.out.o2.choose_spec.1.there (by simp [cb_len, HS.out.nl, hHeld.out.o2.choose_spec.2])) (by rw [info27]; simp [cb_len, HS.out.nl]) (all_oneCell_toArray (cb_one _)) ?_
        have hs6 := Lib.hid (hHeld.out.st2 HS.out.nl hs5.out.2)
        refine hK.out _ _ (hs6.out.1) (fun hHeld => ?_)
        clear hK KK
        try simp only [Act.put]
        refine wpAnyH_done (by kernel_rfl) ?_ _
        go_wp2
        refine bodyPost_ret (v := .tuple #[.agg (cb key).toArray, .agg (cb nonce).toArray]) (results_two_rows Tryd.results11 _ _ B r 26 27 _ _ (0, 0) (0, 0) _ _ rfl hs6.out.2.1 Tryd.underlying26 rfl (by rw [info26]; simp [cb_len, HS.out.kl]) rfl hs6.out.2.2 Tryd.underlying27 rfl (by rw [info27]; simp [cb_len, HS.out.nl])) rfl ?_
        exact ⟨key, HS.out.kl, nonce, HS.out.nl, rfl, by rw [HB.out]; exact hs6.out.1.bel⟩
    · have i1 : ¬ (k : Int) < (N : Int) := by omega
      go_wp2
      have hs0 := Lib.hid HS.out.se
      refine wp_region_held_drew (S := fun w' => Hid (SE w w' B r g p key nonce)) (by kernel_rfl) hs0 (fun hHeld => ?_)
      refine hand_take (i := 0) rfl (by kernel_rfl) (by kernel_rfl) (by kernel_rfl) (fun _ _ _ h => h) (yieldsIf_load_mid (by rfl) _ _ rfl g 0 rfl (cb key) _ (fun _ h => h.out.kk.rangeQ) Tryd.underlying26 rfl (by rw [info26, cb_len, HS.out.kl])) (by assumption) ?_
      try simp only [Act.put, List.setIfInBounds_toArray, List.set_cons_zero, List.set_cons_succ]
      refine hand_take (i := 1) rfl (by kernel_rfl) (by kernel_rfl) (by kernel_rfl) (fun _ _ _ h => h) (yieldsIf_load_mid (by rfl) _ _ rfl p 0 rfl (cb nonce) _ (fun _ h => h.out.nn.rangeQ) Tryd.underlying27 rfl (by rw [info27, cb_len, HS.out.nl])) (by assumption) ?_
      try simp only [Act.put, List.setIfInBounds_toArray, List.set_cons_zero, List.set_cons_succ]
      refine wpAnyH_ready (rs := [2]) (by kernel_rfl) (by simp) ?_
      refine hand_cons rfl (fun KK hK => ?_) AllReadyH.nil
      rw [if_pos (by rfl)]
      refine wp_store_mid _ _ _ rfl B 0 (cb key).toArray rfl rfl (hHeld.out.o1.choose_spec.1.there (by simp [cb_len, HS.out.kl, hHeld.out.o1.choose_spec.2])) (by rw [info26]; simp [cb_len, HS.out.kl]) (all_oneCell_toArray (cb_one _)) ?_
      have hs5 := Lib.hid (hHeld.out.st1 HS.out.kl)
      refine hK.out _ _ (hs5.out.1) (fun hHeld => ?_)
      clear hK KK
      try simp only [Act.put]
      refine wpAnyH_ready (rs := [3]) (by kernel_rfl) (by simp) ?_
      refine hand_cons rfl (fun KK hK => ?_) AllReadyH.nil
      rw [if_pos (by rfl)]
      refine wp_store_mid _ _ _ rfl r 0 (cb nonce).toArray rfl rfl (hHeld.out.o2.choose_spec.1.there (by simp [cb_len, HS.out.nl, hHeld.out.o2.choose_spec.2])) (by rw [info27]; simp [cb_len, HS.out.nl]) (all_oneCell_toArray (cb_one _)) ?_
      have hs6 := Lib.hid (hHeld.out.st2 HS.out.nl hs5.out.2)
      refine hK.out _ _ (hs6.out.1) (fun hHeld => ?_)
      clear hK KK
      try simp only [Act.put]
      refine wpAnyH_done (by kernel_rfl) ?_ _
      go_wp2
      refine bodyPost_ret (v := .tuple #[.agg (cb key).toArray, .agg (cb nonce).toArray]) (results_two_rows Tryd.results11 _ _ B r 26 27 _ _ (0, 0) (0, 0) _ _ rfl hs6.out.2.1 Tryd.underlying26 rfl (by rw [info26]; simp [cb_len, HS.out.kl]) rfl hs6.out.2.2 Tryd.underlying27 rfl (by rw [info27]; simp [cb_len, HS.out.nl])) rfl ?_
      exact ⟨key, HS.out.kl, nonce, HS.out.nl, rfl, by rw [HB.out]; exact hs6.out.1.bel⟩
end Go.Proofs.YtbpphdmkfjdhnaaDoor
