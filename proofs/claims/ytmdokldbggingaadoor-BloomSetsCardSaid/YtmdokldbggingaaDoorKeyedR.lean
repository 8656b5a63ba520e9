/-
  The reference's Keyed, by a contract.
-/
import Derived.Test.YtmdokldbggingaaDoorCompR
import Derived.Test.YtmdokldbggingaaDoorDigest
import Derived.Test.YtmdokldbggingaaDoorFin
namespace Go.Proofs.YtmdokldbggingaaDoor
open Go.RowKit

attribute [local go_sem] wd_add wd_addw wd_xor wd_or wd_not wd_mod wd_wrap

theorem start_is (w : World) (g : Nat) (hg : g = w.heap.size) : Calls Tryd.prog 58 #[] w fun e w' => e = .returned (.slice (some ⟨g, 0, none⟩) 8 8) ∧ Hid (WB w' g 74 IV) ∧ Below w.heap.size w w' ∧ Hid (w'.heap.size = g + 1) := by
  subst hg
  exact start_any w

theorem owns_at (w : World) (c : Array Value) (g : Nat) (hc : c = #[]) (hg : g = w.heap.size) : Owns (w.alloc (.cells c 5)) g (.slice (some ⟨g, 0, none⟩) 0 0) [] := by
  subst hg
  exact owns_empty w c hc
/-- append, the length a letter -/
theorem wpList_growL {P : Program} {w : World} {ops : Array Oper} {rest : List Oper} {o : Oper} {a : Act} {Q : Exit → Act → World → Prop} (hgd : o.guard = none) (d x : Operand) (t : TypeId)
    (ho : o.op = .call { callee := .builtin .append, args := #[d, x], argTypes := #[t, t] }) (ht : P.underlying t = some (.slice 5))
    (h2 : (P.info? 5).map (fun i => (i.zero, i.size, i.bytes)) = some (some (.int .u8 0), 1, 1)) (base : Nat) (v : Value) (l : List UInt8) (A : Option Addr) (n : Nat) (p : List UInt8) (c B m : Nat) (hn : n = p.length) (hm : m = (l ++ p).length)
    (hs : a.eval d = v) (hx : a.eval x = .slice A n c) (hr : Owns w base v l) (hp : Shows w B A p) (hroom : l.length + p.length ≤ 140737488355328) (hbase : base ≤ w.heap.size)
    (hK : ∀ A' c' w', Hid (Owns w' base (.slice A' m c') (l ++ p)) → Hid (w.grownBy w' v.ownBlock) → wpList P ops Q rest (a.put o.dst (.slice A' m c')) w') : wpList P ops Q (o :: rest) a w := by
  subst hm hn
  exact wpList_growB hgd d x t ho ht h2 base v l A p c B hs hx hr hp hroom hbase hK
theorem step_more {hc : List UInt32} {all : List UInt8} {a N : Nat} {F : List UInt32} (hN : N = all.length) (hlt : a + 64 < N) (hf : fin hc ((all.drop a).take 64) ((all.drop a).drop 64) (a + ((all.drop a).take 64).length) = F) :
    fin (compressed hc (wordsOf ((all.drop a).take 64)) (a + 64) false) ((all.drop (a + 64)).take 64) ((all.drop (a + 64)).drop 64) (a + 64 + ((all.drop (a + 64)).take 64).length) = F := by
  have hl : ((all.drop a).take 64).length = 64 := by rw [List.length_take, List.length_drop]; omega
  have hr : (all.drop a).drop 64 = all.drop (a + 64) := by rw [List.drop_drop]
  rw [fin_more (by rw [hr, List.length_drop]; omega), hl, hr] at hf
  exact hf
theorem step_last {hc : List UInt32} {all : List UInt8} {a N : Nat} {F : List UInt32} (hN : N = all.length) (hge : N ≤ a + 64) (ha : a ≤ N) (hf : fin hc ((all.drop a).take 64) ((all.drop a).drop 64) (a + ((all.drop a).take 64).length) = F) :
    compressed hc (wordsOf ((all.drop a).take 64)) N true = F := by
  have hl : a + ((all.drop a).take 64).length = N := by rw [List.length_take, List.length_drop]; omega
  rw [fin_last (by rw [List.length_drop, List.length_drop]; omega), hl] at hf
  exact hf
theorem compR_at (gh gb : Nat) (h : List UInt32) (bs : List UInt8) (T : Int) (t : Nat) (last : Bool) (w : World) (hT : T = t) (hh : WB w gh 74 h) (hb : BT w gb 5 bs) (hl : h.length = 8) (bl : bs.length = 64) :
    Calls Tryd.prog 59 #[.slice (some ⟨gh, 0, none⟩) 8 8, .agg #[.slice (some ⟨gb, 0, none⟩) 64 64, .int .u64 T, .bool last]] w
      fun e w' => ∃ g, e = .returned (.slice (some ⟨g, 0, none⟩) 8 8) ∧ Hid (WB w' g 74 (compressed h (wordsOf bs) t last)) ∧ Below w.heap.size w w' := by
  subst hT
  exact compR_any gh gb h bs t last w hh hb hl bl
/-- the state of the loop over the blocks: W is the world at its beginning -/
structure LR (W wr : World) (gh : Nat) (h : List UInt32) : Prop where
  hh : WB wr gh 74 h
  hl : h.length = 8
  bel : Below W.heap.size W wr
theorem LR.drew {W wr : World} {gh : Nat} {h : List UInt32} (s : LR W wr gh h) : LR W wr.drew gh h := ⟨s.hh, s.hl, s.bel.drew⟩

theorem cut_shows {w : World} {B : Nat} {A : Option Addr} {l : List UInt8} (h : Shows w B A l) {k n cap : Nat} (hn : k + n ≤ l.length) (hc : l.length ≤ cap) : (¬ cap = k → Shows w B (A.map (fun x => x.add k)) ((l.drop k).take n)) ∧ (cap = k → Shows w B A ((l.drop k).take n)) :=
  ⟨fun hk => h.cutAt hn hc hk, fun hk => Shows.cutEnd hn hc hk⟩
theorem fin_pad (h : List UInt32) (k : List UInt8) (n : Nat) (rest : List UInt8) (t : Nat) : fin h (k ++ List.replicate n 0) rest t = fin h k rest t := by
  by_cases e : rest.length = 0
  · rw [fin_last e, fin_last e, wordsOf_pad]
  · rw [fin_more e, fin_more e, wordsOf_pad]
theorem bt_owns {w : World} {B g n : Nat} {l : List UInt8} (h : BT w g 5 l) (hn : n = l.length) (hl : l.length ≤ 1000) (hB : B ≤ g) : Owns w B (.slice (some ⟨g, 0, none⟩) n n) l := by
  subst hn
  have := Blk.owns (w := w) (g := g) (l := l) (B := B) h (n := l.length) (Nat.le_refl _) (by simp only [maxLen]; omega) hB
  rwa [List.take_length] at this
theorem own_at {g n c k : Nat} (h : (Value.slice (some ⟨g, 0, none⟩) n c).ownBlock = some k) : k = g := by simpa [Value.ownBlock] using h.symm
theorem take_len {α : Type} (l : List α) (n : Nat) : l.take (l.take n).length = l.take n := by
  rw [List.length_take]
  by_cases h : n ≤ l.length
  · rw [Nat.min_eq_left h]
  · rw [Nat.min_eq_right (by omega), List.take_of_length_le (Nat.le_refl _), List.take_of_length_le (by omega)]
theorem pad_len {l : List UInt8} (h : l.length ≤ 64) : (l ++ List.replicate (64 - l.length) (0 : UInt8)).length = 64 := by simp; omega

/-- the bytes of the digest, one at a time -/
def laid1 (h : List UInt32) : Nat → List UInt8
  | 0 => List.replicate 32 0
  | i + 1 => (laid1 h i).set i (low8 (8 * (i % 4)) (at_ h (i / 4)))
theorem laid1_len (h : List UInt32) (k : Nat) : (laid1 h k).length = 32 := by
  induction k with
  | zero => simp [laid1]
  | succ k ih => simp [laid1, ih]
theorem laid1_32 (h : List UInt32) : laid1 h 32 = bytesOf h := by kernel_rfl

set_option maxHeartbeats 4000000 in
set_option maxRecDepth 20000 in
theorem keyedR_any (K : Option Addr) (capk : Nat) (key : List UInt8) (A : Option Addr) (cap : Nat) (b : List UInt8) (w : World) (hk : Shows w w.heap.size K key) (hb : Shows w w.heap.size A b) (hkc : key.length ≤ capk)
    (hck : capk ≤ 140737488355328) (hc : b.length ≤ 1000000) :
    Calls Tryd.prog 53 #[.slice K key.length capk, .slice A b.length cap] w fun e w' => e = .returned (.agg (cb (digestOf key b)).toArray) ∧ Below w.heap.size w w' := by
  have HA := Lib.hid hb
  obtain ⟨k, hkk⟩ : ∃ k : List UInt8, k = key.take 32 := ⟨_, rfl⟩
  have hks : Hid (Shows w w.heap.size K k) := by rw [hkk]; exact hk.first
  have hmin : Hid (k.length = min key.length 32) := by show _ = _; rw [hkk, List.length_take, Nat.min_comm]
  have HD : Hid (digestOf key b = bytesOf (if k.length = 0 then fin (head 0) (b.take 64) (b.drop 64) (b.take 64).length else fin (head k.length) k b 64)) := by show _ = _; rw [hkk]; rfl
  have HK32 : Hid (k.length ≤ 32) := by have := hmin.out; show _ ≤ _; omega
  clear hkk hk hb
  obtain ⟨n, hn⟩ : ∃ n, n = key.length := ⟨_, rfl⟩
  rw [← hn] at hkc hmin ⊢
  clear hn
  by_cases h0 : k.length = 0
  · skip
    have hn0 : n = 0 := by have := hmin.out; omega
    subst hn0
    have HF : Hid (digestOf key b = bytesOf (fin (head 0) (b.take 64) (b.drop 64) (b.take 64).length)) := by show _ = _; rw [HD.out, if_pos h0]
    have hp : (16842784 : Int) = wd (param 0) := wd_param 0 (by decide)
    clear hmin h0 hkc hks HD
    obtain ⟨all, hall⟩ : ∃ u, u = [] ++ b := ⟨_, rfl⟩
    obtain ⟨N, hNe⟩ : ∃ N, N = ([] ++ b).length := ⟨_, rfl⟩
    have HNe := Lib.hid hNe
    clear hNe
    have hNle : Hid (N ≤ 1000064) := by have := HNe.out; simp at this; show _ ≤ _; omega
    obtain ⟨F, hF⟩ : ∃ F, F = fin (head 0) (b.take 64) (b.drop 64) (b.take 64).length := ⟨_, rfl⟩
    have HF5 : Hid (fin (head 0) ((all.drop 0).take 64) ((all.drop 0).drop 64) (0 + ((all.drop 0).take 64).length) = F) := by show _ = _; rw [hall, hF, List.nil_append, List.drop_zero, Nat.zero_add]
    have HF2 : Hid (digestOf key b = bytesOf F) := by show _ = _; rw [HF.out, hF]
    have HALL := Lib.hid hall
    clear hF HF hall
    go_enter Tryd.func53, Tryd.ntmps53
    go_wp2_with (first
      | (go_at_call 58; refine (start_is _ (w.heap.size + 1) (by simp)).mono ?_; rintro e w2 ⟨rfl, hiv, hb2, hz2⟩; have c0 := hiv.out.cell 0 (by decide); have f0 := hiv.out.frozen 0; have hbw : Hid (Below w.heap.size w w2) := (below_alloc _).trans (hb2.mono (by simp)); have hr2 : Hid (BT w2 w.heap.size 68 (List.replicate 32 0)) := (bt_new (w := w) (c := (cb (List.replicate 32 0)).toArray) (n := 32) rfl rfl).below hb2 (by simp); clear hb2)
      | (at_builtin; refine wpList_growL rfl (.tmp 37) (.tmp 38) _ rfl Tryd.underlying22 info5 w2.heap.size (.slice (some ⟨w2.heap.size, 0, none⟩) 0 0) [] A b.length b cap w.heap.size N rfl HNe.out rfl rfl (owns_at (w2.setCell ⟨w.heap.size + 1, 0, none⟩ (.int .u32 (wd (at_ IV 0 ^^^ param 0)))) _ w2.heap.size rfl (by simp [World.setCell])) (HA.out.below ((hbw.out.setCell (by simp) _).alloc (by have := hbw.out.size; simp [World.setCell]; omega) _)) (by simp; omega) (by simp [World.setCell]) ?_; intro A5 c5 w5 HO5 HG5))
    rw [← HALL.out] at HO5
    have HZ2 : Hid (w2.heap.size = w.heap.size + 1 + 1) := hz2
    have b2 := ((hbw.out.setCell (p := ⟨w.heap.size + 1, 0, none⟩) (by simp) (.int .u32 (wd (at_ IV 0 ^^^ param 0)))).alloc (by have := hbw.out.size; simp [World.setCell]; omega) (.cells #[] 5))
    have b5 : Below w.heap.size w w5 := b2.grown HG5.out b2.size (fun k hk => by have := own_at hk; have := HZ2.out; omega)
    have hh5 : WB w5 (w.heap.size + 1) 74 (head 0) := ((hiv.out.set_ 0 _).alloc _).grown HG5.out (fun e => by have := own_at e.symm; have := HZ2.out; omega)
    have hr5 : BT w5 w.heap.size 68 (List.replicate 32 0) := ((hr2.out.grown (grown_set _ _ _ _) (by simp)).alloc _).grown HG5.out (fun e => by have := own_at e.symm; have := HZ2.out; omega)
    have ho := Owns.shows HO5.out
    have HN : Hid (N = all.length) := ho.1
    have hc5 : Hid (N ≤ c5 ∧ 0 ≤ c5) := ⟨by rw [ho.1]; exact ho.2.1, Nat.zero_le _⟩
    have hc5i : (N : Int) ≤ (c5 : Int) := by have := hc5.out; omega
    have HS5 : Hid (Shows w5 w5.heap.size A5 all ∧ WB w5 (w.heap.size + 1) 74 (head 0) ∧ Below w.heap.size w w5 ∧ BT w5 w.heap.size 68 (List.replicate 32 0)) := ⟨ho.2.2, hh5, b5, hr5⟩
    have HB5 : Hid (w.heap.size ≤ w5.heap.size ∧ w.heap.size < w5.heap.size) := ⟨b5.size, hr5.lt⟩
    clear ho hh5 b5 hr5 b2 HO5 HG5 hiv c0 f0 hbw hr2 hz2
    generalize hB : w.heap.size = B at HS5 HB5 ⊢
    have HB := Lib.hid hB
    clear hB
    go_loopw [5, 7] (fun u5 u7 wr => ∃ (gh a : Nat) (hc : List UInt32), u5 = .slice (some ⟨gh, 0, none⟩) 8 8 ∧ u7 = .int .i64 a ∧ Hid (LR w5 wr gh hc) ∧ Hid (a ≤ N + 64) ∧ Hid (((a = 0 ∨ a < N) ∧ fin hc ((all.drop a).take 64) ((all.drop a).drop 64) (a + ((all.drop a).take 64).length) = F) ∨ ((¬ a = 0 ∧ N ≤ a) ∧ hc = F))) (fun _ u7 _ => N + 128 - (intOf u7).toNat)
    case atStart => exact ⟨_, 0, head 0, rfl, rfl, ⟨HS5.out.2.1, head_len _, Below.refl _ _⟩, by show _ ≤ _; omega, Or.inl ⟨Or.inl rfl, HF5.out⟩⟩
    case round =>
      obtain ⟨gh, a, hc, rfl, rfl, hs, ha, hor⟩ := hrel
      obtain ⟨wo, hwo⟩ : ∃ wo : World, wo = wr := ⟨_, rfl⟩
      subst hwo
      have hN := hNle.out
      have ha1 : (a : Int) ≤ 1000200 := by have := ha.out; omega
      rcases hor.out with ⟨hnf, hfin⟩ | ⟨⟨hz, hge⟩, hfin⟩
      · skip
        clear hor
        have hfin := Lib.hid hfin
        have hshA : Hid (Shows wo wo.heap.size A5 all) := (HS5.out.1.below hs.out.bel).more hs.out.bel.size
        have hlen : Hid (((all.drop a).take 64).length = min 64 (N - a)) := by show _ = _; rw [List.length_take, List.length_drop, HN.out]
        have hdl : Hid (((all.drop a).drop 64).length = N - a - 64) := by show _ = _; rw [List.length_drop, List.length_drop, HN.out]
        rcases hnf with hz | hlt
        · have e1 : ((a : Int) == 0) = true := by simp [hz]
          have haN : a ≤ N := by omega
          clear hz
          have hshc := cut_shows hshA.out (k := a) (n := ((all.drop a).take 64).length) (cap := c5) (by have := hlen.out; have := HN.out; omega) (by rw [← HN.out]; exact hc5.out.1)
          have etk : (all.drop a).take ((all.drop a).take 64).length = (all.drop a).take 64 := take_len _ _
          rw [etk] at hshc
          have hsx : Hid (¬ c5 = a → Shows wo wo.heap.size (A5.map (fun x => x.add a)) ((all.drop a).take 64)) := hshc.1
          have hsx2 : Hid (c5 = a → Shows wo wo.heap.size A5 ((all.drop a).take 64)) := hshc.2
          clear hshc etk hshA
          by_cases c64 : a + 64 < N
          · skip
            have k1 : (a : Int) + 64 ≤ (N : Int) := by omega
            have k2 : ¬ ((N : Int) ≤ (a : Int) + 64) := by omega
            have k3 : (a : Int) + 64 < (N : Int) := by omega
            have hx : Hid (((all.drop a).take 64).length = 64) := by have := hlen.out; show _ = _; omega
            have hx64 : Hid (((all.drop a).take 64).length ≤ 64) := by have := hlen.out; show _ ≤ _; omega
            generalize hxx : (all.drop a).take 64 = x at hx hx64 hsx hsx2
            have HXX := Lib.hid hxx
            clear hxx hlen hdl
            have hca : ¬ c5 = a := by have := hc5.out; omega
            obtain ⟨A6, hif, hsz⟩ : ∃ A6, Option.map (fun x => x.add a) A5 = A6 ∧ Hid (Shows wo wo.heap.size A6 x) := ⟨_, rfl, hsx.out hca⟩
            go_wp2_with (first
              | (at_make; refine wpList_make_bytes _ rfl _ _ _ rfl Tryd.underlying22 info5 .i64 .i64 _ _ 64 64 rfl rfl rfl rfl (by decide) (by decide) ?_; intro w6 hB6 hb6 hz6; have HB6 := Lib.hid hb6; have HZ6 := Lib.hid hz6; clear hb6 hz6)
              | ((with_reducible show wpList _ _ _ _ _ _); refine wpList_copy_bt rfl (.tmp 56) (.tmp 60) _ _ rfl Tryd.underlying22 info5 A6 64 64 (c5 - a) wo.heap.size 5 rfl x (show _ = Value.slice A6 x.length (c5 - a) by rw [hx.out]; first | rfl | simp [Act.eval]) (List.replicate 64 0) hB6.out wo.heap.size (hsz.out.below HB6.out) hx64.out (by simp) ?_; intro w7 v7 hb7 hg7 hz7; have HB7 := Lib.hid hb7; have HG7 := Lib.hid hg7; have HZ7 := Lib.hid hz7; clear hb7 hg7 hz7)
              | (go_at_call 59; refine (compR_at gh wo.heap.size hc (x ++ List.drop x.length (List.replicate 64 0)) _ (a + 64) false w7 (by omega) ((hs.out.hh.below HB6.out hs.out.hh.lt).grown HG7.out (by have := hs.out.hh.lt; simp; omega)) HB7.out hs.out.hl (by rw [List.drop_replicate]; exact pad_len hx64.out)).mono ?_; rintro e w8 ⟨g8, rfl, hw8, hb8⟩))
            have hLR : Hid (LR w5 w8 g8 (compressed hc (wordsOf x) (a + 64) false)) := by
              have b6 := hs.out.bel.trans (HB6.out.mono hs.out.bel.size)
              have b7 := b6.grown HG7.out (by have := hs.out.bel.size; have := HZ6.out; omega) (fun k hk => by injection hk with hk; have := hs.out.bel.size; omega)
              have b8 := b7.trans (hb8.mono b7.size)
              rw [List.drop_replicate, wordsOf_pad] at hw8
              exact ⟨hw8.out, compressed_len _ _ _ _, b8⟩
            clear hw8 hb8 HB6 HZ6 HB7 HG7 HZ7 hB6
            go_roundw
            case rel => exact ⟨g8, a + 64, _, rfl, by go_num, hLR, by have := ha.out; show _ ≤ _; omega, Or.inl ⟨Or.inr (by omega), by rw [← HXX.out]; exact step_more HN.out (by omega) hfin.out⟩⟩
            case measure => simp [intOf]; omega
          · by_cases d64 : a + 64 = N
            · skip
              have k1 : (a : Int) + 64 ≤ (N : Int) := by omega
              have k2 : (N : Int) ≤ (a : Int) + 64 := by omega
              have hx : Hid (((all.drop a).take 64).length = 64) := by have := hlen.out; show _ = _; omega
              have hx64 : Hid (((all.drop a).take 64).length ≤ 64) := by have := hlen.out; show _ ≤ _; omega
              generalize hxx : (all.drop a).take 64 = x at hx hx64 hsx hsx2
              have HXX := Lib.hid hxx
              clear hxx hlen hdl
              have hca : ¬ c5 = a := by have := hc5.out; omega
              obtain ⟨A6, hif, hsz⟩ : ∃ A6, Option.map (fun x => x.add a) A5 = A6 ∧ Hid (Shows wo wo.heap.size A6 x) := ⟨_, rfl, hsx.out hca⟩
              go_wp2_with (first
                | (at_make; refine wpList_make_bytes _ rfl _ _ _ rfl Tryd.underlying22 info5 .i64 .i64 _ _ 64 64 rfl rfl rfl rfl (by decide) (by decide) ?_; intro w6 hB6 hb6 hz6; have HB6 := Lib.hid hb6; have HZ6 := Lib.hid hz6; clear hb6 hz6)
                | ((with_reducible show wpList _ _ _ _ _ _); refine wpList_copy_bt rfl (.tmp 56) (.tmp 60) _ _ rfl Tryd.underlying22 info5 A6 64 64 (c5 - a) wo.heap.size 5 rfl x (show _ = Value.slice A6 x.length (c5 - a) by rw [hx.out]; first | rfl | simp [Act.eval]) (List.replicate 64 0) hB6.out wo.heap.size (hsz.out.below HB6.out) hx64.out (by simp) ?_; intro w7 v7 hb7 hg7 hz7; have HB7 := Lib.hid hb7; have HG7 := Lib.hid hg7; have HZ7 := Lib.hid hz7; clear hb7 hg7 hz7)
                | (go_at_call 59; refine (compR_at gh wo.heap.size hc (x ++ List.drop x.length (List.replicate 64 0)) _ N true w7 (by omega) ((hs.out.hh.below HB6.out hs.out.hh.lt).grown HG7.out (by have := hs.out.hh.lt; simp; omega)) HB7.out hs.out.hl (by rw [List.drop_replicate]; exact pad_len hx64.out)).mono ?_; rintro e w8 ⟨g8, rfl, hw8, hb8⟩))
              have hLR : Hid (LR w5 w8 g8 (compressed hc (wordsOf x) N true)) := by
                have b6 := hs.out.bel.trans (HB6.out.mono hs.out.bel.size)
                have b7 := b6.grown HG7.out (by have := hs.out.bel.size; have := HZ6.out; omega) (fun k hk => by injection hk with hk; have := hs.out.bel.size; omega)
                have b8 := b7.trans (hb8.mono b7.size)
                rw [List.drop_replicate, wordsOf_pad] at hw8
                exact ⟨hw8.out, compressed_len _ _ _ _, b8⟩
              clear hw8 hb8 HB6 HZ6 HB7 HG7 HZ7 hB6
              go_roundw
              case rel => exact ⟨g8, a + 64, _, rfl, by go_num, hLR, by have := ha.out; show _ ≤ _; omega, Or.inr ⟨⟨by omega, by omega⟩, by rw [← HXX.out]; exact step_last HN.out (by omega) (by omega) hfin.out⟩⟩
              case measure => simp [intOf]; omega
            · skip
              have k1 : (N : Int) < (a : Int) + 64 := by omega
              have k2 : (N : Int) ≤ (a : Int) + 64 := by omega
              have k3 : (a : Int) ≤ (N : Int) := by omega
              have hx : Hid (((all.drop a).take 64).length = (N - a)) := by have := hlen.out; show _ = _; omega
              have hx64 : Hid (((all.drop a).take 64).length ≤ 64) := by have := hlen.out; show _ ≤ _; omega
              generalize hxx : (all.drop a).take 64 = x at hx hx64 hsx hsx2
              have HXX := Lib.hid hxx
              clear hxx hlen hdl
              obtain ⟨A6, hif, hsz⟩ : ∃ A6, (if c5 = a then A5 else Option.map (fun x => x.add a) A5) = A6 ∧ Hid (Shows wo wo.heap.size A6 x) := ⟨if c5 = a then A5 else Option.map (fun x => x.add a) A5, rfl, if h : c5 = a then (show Shows _ _ _ _ by rw [if_pos h]; exact hsx2.out h) else (show Shows _ _ _ _ by rw [if_neg h]; exact hsx.out h)⟩
              go_wp2_with (first
                | (at_make; refine wpList_make_bytes _ rfl _ _ _ rfl Tryd.underlying22 info5 .i64 .i64 _ _ 64 64 rfl rfl rfl rfl (by decide) (by decide) ?_; intro w6 hB6 hb6 hz6; have HB6 := Lib.hid hb6; have HZ6 := Lib.hid hz6; clear hb6 hz6)
                | ((with_reducible show wpList _ _ _ _ _ _); refine wpList_copy_bt rfl (.tmp 56) (.tmp 60) _ _ rfl Tryd.underlying22 info5 A6 64 64 (c5 - a) wo.heap.size 5 rfl x (show _ = Value.slice A6 x.length (c5 - a) by rw [hx.out]; first | rfl | simp [Act.eval]) (List.replicate 64 0) hB6.out wo.heap.size (hsz.out.below HB6.out) hx64.out (by simp) ?_; intro w7 v7 hb7 hg7 hz7; have HB7 := Lib.hid hb7; have HG7 := Lib.hid hg7; have HZ7 := Lib.hid hz7; clear hb7 hg7 hz7)
                | (go_at_call 59; refine (compR_at gh wo.heap.size hc (x ++ List.drop x.length (List.replicate 64 0)) _ N true w7 (by omega) ((hs.out.hh.below HB6.out hs.out.hh.lt).grown HG7.out (by have := hs.out.hh.lt; simp; omega)) HB7.out hs.out.hl (by rw [List.drop_replicate]; exact pad_len hx64.out)).mono ?_; rintro e w8 ⟨g8, rfl, hw8, hb8⟩))
              have hLR : Hid (LR w5 w8 g8 (compressed hc (wordsOf x) N true)) := by
                have b6 := hs.out.bel.trans (HB6.out.mono hs.out.bel.size)
                have b7 := b6.grown HG7.out (by have := hs.out.bel.size; have := HZ6.out; omega) (fun k hk => by injection hk with hk; have := hs.out.bel.size; omega)
                have b8 := b7.trans (hb8.mono b7.size)
                rw [List.drop_replicate, wordsOf_pad] at hw8
                exact ⟨hw8.out, compressed_len _ _ _ _, b8⟩
              clear hw8 hb8 HB6 HZ6 HB7 HG7 HZ7 hB6
              go_roundw
              case rel => exact ⟨g8, a + 64, _, rfl, by go_num, hLR, by have := ha.out; show _ ≤ _; omega, Or.inr ⟨⟨by omega, by omega⟩, by rw [← HXX.out]; exact step_last HN.out (by omega) (by omega) hfin.out⟩⟩
              case measure => simp [intOf]; omega
        · by_cases hz : a = 0
          · have e1 : ((a : Int) == 0) = true := by simp [hz]
            have haN : a ≤ N := by omega
            clear hz
            have hshc := cut_shows hshA.out (k := a) (n := ((all.drop a).take 64).length) (cap := c5) (by have := hlen.out; have := HN.out; omega) (by rw [← HN.out]; exact hc5.out.1)
            have etk : (all.drop a).take ((all.drop a).take 64).length = (all.drop a).take 64 := take_len _ _
            rw [etk] at hshc
            have hsx : Hid (¬ c5 = a → Shows wo wo.heap.size (A5.map (fun x => x.add a)) ((all.drop a).take 64)) := hshc.1
            have hsx2 : Hid (c5 = a → Shows wo wo.heap.size A5 ((all.drop a).take 64)) := hshc.2
            clear hshc etk hshA
            by_cases c64 : a + 64 < N
            · skip
              have k1 : (a : Int) + 64 ≤ (N : Int) := by omega
              have k2 : ¬ ((N : Int) ≤ (a : Int) + 64) := by omega
              have k3 : (a : Int) + 64 < (N : Int) := by omega
              have hx : Hid (((all.drop a).take 64).length = 64) := by have := hlen.out; show _ = _; omega
              have hx64 : Hid (((all.drop a).take 64).length ≤ 64) := by have := hlen.out; show _ ≤ _; omega
              generalize hxx : (all.drop a).take 64 = x at hx hx64 hsx hsx2
              have HXX := Lib.hid hxx
              clear hxx hlen hdl
              have hca : ¬ c5 = a := by have := hc5.out; omega
              obtain ⟨A6, hif, hsz⟩ : ∃ A6, Option.map (fun x => x.add a) A5 = A6 ∧ Hid (Shows wo wo.heap.size A6 x) := ⟨_, rfl, hsx.out hca⟩
              go_wp2_with (first
                | (at_make; refine wpList_make_bytes _ rfl _ _ _ rfl Tryd.underlying22 info5 .i64 .i64 _ _ 64 64 rfl rfl rfl rfl (by decide) (by decide) ?_; intro w6 hB6 hb6 hz6; have HB6 := Lib.hid hb6; have HZ6 := Lib.hid hz6; clear hb6 hz6)
                | ((with_reducible show wpList _ _ _ _ _ _); refine wpList_copy_bt rfl (.tmp 56) (.tmp 60) _ _ rfl Tryd.underlying22 info5 A6 64 64 (c5 - a) wo.heap.size 5 rfl x (show _ = Value.slice A6 x.length (c5 - a) by rw [hx.out]; first | rfl | simp [Act.eval]) (List.replicate 64 0) hB6.out wo.heap.size (hsz.out.below HB6.out) hx64.out (by simp) ?_; intro w7 v7 hb7 hg7 hz7; have HB7 := Lib.hid hb7; have HG7 := Lib.hid hg7; have HZ7 := Lib.hid hz7; clear hb7 hg7 hz7)
                | (go_at_call 59; refine (compR_at gh wo.heap.size hc (x ++ List.drop x.length (List.replicate 64 0)) _ (a + 64) false w7 (by omega) ((hs.out.hh.below HB6.out hs.out.hh.lt).grown HG7.out (by have := hs.out.hh.lt; simp; omega)) HB7.out hs.out.hl (by rw [List.drop_replicate]; exact pad_len hx64.out)).mono ?_; rintro e w8 ⟨g8, rfl, hw8, hb8⟩))
              have hLR : Hid (LR w5 w8 g8 (compressed hc (wordsOf x) (a + 64) false)) := by
                have b6 := hs.out.bel.trans (HB6.out.mono hs.out.bel.size)
                have b7 := b6.grown HG7.out (by have := hs.out.bel.size; have := HZ6.out; omega) (fun k hk => by injection hk with hk; have := hs.out.bel.size; omega)
                have b8 := b7.trans (hb8.mono b7.size)
                rw [List.drop_replicate, wordsOf_pad] at hw8
                exact ⟨hw8.out, compressed_len _ _ _ _, b8⟩
              clear hw8 hb8 HB6 HZ6 HB7 HG7 HZ7 hB6
              go_roundw
              case rel => exact ⟨g8, a + 64, _, rfl, by go_num, hLR, by have := ha.out; show _ ≤ _; omega, Or.inl ⟨Or.inr (by omega), by rw [← HXX.out]; exact step_more HN.out (by omega) hfin.out⟩⟩
              case measure => simp [intOf]; omega
            · by_cases d64 : a + 64 = N
              · skip
                have k1 : (a : Int) + 64 ≤ (N : Int) := by omega
                have k2 : (N : Int) ≤ (a : Int) + 64 := by omega
                have hx : Hid (((all.drop a).take 64).length = 64) := by have := hlen.out; show _ = _; omega
                have hx64 : Hid (((all.drop a).take 64).length ≤ 64) := by have := hlen.out; show _ ≤ _; omega
                generalize hxx : (all.drop a).take 64 = x at hx hx64 hsx hsx2
                have HXX := Lib.hid hxx
                clear hxx hlen hdl
                have hca : ¬ c5 = a := by have := hc5.out; omega
                obtain ⟨A6, hif, hsz⟩ : ∃ A6, Option.map (fun x => x.add a) A5 = A6 ∧ Hid (Shows wo wo.heap.size A6 x) := ⟨_, rfl, hsx.out hca⟩
                go_wp2_with (first
                  | (at_make; refine wpList_make_bytes _ rfl _ _ _ rfl Tryd.underlying22 info5 .i64 .i64 _ _ 64 64 rfl rfl rfl rfl (by decide) (by decide) ?_; intro w6 hB6 hb6 hz6; have HB6 := Lib.hid hb6; have HZ6 := Lib.hid hz6; clear hb6 hz6)
                  | ((with_reducible show wpList _ _ _ _ _ _); refine wpList_copy_bt rfl (.tmp 56) (.tmp 60) _ _ rfl Tryd.underlying22 info5 A6 64 64 (c5 - a) wo.heap.size 5 rfl x (show _ = Value.slice A6 x.length (c5 - a) by rw [hx.out]; first | rfl | simp [Act.eval]) (List.replicate 64 0) hB6.out wo.heap.size (hsz.out.below HB6.out) hx64.out (by simp) ?_; intro w7 v7 hb7 hg7 hz7; have HB7 := Lib.hid hb7; have HG7 := Lib.hid hg7; have HZ7 := Lib.hid hz7; clear hb7 hg7 hz7)
                  | (go_at_call 59; refine (compR_at gh wo.heap.size hc (x ++ List.drop x.length (List.replicate 64 0)) _ N true w7 (by omega) ((hs.out.hh.below HB6.out hs.out.hh.lt).grown HG7.out (by have := hs.out.hh.lt; simp; omega)) HB7.out hs.out.hl (by rw [List.drop_replicate]; exact pad_len hx64.out)).mono ?_; rintro e w8 ⟨g8, rfl, hw8, hb8⟩))
                have hLR : Hid (LR w5 w8 g8 (compressed hc (wordsOf x) N true)) := by
                  have b6 := hs.out.bel.trans (HB6.out.mono hs.out.bel.size)
                  have b7 := b6.grown HG7.out (by have := hs.out.bel.size; have := HZ6.out; omega) (fun k hk => by injection hk with hk; have := hs.out.bel.size; omega)
                  have b8 := b7.trans (hb8.mono b7.size)
                  rw [List.drop_replicate, wordsOf_pad] at hw8
                  exact ⟨hw8.out, compressed_len _ _ _ _, b8⟩
                clear hw8 hb8 HB6 HZ6 HB7 HG7 HZ7 hB6
                go_roundw
                case rel => exact ⟨g8, a + 64, _, rfl, by go_num, hLR, by have := ha.out; show _ ≤ _; omega, Or.inr ⟨⟨by omega, by omega⟩, by rw [← HXX.out]; exact step_last HN.out (by omega) (by omega) hfin.out⟩⟩
                case measure => simp [intOf]; omega
              · skip
                have k1 : (N : Int) < (a : Int) + 64 := by omega
                have k2 : (N : Int) ≤ (a : Int) + 64 := by omega
                have k3 : (a : Int) ≤ (N : Int) := by omega
                have hx : Hid (((all.drop a).take 64).length = (N - a)) := by have := hlen.out; show _ = _; omega
                have hx64 : Hid (((all.drop a).take 64).length ≤ 64) := by have := hlen.out; show _ ≤ _; omega
                generalize hxx : (all.drop a).take 64 = x at hx hx64 hsx hsx2
                have HXX := Lib.hid hxx
                clear hxx hlen hdl
                have hca : ¬ c5 = a := by have := hc5.out; omega
                obtain ⟨A6, hif, hsz⟩ : ∃ A6, Option.map (fun x => x.add a) A5 = A6 ∧ Hid (Shows wo wo.heap.size A6 x) := ⟨_, rfl, hsx.out hca⟩
                go_wp2_with (first
                  | (at_make; refine wpList_make_bytes _ rfl _ _ _ rfl Tryd.underlying22 info5 .i64 .i64 _ _ 64 64 rfl rfl rfl rfl (by decide) (by decide) ?_; intro w6 hB6 hb6 hz6; have HB6 := Lib.hid hb6; have HZ6 := Lib.hid hz6; clear hb6 hz6)
                  | ((with_reducible show wpList _ _ _ _ _ _); refine wpList_copy_bt rfl (.tmp 56) (.tmp 60) _ _ rfl Tryd.underlying22 info5 A6 64 64 (c5 - a) wo.heap.size 5 rfl x (show _ = Value.slice A6 x.length (c5 - a) by rw [hx.out]; first | rfl | simp [Act.eval]) (List.replicate 64 0) hB6.out wo.heap.size (hsz.out.below HB6.out) hx64.out (by simp) ?_; intro w7 v7 hb7 hg7 hz7; have HB7 := Lib.hid hb7; have HG7 := Lib.hid hg7; have HZ7 := Lib.hid hz7; clear hb7 hg7 hz7)
                  | (go_at_call 59; refine (compR_at gh wo.heap.size hc (x ++ List.drop x.length (List.replicate 64 0)) _ N true w7 (by omega) ((hs.out.hh.below HB6.out hs.out.hh.lt).grown HG7.out (by have := hs.out.hh.lt; simp; omega)) HB7.out hs.out.hl (by rw [List.drop_replicate]; exact pad_len hx64.out)).mono ?_; rintro e w8 ⟨g8, rfl, hw8, hb8⟩))
                have hLR : Hid (LR w5 w8 g8 (compressed hc (wordsOf x) N true)) := by
                  have b6 := hs.out.bel.trans (HB6.out.mono hs.out.bel.size)
                  have b7 := b6.grown HG7.out (by have := hs.out.bel.size; have := HZ6.out; omega) (fun k hk => by injection hk with hk; have := hs.out.bel.size; omega)
                  have b8 := b7.trans (hb8.mono b7.size)
                  rw [List.drop_replicate, wordsOf_pad] at hw8
                  exact ⟨hw8.out, compressed_len _ _ _ _, b8⟩
                clear hw8 hb8 HB6 HZ6 HB7 HG7 HZ7 hB6
                go_roundw
                case rel => exact ⟨g8, a + 64, _, rfl, by go_num, hLR, by have := ha.out; show _ ≤ _; omega, Or.inr ⟨⟨by omega, by omega⟩, by rw [← HXX.out]; exact step_last HN.out (by omega) (by omega) hfin.out⟩⟩
                case measure => simp [intOf]; omega
          · have e1 : ((a : Int) == 0) = false := by simpa using hz
            have e2 : (a : Int) < (N : Int) := by omega
            have haN : a ≤ N := by omega
            have hshc := cut_shows hshA.out (k := a) (n := ((all.drop a).take 64).length) (cap := c5) (by have := hlen.out; have := HN.out; omega) (by rw [← HN.out]; exact hc5.out.1)
            have etk : (all.drop a).take ((all.drop a).take 64).length = (all.drop a).take 64 := take_len _ _
            rw [etk] at hshc
            have hsx : Hid (¬ c5 = a → Shows wo wo.heap.size (A5.map (fun x => x.add a)) ((all.drop a).take 64)) := hshc.1
            have hsx2 : Hid (c5 = a → Shows wo wo.heap.size A5 ((all.drop a).take 64)) := hshc.2
            clear hshc etk hshA
            by_cases c64 : a + 64 < N
            · skip
              have k1 : (a : Int) + 64 ≤ (N : Int) := by omega
              have k2 : ¬ ((N : Int) ≤ (a : Int) + 64) := by omega
              have k3 : (a : Int) + 64 < (N : Int) := by omega
              have hx : Hid (((all.drop a).take 64).length = 64) := by have := hlen.out; show _ = _; omega
              have hx64 : Hid (((all.drop a).take 64).length ≤ 64) := by have := hlen.out; show _ ≤ _; omega
              generalize hxx : (all.drop a).take 64 = x at hx hx64 hsx hsx2
              have HXX := Lib.hid hxx
              clear hxx hlen hdl
              have hca : ¬ c5 = a := by have := hc5.out; omega
              obtain ⟨A6, hif, hsz⟩ : ∃ A6, Option.map (fun x => x.add a) A5 = A6 ∧ Hid (Shows wo wo.heap.size A6 x) := ⟨_, rfl, hsx.out hca⟩
              go_wp2_with (first
                | (at_make; refine wpList_make_bytes _ rfl _ _ _ rfl Tryd.underlying22 info5 .i64 .i64 _ _ 64 64 rfl rfl rfl rfl (by decide) (by decide) ?_; intro w6 hB6 hb6 hz6; have HB6 := Lib.hid hb6; have HZ6 := Lib.hid hz6; clear hb6 hz6)
                | ((with_reducible show wpList _ _ _ _ _ _); refine wpList_copy_bt rfl (.tmp 56) (.tmp 60) _ _ rfl Tryd.underlying22 info5 A6 64 64 (c5 - a) wo.heap.size 5 rfl x (show _ = Value.slice A6 x.length (c5 - a) by rw [hx.out]; first | rfl | simp [Act.eval]) (List.replicate 64 0) hB6.out wo.heap.size (hsz.out.below HB6.out) hx64.out (by simp) ?_; intro w7 v7 hb7 hg7 hz7; have HB7 := Lib.hid hb7; have HG7 := Lib.hid hg7; have HZ7 := Lib.hid hz7; clear hb7 hg7 hz7)
                | (go_at_call 59; refine (compR_at gh wo.heap.size hc (x ++ List.drop x.length (List.replicate 64 0)) _ (a + 64) false w7 (by omega) ((hs.out.hh.below HB6.out hs.out.hh.lt).grown HG7.out (by have := hs.out.hh.lt; simp; omega)) HB7.out hs.out.hl (by rw [List.drop_replicate]; exact pad_len hx64.out)).mono ?_; rintro e w8 ⟨g8, rfl, hw8, hb8⟩))
              have hLR : Hid (LR w5 w8 g8 (compressed hc (wordsOf x) (a + 64) false)) := by
                have b6 := hs.out.bel.trans (HB6.out.mono hs.out.bel.size)
                have b7 := b6.grown HG7.out (by have := hs.out.bel.size; have := HZ6.out; omega) (fun k hk => by injection hk with hk; have := hs.out.bel.size; omega)
                have b8 := b7.trans (hb8.mono b7.size)
                rw [List.drop_replicate, wordsOf_pad] at hw8
                exact ⟨hw8.out, compressed_len _ _ _ _, b8⟩
              clear hw8 hb8 HB6 HZ6 HB7 HG7 HZ7 hB6
              go_roundw
              case rel => exact ⟨g8, a + 64, _, rfl, by go_num, hLR, by have := ha.out; show _ ≤ _; omega, Or.inl ⟨Or.inr (by omega), by rw [← HXX.out]; exact step_more HN.out (by omega) hfin.out⟩⟩
              case measure => simp [intOf]; omega
            · by_cases d64 : a + 64 = N
              · skip
                have k1 : (a : Int) + 64 ≤ (N : Int) := by omega
                have k2 : (N : Int) ≤ (a : Int) + 64 := by omega
                have hx : Hid (((all.drop a).take 64).length = 64) := by have := hlen.out; show _ = _; omega
                have hx64 : Hid (((all.drop a).take 64).length ≤ 64) := by have := hlen.out; show _ ≤ _; omega
                generalize hxx : (all.drop a).take 64 = x at hx hx64 hsx hsx2
                have HXX := Lib.hid hxx
                clear hxx hlen hdl
                have hca : ¬ c5 = a := by have := hc5.out; omega
                obtain ⟨A6, hif, hsz⟩ : ∃ A6, Option.map (fun x => x.add a) A5 = A6 ∧ Hid (Shows wo wo.heap.size A6 x) := ⟨_, rfl, hsx.out hca⟩
                go_wp2_with (first
                  | (at_make; refine wpList_make_bytes _ rfl _ _ _ rfl Tryd.underlying22 info5 .i64 .i64 _ _ 64 64 rfl rfl rfl rfl (by decide) (by decide) ?_; intro w6 hB6 hb6 hz6; have HB6 := Lib.hid hb6; have HZ6 := Lib.hid hz6; clear hb6 hz6)
                  | ((with_reducible show wpList _ _ _ _ _ _); refine wpList_copy_bt rfl (.tmp 56) (.tmp 60) _ _ rfl Tryd.underlying22 info5 A6 64 64 (c5 - a) wo.heap.size 5 rfl x (show _ = Value.slice A6 x.length (c5 - a) by rw [hx.out]; first | rfl | simp [Act.eval]) (List.replicate 64 0) hB6.out wo.heap.size (hsz.out.below HB6.out) hx64.out (by simp) ?_; intro w7 v7 hb7 hg7 hz7; have HB7 := Lib.hid hb7; have HG7 := Lib.hid hg7; have HZ7 := Lib.hid hz7; clear hb7 hg7 hz7)
                  | (go_at_call 59; refine (compR_at gh wo.heap.size hc (x ++ List.drop x.length (List.replicate 64 0)) _ N true w7 (by omega) ((hs.out.hh.below HB6.out hs.out.hh.lt).grown HG7.out (by have := hs.out.hh.lt; simp; omega)) HB7.out hs.out.hl (by rw [List.drop_replicate]; exact pad_len hx64.out)).mono ?_; rintro e w8 ⟨g8, rfl, hw8, hb8⟩))
                have hLR : Hid (LR w5 w8 g8 (compressed hc (wordsOf x) N true)) := by
                  have b6 := hs.out.bel.trans (HB6.out.mono hs.out.bel.size)
                  have b7 := b6.grown HG7.out (by have := hs.out.bel.size; have := HZ6.out; omega) (fun k hk => by injection hk with hk; have := hs.out.bel.size; omega)
                  have b8 := b7.trans (hb8.mono b7.size)
                  rw [List.drop_replicate, wordsOf_pad] at hw8
                  exact ⟨hw8.out, compressed_len _ _ _ _, b8⟩
                clear hw8 hb8 HB6 HZ6 HB7 HG7 HZ7 hB6
                go_roundw
                case rel => exact ⟨g8, a + 64, _, rfl, by go_num, hLR, by have := ha.out; show _ ≤ _; omega, Or.inr ⟨⟨by omega, by omega⟩, by rw [← HXX.out]; exact step_last HN.out (by omega) (by omega) hfin.out⟩⟩
                case measure => simp [intOf]; omega
              · skip
                have k1 : (N : Int) < (a : Int) + 64 := by omega
                have k2 : (N : Int) ≤ (a : Int) + 64 := by omega
                have k3 : (a : Int) ≤ (N : Int) := by omega
                have hx : Hid (((all.drop a).take 64).length = (N - a)) := by have := hlen.out; show _ = _; omega
                have hx64 : Hid (((all.drop a).take 64).length ≤ 64) := by have := hlen.out; show _ ≤ _; omega
                generalize hxx : (all.drop a).take 64 = x at hx hx64 hsx hsx2
                have HXX := Lib.hid hxx
                clear hxx hlen hdl
                have hca : ¬ c5 = a := by have := hc5.out; omega
                obtain ⟨A6, hif, hsz⟩ : ∃ A6, Option.map (fun x => x.add a) A5 = A6 ∧ Hid (Shows wo wo.heap.size A6 x) := ⟨_, rfl, hsx.out hca⟩
                go_wp2_with (first
                  | (at_make; refine wpList_make_bytes _ rfl _ _ _ rfl Tryd.underlying22 info5 .i64 .i64 _ _ 64 64 rfl rfl rfl rfl (by decide) (by decide) ?_; intro w6 hB6 hb6 hz6; have HB6 := Lib.hid hb6; have HZ6 := Lib.hid hz6; clear hb6 hz6)
                  | ((with_reducible show wpList _ _ _ _ _ _); refine wpList_copy_bt rfl (.tmp 56) (.tmp 60) _ _ rfl Tryd.underlying22 info5 A6 64 64 (c5 - a) wo.heap.size 5 rfl x (show _ = Value.slice A6 x.length (c5 - a) by rw [hx.out]; first | rfl | simp [Act.eval]) (List.replicate 64 0) hB6.out wo.heap.size (hsz.out.below HB6.out) hx64.out (by simp) ?_; intro w7 v7 hb7 hg7 hz7; have HB7 := Lib.hid hb7; have HG7 := Lib.hid hg7; have HZ7 := Lib.hid hz7; clear hb7 hg7 hz7)
                  | (go_at_call 59; refine (compR_at gh wo.heap.size hc (x ++ List.drop x.length (List.replicate 64 0)) _ N true w7 (by omega) ((hs.out.hh.below HB6.out hs.out.hh.lt).grown HG7.out (by have := hs.out.hh.lt; simp; omega)) HB7.out hs.out.hl (by rw [List.drop_replicate]; exact pad_len hx64.out)).mono ?_; rintro e w8 ⟨g8, rfl, hw8, hb8⟩))
                have hLR : Hid (LR w5 w8 g8 (compressed hc (wordsOf x) N true)) := by
                  have b6 := hs.out.bel.trans (HB6.out.mono hs.out.bel.size)
                  have b7 := b6.grown HG7.out (by have := hs.out.bel.size; have := HZ6.out; omega) (fun k hk => by injection hk with hk; have := hs.out.bel.size; omega)
                  have b8 := b7.trans (hb8.mono b7.size)
                  rw [List.drop_replicate, wordsOf_pad] at hw8
                  exact ⟨hw8.out, compressed_len _ _ _ _, b8⟩
                clear hw8 hb8 HB6 HZ6 HB7 HG7 HZ7 hB6
                go_roundw
                case rel => exact ⟨g8, a + 64, _, rfl, by go_num, hLR, by have := ha.out; show _ ≤ _; omega, Or.inr ⟨⟨by omega, by omega⟩, by rw [← HXX.out]; exact step_last HN.out (by omega) (by omega) hfin.out⟩⟩
                case measure => simp [intOf]; omega
      · skip
        clear hor
        obtain rfl := hfin
        have e1 : ((a : Int) == 0) = false := by simpa using hz
        have e2 : decide (a < N) = false := by simp; omega
        have e3 : ¬ ((a : Int) < (N : Int)) := by omega
        clear hz
        go_wp2_with ((with_reducible show wpList _ _ _ _ _ _); refine wpList_store_all rfl 68 (.tmp 10) (.tmp 73) rfl wo.heap.size (cb (List.replicate 32 0)) rfl rfl 68 (cb (List.replicate 32 0)).toArray 32 (bt_new rfl rfl) info24D (by simp [cb]) (by simp [cb]) (cb_one _) ?_; intro w7 hb7 hg7 hz7; have HZ7 := Lib.hid hz7; clear hz7)
        have hbt7 : Hid (BT w7 wo.heap.size 68 (laid1 hc 0)) := hb7
        have hb57 : Below w5.heap.size w5 w7 := (hs.out.bel.alloc hs.out.bel.size _).grown hg7 (by have := hs.out.bel.size; simp; omega) (fun k hk => by injection hk with hk; have := hs.out.bel.size; omega)
        have hh7 : Hid (WB w7 gh 74 hc) := (hs.out.hh.alloc _).grown hg7 (by have := hs.out.hh.lt; simp; omega)
        have hbel7 : Hid (Below B w w7) := HS5.out.2.2.1.trans (hb57.mono HB5.out.1)
        have hr7 : Hid (BT w7 B 68 (List.replicate 32 0)) := HS5.out.2.2.2.below hb57 HB5.out.2
        have hlow : Hid (B < wo.heap.size ∧ gh < wo.heap.size ∧ wo.heap.size < w7.heap.size) := ⟨by have := hs.out.bel.size; have := HB5.out.2; omega, hs.out.hh.lt, by have := HZ7.out; simp at this; omega⟩
        have hl8 := Lib.hid hs.out.hl
        clear hb7 hg7 HZ7 hb57 hs
        generalize wo.heap.size = go at hbt7 hlow ⊢
        go_loopw [11] (fun u wr => ∃ i : Nat, i ≤ 32 ∧ u = .int .i64 i ∧ Hid (BT wr go 68 (laid1 hc i)) ∧ Hid (WB wr gh 74 hc) ∧ Hid (Below B w wr) ∧ Hid (BT wr B 68 (List.replicate 32 0)) ∧ Hid (go < wr.heap.size)) (fun u _ => 32 - (intOf u).toNat)
        case atStart => exact ⟨0, by omega, rfl, hbt7, hh7, hbel7, hr7, hlow.out.2.2⟩
        case round =>
          clear hbt7 hh7 hbel7 hr7
          obtain ⟨i, hi, rfl, hbt, hhw, hbel, hrr, hgo⟩ := hrel
          obtain ⟨wi, hwi⟩ : ∃ wi : World, wi = wr := ⟨_, rfl⟩
          subst hwi
          by_cases hlt : i < 32
          · have ch := hhw.out.cell (i / 4) (by rw [hl8.out]; omega)
            have co := hbt.out.cell i (by rw [laid1_len]; exact hlt)
            have fo := hbt.out.frozen i
            have i1 : (i : Int) < 32 := by omega
            have i2 : (i : Int) / 4 < 8 := by omega
            go_wp2
            go_roundw
            case rel =>
              rw [← low8_int]
              exact ⟨i + 1, by omega, by go_num, hbt.out.set_ i _, hhw.out.grown (grown_set _ _ _ _) (by have := hlow.out; simp; omega), (hbel.out.setCell (by have := hlow.out; simp; omega) _), hrr.out.grown (grown_set _ _ _ _) (by have := hlow.out; simp; omega), by have := hgo.out; show _ < _; simp [World.setCell]; exact this⟩
            case measure => simp [intOf]; omega
          · have hi32 : i = 32 := by omega
            rw [hi32, laid1_32] at hbt
            clear hi32 hi
            go_wp2_with (first
              | ((with_reducible show wpList _ _ _ _ _ _); refine wpList_load_all rfl 68 (.tmp 10) rfl go rfl 68 (cb (bytesOf hc)) 5 32 hbt.out Tryd.underlying68 info24D (by rw [cb_len, bytesOf_len]) ?_)
              | ((with_reducible show wpList _ _ _ _ _ _); refine wpList_store_all rfl 68 (.tmp 4) (.tmp 91) rfl B (cb (bytesOf hc)) rfl rfl 68 _ 32 hrr.out info24D (by simp [cb]) (by rw [cb_len, bytesOf_len]) (cb_one _) ?_; intro w9 hb9 hg9 hz9; have HZ9 := Lib.hid hz9; clear hz9))
            have hbelz : Below B w w9 := hbel.out.grown hg9 (by have := hlow.out; have := hgo.out; omega) (fun k hk => by injection hk with hk; omega)
            refine bodyPost_ret (v := .agg (cb (bytesOf hc)).toArray) (results_cell_row Tryd.results53 _ w9 B 68 _ (0, 0) _ rfl hb9 Tryd.underlying68 rfl (by rw [info24D]; simp [cb_len, bytesOf_len])) rfl ⟨by rw [HF2.out], by rw [HB.out]; exact hbelz⟩
  · by_cases h32 : n ≤ 32
    · skip
      have i1 : (n : Int) ≤ 32 := by omega
      have i2 : (n : Int) ≤ (capk : Int) := by omega
      have i3 : (0 : Int) < (n : Int) := by have := hmin.out; omega
      have i4 : decide (0 < n) = true := by have := hmin.out; simp; omega
      have hp := wd_param' n h32
      have HNK : Hid (n = k.length) := by have := hmin.out; show _ = _; omega
      have HF : Hid (digestOf key b = bytesOf (fin (head n) k b 64)) := by show _ = _; rw [HD.out, if_neg h0, HNK.out]
      clear hmin h0 h32 HD
      obtain ⟨pk, hpk⟩ : ∃ u, u = k ++ List.replicate (64 - k.length) 0 := ⟨_, rfl⟩
      have HQK : Hid (k ++ List.drop k.length (List.replicate 64 0) = pk) := by show _ = _; rw [hpk, List.drop_replicate]
      have HPL : Hid (pk.length = 64) := by show _ = _; rw [hpk]; exact pad_len (by have := HK32.out; omega)
      obtain ⟨all, hall⟩ : ∃ u, u = pk ++ b := ⟨_, rfl⟩
      obtain ⟨N, hNe⟩ : ∃ N, N = (pk ++ b).length := ⟨_, rfl⟩
      have HNe := Lib.hid hNe
      clear hNe
      have hNle : Hid (N ≤ 1000064) := by have h1 := HNe.out; have h2 := HPL.out; rw [List.length_append] at h1; show _ ≤ _; omega
      obtain ⟨F, hF⟩ : ∃ F, F = fin (head n) k b 64 := ⟨_, rfl⟩
      have HF5 : Hid (fin (head n) ((all.drop 0).take 64) ((all.drop 0).drop 64) (0 + ((all.drop 0).take 64).length) = F) := by
        show _ = _
        have e1 : (pk ++ b).take 64 = pk := by rw [← HPL.out]; exact List.take_left
        have e2 : (pk ++ b).drop 64 = b := by rw [← HPL.out]; exact List.drop_left
        rw [hall, List.drop_zero, e1, e2, HPL.out, hF, hpk, fin_pad]
      clear hpk
      have HF2 : Hid (digestOf key b = bytesOf F) := by show _ = _; rw [HF.out, hF]
      have HALL := Lib.hid hall
      clear hF HF hall
      go_enter Tryd.func53, Tryd.ntmps53
      go_wp2_with (first
        | (go_at_call 58; refine (start_is _ (w.heap.size + 1) (by simp)).mono ?_; rintro e w2 ⟨rfl, hiv, hb2, hz2⟩; have c0 := hiv.out.cell 0 (by decide); have f0 := hiv.out.frozen 0; have hbw : Hid (Below w.heap.size w w2) := (below_alloc _).trans (hb2.mono (by simp)); have hr2 : Hid (BT w2 w.heap.size 68 (List.replicate 32 0)) := (bt_new (w := w) (c := (cb (List.replicate 32 0)).toArray) (n := 32) rfl rfl).below hb2 (by simp); clear hb2)
        | (at_make; refine wpList_make_bytes _ rfl _ _ _ rfl Tryd.underlying22 info5 .i64 .i64 _ _ 64 64 rfl rfl rfl rfl (by decide) (by decide) ?_; intro w6 hB6 hb6 hz6; have HB6 := Lib.hid hb6; have HZ6 : Hid (w6.heap.size = w2.heap.size + 1 + 1) := (show _ = _ by rw [hz6]; simp [World.setCell]); have hb6 : Hid (Below w.heap.size w w6) := ((hbw.out.setCell (by simp) _).alloc (by have := hbw.out.size; simp [World.setCell]; omega) _).trans (HB6.out.mono (by have := hbw.out.size; simp [World.setCell]; omega)); have hX6 : Hid (BT w6 (w2.heap.size + 1) 5 (List.replicate 64 0)) := (show BT _ _ _ _ by have := hB6.out; simpa [World.setCell, BT, Blk] using this); clear hz6)
        | ((with_reducible show wpList _ _ _ _ _ _); refine wpList_copy_bt rfl (.tmp 34) (.tmp 35) _ _ rfl Tryd.underlying22 info5 K 64 64 capk (w2.heap.size + 1) 5 rfl k (show _ = Value.slice _ _ _ by rw [← HNK.out]; rfl) (List.replicate 64 0) hX6.out w.heap.size (hks.out.below hb6.out) (by have := HK32.out; omega) (by simp) ?_; intro w7 v7 hb7 hg7 hz7; rw [HQK.out] at hb7; have HB7 := Lib.hid hb7; have HG7 := Lib.hid hg7; have HZ7 := Lib.hid hz7; clear hb7 hg7 hz7)
        | (at_builtin; refine wpList_growL rfl (.tmp 37) (.tmp 38) _ rfl Tryd.underlying22 info5 (w2.heap.size + 1) (.slice (some ⟨w2.heap.size + 1, 0, none⟩) 64 64) pk A b.length b cap w.heap.size N rfl HNe.out rfl rfl (bt_owns HB7.out HPL.out.symm (by rw [HPL.out]; decide) (Nat.le_refl _)) (HA.out.below (hb6.out.grown HG7.out (by have := hb6.out.size; omega) (fun k hk => by injection hk with hk; have := hbw.out.size; omega))) (by rw [HPL.out]; omega) (by have := HZ7.out; have := HZ6.out; omega) ?_; intro A5 c5 w5 HO5 HG5))
      rw [← HALL.out] at HO5
      have HZ2 : Hid (w2.heap.size = w.heap.size + 1 + 1) := hz2
      have b2 := hb6.out.grown HG7.out hb6.out.size (fun k hk => by injection hk with hk; have := HZ2.out; omega)
      have b5 : Below w.heap.size w w5 := b2.grown HG5.out b2.size (fun k hk => by have := own_at hk; have := HZ2.out; omega)
      have hh5 : WB w5 (w.heap.size + 1) 74 (head n) := ((((hiv.out.set_ 0 _).alloc _).up HB6.out).grown HG7.out (by have := HZ2.out; simp; omega)).grown HG5.out (fun e => by have := own_at e.symm; have := HZ2.out; omega)
      have hr5 : BT w5 w.heap.size 68 (List.replicate 32 0) := ((((hr2.out.grown (grown_set _ _ _ _) (by simp)).alloc _).up HB6.out).grown HG7.out (by have := HZ2.out; simp; omega)).grown HG5.out (fun e => by have := own_at e.symm; have := HZ2.out; omega)
      have ho := Owns.shows HO5.out
      have HN : Hid (N = all.length) := ho.1
      have hc5 : Hid (N ≤ c5 ∧ 0 ≤ c5) := ⟨by rw [ho.1]; exact ho.2.1, Nat.zero_le _⟩
      have hc5i : (N : Int) ≤ (c5 : Int) := by have := hc5.out; omega
      have HS5 : Hid (Shows w5 w5.heap.size A5 all ∧ WB w5 (w.heap.size + 1) 74 (head n) ∧ Below w.heap.size w w5 ∧ BT w5 w.heap.size 68 (List.replicate 32 0)) := ⟨ho.2.2, hh5, b5, hr5⟩
      have HB5 : Hid (w.heap.size ≤ w5.heap.size ∧ w.heap.size < w5.heap.size) := ⟨b5.size, hr5.lt⟩
      clear ho hh5 b5 hr5 b2 HO5 HG5 hiv c0 f0 hbw hr2 hz2
      generalize hB : w.heap.size = B at HS5 HB5 ⊢
      have HB := Lib.hid hB
      clear hB
      go_loopw [5, 7] (fun u5 u7 wr => ∃ (gh a : Nat) (hc : List UInt32), u5 = .slice (some ⟨gh, 0, none⟩) 8 8 ∧ u7 = .int .i64 a ∧ Hid (LR w5 wr gh hc) ∧ Hid (a ≤ N + 64) ∧ Hid (((a = 0 ∨ a < N) ∧ fin hc ((all.drop a).take 64) ((all.drop a).drop 64) (a + ((all.drop a).take 64).length) = F) ∨ ((¬ a = 0 ∧ N ≤ a) ∧ hc = F))) (fun _ u7 _ => N + 128 - (intOf u7).toNat)
      case atStart => exact ⟨_, 0, head n, rfl, rfl, ⟨HS5.out.2.1, head_len _, Below.refl _ _⟩, by show _ ≤ _; omega, Or.inl ⟨Or.inl rfl, HF5.out⟩⟩
      case round =>
        obtain ⟨gh, a, hc, rfl, rfl, hs, ha, hor⟩ := hrel
        obtain ⟨wo, hwo⟩ : ∃ wo : World, wo = wr := ⟨_, rfl⟩
        subst hwo
        have hN := hNle.out
        have ha1 : (a : Int) ≤ 1000200 := by have := ha.out; omega
        rcases hor.out with ⟨hnf, hfin⟩ | ⟨⟨hz, hge⟩, hfin⟩
        · skip
          clear hor
          have hfin := Lib.hid hfin
          have hshA : Hid (Shows wo wo.heap.size A5 all) := (HS5.out.1.below hs.out.bel).more hs.out.bel.size
          have hlen : Hid (((all.drop a).take 64).length = min 64 (N - a)) := by show _ = _; rw [List.length_take, List.length_drop, HN.out]
          have hdl : Hid (((all.drop a).drop 64).length = N - a - 64) := by show _ = _; rw [List.length_drop, List.length_drop, HN.out]
          rcases hnf with hz | hlt
          · have e1 : ((a : Int) == 0) = true := by simp [hz]
            have haN : a ≤ N := by omega
            clear hz
            have hshc := cut_shows hshA.out (k := a) (n := ((all.drop a).take 64).length) (cap := c5) (by have := hlen.out; have := HN.out; omega) (by rw [← HN.out]; exact hc5.out.1)
            have etk : (all.drop a).take ((all.drop a).take 64).length = (all.drop a).take 64 := take_len _ _
            rw [etk] at hshc
            have hsx : Hid (¬ c5 = a → Shows wo wo.heap.size (A5.map (fun x => x.add a)) ((all.drop a).take 64)) := hshc.1
            have hsx2 : Hid (c5 = a → Shows wo wo.heap.size A5 ((all.drop a).take 64)) := hshc.2
            clear hshc etk hshA
            by_cases c64 : a + 64 < N
            · skip
              have k1 : (a : Int) + 64 ≤ (N : Int) := by omega
              have k2 : ¬ ((N : Int) ≤ (a : Int) + 64) := by omega
              have k3 : (a : Int) + 64 < (N : Int) := by omega
              have hx : Hid (((all.drop a).take 64).length = 64) := by have := hlen.out; show _ = _; omega
              have hx64 : Hid (((all.drop a).take 64).length ≤ 64) := by have := hlen.out; show _ ≤ _; omega
              generalize hxx : (all.drop a).take 64 = x at hx hx64 hsx hsx2
              have HXX := Lib.hid hxx
              clear hxx hlen hdl
              have hca : ¬ c5 = a := by have := hc5.out; omega
              obtain ⟨A6, hif, hsz⟩ : ∃ A6, Option.map (fun x => x.add a) A5 = A6 ∧ Hid (Shows wo wo.heap.size A6 x) := ⟨_, rfl, hsx.out hca⟩
              go_wp2_with (first
                | (at_make; refine wpList_make_bytes _ rfl _ _ _ rfl Tryd.underlying22 info5 .i64 .i64 _ _ 64 64 rfl rfl rfl rfl (by decide) (by decide) ?_; intro w6 hB6 hb6 hz6; have HB6 := Lib.hid hb6; have HZ6 := Lib.hid hz6; clear hb6 hz6)
                | ((with_reducible show wpList _ _ _ _ _ _); refine wpList_copy_bt rfl (.tmp 56) (.tmp 60) _ _ rfl Tryd.underlying22 info5 A6 64 64 (c5 - a) wo.heap.size 5 rfl x (show _ = Value.slice A6 x.length (c5 - a) by rw [hx.out]; first | rfl | simp [Act.eval]) (List.replicate 64 0) hB6.out wo.heap.size (hsz.out.below HB6.out) hx64.out (by simp) ?_; intro w7 v7 hb7 hg7 hz7; have HB7 := Lib.hid hb7; have HG7 := Lib.hid hg7; have HZ7 := Lib.hid hz7; clear hb7 hg7 hz7)
                | (go_at_call 59; refine (compR_at gh wo.heap.size hc (x ++ List.drop x.length (List.replicate 64 0)) _ (a + 64) false w7 (by omega) ((hs.out.hh.below HB6.out hs.out.hh.lt).grown HG7.out (by have := hs.out.hh.lt; simp; omega)) HB7.out hs.out.hl (by rw [List.drop_replicate]; exact pad_len hx64.out)).mono ?_; rintro e w8 ⟨g8, rfl, hw8, hb8⟩))
              have hLR : Hid (LR w5 w8 g8 (compressed hc (wordsOf x) (a + 64) false)) := by
                have b6 := hs.out.bel.trans (HB6.out.mono hs.out.bel.size)
                have b7 := b6.grown HG7.out (by have := hs.out.bel.size; have := HZ6.out; omega) (fun k hk => by injection hk with hk; have := hs.out.bel.size; omega)
                have b8 := b7.trans (hb8.mono b7.size)
                rw [List.drop_replicate, wordsOf_pad] at hw8
                exact ⟨hw8.out, compressed_len _ _ _ _, b8⟩
              clear hw8 hb8 HB6 HZ6 HB7 HG7 HZ7 hB6
              go_roundw
              case rel => exact ⟨g8, a + 64, _, rfl, by go_num, hLR, by have := ha.out; show _ ≤ _; omega, Or.inl ⟨Or.inr (by omega), by rw [← HXX.out]; exact step_more HN.out (by omega) hfin.out⟩⟩
              case measure => simp [intOf]; omega
            · by_cases d64 : a + 64 = N
              · skip
                have k1 : (a : Int) + 64 ≤ (N : Int) := by omega
                have k2 : (N : Int) ≤ (a : Int) + 64 := by omega
                have hx : Hid (((all.drop a).take 64).length = 64) := by have := hlen.out; show _ = _; omega
                have hx64 : Hid (((all.drop a).take 64).length ≤ 64) := by have := hlen.out; show _ ≤ _; omega
                generalize hxx : (all.drop a).take 64 = x at hx hx64 hsx hsx2
                have HXX := Lib.hid hxx
                clear hxx hlen hdl
                have hca : ¬ c5 = a := by have := hc5.out; omega
                obtain ⟨A6, hif, hsz⟩ : ∃ A6, Option.map (fun x => x.add a) A5 = A6 ∧ Hid (Shows wo wo.heap.size A6 x) := ⟨_, rfl, hsx.out hca⟩
                go_wp2_with (first
                  | (at_make; refine wpList_make_bytes _ rfl _ _ _ rfl Tryd.underlying22 info5 .i64 .i64 _ _ 64 64 rfl rfl rfl rfl (by decide) (by decide) ?_; intro w6 hB6 hb6 hz6; have HB6 := Lib.hid hb6; have HZ6 := Lib.hid hz6; clear hb6 hz6)
                  | ((with_reducible show wpList _ _ _ _ _ _); refine wpList_copy_bt rfl (.tmp 56) (.tmp 60) _ _ rfl Tryd.underlying22 info5 A6 64 64 (c5 - a) wo.heap.size 5 rfl x (show _ = Value.slice A6 x.length (c5 - a) by rw [hx.out]; first | rfl | simp [Act.eval]) (List.replicate 64 0) hB6.out wo.heap.size (hsz.out.below HB6.out) hx64.out (by simp) ?_; intro w7 v7 hb7 hg7 hz7; have HB7 := Lib.hid hb7; have HG7 := Lib.hid hg7; have HZ7 := Lib.hid hz7; clear hb7 hg7 hz7)
                  | (go_at_call 59; refine (compR_at gh wo.heap.size hc (x ++ List.drop x.length (List.replicate 64 0)) _ N true w7 (by omega) ((hs.out.hh.below HB6.out hs.out.hh.lt).grown HG7.out (by have := hs.out.hh.lt; simp; omega)) HB7.out hs.out.hl (by rw [List.drop_replicate]; exact pad_len hx64.out)).mono ?_; rintro e w8 ⟨g8, rfl, hw8, hb8⟩))
                have hLR : Hid (LR w5 w8 g8 (compressed hc (wordsOf x) N true)) := by
                  have b6 := hs.out.bel.trans (HB6.out.mono hs.out.bel.size)
                  have b7 := b6.grown HG7.out (by have := hs.out.bel.size; have := HZ6.out; omega) (fun k hk => by injection hk with hk; have := hs.out.bel.size; omega)
                  have b8 := b7.trans (hb8.mono b7.size)
                  rw [List.drop_replicate, wordsOf_pad] at hw8
                  exact ⟨hw8.out, compressed_len _ _ _ _, b8⟩
                clear hw8 hb8 HB6 HZ6 HB7 HG7 HZ7 hB6
                go_roundw
                case rel => exact ⟨g8, a + 64, _, rfl, by go_num, hLR, by have := ha.out; show _ ≤ _; omega, Or.inr ⟨⟨by omega, by omega⟩, by rw [← HXX.out]; exact step_last HN.out (by omega) (by omega) hfin.out⟩⟩
                case measure => simp [intOf]; omega
              · skip
                have k1 : (N : Int) < (a : Int) + 64 := by omega
                have k2 : (N : Int) ≤ (a : Int) + 64 := by omega
                have k3 : (a : Int) ≤ (N : Int) := by omega
                have hx : Hid (((all.drop a).take 64).length = (N - a)) := by have := hlen.out; show _ = _; omega
                have hx64 : Hid (((all.drop a).take 64).length ≤ 64) := by have := hlen.out; show _ ≤ _; omega
                generalize hxx : (all.drop a).take 64 = x at hx hx64 hsx hsx2
                have HXX := Lib.hid hxx
                clear hxx hlen hdl
                obtain ⟨A6, hif, hsz⟩ : ∃ A6, (if c5 = a then A5 else Option.map (fun x => x.add a) A5) = A6 ∧ Hid (Shows wo wo.heap.size A6 x) := ⟨if c5 = a then A5 else Option.map (fun x => x.add a) A5, rfl, if h : c5 = a then (show Shows _ _ _ _ by rw [if_pos h]; exact hsx2.out h) else (show Shows _ _ _ _ by rw [if_neg h]; exact hsx.out h)⟩
                go_wp2_with (first
                  | (at_make; refine wpList_make_bytes _ rfl _ _ _ rfl Tryd.underlying22 info5 .i64 .i64 _ _ 64 64 rfl rfl rfl rfl (by decide) (by decide) ?_; intro w6 hB6 hb6 hz6; have HB6 := Lib.hid hb6; have HZ6 := Lib.hid hz6; clear hb6 hz6)
                  | ((with_reducible show wpList _ _ _ _ _ _); refine wpList_copy_bt rfl (.tmp 56) (.tmp 60) _ _ rfl Tryd.underlying22 info5 A6 64 64 (c5 - a) wo.heap.size 5 rfl x (show _ = Value.slice A6 x.length (c5 - a) by rw [hx.out]; first | rfl | simp [Act.eval]) (List.replicate 64 0) hB6.out wo.heap.size (hsz.out.below HB6.out) hx64.out (by simp) ?_; intro w7 v7 hb7 hg7 hz7; have HB7 := Lib.hid hb7; have HG7 := Lib.hid hg7; have HZ7 := Lib.hid hz7; clear hb7 hg7 hz7)
                  | (go_at_call 59; refine (compR_at gh wo.heap.size hc (x ++ List.drop x.length (List.replicate 64 0)) _ N true w7 (by omega) ((hs.out.hh.below HB6.out hs.out.hh.lt).grown HG7.out (by have := hs.out.hh.lt; simp; omega)) HB7.out hs.out.hl (by rw [List.drop_replicate]; exact pad_len hx64.out)).mono ?_; rintro e w8 ⟨g8, rfl, hw8, hb8⟩))
                have hLR : Hid (LR w5 w8 g8 (compressed hc (wordsOf x) N true)) := by
                  have b6 := hs.out.bel.trans (HB6.out.mono hs.out.bel.size)
                  have b7 := b6.grown HG7.out (by have := hs.out.bel.size; have := HZ6.out; omega) (fun k hk => by injection hk with hk; have := hs.out.bel.size; omega)
                  have b8 := b7.trans (hb8.mono b7.size)
                  rw [List.drop_replicate, wordsOf_pad] at hw8
                  exact ⟨hw8.out, compressed_len _ _ _ _, b8⟩
                clear hw8 hb8 HB6 HZ6 HB7 HG7 HZ7 hB6
                go_roundw
                case rel => exact ⟨g8, a + 64, _, rfl, by go_num, hLR, by have := ha.out; show _ ≤ _; omega, Or.inr ⟨⟨by omega, by omega⟩, by rw [← HXX.out]; exact step_last HN.out (by omega) (by omega) hfin.out⟩⟩
                case measure => simp [intOf]; omega
          · by_cases hz : a = 0
            · have e1 : ((a : Int) == 0) = true := by simp [hz]
              have haN : a ≤ N := by omega
              clear hz
              have hshc := cut_shows hshA.out (k := a) (n := ((all.drop a).take 64).length) (cap := c5) (by have := hlen.out; have := HN.out; omega) (by rw [← HN.out]; exact hc5.out.1)
              have etk : (all.drop a).take ((all.drop a).take 64).length = (all.drop a).take 64 := take_len _ _
              rw [etk] at hshc
              have hsx : Hid (¬ c5 = a → Shows wo wo.heap.size (A5.map (fun x => x.add a)) ((all.drop a).take 64)) := hshc.1
              have hsx2 : Hid (c5 = a → Shows wo wo.heap.size A5 ((all.drop a).take 64)) := hshc.2
              clear hshc etk hshA
              by_cases c64 : a + 64 < N
              · skip
                have k1 : (a : Int) + 64 ≤ (N : Int) := by omega
                have k2 : ¬ ((N : Int) ≤ (a : Int) + 64) := by omega
                have k3 : (a : Int) + 64 < (N : Int) := by omega
                have hx : Hid (((all.drop a).take 64).length = 64) := by have := hlen.out; show _ = _; omega
                have hx64 : Hid (((all.drop a).take 64).length ≤ 64) := by have := hlen.out; show _ ≤ _; omega
                generalize hxx : (all.drop a).take 64 = x at hx hx64 hsx hsx2
                have HXX := Lib.hid hxx
                clear hxx hlen hdl
                have hca : ¬ c5 = a := by have := hc5.out; omega
                obtain ⟨A6, hif, hsz⟩ : ∃ A6, Option.map (fun x => x.add a) A5 = A6 ∧ Hid (Shows wo wo.heap.size A6 x) := ⟨_, rfl, hsx.out hca⟩
                go_wp2_with (first
                  | (at_make; refine wpList_make_bytes _ rfl _ _ _ rfl Tryd.underlying22 info5 .i64 .i64 _ _ 64 64 rfl rfl rfl rfl (by decide) (by decide) ?_; intro w6 hB6 hb6 hz6; have HB6 := Lib.hid hb6; have HZ6 := Lib.hid hz6; clear hb6 hz6)
                  | ((with_reducible show wpList _ _ _ _ _ _); refine wpList_copy_bt rfl (.tmp 56) (.tmp 60) _ _ rfl Tryd.underlying22 info5 A6 64 64 (c5 - a) wo.heap.size 5 rfl x (show _ = Value.slice A6 x.length (c5 - a) by rw [hx.out]; first | rfl | simp [Act.eval]) (List.replicate 64 0) hB6.out wo.heap.size (hsz.out.below HB6.out) hx64.out (by simp) ?_; intro w7 v7 hb7 hg7 hz7; have HB7 := Lib.hid hb7; have HG7 := Lib.hid hg7; have HZ7 := Lib.hid hz7; clear hb7 hg7 hz7)
                  | (go_at_call 59; refine (compR_at gh wo.heap.size hc (x ++ List.drop x.length (List.replicate 64 0)) _ (a + 64) false w7 (by omega) ((hs.out.hh.below HB6.out hs.out.hh.lt).grown HG7.out (by have := hs.out.hh.lt; simp; omega)) HB7.out hs.out.hl (by rw [List.drop_replicate]; exact pad_len hx64.out)).mono ?_; rintro e w8 ⟨g8, rfl, hw8, hb8⟩))
                have hLR : Hid (LR w5 w8 g8 (compressed hc (wordsOf x) (a + 64) false)) := by
                  have b6 := hs.out.bel.trans (HB6.out.mono hs.out.bel.size)
                  have b7 := b6.grown HG7.out (by have := hs.out.bel.size; have := HZ6.out; omega) (fun k hk => by injection hk with hk; have := hs.out.bel.size; omega)
                  have b8 := b7.trans (hb8.mono b7.size)
                  rw [List.drop_replicate, wordsOf_pad] at hw8
                  exact ⟨hw8.out, compressed_len _ _ _ _, b8⟩
                clear hw8 hb8 HB6 HZ6 HB7 HG7 HZ7 hB6
                go_roundw
                case rel => exact ⟨g8, a + 64, _, rfl, by go_num, hLR, by have := ha.out; show _ ≤ _; omega, Or.inl ⟨Or.inr (by omega), by rw [← HXX.out]; exact step_more HN.out (by omega) hfin.out⟩⟩
                case measure => simp [intOf]; omega
              · by_cases d64 : a + 64 = N
                · skip
                  have k1 : (a : Int) + 64 ≤ (N : Int) := by omega
                  have k2 : (N : Int) ≤ (a : Int) + 64 := by omega
                  have hx : Hid (((all.drop a).take 64).length = 64) := by have := hlen.out; show _ = _; omega
                  have hx64 : Hid (((all.drop a).take 64).length ≤ 64) := by have := hlen.out; show _ ≤ _; omega
                  generalize hxx : (all.drop a).take 64 = x at hx hx64 hsx hsx2
                  have HXX := Lib.hid hxx
                  clear hxx hlen hdl
                  have hca : ¬ c5 = a := by have := hc5.out; omega
                  obtain ⟨A6, hif, hsz⟩ : ∃ A6, Option.map (fun x => x.add a) A5 = A6 ∧ Hid (Shows wo wo.heap.size A6 x) := ⟨_, rfl, hsx.out hca⟩
                  go_wp2_with (first
                    | (at_make; refine wpList_make_bytes _ rfl _ _ _ rfl Tryd.underlying22 info5 .i64 .i64 _ _ 64 64 rfl rfl rfl rfl (by decide) (by decide) ?_; intro w6 hB6 hb6 hz6; have HB6 := Lib.hid hb6; have HZ6 := Lib.hid hz6; clear hb6 hz6)
                    | ((with_reducible show wpList _ _ _ _ _ _); refine wpList_copy_bt rfl (.tmp 56) (.tmp 60) _ _ rfl Tryd.underlying22 info5 A6 64 64 (c5 - a) wo.heap.size 5 rfl x (show _ = Value.slice A6 x.length (c5 - a) by rw [hx.out]; first | rfl | simp [Act.eval]) (List.replicate 64 0) hB6.out wo.heap.size (hsz.out.below HB6.out) hx64.out (by simp) ?_; intro w7 v7 hb7 hg7 hz7; have HB7 := Lib.hid hb7; have HG7 := Lib.hid hg7; have HZ7 := Lib.hid hz7; clear hb7 hg7 hz7)
                    | (go_at_call 59; refine (compR_at gh wo.heap.size hc (x ++ List.drop x.length (List.replicate 64 0)) _ N true w7 (by omega) ((hs.out.hh.below HB6.out hs.out.hh.lt).grown HG7.out (by have := hs.out.hh.lt; simp; omega)) HB7.out hs.out.hl (by rw [List.drop_replicate]; exact pad_len hx64.out)).mono ?_; rintro e w8 ⟨g8, rfl, hw8, hb8⟩))
                  have hLR : Hid (LR w5 w8 g8 (compressed hc (wordsOf x) N true)) := by
                    have b6 := hs.out.bel.trans (HB6.out.mono hs.out.bel.size)
                    have b7 := b6.grown HG7.out (by have := hs.out.bel.size; have := HZ6.out; omega) (fun k hk => by injection hk with hk; have := hs.out.bel.size; omega)
                    have b8 := b7.trans (hb8.mono b7.size)
                    rw [List.drop_replicate, wordsOf_pad] at hw8
                    exact ⟨hw8.out, compressed_len _ _ _ _, b8⟩
                  clear hw8 hb8 HB6 HZ6 HB7 HG7 HZ7 hB6
                  go_roundw
                  case rel => exact ⟨g8, a + 64, _, rfl, by go_num, hLR, by have := ha.out; show _ ≤ _; omega, Or.inr ⟨⟨by omega, by omega⟩, by rw [← HXX.out]; exact step_last HN.out (by omega) (by omega) hfin.out⟩⟩
                  case measure => simp [intOf]; omega
                · skip
                  have k1 : (N : Int) < (a : Int) + 64 := by omega
                  have k2 : (N : Int) ≤ (a : Int) + 64 := by omega
                  have k3 : (a : Int) ≤ (N : Int) := by omega
                  have hx : Hid (((all.drop a).take 64).length = (N - a)) := by have := hlen.out; show _ = _; omega
                  have hx64 : Hid (((all.drop a).take 64).length ≤ 64) := by have := hlen.out; show _ ≤ _; omega
                  generalize hxx : (all.drop a).take 64 = x at hx hx64 hsx hsx2
                  have HXX := Lib.hid hxx
                  clear hxx hlen hdl
                  have hca : ¬ c5 = a := by have := hc5.out; omega
                  obtain ⟨A6, hif, hsz⟩ : ∃ A6, Option.map (fun x => x.add a) A5 = A6 ∧ Hid (Shows wo wo.heap.size A6 x) := ⟨_, rfl, hsx.out hca⟩
                  go_wp2_with (first
                    | (at_make; refine wpList_make_bytes _ rfl _ _ _ rfl Tryd.underlying22 info5 .i64 .i64 _ _ 64 64 rfl rfl rfl rfl (by decide) (by decide) ?_; intro w6 hB6 hb6 hz6; have HB6 := Lib.hid hb6; have HZ6 := Lib.hid hz6; clear hb6 hz6)
                    | ((with_reducible show wpList _ _ _ _ _ _); refine wpList_copy_bt rfl (.tmp 56) (.tmp 60) _ _ rfl Tryd.underlying22 info5 A6 64 64 (c5 - a) wo.heap.size 5 rfl x (show _ = Value.slice A6 x.length (c5 - a) by rw [hx.out]; first | rfl | simp [Act.eval]) (List.replicate 64 0) hB6.out wo.heap.size (hsz.out.below HB6.out) hx64.out (by simp) ?_; intro w7 v7 hb7 hg7 hz7; have HB7 := Lib.hid hb7; have HG7 := Lib.hid hg7; have HZ7 := Lib.hid hz7; clear hb7 hg7 hz7)
                    | (go_at_call 59; refine (compR_at gh wo.heap.size hc (x ++ List.drop x.length (List.replicate 64 0)) _ N true w7 (by omega) ((hs.out.hh.below HB6.out hs.out.hh.lt).grown HG7.out (by have := hs.out.hh.lt; simp; omega)) HB7.out hs.out.hl (by rw [List.drop_replicate]; exact pad_len hx64.out)).mono ?_; rintro e w8 ⟨g8, rfl, hw8, hb8⟩))
                  have hLR : Hid (LR w5 w8 g8 (compressed hc (wordsOf x) N true)) := by
                    have b6 := hs.out.bel.trans (HB6.out.mono hs.out.bel.size)
                    have b7 := b6.grown HG7.out (by have := hs.out.bel.size; have := HZ6.out; omega) (fun k hk => by injection hk with hk; have := hs.out.bel.size; omega)
                    have b8 := b7.trans (hb8.mono b7.size)
                    rw [List.drop_replicate, wordsOf_pad] at hw8
                    exact ⟨hw8.out, compressed_len _ _ _ _, b8⟩
                  clear hw8 hb8 HB6 HZ6 HB7 HG7 HZ7 hB6
                  go_roundw
                  case rel => exact ⟨g8, a + 64, _, rfl, by go_num, hLR, by have := ha.out; show _ ≤ _; omega, Or.inr ⟨⟨by omega, by omega⟩, by rw [← HXX.out]; exact step_last HN.out (by omega) (by omega) hfin.out⟩⟩
                  case measure => simp [intOf]; omega
            · have e1 : ((a : Int) == 0) = false := by simpa using hz
              have e2 : (a : Int) < (N : Int) := by omega
              have haN : a ≤ N := by omega
              have hshc := cut_shows hshA.out (k := a) (n := ((all.drop a).take 64).length) (cap := c5) (by have := hlen.out; have := HN.out; omega) (by rw [← HN.out]; exact hc5.out.1)
              have etk : (all.drop a).take ((all.drop a).take 64).length = (all.drop a).take 64 := take_len _ _
              rw [etk] at hshc
              have hsx : Hid (¬ c5 = a → Shows wo wo.heap.size (A5.map (fun x => x.add a)) ((all.drop a).take 64)) := hshc.1
              have hsx2 : Hid (c5 = a → Shows wo wo.heap.size A5 ((all.drop a).take 64)) := hshc.2
              clear hshc etk hshA
              by_cases c64 : a + 64 < N
              · skip
                have k1 : (a : Int) + 64 ≤ (N : Int) := by omega
                have k2 : ¬ ((N : Int) ≤ (a : Int) + 64) := by omega
                have k3 : (a : Int) + 64 < (N : Int) := by omega
                have hx : Hid (((all.drop a).take 64).length = 64) := by have := hlen.out; show _ = _; omega
                have hx64 : Hid (((all.drop a).take 64).length ≤ 64) := by have := hlen.out; show _ ≤ _; omega
                generalize hxx : (all.drop a).take 64 = x at hx hx64 hsx hsx2
                have HXX := Lib.hid hxx
                clear hxx hlen hdl
                have hca : ¬ c5 = a := by have := hc5.out; omega
                obtain ⟨A6, hif, hsz⟩ : ∃ A6, Option.map (fun x => x.add a) A5 = A6 ∧ Hid (Shows wo wo.heap.size A6 x) := ⟨_, rfl, hsx.out hca⟩
                go_wp2_with (first
                  | (at_make; refine wpList_make_bytes _ rfl _ _ _ rfl Tryd.underlying22 info5 .i64 .i64 _ _ 64 64 rfl rfl rfl rfl (by decide) (by decide) ?_; intro w6 hB6 hb6 hz6; have HB6 := Lib.hid hb6; have HZ6 := Lib.hid hz6; clear hb6 hz6)
                  | ((with_reducible show wpList _ _ _ _ _ _); refine wpList_copy_bt rfl (.tmp 56) (.tmp 60) _ _ rfl Tryd.underlying22 info5 A6 64 64 (c5 - a) wo.heap.size 5 rfl x (show _ = Value.slice A6 x.length (c5 - a) by rw [hx.out]; first | rfl | simp [Act.eval]) (List.replicate 64 0) hB6.out wo.heap.size (hsz.out.below HB6.out) hx64.out (by simp) ?_; intro w7 v7 hb7 hg7 hz7; have HB7 := Lib.hid hb7; have HG7 := Lib.hid hg7; have HZ7 := Lib.hid hz7; clear hb7 hg7 hz7)
                  | (go_at_call 59; refine (compR_at gh wo.heap.size hc (x ++ List.drop x.length (List.replicate 64 0)) _ (a + 64) false w7 (by omega) ((hs.out.hh.below HB6.out hs.out.hh.lt).grown HG7.out (by have := hs.out.hh.lt; simp; omega)) HB7.out hs.out.hl (by rw [List.drop_replicate]; exact pad_len hx64.out)).mono ?_; rintro e w8 ⟨g8, rfl, hw8, hb8⟩))
                have hLR : Hid (LR w5 w8 g8 (compressed hc (wordsOf x) (a + 64) false)) := by
                  have b6 := hs.out.bel.trans (HB6.out.mono hs.out.bel.size)
                  have b7 := b6.grown HG7.out (by have := hs.out.bel.size; have := HZ6.out; omega) (fun k hk => by injection hk with hk; have := hs.out.bel.size; omega)
                  have b8 := b7.trans (hb8.mono b7.size)
                  rw [List.drop_replicate, wordsOf_pad] at hw8
                  exact ⟨hw8.out, compressed_len _ _ _ _, b8⟩
                clear hw8 hb8 HB6 HZ6 HB7 HG7 HZ7 hB6
                go_roundw
                case rel => exact ⟨g8, a + 64, _, rfl, by go_num, hLR, by have := ha.out; show _ ≤ _; omega, Or.inl ⟨Or.inr (by omega), by rw [← HXX.out]; exact step_more HN.out (by omega) hfin.out⟩⟩
                case measure => simp [intOf]; omega
              · by_cases d64 : a + 64 = N
                · skip
                  have k1 : (a : Int) + 64 ≤ (N : Int) := by omega
                  have k2 : (N : Int) ≤ (a : Int) + 64 := by omega
                  have hx : Hid (((all.drop a).take 64).length = 64) := by have := hlen.out; show _ = _; omega
                  have hx64 : Hid (((all.drop a).take 64).length ≤ 64) := by have := hlen.out; show _ ≤ _; omega
                  generalize hxx : (all.drop a).take 64 = x at hx hx64 hsx hsx2
                  have HXX := Lib.hid hxx
                  clear hxx hlen hdl
                  have hca : ¬ c5 = a := by have := hc5.out; omega
                  obtain ⟨A6, hif, hsz⟩ : ∃ A6, Option.map (fun x => x.add a) A5 = A6 ∧ Hid (Shows wo wo.heap.size A6 x) := ⟨_, rfl, hsx.out hca⟩
                  go_wp2_with (first
                    | (at_make; refine wpList_make_bytes _ rfl _ _ _ rfl Tryd.underlying22 info5 .i64 .i64 _ _ 64 64 rfl rfl rfl rfl (by decide) (by decide) ?_; intro w6 hB6 hb6 hz6; have HB6 := Lib.hid hb6; have HZ6 := Lib.hid hz6; clear hb6 hz6)
                    | ((with_reducible show wpList _ _ _ _ _ _); refine wpList_copy_bt rfl (.tmp 56) (.tmp 60) _ _ rfl Tryd.underlying22 info5 A6 64 64 (c5 - a) wo.heap.size 5 rfl x (show _ = Value.slice A6 x.length (c5 - a) by rw [hx.out]; first | rfl | simp [Act.eval]) (List.replicate 64 0) hB6.out wo.heap.size (hsz.out.below HB6.out) hx64.out (by simp) ?_; intro w7 v7 hb7 hg7 hz7; have HB7 := Lib.hid hb7; have HG7 := Lib.hid hg7; have HZ7 := Lib.hid hz7; clear hb7 hg7 hz7)
                    | (go_at_call 59; refine (compR_at gh wo.heap.size hc (x ++ List.drop x.length (List.replicate 64 0)) _ N true w7 (by omega) ((hs.out.hh.below HB6.out hs.out.hh.lt).grown HG7.out (by have := hs.out.hh.lt; simp; omega)) HB7.out hs.out.hl (by rw [List.drop_replicate]; exact pad_len hx64.out)).mono ?_; rintro e w8 ⟨g8, rfl, hw8, hb8⟩))
                  have hLR : Hid (LR w5 w8 g8 (compressed hc (wordsOf x) N true)) := by
                    have b6 := hs.out.bel.trans (HB6.out.mono hs.out.bel.size)
                    have b7 := b6.grown HG7.out (by have := hs.out.bel.size; have := HZ6.out; omega) (fun k hk => by injection hk with hk; have := hs.out.bel.size; omega)
                    have b8 := b7.trans (hb8.mono b7.size)
                    rw [List.drop_replicate, wordsOf_pad] at hw8
                    exact ⟨hw8.out, compressed_len _ _ _ _, b8⟩
                  clear hw8 hb8 HB6 HZ6 HB7 HG7 HZ7 hB6
                  go_roundw
                  case rel => exact ⟨g8, a + 64, _, rfl, by go_num, hLR, by have := ha.out; show _ ≤ _; omega, Or.inr ⟨⟨by omega, by omega⟩, by rw [← HXX.out]; exact step_last HN.out (by omega) (by omega) hfin.out⟩⟩
                  case measure => simp [intOf]; omega
                · skip
                  have k1 : (N : Int) < (a : Int) + 64 := by omega
                  have k2 : (N : Int) ≤ (a : Int) + 64 := by omega
                  have k3 : (a : Int) ≤ (N : Int) := by omega
                  have hx : Hid (((all.drop a).take 64).length = (N - a)) := by have := hlen.out; show _ = _; omega
                  have hx64 : Hid (((all.drop a).take 64).length ≤ 64) := by have := hlen.out; show _ ≤ _; omega
                  generalize hxx : (all.drop a).take 64 = x at hx hx64 hsx hsx2
                  have HXX := Lib.hid hxx
                  clear hxx hlen hdl
                  have hca : ¬ c5 = a := by have := hc5.out; omega
                  obtain ⟨A6, hif, hsz⟩ : ∃ A6, Option.map (fun x => x.add a) A5 = A6 ∧ Hid (Shows wo wo.heap.size A6 x) := ⟨_, rfl, hsx.out hca⟩
                  go_wp2_with (first
                    | (at_make; refine wpList_make_bytes _ rfl _ _ _ rfl Tryd.underlying22 info5 .i64 .i64 _ _ 64 64 rfl rfl rfl rfl (by decide) (by decide) ?_; intro w6 hB6 hb6 hz6; have HB6 := Lib.hid hb6; have HZ6 := Lib.hid hz6; clear hb6 hz6)
                    | ((with_reducible show wpList _ _ _ _ _ _); refine wpList_copy_bt rfl (.tmp 56) (.tmp 60) _ _ rfl Tryd.underlying22 info5 A6 64 64 (c5 - a) wo.heap.size 5 rfl x (show _ = Value.slice A6 x.length (c5 - a) by rw [hx.out]; first | rfl | simp [Act.eval]) (List.replicate 64 0) hB6.out wo.heap.size (hsz.out.below HB6.out) hx64.out (by simp) ?_; intro w7 v7 hb7 hg7 hz7; have HB7 := Lib.hid hb7; have HG7 := Lib.hid hg7; have HZ7 := Lib.hid hz7; clear hb7 hg7 hz7)
                    | (go_at_call 59; refine (compR_at gh wo.heap.size hc (x ++ List.drop x.length (List.replicate 64 0)) _ N true w7 (by omega) ((hs.out.hh.below HB6.out hs.out.hh.lt).grown HG7.out (by have := hs.out.hh.lt; simp; omega)) HB7.out hs.out.hl (by rw [List.drop_replicate]; exact pad_len hx64.out)).mono ?_; rintro e w8 ⟨g8, rfl, hw8, hb8⟩))
                  have hLR : Hid (LR w5 w8 g8 (compressed hc (wordsOf x) N true)) := by
                    have b6 := hs.out.bel.trans (HB6.out.mono hs.out.bel.size)
                    have b7 := b6.grown HG7.out (by have := hs.out.bel.size; have := HZ6.out; omega) (fun k hk => by injection hk with hk; have := hs.out.bel.size; omega)
                    have b8 := b7.trans (hb8.mono b7.size)
                    rw [List.drop_replicate, wordsOf_pad] at hw8
                    exact ⟨hw8.out, compressed_len _ _ _ _, b8⟩
                  clear hw8 hb8 HB6 HZ6 HB7 HG7 HZ7 hB6
                  go_roundw
                  case rel => exact ⟨g8, a + 64, _, rfl, by go_num, hLR, by have := ha.out; show _ ≤ _; omega, Or.inr ⟨⟨by omega, by omega⟩, by rw [← HXX.out]; exact step_last HN.out (by omega) (by omega) hfin.out⟩⟩
                  case measure => simp [intOf]; omega
        · skip
          clear hor
          obtain rfl := hfin
          have e1 : ((a : Int) == 0) = false := by simpa using hz
          have e2 : decide (a < N) = false := by simp; omega
          have e3 : ¬ ((a : Int) < (N : Int)) := by omega
          clear hz
          go_wp2_with ((with_reducible show wpList _ _ _ _ _ _); refine wpList_store_all rfl 68 (.tmp 10) (.tmp 73) rfl wo.heap.size (cb (List.replicate 32 0)) rfl rfl 68 (cb (List.replicate 32 0)).toArray 32 (bt_new rfl rfl) info24D (by simp [cb]) (by simp [cb]) (cb_one _) ?_; intro w7 hb7 hg7 hz7; have HZ7 := Lib.hid hz7; clear hz7)
          have hbt7 : Hid (BT w7 wo.heap.size 68 (laid1 hc 0)) := hb7
          have hb57 : Below w5.heap.size w5 w7 := (hs.out.bel.alloc hs.out.bel.size _).grown hg7 (by have := hs.out.bel.size; simp; omega) (fun k hk => by injection hk with hk; have := hs.out.bel.size; omega)
          have hh7 : Hid (WB w7 gh 74 hc) := (hs.out.hh.alloc _).grown hg7 (by have := hs.out.hh.lt; simp; omega)
          have hbel7 : Hid (Below B w w7) := HS5.out.2.2.1.trans (hb57.mono HB5.out.1)
          have hr7 : Hid (BT w7 B 68 (List.replicate 32 0)) := HS5.out.2.2.2.below hb57 HB5.out.2
          have hlow : Hid (B < wo.heap.size ∧ gh < wo.heap.size ∧ wo.heap.size < w7.heap.size) := ⟨by have := hs.out.bel.size; have := HB5.out.2; omega, hs.out.hh.lt, by have := HZ7.out; simp at this; omega⟩
          have hl8 := Lib.hid hs.out.hl
          clear hb7 hg7 HZ7 hb57 hs
          generalize wo.heap.size = go at hbt7 hlow ⊢
          go_loopw [11] (fun u wr => ∃ i : Nat, i ≤ 32 ∧ u = .int .i64 i ∧ Hid (BT wr go 68 (laid1 hc i)) ∧ Hid (WB wr gh 74 hc) ∧ Hid (Below B w wr) ∧ Hid (BT wr B 68 (List.replicate 32 0)) ∧ Hid (go < wr.heap.size)) (fun u _ => 32 - (intOf u).toNat)
          case atStart => exact ⟨0, by omega, rfl, hbt7, hh7, hbel7, hr7, hlow.out.2.2⟩
          case round =>
            clear hbt7 hh7 hbel7 hr7
            obtain ⟨i, hi, rfl, hbt, hhw, hbel, hrr, hgo⟩ := hrel
            obtain ⟨wi, hwi⟩ : ∃ wi : World, wi = wr := ⟨_, rfl⟩
            subst hwi
            by_cases hlt : i < 32
            · have ch := hhw.out.cell (i / 4) (by rw [hl8.out]; omega)
              have co := hbt.out.cell i (by rw [laid1_len]; exact hlt)
              have fo := hbt.out.frozen i
              have i1 : (i : Int) < 32 := by omega
              have i2 : (i : Int) / 4 < 8 := by omega
              go_wp2
              go_roundw
              case rel =>
                rw [← low8_int]
                exact ⟨i + 1, by omega, by go_num, hbt.out.set_ i _, hhw.out.grown (grown_set _ _ _ _) (by have := hlow.out; simp; omega), (hbel.out.setCell (by have := hlow.out; simp; omega) _), hrr.out.grown (grown_set _ _ _ _) (by have := hlow.out; simp; omega), by have := hgo.out; show _ < _; simp [World.setCell]; exact this⟩
              case measure => simp [intOf]; omega
            · have hi32 : i = 32 := by omega
              rw [hi32, laid1_32] at hbt
              clear hi32 hi
              go_wp2_with (first
                | ((with_reducible show wpList _ _ _ _ _ _); refine wpList_load_all rfl 68 (.tmp 10) rfl go rfl 68 (cb (bytesOf hc)) 5 32 hbt.out Tryd.underlying68 info24D (by rw [cb_len, bytesOf_len]) ?_)
                | ((with_reducible show wpList _ _ _ _ _ _); refine wpList_store_all rfl 68 (.tmp 4) (.tmp 91) rfl B (cb (bytesOf hc)) rfl rfl 68 _ 32 hrr.out info24D (by simp [cb]) (by rw [cb_len, bytesOf_len]) (cb_one _) ?_; intro w9 hb9 hg9 hz9; have HZ9 := Lib.hid hz9; clear hz9))
              have hbelz : Below B w w9 := hbel.out.grown hg9 (by have := hlow.out; have := hgo.out; omega) (fun k hk => by injection hk with hk; omega)
              refine bodyPost_ret (v := .agg (cb (bytesOf hc)).toArray) (results_cell_row Tryd.results53 _ w9 B 68 _ (0, 0) _ rfl hb9 Tryd.underlying68 rfl (by rw [info24D]; simp [cb_len, bytesOf_len])) rfl ⟨by rw [HF2.out], by rw [HB.out]; exact hbelz⟩
    · skip
      have i1 : ¬ (n : Int) ≤ 32 := by omega
      have i2 : (n : Int) ≤ (capk : Int) := by omega
      have i3 : (32 : Int) ≤ (capk : Int) := by omega
      have hp : (16850976 : Int) = wd (param 32) := wd_param 32 (by decide)
      have HNK : Hid (32 = k.length) := by have := hmin.out; show _ = _; omega
      have HF : Hid (digestOf key b = bytesOf (fin (head 32) k b 64)) := by show _ = _; rw [HD.out, if_neg h0, ← HNK.out]
      clear hmin h0 h32 HD
      obtain ⟨pk, hpk⟩ : ∃ u, u = k ++ List.replicate (64 - k.length) 0 := ⟨_, rfl⟩
      have HQK : Hid (k ++ List.drop k.length (List.replicate 64 0) = pk) := by show _ = _; rw [hpk, List.drop_replicate]
      have HPL : Hid (pk.length = 64) := by show _ = _; rw [hpk]; exact pad_len (by have := HK32.out; omega)
      obtain ⟨all, hall⟩ : ∃ u, u = pk ++ b := ⟨_, rfl⟩
      obtain ⟨N, hNe⟩ : ∃ N, N = (pk ++ b).length := ⟨_, rfl⟩
      have HNe := Lib.hid hNe
      clear hNe
      have hNle : Hid (N ≤ 1000064) := by have h1 := HNe.out; have h2 := HPL.out; rw [List.length_append] at h1; show _ ≤ _; omega
      obtain ⟨F, hF⟩ : ∃ F, F = fin (head 32) k b 64 := ⟨_, rfl⟩
      have HF5 : Hid (fin (head 32) ((all.drop 0).take 64) ((all.drop 0).drop 64) (0 + ((all.drop 0).take 64).length) = F) := by
        show _ = _
        have e1 : (pk ++ b).take 64 = pk := by rw [← HPL.out]; exact List.take_left
        have e2 : (pk ++ b).drop 64 = b := by rw [← HPL.out]; exact List.drop_left
        rw [hall, List.drop_zero, e1, e2, HPL.out, hF, hpk, fin_pad]
      clear hpk
      have HF2 : Hid (digestOf key b = bytesOf F) := by show _ = _; rw [HF.out, hF]
      have HALL := Lib.hid hall
      clear hF HF hall
      go_enter Tryd.func53, Tryd.ntmps53
      go_wp2_with (first
        | (go_at_call 58; refine (start_is _ (w.heap.size + 1) (by simp)).mono ?_; rintro e w2 ⟨rfl, hiv, hb2, hz2⟩; have c0 := hiv.out.cell 0 (by decide); have f0 := hiv.out.frozen 0; have hbw : Hid (Below w.heap.size w w2) := (below_alloc _).trans (hb2.mono (by simp)); have hr2 : Hid (BT w2 w.heap.size 68 (List.replicate 32 0)) := (bt_new (w := w) (c := (cb (List.replicate 32 0)).toArray) (n := 32) rfl rfl).below hb2 (by simp); clear hb2)
        | (at_make; refine wpList_make_bytes _ rfl _ _ _ rfl Tryd.underlying22 info5 .i64 .i64 _ _ 64 64 rfl rfl rfl rfl (by decide) (by decide) ?_; intro w6 hB6 hb6 hz6; have HB6 := Lib.hid hb6; have HZ6 : Hid (w6.heap.size = w2.heap.size + 1 + 1) := (show _ = _ by rw [hz6]; simp [World.setCell]); have hb6 : Hid (Below w.heap.size w w6) := ((hbw.out.setCell (by simp) _).alloc (by have := hbw.out.size; simp [World.setCell]; omega) _).trans (HB6.out.mono (by have := hbw.out.size; simp [World.setCell]; omega)); have hX6 : Hid (BT w6 (w2.heap.size + 1) 5 (List.replicate 64 0)) := (show BT _ _ _ _ by have := hB6.out; simpa [World.setCell, BT, Blk] using this); clear hz6)
        | ((with_reducible show wpList _ _ _ _ _ _); refine wpList_copy_bt rfl (.tmp 34) (.tmp 35) _ _ rfl Tryd.underlying22 info5 K 64 64 capk (w2.heap.size + 1) 5 rfl k (show _ = Value.slice _ _ _ by rw [← HNK.out]; rfl) (List.replicate 64 0) hX6.out w.heap.size (hks.out.below hb6.out) (by have := HK32.out; omega) (by simp) ?_; intro w7 v7 hb7 hg7 hz7; rw [HQK.out] at hb7; have HB7 := Lib.hid hb7; have HG7 := Lib.hid hg7; have HZ7 := Lib.hid hz7; clear hb7 hg7 hz7)
        | (at_builtin; refine wpList_growL rfl (.tmp 37) (.tmp 38) _ rfl Tryd.underlying22 info5 (w2.heap.size + 1) (.slice (some ⟨w2.heap.size + 1, 0, none⟩) 64 64) pk A b.length b cap w.heap.size N rfl HNe.out rfl rfl (bt_owns HB7.out HPL.out.symm (by rw [HPL.out]; decide) (Nat.le_refl _)) (HA.out.below (hb6.out.grown HG7.out (by have := hb6.out.size; omega) (fun k hk => by injection hk with hk; have := hbw.out.size; omega))) (by rw [HPL.out]; omega) (by have := HZ7.out; have := HZ6.out; omega) ?_; intro A5 c5 w5 HO5 HG5))
      rw [← HALL.out] at HO5
      have HZ2 : Hid (w2.heap.size = w.heap.size + 1 + 1) := hz2
      have b2 := hb6.out.grown HG7.out hb6.out.size (fun k hk => by injection hk with hk; have := HZ2.out; omega)
      have b5 : Below w.heap.size w w5 := b2.grown HG5.out b2.size (fun k hk => by have := own_at hk; have := HZ2.out; omega)
      have hh5 : WB w5 (w.heap.size + 1) 74 (head 32) := ((((hiv.out.set_ 0 _).alloc _).up HB6.out).grown HG7.out (by have := HZ2.out; simp; omega)).grown HG5.out (fun e => by have := own_at e.symm; have := HZ2.out; omega)
      have hr5 : BT w5 w.heap.size 68 (List.replicate 32 0) := ((((hr2.out.grown (grown_set _ _ _ _) (by simp)).alloc _).up HB6.out).grown HG7.out (by have := HZ2.out; simp; omega)).grown HG5.out (fun e => by have := own_at e.symm; have := HZ2.out; omega)
      have ho := Owns.shows HO5.out
      have HN : Hid (N = all.length) := ho.1
      have hc5 : Hid (N ≤ c5 ∧ 0 ≤ c5) := ⟨by rw [ho.1]; exact ho.2.1, Nat.zero_le _⟩
      have hc5i : (N : Int) ≤ (c5 : Int) := by have := hc5.out; omega
      have HS5 : Hid (Shows w5 w5.heap.size A5 all ∧ WB w5 (w.heap.size + 1) 74 (head 32) ∧ Below w.heap.size w w5 ∧ BT w5 w.heap.size 68 (List.replicate 32 0)) := ⟨ho.2.2, hh5, b5, hr5⟩
      have HB5 : Hid (w.heap.size ≤ w5.heap.size ∧ w.heap.size < w5.heap.size) := ⟨b5.size, hr5.lt⟩
      clear ho hh5 b5 hr5 b2 HO5 HG5 hiv c0 f0 hbw hr2 hz2
      generalize hB : w.heap.size = B at HS5 HB5 ⊢
      have HB := Lib.hid hB
      clear hB
      go_loopw [5, 7] (fun u5 u7 wr => ∃ (gh a : Nat) (hc : List UInt32), u5 = .slice (some ⟨gh, 0, none⟩) 8 8 ∧ u7 = .int .i64 a ∧ Hid (LR w5 wr gh hc) ∧ Hid (a ≤ N + 64) ∧ Hid (((a = 0 ∨ a < N) ∧ fin hc ((all.drop a).take 64) ((all.drop a).drop 64) (a + ((all.drop a).take 64).length) = F) ∨ ((¬ a = 0 ∧ N ≤ a) ∧ hc = F))) (fun _ u7 _ => N + 128 - (intOf u7).toNat)
      case atStart => exact ⟨_, 0, head 32, rfl, rfl, ⟨HS5.out.2.1, head_len _, Below.refl _ _⟩, by show _ ≤ _; omega, Or.inl ⟨Or.inl rfl, HF5.out⟩⟩
      case round =>
        obtain ⟨gh, a, hc, rfl, rfl, hs, ha, hor⟩ := hrel
        obtain ⟨wo, hwo⟩ : ∃ wo : World, wo = wr := ⟨_, rfl⟩
        subst hwo
        have hN := hNle.out
        have ha1 : (a : Int) ≤ 1000200 := by have := ha.out; omega
        rcases hor.out with ⟨hnf, hfin⟩ | ⟨⟨hz, hge⟩, hfin⟩
        · skip
          clear hor
          have hfin := Lib.hid hfin
          have hshA : Hid (Shows wo wo.heap.size A5 all) := (HS5.out.1.below hs.out.bel).more hs.out.bel.size
          have hlen : Hid (((all.drop a).take 64).length = min 64 (N - a)) := by show _ = _; rw [List.length_take, List.length_drop, HN.out]
          have hdl : Hid (((all.drop a).drop 64).length = N - a - 64) := by show _ = _; rw [List.length_drop, List.length_drop, HN.out]
          rcases hnf with hz | hlt
          · have e1 : ((a : Int) == 0) = true := by simp [hz]
            have haN : a ≤ N := by omega
            clear hz
            have hshc := cut_shows hshA.out (k := a) (n := ((all.drop a).take 64).length) (cap := c5) (by have := hlen.out; have := HN.out; omega) (by rw [← HN.out]; exact hc5.out.1)
            have etk : (all.drop a).take ((all.drop a).take 64).length = (all.drop a).take 64 := take_len _ _
            rw [etk] at hshc
            have hsx : Hid (¬ c5 = a → Shows wo wo.heap.size (A5.map (fun x => x.add a)) ((all.drop a).take 64)) := hshc.1
            have hsx2 : Hid (c5 = a → Shows wo wo.heap.size A5 ((all.drop a).take 64)) := hshc.2
            clear hshc etk hshA
            by_cases c64 : a + 64 < N
            · skip
              have k1 : (a : Int) + 64 ≤ (N : Int) := by omega
              have k2 : ¬ ((N : Int) ≤ (a : Int) + 64) := by omega
              have k3 : (a : Int) + 64 < (N : Int) := by omega
              have hx : Hid (((all.drop a).take 64).length = 64) := by have := hlen.out; show _ = _; omega
              have hx64 : Hid (((all.drop a).take 64).length ≤ 64) := by have := hlen.out; show _ ≤ _; omega
              generalize hxx : (all.drop a).take 64 = x at hx hx64 hsx hsx2
              have HXX := Lib.hid hxx
              clear hxx hlen hdl
              have hca : ¬ c5 = a := by have := hc5.out; omega
              obtain ⟨A6, hif, hsz⟩ : ∃ A6, Option.map (fun x => x.add a) A5 = A6 ∧ Hid (Shows wo wo.heap.size A6 x) := ⟨_, rfl, hsx.out hca⟩
              go_wp2_with (first
                | (at_make; refine wpList_make_bytes _ rfl _ _ _ rfl Tryd.underlying22 info5 .i64 .i64 _ _ 64 64 rfl rfl rfl rfl (by decide) (by decide) ?_; intro w6 hB6 hb6 hz6; have HB6 := Lib.hid hb6; have HZ6 := Lib.hid hz6; clear hb6 hz6)
                | ((with_reducible show wpList _ _ _ _ _ _); refine wpList_copy_bt rfl (.tmp 56) (.tmp 60) _ _ rfl Tryd.underlying22 info5 A6 64 64 (c5 - a) wo.heap.size 5 rfl x (show _ = Value.slice A6 x.length (c5 - a) by rw [hx.out]; first | rfl | simp [Act.eval]) (List.replicate 64 0) hB6.out wo.heap.size (hsz.out.below HB6.out) hx64.out (by simp) ?_; intro w7 v7 hb7 hg7 hz7; have HB7 := Lib.hid hb7; have HG7 := Lib.hid hg7; have HZ7 := Lib.hid hz7; clear hb7 hg7 hz7)
                | (go_at_call 59; refine (compR_at gh wo.heap.size hc (x ++ List.drop x.length (List.replicate 64 0)) _ (a + 64) false w7 (by omega) ((hs.out.hh.below HB6.out hs.out.hh.lt).grown HG7.out (by have := hs.out.hh.lt; simp; omega)) HB7.out hs.out.hl (by rw [List.drop_replicate]; exact pad_len hx64.out)).mono ?_; rintro e w8 ⟨g8, rfl, hw8, hb8⟩))
              have hLR : Hid (LR w5 w8 g8 (compressed hc (wordsOf x) (a + 64) false)) := by
                have b6 := hs.out.bel.trans (HB6.out.mono hs.out.bel.size)
                have b7 := b6.grown HG7.out (by have := hs.out.bel.size; have := HZ6.out; omega) (fun k hk => by injection hk with hk; have := hs.out.bel.size; omega)
                have b8 := b7.trans (hb8.mono b7.size)
                rw [List.drop_replicate, wordsOf_pad] at hw8
                exact ⟨hw8.out, compressed_len _ _ _ _, b8⟩
              clear hw8 hb8 HB6 HZ6 HB7 HG7 HZ7 hB6
              go_roundw
              case rel => exact ⟨g8, a + 64, _, rfl, by go_num, hLR, by have := ha.out; show _ ≤ _; omega, Or.inl ⟨Or.inr (by omega), by rw [← HXX.out]; exact step_more HN.out (by omega) hfin.out⟩⟩
              case measure => simp [intOf]; omega
            · by_cases d64 : a + 64 = N
              · skip
                have k1 : (a : Int) + 64 ≤ (N : Int) := by omega
                have k2 : (N : Int) ≤ (a : Int) + 64 := by omega
                have hx : Hid (((all.drop a).take 64).length = 64) := by have := hlen.out; show _ = _; omega
                have hx64 : Hid (((all.drop a).take 64).length ≤ 64) := by have := hlen.out; show _ ≤ _; omega
                generalize hxx : (all.drop a).take 64 = x at hx hx64 hsx hsx2
                have HXX := Lib.hid hxx
                clear hxx hlen hdl
                have hca : ¬ c5 = a := by have := hc5.out; omega
                obtain ⟨A6, hif, hsz⟩ : ∃ A6, Option.map (fun x => x.add a) A5 = A6 ∧ Hid (Shows wo wo.heap.size A6 x) := ⟨_, rfl, hsx.out hca⟩
                go_wp2_with (first
                  | (at_make; refine wpList_make_bytes _ rfl _ _ _ rfl Tryd.underlying22 info5 .i64 .i64 _ _ 64 64 rfl rfl rfl rfl (by decide) (by decide) ?_; intro w6 hB6 hb6 hz6; have HB6 := Lib.hid hb6; have HZ6 := Lib.hid hz6; clear hb6 hz6)
                  | ((with_reducible show wpList _ _ _ _ _ _); refine wpList_copy_bt rfl (.tmp 56) (.tmp 60) _ _ rfl Tryd.underlying22 info5 A6 64 64 (c5 - a) wo.heap.size 5 rfl x (show _ = Value.slice A6 x.length (c5 - a) by rw [hx.out]; first | rfl | simp [Act.eval]) (List.replicate 64 0) hB6.out wo.heap.size (hsz.out.below HB6.out) hx64.out (by simp) ?_; intro w7 v7 hb7 hg7 hz7; have HB7 := Lib.hid hb7; have HG7 := Lib.hid hg7; have HZ7 := Lib.hid hz7; clear hb7 hg7 hz7)
                  | (go_at_call 59; refine (compR_at gh wo.heap.size hc (x ++ List.drop x.length (List.replicate 64 0)) _ N true w7 (by omega) ((hs.out.hh.below HB6.out hs.out.hh.lt).grown HG7.out (by have := hs.out.hh.lt; simp; omega)) HB7.out hs.out.hl (by rw [List.drop_replicate]; exact pad_len hx64.out)).mono ?_; rintro e w8 ⟨g8, rfl, hw8, hb8⟩))
                have hLR : Hid (LR w5 w8 g8 (compressed hc (wordsOf x) N true)) := by
                  have b6 := hs.out.bel.trans (HB6.out.mono hs.out.bel.size)
                  have b7 := b6.grown HG7.out (by have := hs.out.bel.size; have := HZ6.out; omega) (fun k hk => by injection hk with hk; have := hs.out.bel.size; omega)
                  have b8 := b7.trans (hb8.mono b7.size)
                  rw [List.drop_replicate, wordsOf_pad] at hw8
                  exact ⟨hw8.out, compressed_len _ _ _ _, b8⟩
                clear hw8 hb8 HB6 HZ6 HB7 HG7 HZ7 hB6
                go_roundw
                case rel => exact ⟨g8, a + 64, _, rfl, by go_num, hLR, by have := ha.out; show _ ≤ _; omega, Or.inr ⟨⟨by omega, by omega⟩, by rw [← HXX.out]; exact step_last HN.out (by omega) (by omega) hfin.out⟩⟩
                case measure => simp [intOf]; omega
              · skip
                have k1 : (N : Int) < (a : Int) + 64 := by omega
                have k2 : (N : Int) ≤ (a : Int) + 64 := by omega
                have k3 : (a : Int) ≤ (N : Int) := by omega
                have hx : Hid (((all.drop a).take 64).length = (N - a)) := by have := hlen.out; show _ = _; omega
                have hx64 : Hid (((all.drop a).take 64).length ≤ 64) := by have := hlen.out; show _ ≤ _; omega
                generalize hxx : (all.drop a).take 64 = x at hx hx64 hsx hsx2
                have HXX := Lib.hid hxx
                clear hxx hlen hdl
                obtain ⟨A6, hif, hsz⟩ : ∃ A6, (if c5 = a then A5 else Option.map (fun x => x.add a) A5) = A6 ∧ Hid (Shows wo wo.heap.size A6 x) := ⟨if c5 = a then A5 else Option.map (fun x => x.add a) A5, rfl, if h : c5 = a then (show Shows _ _ _ _ by rw [if_pos h]; exact hsx2.out h) else (show Shows _ _ _ _ by rw [if_neg h]; exact hsx.out h)⟩
                go_wp2_with (first
                  | (at_make; refine wpList_make_bytes _ rfl _ _ _ rfl Tryd.underlying22 info5 .i64 .i64 _ _ 64 64 rfl rfl rfl rfl (by decide) (by decide) ?_; intro w6 hB6 hb6 hz6; have HB6 := Lib.hid hb6; have HZ6 := Lib.hid hz6; clear hb6 hz6)
                  | ((with_reducible show wpList _ _ _ _ _ _); refine wpList_copy_bt rfl (.tmp 56) (.tmp 60) _ _ rfl Tryd.underlying22 info5 A6 64 64 (c5 - a) wo.heap.size 5 rfl x (show _ = Value.slice A6 x.length (c5 - a) by rw [hx.out]; first | rfl | simp [Act.eval]) (List.replicate 64 0) hB6.out wo.heap.size (hsz.out.below HB6.out) hx64.out (by simp) ?_; intro w7 v7 hb7 hg7 hz7; have HB7 := Lib.hid hb7; have HG7 := Lib.hid hg7; have HZ7 := Lib.hid hz7; clear hb7 hg7 hz7)
                  | (go_at_call 59; refine (compR_at gh wo.heap.size hc (x ++ List.drop x.length (List.replicate 64 0)) _ N true w7 (by omega) ((hs.out.hh.below HB6.out hs.out.hh.lt).grown HG7.out (by have := hs.out.hh.lt; simp; omega)) HB7.out hs.out.hl (by rw [List.drop_replicate]; exact pad_len hx64.out)).mono ?_; rintro e w8 ⟨g8, rfl, hw8, hb8⟩))
                have hLR : Hid (LR w5 w8 g8 (compressed hc (wordsOf x) N true)) := by
                  have b6 := hs.out.bel.trans (HB6.out.mono hs.out.bel.size)
                  have b7 := b6.grown HG7.out (by have := hs.out.bel.size; have := HZ6.out; omega) (fun k hk => by injection hk with hk; have := hs.out.bel.size; omega)
                  have b8 := b7.trans (hb8.mono b7.size)
                  rw [List.drop_replicate, wordsOf_pad] at hw8
                  exact ⟨hw8.out, compressed_len _ _ _ _, b8⟩
                clear hw8 hb8 HB6 HZ6 HB7 HG7 HZ7 hB6
                go_roundw
                case rel => exact ⟨g8, a + 64, _, rfl, by go_num, hLR, by have := ha.out; show _ ≤ _; omega, Or.inr ⟨⟨by omega, by omega⟩, by rw [← HXX.out]; exact step_last HN.out (by omega) (by omega) hfin.out⟩⟩
                case measure => simp [intOf]; omega
          · by_cases hz : a = 0
            · have e1 : ((a : Int) == 0) = true := by simp [hz]
              have haN : a ≤ N := by omega
              clear hz
              have hshc := cut_shows hshA.out (k := a) (n := ((all.drop a).take 64).length) (cap := c5) (by have := hlen.out; have := HN.out; omega) (by rw [← HN.out]; exact hc5.out.1)
              have etk : (all.drop a).take ((all.drop a).take 64).length = (all.drop a).take 64 := take_len _ _
              rw [etk] at hshc
              have hsx : Hid (¬ c5 = a → Shows wo wo.heap.size (A5.map (fun x => x.add a)) ((all.drop a).take 64)) := hshc.1
              have hsx2 : Hid (c5 = a → Shows wo wo.heap.size A5 ((all.drop a).take 64)) := hshc.2
              clear hshc etk hshA
              by_cases c64 : a + 64 < N
              · skip
                have k1 : (a : Int) + 64 ≤ (N : Int) := by omega
                have k2 : ¬ ((N : Int) ≤ (a : Int) + 64) := by omega
                have k3 : (a : Int) + 64 < (N : Int) := by omega
                have hx : Hid (((all.drop a).take 64).length = 64) := by have := hlen.out; show _ = _; omega
                have hx64 : Hid (((all.drop a).take 64).length ≤ 64) := by have := hlen.out; show _ ≤ _; omega
                generalize hxx : (all.drop a).take 64 = x at hx hx64 hsx hsx2
                have HXX := Lib.hid hxx
                clear hxx hlen hdl
                have hca : ¬ c5 = a := by have := hc5.out; omega
                obtain ⟨A6, hif, hsz⟩ : ∃ A6, Option.map (fun x => x.add a) A5 = A6 ∧ Hid (Shows wo wo.heap.size A6 x) := ⟨_, rfl, hsx.out hca⟩
                go_wp2_with (first
                  | (at_make; refine wpList_make_bytes _ rfl _ _ _ rfl Tryd.underlying22 info5 .i64 .i64 _ _ 64 64 rfl rfl rfl rfl (by decide) (by decide) ?_; intro w6 hB6 hb6 hz6; have HB6 := Lib.hid hb6; have HZ6 := Lib.hid hz6; clear hb6 hz6)
                  | ((with_reducible show wpList _ _ _ _ _ _); refine wpList_copy_bt rfl (.tmp 56) (.tmp 60) _ _ rfl Tryd.underlying22 info5 A6 64 64 (c5 - a) wo.heap.size 5 rfl x (show _ = Value.slice A6 x.length (c5 - a) by rw [hx.out]; first | rfl | simp [Act.eval]) (List.replicate 64 0) hB6.out wo.heap.size (hsz.out.below HB6.out) hx64.out (by simp) ?_; intro w7 v7 hb7 hg7 hz7; have HB7 := Lib.hid hb7; have HG7 := Lib.hid hg7; have HZ7 := Lib.hid hz7; clear hb7 hg7 hz7)
                  | (go_at_call 59; refine (compR_at gh wo.heap.size hc (x ++ List.drop x.length (List.replicate 64 0)) _ (a + 64) false w7 (by omega) ((hs.out.hh.below HB6.out hs.out.hh.lt).grown HG7.out (by have := hs.out.hh.lt; simp; omega)) HB7.out hs.out.hl (by rw [List.drop_replicate]; exact pad_len hx64.out)).mono ?_; rintro e w8 ⟨g8, rfl, hw8, hb8⟩))
                have hLR : Hid (LR w5 w8 g8 (compressed hc (wordsOf x) (a + 64) false)) := by
                  have b6 := hs.out.bel.trans (HB6.out.mono hs.out.bel.size)
                  have b7 := b6.grown HG7.out (by have := hs.out.bel.size; have := HZ6.out; omega) (fun k hk => by injection hk with hk; have := hs.out.bel.size; omega)
                  have b8 := b7.trans (hb8.mono b7.size)
                  rw [List.drop_replicate, wordsOf_pad] at hw8
                  exact ⟨hw8.out, compressed_len _ _ _ _, b8⟩
                clear hw8 hb8 HB6 HZ6 HB7 HG7 HZ7 hB6
                go_roundw
                case rel => exact ⟨g8, a + 64, _, rfl, by go_num, hLR, by have := ha.out; show _ ≤ _; omega, Or.inl ⟨Or.inr (by omega), by rw [← HXX.out]; exact step_more HN.out (by omega) hfin.out⟩⟩
                case measure => simp [intOf]; omega
              · by_cases d64 : a + 64 = N
                · skip
                  have k1 : (a : Int) + 64 ≤ (N : Int) := by omega
                  have k2 : (N : Int) ≤ (a : Int) + 64 := by omega
                  have hx : Hid (((all.drop a).take 64).length = 64) := by have := hlen.out; show _ = _; omega
                  have hx64 : Hid (((all.drop a).take 64).length ≤ 64) := by have := hlen.out; show _ ≤ _; omega
                  generalize hxx : (all.drop a).take 64 = x at hx hx64 hsx hsx2
                  have HXX := Lib.hid hxx
                  clear hxx hlen hdl
                  have hca : ¬ c5 = a := by have := hc5.out; omega
                  obtain ⟨A6, hif, hsz⟩ : ∃ A6, Option.map (fun x => x.add a) A5 = A6 ∧ Hid (Shows wo wo.heap.size A6 x) := ⟨_, rfl, hsx.out hca⟩
                  go_wp2_with (first
                    | (at_make; refine wpList_make_bytes _ rfl _ _ _ rfl Tryd.underlying22 info5 .i64 .i64 _ _ 64 64 rfl rfl rfl rfl (by decide) (by decide) ?_; intro w6 hB6 hb6 hz6; have HB6 := Lib.hid hb6; have HZ6 := Lib.hid hz6; clear hb6 hz6)
                    | ((with_reducible show wpList _ _ _ _ _ _); refine wpList_copy_bt rfl (.tmp 56) (.tmp 60) _ _ rfl Tryd.underlying22 info5 A6 64 64 (c5 - a) wo.heap.size 5 rfl x (show _ = Value.slice A6 x.length (c5 - a) by rw [hx.out]; first | rfl | simp [Act.eval]) (List.replicate 64 0) hB6.out wo.heap.size (hsz.out.below HB6.out) hx64.out (by simp) ?_; intro w7 v7 hb7 hg7 hz7; have HB7 := Lib.hid hb7; have HG7 := Lib.hid hg7; have HZ7 := Lib.hid hz7; clear hb7 hg7 hz7)
                    | (go_at_call 59; refine (compR_at gh wo.heap.size hc (x ++ List.drop x.length (List.replicate 64 0)) _ N true w7 (by omega) ((hs.out.hh.below HB6.out hs.out.hh.lt).grown HG7.out (by have := hs.out.hh.lt; simp; omega)) HB7.out hs.out.hl (by rw [List.drop_replicate]; exact pad_len hx64.out)).mono ?_; rintro e w8 ⟨g8, rfl, hw8, hb8⟩))
                  have hLR : Hid (LR w5 w8 g8 (compressed hc (wordsOf x) N true)) := by
                    have b6 := hs.out.bel.trans (HB6.out.mono hs.out.bel.size)
                    have b7 := b6.grown HG7.out (by have := hs.out.bel.size; have := HZ6.out; omega) (fun k hk => by injection hk with hk; have := hs.out.bel.size; omega)
                    have b8 := b7.trans (hb8.mono b7.size)
                    rw [List.drop_replicate, wordsOf_pad] at hw8
                    exact ⟨hw8.out, compressed_len _ _ _ _, b8⟩
                  clear hw8 hb8 HB6 HZ6 HB7 HG7 HZ7 hB6
                  go_roundw
                  case rel => exact ⟨g8, a + 64, _, rfl, by go_num, hLR, by have := ha.out; show _ ≤ _; omega, Or.inr ⟨⟨by omega, by omega⟩, by rw [← HXX.out]; exact step_last HN.out (by omega) (by omega) hfin.out⟩⟩
                  case measure => simp [intOf]; omega
                · skip
                  have k1 : (N : Int) < (a : Int) + 64 := by omega
                  have k2 : (N : Int) ≤ (a : Int) + 64 := by omega
                  have k3 : (a : Int) ≤ (N : Int) := by omega
                  have hx : Hid (((all.drop a).take 64).length = (N - a)) := by have := hlen.out; show _ = _; omega
                  have hx64 : Hid (((all.drop a).take 64).length ≤ 64) := by have := hlen.out; show _ ≤ _; omega
                  generalize hxx : (all.drop a).take 64 = x at hx hx64 hsx hsx2
                  have HXX := Lib.hid hxx
                  clear hxx hlen hdl
                  have hca : ¬ c5 = a := by have := hc5.out; omega
                  obtain ⟨A6, hif, hsz⟩ : ∃ A6, Option.map (fun x => x.add a) A5 = A6 ∧ Hid (Shows wo wo.heap.size A6 x) := ⟨_, rfl, hsx.out hca⟩
                  go_wp2_with (first
                    | (at_make; refine wpList_make_bytes _ rfl _ _ _ rfl Tryd.underlying22 info5 .i64 .i64 _ _ 64 64 rfl rfl rfl rfl (by decide) (by decide) ?_; intro w6 hB6 hb6 hz6; have HB6 := Lib.hid hb6; have HZ6 := Lib.hid hz6; clear hb6 hz6)
                    | ((with_reducible show wpList _ _ _ _ _ _); refine wpList_copy_bt rfl (.tmp 56) (.tmp 60) _ _ rfl Tryd.underlying22 info5 A6 64 64 (c5 - a) wo.heap.size 5 rfl x (show _ = Value.slice A6 x.length (c5 - a) by rw [hx.out]; first | rfl | simp [Act.eval]) (List.replicate 64 0) hB6.out wo.heap.size (hsz.out.below HB6.out) hx64.out (by simp) ?_; intro w7 v7 hb7 hg7 hz7; have HB7 := Lib.hid hb7; have HG7 := Lib.hid hg7; have HZ7 := Lib.hid hz7; clear hb7 hg7 hz7)
                    | (go_at_call 59; refine (compR_at gh wo.heap.size hc (x ++ List.drop x.length (List.replicate 64 0)) _ N true w7 (by omega) ((hs.out.hh.below HB6.out hs.out.hh.lt).grown HG7.out (by have := hs.out.hh.lt; simp; omega)) HB7.out hs.out.hl (by rw [List.drop_replicate]; exact pad_len hx64.out)).mono ?_; rintro e w8 ⟨g8, rfl, hw8, hb8⟩))
                  have hLR : Hid (LR w5 w8 g8 (compressed hc (wordsOf x) N true)) := by
                    have b6 := hs.out.bel.trans (HB6.out.mono hs.out.bel.size)
                    have b7 := b6.grown HG7.out (by have := hs.out.bel.size; have := HZ6.out; omega) (fun k hk => by injection hk with hk; have := hs.out.bel.size; omega)
                    have b8 := b7.trans (hb8.mono b7.size)
                    rw [List.drop_replicate, wordsOf_pad] at hw8
                    exact ⟨hw8.out, compressed_len _ _ _ _, b8⟩
                  clear hw8 hb8 HB6 HZ6 HB7 HG7 HZ7 hB6
                  go_roundw
                  case rel => exact ⟨g8, a + 64, _, rfl, by go_num, hLR, by have := ha.out; show _ ≤ _; omega, Or.inr ⟨⟨by omega, by omega⟩, by rw [← HXX.out]; exact step_last HN.out (by omega) (by omega) hfin.out⟩⟩
                  case measure => simp [intOf]; omega
            · have e1 : ((a : Int) == 0) = false := by simpa using hz
              have e2 : (a : Int) < (N : Int) := by omega
              have haN : a ≤ N := by omega
              have hshc := cut_shows hshA.out (k := a) (n := ((all.drop a).take 64).length) (cap := c5) (by have := hlen.out; have := HN.out; omega) (by rw [← HN.out]; exact hc5.out.1)
              have etk : (all.drop a).take ((all.drop a).take 64).length = (all.drop a).take 64 := take_len _ _
              rw [etk] at hshc
              have hsx : Hid (¬ c5 = a → Shows wo wo.heap.size (A5.map (fun x => x.add a)) ((all.drop a).take 64)) := hshc.1
              have hsx2 : Hid (c5 = a → Shows wo wo.heap.size A5 ((all.drop a).take 64)) := hshc.2
              clear hshc etk hshA
              by_cases c64 : a + 64 < N
              · skip
                have k1 : (a : Int) + 64 ≤ (N : Int) := by omega
                have k2 : ¬ ((N : Int) ≤ (a : Int) + 64) := by omega
                have k3 : (a : Int) + 64 < (N : Int) := by omega
                have hx : Hid (((all.drop a).take 64).length = 64) := by have := hlen.out; show _ = _; omega
                have hx64 : Hid (((all.drop a).take 64).length ≤ 64) := by have := hlen.out; show _ ≤ _; omega
                generalize hxx : (all.drop a).take 64 = x at hx hx64 hsx hsx2
                have HXX := Lib.hid hxx
                clear hxx hlen hdl
                have hca : ¬ c5 = a := by have := hc5.out; omega
                obtain ⟨A6, hif, hsz⟩ : ∃ A6, Option.map (fun x => x.add a) A5 = A6 ∧ Hid (Shows wo wo.heap.size A6 x) := ⟨_, rfl, hsx.out hca⟩
                go_wp2_with (first
                  | (at_make; refine wpList_make_bytes _ rfl _ _ _ rfl Tryd.underlying22 info5 .i64 .i64 _ _ 64 64 rfl rfl rfl rfl (by decide) (by decide) ?_; intro w6 hB6 hb6 hz6; have HB6 := Lib.hid hb6; have HZ6 := Lib.hid hz6; clear hb6 hz6)
                  | ((with_reducible show wpList _ _ _ _ _ _); refine wpList_copy_bt rfl (.tmp 56) (.tmp 60) _ _ rfl Tryd.underlying22 info5 A6 64 64 (c5 - a) wo.heap.size 5 rfl x (show _ = Value.slice A6 x.length (c5 - a) by rw [hx.out]; first | rfl | simp [Act.eval]) (List.replicate 64 0) hB6.out wo.heap.size (hsz.out.below HB6.out) hx64.out (by simp) ?_; intro w7 v7 hb7 hg7 hz7; have HB7 := Lib.hid hb7; have HG7 := Lib.hid hg7; have HZ7 := Lib.hid hz7; clear hb7 hg7 hz7)
                  | (go_at_call 59; refine (compR_at gh wo.heap.size hc (x ++ List.drop x.length (List.replicate 64 0)) _ (a + 64) false w7 (by omega) ((hs.out.hh.below HB6.out hs.out.hh.lt).grown HG7.out (by have := hs.out.hh.lt; simp; omega)) HB7.out hs.out.hl (by rw [List.drop_replicate]; exact pad_len hx64.out)).mono ?_; rintro e w8 ⟨g8, rfl, hw8, hb8⟩))
                have hLR : Hid (LR w5 w8 g8 (compressed hc (wordsOf x) (a + 64) false)) := by
                  have b6 := hs.out.bel.trans (HB6.out.mono hs.out.bel.size)
                  have b7 := b6.grown HG7.out (by have := hs.out.bel.size; have := HZ6.out; omega) (fun k hk => by injection hk with hk; have := hs.out.bel.size; omega)
                  have b8 := b7.trans (hb8.mono b7.size)
                  rw [List.drop_replicate, wordsOf_pad] at hw8
                  exact ⟨hw8.out, compressed_len _ _ _ _, b8⟩
                clear hw8 hb8 HB6 HZ6 HB7 HG7 HZ7 hB6
                go_roundw
                case rel => exact ⟨g8, a + 64, _, rfl, by go_num, hLR, by have := ha.out; show _ ≤ _; omega, Or.inl ⟨Or.inr (by omega), by rw [← HXX.out]; exact step_more HN.out (by omega) hfin.out⟩⟩
                case measure => simp [intOf]; omega
              · by_cases d64 : a + 64 = N
                · skip
                  have k1 : (a : Int) + 64 ≤ (N : Int) := by omega
                  have k2 : (N : Int) ≤ (a : Int) + 64 := by omega
                  have hx : Hid (((all.drop a).take 64).length = 64) := by have := hlen.out; show _ = _; omega
                  have hx64 : Hid (((all.drop a).take 64).length ≤ 64) := by have := hlen.out; show _ ≤ _; omega
                  generalize hxx : (all.drop a).take 64 = x at hx hx64 hsx hsx2
                  have HXX := Lib.hid hxx
                  clear hxx hlen hdl
                  have hca : ¬ c5 = a := by have := hc5.out; omega
                  obtain ⟨A6, hif, hsz⟩ : ∃ A6, Option.map (fun x => x.add a) A5 = A6 ∧ Hid (Shows wo wo.heap.size A6 x) := ⟨_, rfl, hsx.out hca⟩
                  go_wp2_with (first
                    | (at_make; refine wpList_make_bytes _ rfl _ _ _ rfl Tryd.underlying22 info5 .i64 .i64 _ _ 64 64 rfl rfl rfl rfl (by decide) (by decide) ?_; intro w6 hB6 hb6 hz6; have HB6 := Lib.hid hb6; have HZ6 := Lib.hid hz6; clear hb6 hz6)
                    | ((with_reducible show wpList _ _ _ _ _ _); refine wpList_copy_bt rfl (.tmp 56) (.tmp 60) _ _ rfl Tryd.underlying22 info5 A6 64 64 (c5 - a) wo.heap.size 5 rfl x (show _ = Value.slice A6 x.length (c5 - a) by rw [hx.out]; first | rfl | simp [Act.eval]) (List.replicate 64 0) hB6.out wo.heap.size (hsz.out.below HB6.out) hx64.out (by simp) ?_; intro w7 v7 hb7 hg7 hz7; have HB7 := Lib.hid hb7; have HG7 := Lib.hid hg7; have HZ7 := Lib.hid hz7; clear hb7 hg7 hz7)
                    | (go_at_call 59; refine (compR_at gh wo.heap.size hc (x ++ List.drop x.length (List.replicate 64 0)) _ N true w7 (by omega) ((hs.out.hh.below HB6.out hs.out.hh.lt).grown HG7.out (by have := hs.out.hh.lt; simp; omega)) HB7.out hs.out.hl (by rw [List.drop_replicate]; exact pad_len hx64.out)).mono ?_; rintro e w8 ⟨g8, rfl, hw8, hb8⟩))
                  have hLR : Hid (LR w5 w8 g8 (compressed hc (wordsOf x) N true)) := by
                    have b6 := hs.out.bel.trans (HB6.out.mono hs.out.bel.size)
                    have b7 := b6.grown HG7.out (by have := hs.out.bel.size; have := HZ6.out; omega) (fun k hk => by injection hk with hk; have := hs.out.bel.size; omega)
                    have b8 := b7.trans (hb8.mono b7.size)
                    rw [List.drop_replicate, wordsOf_pad] at hw8
                    exact ⟨hw8.out, compressed_len _ _ _ _, b8⟩
                  clear hw8 hb8 HB6 HZ6 HB7 HG7 HZ7 hB6
                  go_roundw
                  case rel => exact ⟨g8, a + 64, _, rfl, by go_num, hLR, by have := ha.out; show _ ≤ _; omega, Or.inr ⟨⟨by omega, by omega⟩, by rw [← HXX.out]; exact step_last HN.out (by omega) (by omega) hfin.out⟩⟩
                  case measure => simp [intOf]; omega
                · skip
                  have k1 : (N : Int) < (a : Int) + 64 := by omega
                  have k2 : (N : Int) ≤ (a : Int) + 64 := by omega
                  have k3 : (a : Int) ≤ (N : Int) := by omega
                  have hx : Hid (((all.drop a).take 64).length = (N - a)) := by have := hlen.out; show _ = _; omega
                  have hx64 : Hid (((all.drop a).take 64).length ≤ 64) := by have := hlen.out; show _ ≤ _; omega
                  generalize hxx : (all.drop a).take 64 = x at hx hx64 hsx hsx2
                  have HXX := Lib.hid hxx
                  clear hxx hlen hdl
                  have hca : ¬ c5 = a := by have := hc5.out; omega
                  obtain ⟨A6, hif, hsz⟩ : ∃ A6, Option.map (fun x => x.add a) A5 = A6 ∧ Hid (Shows wo wo.heap.size A6 x) := ⟨_, rfl, hsx.out hca⟩
                  go_wp2_with (first
                    | (at_make; refine wpList_make_bytes _ rfl _ _ _ rfl Tryd.underlying22 info5 .i64 .i64 _ _ 64 64 rfl rfl rfl rfl (by decide) (by decide) ?_; intro w6 hB6 hb6 hz6; have HB6 := Lib.hid hb6; have HZ6 := Lib.hid hz6; clear hb6 hz6)
                    | ((with_reducible show wpList _ _ _ _ _ _); refine wpList_copy_bt rfl (.tmp 56) (.tmp 60) _ _ rfl Tryd.underlying22 info5 A6 64 64 (c5 - a) wo.heap.size 5 rfl x (show _ = Value.slice A6 x.length (c5 - a) by rw [hx.out]; first | rfl | simp [Act.eval]) (List.replicate 64 0) hB6.out wo.heap.size (hsz.out.below HB6.out) hx64.out (by simp) ?_; intro w7 v7 hb7 hg7 hz7; have HB7 := Lib.hid hb7; have HG7 := Lib.hid hg7; have HZ7 := Lib.hid hz7; clear hb7 hg7 hz7)
                    | (go_at_call 59; refine (compR_at gh wo.heap.size hc (x ++ List.drop x.length (List.replicate 64 0)) _ N true w7 (by omega) ((hs.out.hh.below HB6.out hs.out.hh.lt).grown HG7.out (by have := hs.out.hh.lt; simp; omega)) HB7.out hs.out.hl (by rw [List.drop_replicate]; exact pad_len hx64.out)).mono ?_; rintro e w8 ⟨g8, rfl, hw8, hb8⟩))
                  have hLR : Hid (LR w5 w8 g8 (compressed hc (wordsOf x) N true)) := by
                    have b6 := hs.out.bel.trans (HB6.out.mono hs.out.bel.size)
                    have b7 := b6.grown HG7.out (by have := hs.out.bel.size; have := HZ6.out; omega) (fun k hk => by injection hk with hk; have := hs.out.bel.size; omega)
                    have b8 := b7.trans (hb8.mono b7.size)
                    rw [List.drop_replicate, wordsOf_pad] at hw8
                    exact ⟨hw8.out, compressed_len _ _ _ _, b8⟩
                  clear hw8 hb8 HB6 HZ6 HB7 HG7 HZ7 hB6
                  go_roundw
                  case rel => exact ⟨g8, a + 64, _, rfl, by go_num, hLR, by have := ha.out; show _ ≤ _; omega, Or.inr ⟨⟨by omega, by omega⟩, by rw [← HXX.out]; exact step_last HN.out (by omega) (by omega) hfin.out⟩⟩
                  case measure => simp [intOf]; omega
        · skip
          clear hor
          obtain rfl := hfin
          have e1 : ((a : Int) == 0) = false := by simpa using hz
          have e2 : decide (a < N) = false := by simp; omega
          have e3 : ¬ ((a : Int) < (N : Int)) := by omega
          clear hz
          go_wp2_with ((with_reducible show wpList _ _ _ _ _ _); refine wpList_store_all rfl 68 (.tmp 10) (.tmp 73) rfl wo.heap.size (cb (List.replicate 32 0)) rfl rfl 68 (cb (List.replicate 32 0)).toArray 32 (bt_new rfl rfl) info24D (by simp [cb]) (by simp [cb]) (cb_one _) ?_; intro w7 hb7 hg7 hz7; have HZ7 := Lib.hid hz7; clear hz7)
          have hbt7 : Hid (BT w7 wo.heap.size 68 (laid1 hc 0)) := hb7
          have hb57 : Below w5.heap.size w5 w7 := (hs.out.bel.alloc hs.out.bel.size _).grown hg7 (by have := hs.out.bel.size; simp; omega) (fun k hk => by injection hk with hk; have := hs.out.bel.size; omega)
          have hh7 : Hid (WB w7 gh 74 hc) := (hs.out.hh.alloc _).grown hg7 (by have := hs.out.hh.lt; simp; omega)
          have hbel7 : Hid (Below B w w7) := HS5.out.2.2.1.trans (hb57.mono HB5.out.1)
          have hr7 : Hid (BT w7 B 68 (List.replicate 32 0)) := HS5.out.2.2.2.below hb57 HB5.out.2
          have hlow : Hid (B < wo.heap.size ∧ gh < wo.heap.size ∧ wo.heap.size < w7.heap.size) := ⟨by have := hs.out.bel.size; have := HB5.out.2; omega, hs.out.hh.lt, by have := HZ7.out; simp at this; omega⟩
          have hl8 := Lib.hid hs.out.hl
          clear hb7 hg7 HZ7 hb57 hs
          generalize wo.heap.size = go at hbt7 hlow ⊢
          go_loopw [11] (fun u wr => ∃ i : Nat, i ≤ 32 ∧ u = .int .i64 i ∧ Hid (BT wr go 68 (laid1 hc i)) ∧ Hid (WB wr gh 74 hc) ∧ Hid (Below B w wr) ∧ Hid (BT wr B 68 (List.replicate 32 0)) ∧ Hid (go < wr.heap.size)) (fun u _ => 32 - (intOf u).toNat)
          case atStart => exact ⟨0, by omega, rfl, hbt7, hh7, hbel7, hr7, hlow.out.2.2⟩
          case round =>
            clear hbt7 hh7 hbel7 hr7
            obtain ⟨i, hi, rfl, hbt, hhw, hbel, hrr, hgo⟩ := hrel
            obtain ⟨wi, hwi⟩ : ∃ wi : World, wi = wr := ⟨_, rfl⟩
            subst hwi
            by_cases hlt : i < 32
            · have ch := hhw.out.cell (i / 4) (by rw [hl8.out]; omega)
              have co := hbt.out.cell i (by rw [laid1_len]; exact hlt)
              have fo := hbt.out.frozen i
              have i1 : (i : Int) < 32 := by omega
              have i2 : (i : Int) / 4 < 8 := by omega
              go_wp2
              go_roundw
              case rel =>
                rw [← low8_int]
                exact ⟨i + 1, by omega, by go_num, hbt.out.set_ i _, hhw.out.grown (grown_set _ _ _ _) (by have := hlow.out; simp; omega), (hbel.out.setCell (by have := hlow.out; simp; omega) _), hrr.out.grown (grown_set _ _ _ _) (by have := hlow.out; simp; omega), by have := hgo.out; show _ < _; simp [World.setCell]; exact this⟩
              case measure => simp [intOf]; omega
            · have hi32 : i = 32 := by omega
              rw [hi32, laid1_32] at hbt
              clear hi32 hi
              go_wp2_with (first
                | ((with_reducible show wpList _ _ _ _ _ _); refine wpList_load_all rfl 68 (.tmp 10) rfl go rfl 68 (cb (bytesOf hc)) 5 32 hbt.out Tryd.underlying68 info24D (by rw [cb_len, bytesOf_len]) ?_)
                | ((with_reducible show wpList _ _ _ _ _ _); refine wpList_store_all rfl 68 (.tmp 4) (.tmp 91) rfl B (cb (bytesOf hc)) rfl rfl 68 _ 32 hrr.out info24D (by simp [cb]) (by rw [cb_len, bytesOf_len]) (cb_one _) ?_; intro w9 hb9 hg9 hz9; have HZ9 := Lib.hid hz9; clear hz9))
              have hbelz : Below B w w9 := hbel.out.grown hg9 (by have := hlow.out; have := hgo.out; omega) (fun k hk => by injection hk with hk; omega)
              refine bodyPost_ret (v := .agg (cb (bytesOf hc)).toArray) (results_cell_row Tryd.results53 _ w9 B 68 _ (0, 0) _ rfl hb9 Tryd.underlying68 rfl (by rw [info24D]; simp [cb_len, bytesOf_len])) rfl ⟨by rw [HF2.out], by rw [HB.out]; exact hbelz⟩
end Go.Proofs.YtmdokldbggingaaDoor
