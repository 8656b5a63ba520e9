/-
 Layer 6's contracts and plain theorems, texts of layer 6's own claims put together: RFld RGrp RTak KinP.
-/
import Derived.Test.YtfeemipnalgjnaaGreatHb
import Derived.Test.YtfeemipnalgjnaaGreatGA
import Derived.Maps.OwnSet
import Derived.Maps.Views
namespace Go.Proofs.YtfeemipnalgjnaaGreat
open Go.RowKit

set_option maxHeartbeats 1000000 in
set_option maxRecDepth 20000 in
theorem RField_any (A : Option Addr) (n c : Nat) (x : Int) (l : List Fd) (i : Int) (w : World) (hn : n = l.length) (hs : Fds w w.heap.size A l) (hl : n ≤ 9223372036854775807) :
  Calls Tryz.prog 28 #[.agg #[.slice A n c, .int .i64 x], .int .i64 i] w fun e w' => e = .returned (.tuple #[(fieldD l i).val, .bool (hasF l i)]) ∧ Below w.heap.size w w' := by
 have HN := Li hn
 have HS := Li hs
 clear hn hs
 go_enter Tryz.func28, Tryz.ntmps28
 go_wp2
 go_loopw [6] (fun j wr => ∃ k : Nat, k ≤ n ∧ j = .int .i64 k ∧ Hid (CB wr w.heap.size 35 [.slice A n c, .int .i64 x]) ∧ Hid (CB wr (w.heap.size + 1) 58 Fd.zero.cells) ∧ Hid (Below w.heap.size w wr) ∧ Hid (field (l.drop k) i = field l i)) (fun j _ => n - (intOf j).toNat)
 case atStart => exact ⟨0, by omega, rfl, (CB.new w _ _).alloc _, CB.new1 w _ 58 Fd.zero.cells, al2 _ _ _, rfl⟩
 case round =>
  obtain ⟨k, hk, rfl, hq, hcb, hbel, hgo⟩ := hrel
  have hsz : w.heap.size + 1 < wr.heap.size := hcb.out.lt
  have q0 := hq.out.cell 0 rfl
  by_cases hlt : k < n
  ·
   have i1 : (k : Int) < (n : Int) := by omega
   obtain ⟨f, hf⟩ := getD_of (l := l) (k := k) (by rw [← HN.out]; exact hlt)
   obtain ⟨b, off, rfl, hb, c0, c1, c2, c3⟩ := (HS.out.below hbel.out).one hf
   have hd := Li (drop_cons hf)
   by_cases he : f.id = i
   ·
    have e1 : (f.id == i) = true := by simpa using he
    have HE := Li he
    clear he hf
    go_wp2_with ((with_reducible show wpList _ _ _ _ _ _); refine wpList_store_cb rfl 58 (.tmp 4) (.tmp 26) rfl (w.heap.size + 1) f.cells rfl rfl 58 Fd.zero.cells 4 hcb.out sizeF rfl rfl (one_f f) ?_; intro w1 hc1 hg1 hz1)
    refine bodyPost_ret (res_cell Tryz.results28 rfl rfl hc1 Tryz.underlying58 sizeF rfl) rfl ⟨fld_some (fld_fin hd.out hgo.out HE.out), ?_⟩
    exact below_grown hbel.out hg1 (by omega) (by omega)
   ·
    have e1 : (f.id == i) = false := by simpa using he
    have HE := Li he
    clear he hf
    go_wp2
    go_roundw
    case rel => exact ⟨k + 1, by omega, by go_num, hq.out, hcb.out, hbel.out, fld_go hd.out hgo.out HE.out⟩
    case measure => simp [intOf]; omega
  ·
   have i1 : ¬ (k : Int) < (n : Int) := by omega
   go_wp2_with ((with_reducible show wpList _ _ _ _ _ _); refine wpList_store_cb rfl 58 (.tmp 4) (.tmp 27) rfl (w.heap.size + 1) Fd.zero.cells rfl rfl 58 Fd.zero.cells 4 hcb.out sizeF rfl rfl (one_f Fd.zero) ?_; intro w1 hc1 hg1 hz1)
   refine bodyPost_ret (res_cell Tryz.results28 rfl rfl hc1 Tryz.underlying58 sizeF rfl) rfl ⟨fld_none (fld_end (by rw [← HN.out]; omega) hgo.out), ?_⟩
   exact below_grown hbel.out hg1 (by omega) (by omega)

set_option maxHeartbeats 4000000 in
theorem RName_any (s : ByteArray) (w : World) (hs : s.size ≤ 9223372036854775807) : Calls Tryz.prog 78 #[.string s] w fun e w' => e = .returned (.bool (namB s)) ∧ w' = w := by
 have hz : Hid (s.data.toList.all okC = false → namB s = false) := by intro h; unfold namB; rw [h, Bool.and_false]
 go_enter Tryz.func78, Tryz.ntmps78
 go_wp2
 go_loop [3] (fun i => ∃ k : Nat, k ≤ s.size ∧ i = .int .i64 k ∧ Hid ((s.data.toList.drop k).all okC = s.data.toList.all okC)) (fun i => s.size - (intOf i).toNat)
 case atStart => exact ⟨0, Nat.zero_le _, rfl, rfl⟩
 case round =>
  obtain ⟨k, hk, rfl, hgo⟩ := hrel
  by_cases hlt : k < s.size
  ·
   have j1 : (k : Int) < (s.size : Int) := by omega
   have hd := Li (nam_drop hlt)
   have hx := s[k].toNat_lt
   rcases c_cases s[k] with ⟨hc, hcs⟩ | ⟨hc, hcs⟩
   ·
    have HC := Li hc
    clear hc
    rcases hcs with ⟨a, b⟩ | ⟨a, b⟩ | a
    all_goals
     go_wp2
     all_goals (first | (exfalso; omega) | skip)
     all_goals
      go_round
      case rel => exact ⟨k + 1, by omega, by go_num, all_step hd.out hgo.out HC.out⟩
      case measure => simp [intOf]; omega
   ·
    have HC := Li hc
    clear hc
    rcases hcs with a | ⟨a, b⟩ | a | a
    all_goals
     have e95 : ((s[k].toNat : Int) == 95) = false := by rw [beq_eq_false_iff_ne]; omega
     go_wp2
     all_goals (first | (exfalso; omega) | skip)
     all_goals
      go_ret
      refine ⟨?_, rfl⟩
      rw [hz.out (all_stop hd.out hgo.out HC.out)]
      rfl
  ·
   have j1 : ¬ (k : Int) < (s.size : Int) := by omega
   have HA := Li (show s.data.toList.all okC = true by rw [← hgo.out, List.drop_of_length_le (by simpa using by omega)]; rfl)
   by_cases h1 : 1 ≤ s.size
   ·
    by_cases h2 : s.size ≤ 32
    ·
     have i1 : (1 : Int) ≤ (s.size : Int) := by omega
     have i2 : (s.size : Int) ≤ 32 := by omega
     go_wp2
     go_ret
     refine ⟨?_, rfl⟩
     unfold namB
     rw [HA.out, decide_eq_true ⟨h1, h2⟩]; rfl
    ·
     have i1 : (1 : Int) ≤ (s.size : Int) := by omega
     have i2 : ¬ (s.size : Int) ≤ 32 := by omega
     go_wp2
     go_ret
     refine ⟨?_, rfl⟩
     unfold namB
     rw [decide_eq_false (fun h => h2 h.2)]; rfl
   ·
    have i1 : ¬ (1 : Int) ≤ (s.size : Int) := by omega
    go_wp2
    go_ret
    refine ⟨?_, rfl⟩
    unfold namB
    rw [decide_eq_false (fun h => h1 h.1)]; rfl
end Go.Proofs.YtfeemipnalgjnaaGreat
namespace Go.Proofs.YtfeemipnalgjnaaGreat
open Go.RowKit

/-- the number 0, or a group's -/
def grpB (l : List Fd) (i : Int) : Bool := decide (i = 0) || (hasF l i && decide ((fieldD l i).ty = 6))
/-- how deep a field lies; 9 where it has no depth -/
def depG (l : List Fd) : Nat → Int → Int → Int
 | 0, _, n => n
 | m + 1, i, n => if i = 0 then n else if hasF l i then depG l m (fieldD l i).pa (n + 1) else 9
def depL (l : List Fd) (i : Int) : Int := depG l 9 i 0
def insG (l : List Fd) (g : Int) : Nat → Int → Bool
 | 0, _ => false
 | m + 1, i => if i = 0 then false else if i = g then true else insG l g m (fieldD l i).pa
def insB (l : List Fd) (i g : Int) : Bool := insG l g 9 i

set_option maxHeartbeats 1000000 in
set_option maxRecDepth 20000 in
theorem Rgroup_any (A : Option Addr) (n c : Nat) (x : Int) (l : List Fd) (i : Int) (w : World) (hn : n = l.length) (hs : Fds w w.heap.size A l) (hl : n ≤ 9223372036854775807) :
  Calls Tryz.prog 52 #[.agg #[.slice A n c, .int .i64 x], .int .i64 i] w fun e w' => e = .returned (.bool (grpB l i)) ∧ Below w.heap.size w w' := by
 have HN := Li hn
 have HS := Li hs
 clear hn hs
 obtain ⟨z, hz⟩ : ∃ z, grpB l i = z := ⟨_, rfl⟩
 rw [hz]
 unfold grpB at hz
 obtain ⟨f, hf⟩ : ∃ f, fieldD l i = f := ⟨_, rfl⟩
 obtain ⟨b, hb⟩ : ∃ b, hasF l i = b := ⟨_, rfl⟩
 rw [hf, hb] at hz
 have HF := Li hf
 have HB := Li hb
 clear hf hb
 by_cases h0 : i = 0
 ·
  obtain rfl : z = true := by rw [← hz]; simp [h0]
  have e0 : (i == 0) = true := by simpa using h0
  have H0 := Li h0
  clear hz h0
  go_enter Tryz.func52, Tryz.ntmps52
  go_wp2_with (go_at_call 28; refine (RField_any _ n c x l i _ HN.out (HS.out.up (al1 _ _)) hl).mono ?_; rintro e w5 ⟨rfl, hb5⟩; rw [HF.out, HB.out]; have HB5 := Li ((al1 w _).trans (hb5.mono (al1 w _).size)); clear hb5)
  go_ret
  exact ⟨rfl, HB5.out.alloc HB5.out.size _⟩
 ·
  have e0 : (i == 0) = false := by simpa using h0
  cases b with
  | false =>
   obtain rfl : z = false := by rw [← hz]; simp [h0]
   have H0 := Li h0
   clear hz h0
   go_enter Tryz.func52, Tryz.ntmps52
   go_wp2_with (go_at_call 28; refine (RField_any _ n c x l i _ HN.out (HS.out.up (al1 _ _)) hl).mono ?_; rintro e w5 ⟨rfl, hb5⟩; rw [HF.out, HB.out]; have HB5 := Li ((al1 w _).trans (hb5.mono (al1 w _).size)); clear hb5)
   go_ret
   exact ⟨rfl, HB5.out.alloc HB5.out.size _⟩
  | true =>
   by_cases h6 : f.ty = 6
   ·
    obtain rfl : z = true := by rw [← hz]; simp [h0, h6]
    have e6 : (f.ty == 6) = true := by simpa using h6
    have H0 := Li h0
    clear hz h0 h6
    go_enter Tryz.func52, Tryz.ntmps52
    go_wp2_with (go_at_call 28; refine (RField_any _ n c x l i _ HN.out (HS.out.up (al1 _ _)) hl).mono ?_; rintro e w5 ⟨rfl, hb5⟩; rw [HF.out, HB.out]; have HB5 := Li ((al1 w _).trans (hb5.mono (al1 w _).size)); clear hb5)
    go_ret
    exact ⟨rfl, HB5.out.alloc HB5.out.size _⟩
   ·
    obtain rfl : z = false := by rw [← hz]; simp [h0, h6]
    have e6 : (f.ty == 6) = false := by simpa using h6
    have H0 := Li h0
    clear hz h0 h6
    go_enter Tryz.func52, Tryz.ntmps52
    go_wp2_with (go_at_call 28; refine (RField_any _ n c x l i _ HN.out (HS.out.up (al1 _ _)) hl).mono ?_; rintro e w5 ⟨rfl, hb5⟩; rw [HF.out, HB.out]; have HB5 := Li ((al1 w _).trans (hb5.mono (al1 w _).size)); clear hb5)
    go_ret
    exact ⟨rfl, HB5.out.alloc HB5.out.size _⟩

theorem dep_stop {l : List Fd} {m : Nat} {i n d : Int} (h : depG l m i n = d) (h0 : i = 0) : d = n := by
 subst h0
 cases m <;> simpa [depG] using h.symm
theorem dep_no {l : List Fd} {m : Nat} {i n d : Int} (h : depG l (m + 1) i n = d) (h0 : ¬ i = 0) (hb : hasF l i = false) : d = 9 := by
 rw [← h, depG, if_neg h0, hb]
 rfl
theorem dep_yes {l : List Fd} {m : Nat} {i n d : Int} (h : depG l (m + 1) i n = d) (h0 : ¬ i = 0) (hb : hasF l i = true) : depG l m (fieldD l i).pa (n + 1) = d := by
 rw [← h, depG, if_neg h0, if_pos hb]

set_option maxHeartbeats 1000000 in
set_option maxRecDepth 20000 in
theorem Rdepth_any (A : Option Addr) (n c : Nat) (x : Int) (l : List Fd) (i : Int) (w : World) (hn : n = l.length) (hs : Fds w w.heap.size A l) (hl : n ≤ 9223372036854775807) :
  Calls Tryz.prog 53 #[.agg #[.slice A n c, .int .i64 x], .int .i64 i] w fun e w' => e = .returned (.int .i64 (depL l i)) ∧ Below w.heap.size w w' := by
 have HN := Li hn
 have HS := Li hs
 clear hn hs
 go_enter Tryz.func53, Tryz.ntmps53
 go_wp2
 go_loopw [1, 5] (fun v j wr => ∃ (k : Nat) (m : Int), k ≤ 9 ∧ v = .int .i64 m ∧ j = .int .i64 k ∧ Hid (CB wr w.heap.size 35 [.slice A n c, .int .i64 x]) ∧ Hid (Below w.heap.size w wr) ∧ Hid (depG l (9 - k) m k = depL l i)) (fun _ j _ => 9 - (intOf j).toNat)
 case atStart => exact ⟨0, i, by omega, rfl, rfl, CB.new _ _ _, al1 _ _, rfl⟩
 case round =>
  obtain ⟨k, m, hk, rfl, rfl, hq, hbel, hgo⟩ := hrel
  have hz := hq.out.lt
  by_cases h0 : m = 0
  ·
   have HE := Li (dep_stop hgo.out h0)
   have e0 : (m != 0) = false := by simpa using h0
   have H0 := Li h0
   clear h0
   go_wp2
   go_ret
   exact ⟨by rw [HE.out]; rfl, hbel.out⟩
  ·
   have e0 : (m != 0) = true := by simpa using h0
   by_cases hlt : k < 9
   ·
    have i1 : (k : Int) ≤ 8 := by omega
    obtain ⟨r, hr⟩ : ∃ r, 9 - k = r + 1 := ⟨8 - k, by omega⟩
    have q0 := hq.out.c2
    have hgo' := hgo.out
    rw [hr] at hgo'
    obtain ⟨f, hf⟩ : ∃ f, fieldD l m = f := ⟨_, rfl⟩
    have HF := Li hf
    have HS2 := Li ((HS.out.below hbel.out).more (show w.heap.size ≤ wr.heap.size by omega))
    cases hb : hasF l m with
    | false =>
     have HB := Li hb
     have HE := Li (dep_no hgo' h0 hb)
     have H0 := Li h0
     clear h0 hb hf hgo' hr
     go_wp2_with (go_at_call 28; refine (RField_any _ n c x l m _ HN.out HS2.out hl).mono ?_; rintro e w5 ⟨rfl, hb5⟩; rw [HF.out, HB.out]; have HB5 := Li (below_step hbel.out (by omega) hb5); have hz5 := hb5.size; clear hb5)
     go_ret
     exact ⟨by rw [HE.out]; rfl, HB5.out.alloc (by omega) _⟩
    | true =>
     have HB := Li hb
     have HE := Li (dep_yes hgo' h0 hb)
     have hr2 : Hid (r = 9 - (k + 1)) := by show _ = _; omega
     have H0 := Li h0
     clear h0 hb hf hgo' hr
     go_wp2_with (go_at_call 28; refine (RField_any _ n c x l m _ HN.out HS2.out hl).mono ?_; rintro e w5 ⟨rfl, hb5⟩; rw [HF.out, HB.out]; have HB5 := Li (below_step hbel.out (by omega) hb5); have HQ5 := Li (hq.out.up hb5); have hz5 := hb5.size; clear hb5)
     go_roundw
     case rel => exact ⟨k + 1, f.pa, by omega, rfl, by go_num, HQ5.out.alloc _, HB5.out.alloc (by omega) _, by show _ = _; rw [← hr2.out, ← HF.out]; have h := HE.out; push_cast; exact h⟩
     case measure => simp [intOf]; omega
   ·
    have i1 : ¬ (k : Int) ≤ 8 := by omega
    have HE : Hid (depL l i = k) := by
     show _ = _
     rw [← hgo.out, show 9 - k = 0 by omega, depG]
    have H0 := Li h0
    clear h0
    go_wp2
    go_ret
    exact ⟨by rw [HE.out]; rfl, hbel.out⟩

theorem ins_stop {l : List Fd} {m : Nat} {i g : Int} {d : Bool} (h : insG l g m i = d) (h0 : i = 0) : d = false := by
 subst h0
 cases m <;> simpa [insG] using h.symm
theorem ins_yes {l : List Fd} {m : Nat} {i g : Int} {d : Bool} (h : insG l g (m + 1) i = d) (h0 : ¬ i = 0) (hb : i = g) : d = true := by
 rw [← h, insG, if_neg h0, if_pos hb]
theorem ins_go {l : List Fd} {m : Nat} {i g : Int} {d : Bool} (h : insG l g (m + 1) i = d) (h0 : ¬ i = 0) (hb : ¬ i = g) : insG l g m (fieldD l i).pa = d := by
 rw [← h, insG, if_neg h0, if_neg hb]

set_option maxHeartbeats 1000000 in
set_option maxRecDepth 20000 in
theorem Rinside_any (A : Option Addr) (n c : Nat) (x : Int) (l : List Fd) (i g : Int) (w : World) (hn : n = l.length) (hs : Fds w w.heap.size A l) (hl : n ≤ 9223372036854775807) :
  Calls Tryz.prog 79 #[.agg #[.slice A n c, .int .i64 x], .int .i64 i, .int .i64 g] w fun e w' => e = .returned (.bool (insB l i g)) ∧ Below w.heap.size w w' := by
 have HN := Li hn
 have HS := Li hs
 clear hn hs
 go_enter Tryz.func79, Tryz.ntmps79
 go_wp2
 go_loopw [1, 7] (fun v j wr => ∃ (k : Nat) (m : Int), k ≤ 9 ∧ v = .int .i64 m ∧ j = .int .i64 k ∧ Hid (CB wr w.heap.size 35 [.slice A n c, .int .i64 x]) ∧ Hid (Below w.heap.size w wr) ∧ Hid (insG l g (9 - k) m = insB l i g)) (fun _ j _ => 9 - (intOf j).toNat)
 case atStart => exact ⟨0, i, by omega, rfl, rfl, CB.new _ _ _, al1 _ _, rfl⟩
 case round =>
  obtain ⟨k, m, hk, rfl, rfl, hq, hbel, hgo⟩ := hrel
  have hz := hq.out.lt
  by_cases h0 : m = 0
  ·
   have HE := Li (ins_stop hgo.out h0)
   have e0 : (m != 0) = false := by simpa using h0
   have H0 := Li h0
   clear h0
   go_wp2
   go_ret
   exact ⟨by rw [HE.out]; rfl, hbel.out⟩
  ·
   have e0 : (m != 0) = true := by simpa using h0
   by_cases hlt : k < 9
   ·
    have i1 : (k : Int) ≤ 8 := by omega
    obtain ⟨r, hr⟩ : ∃ r, 9 - k = r + 1 := ⟨8 - k, by omega⟩
    have q0 := hq.out.c2
    have hgo' := hgo.out
    rw [hr] at hgo'
    obtain ⟨f, hf⟩ : ∃ f, fieldD l m = f := ⟨_, rfl⟩
    have HF := Li hf
    have HS2 := Li ((HS.out.below hbel.out).more (show w.heap.size ≤ wr.heap.size by omega))
    by_cases hb : m = g
    ·
     have eg : (m == g) = true := by simpa using hb
     have HB := Li hb
     have HE := Li (ins_yes hgo' h0 hb)
     have H0 := Li h0
     clear h0 hb hf hgo' hr
     go_wp2
     go_ret
     exact ⟨by rw [HE.out]; rfl, hbel.out⟩
    ·
     have eg : (m == g) = false := by simpa using hb
     have HB := Li hb
     have HE := Li (ins_go hgo' h0 hb)
     have hr2 : Hid (r = 9 - (k + 1)) := by show _ = _; omega
     have H0 := Li h0
     clear h0 hb hf hgo' hr
     go_wp2_with (go_at_call 28; refine (RField_any _ n c x l m _ HN.out HS2.out hl).mono ?_; rintro e w5 ⟨rfl, hb5⟩; rw [HF.out]; have HB5 := Li (below_step hbel.out (by omega) hb5); have HQ5 := Li (hq.out.up hb5); have hz5 := hb5.size; clear hb5)
     go_roundw
     case rel => exact ⟨k + 1, f.pa, by omega, rfl, by go_num, HQ5.out.alloc _, HB5.out.alloc (by omega) _, by show _ = _; rw [← hr2.out, ← HF.out]; exact HE.out⟩
     case measure => simp [intOf]; omega
   ·
    have i1 : ¬ (k : Int) ≤ 8 := by omega
    have HE : Hid (insB l i g = false) := by
     show _ = _
     rw [← hgo.out, show 9 - k = 0 by omega, insG]
    have H0 := Li h0
    clear h0
    go_wp2
    go_ret
    exact ⟨by rw [HE.out]; rfl, hbel.out⟩
end Go.Proofs.YtfeemipnalgjnaaGreat
namespace Go.Proofs.YtfeemipnalgjnaaGreat
open Go.RowKit

def takH (g : Fd) (a b : Int) (f : Fd) : Bool := ((f.pa == g.pa) && (f.nm.toList == g.nm.toList) && (f.id != a) && (f.id != b))
def takB (l : List Fd) (g : Fd) (a b : Int) : Bool := l.any (takH g a b) || !namB g.nm
theorem tak_cases (p q r s : Bool) : (p = false ∧ Hid ((p && q && r && s) = false)) ∨ (p = true ∧ q = false ∧ Hid ((p && q && r && s) = false)) ∨ (p = true ∧ q = true ∧ r = false ∧ Hid ((p && q && r && s) = false)) ∨ (p = true ∧ q = true ∧ r = true ∧ s = false ∧ Hid ((p && q && r && s) = false)) ∨ (p = true ∧ q = true ∧ r = true ∧ s = true ∧ Hid ((p && q && r && s) = true)) := by
 unfold Hid
 cases p <;> cases q <;> cases r <;> cases s <;> simp
theorem anyt_step {p : Fd → Bool} {r : List Fd} {k : Nat} {f : Fd} (hd : r.drop k = f :: r.drop (k + 1)) (h : (r.drop k).any p = r.any p) (hc : p f = false) : (r.drop (k + 1)).any p = r.any p := by
 rw [← h, hd, List.any_cons, hc, Bool.false_or]
theorem anyt_stop {p : Fd → Bool} {r : List Fd} {k : Nat} {f : Fd} (hd : r.drop k = f :: r.drop (k + 1)) (h : (r.drop k).any p = r.any p) (hc : p f = true) : r.any p = true := by
 rw [← h, hd, List.any_cons, hc, Bool.true_or]

set_option maxHeartbeats 2000000 in
set_option maxRecDepth 20000 in
theorem Rtaken_any (A : Option Addr) (n c : Nat) (x : Int) (l : List Fd) (g : Fd) (a b : Int) (w : World) (hn : n = l.length) (hs : Fds w w.heap.size A l) (hl : n ≤ 9223372036854775807) (hg : g.nm.size ≤ 9223372036854775807) :
  Calls Tryz.prog 54 #[.agg #[.slice A n c, .int .i64 x], .agg #[.int .i64 g.id, .string g.nm, .int .i64 g.ty, .int .i64 g.pa], .agg #[.int .i64 a, .int .i64 b]] w fun e w' => e = .returned (.bool (takB l g a b)) ∧ Below w.heap.size w w' := by
 have HN := Li hn
 have HS := Li hs
 clear hn hs
 go_enter Tryz.func54, Tryz.ntmps54
 go_wp2
 go_loopw [7] (fun j wr => ∃ k : Nat, k ≤ n ∧ j = .int .i64 k ∧ Hid (CB wr w.heap.size 35 [.slice A n c, .int .i64 x]) ∧ Hid (CB wr (w.heap.size + 1) 58 [.int .i64 g.id, .string g.nm, .int .i64 g.ty, .int .i64 g.pa]) ∧ Hid (CB wr (w.heap.size + 1 + 1) 46 [.int .i64 a, .int .i64 b]) ∧ Hid (Below w.heap.size w wr) ∧ Hid ((l.drop k).any (takH g a b) = l.any (takH g a b))) (fun j _ => n - (intOf j).toNat)
 case atStart => exact ⟨0, by omega, rfl, ((CB.new w _ _).alloc _).alloc _, (CB.new1 w _ _ _).alloc _, CB.new2 w _ _ _ _, al3 _ _ _ _, rfl⟩
 case round =>
  obtain ⟨k, hk, rfl, hq, hf, ha, hbel, hgo⟩ := hrel
  have hz := ha.out.lt
  have hz1 := hf.out.lt
  have hz0 := hq.out.lt
  have q0 := hq.out.cell 0 rfl
  have f1 := hf.out.cell 1 rfl
  have f3 := hf.out.cell 3 rfl
  have a0 := ha.out.c2
  by_cases hlt : k < n
  ·
   have i1 : (k : Int) < (n : Int) := by omega
   obtain ⟨f, hff⟩ := getD_of (l := l) (k := k) (by rw [← HN.out]; exact hlt)
   obtain ⟨bl, off, rfl, hb, c0, c1, c2, c3⟩ := (HS.out.below hbel.out).one hff
   have hd := Li (drop_cons hff)
   clear hff
   rcases tak_cases (f.pa == g.pa) (f.nm.toList == g.nm.toList) (f.id != a) (f.id != b) with ⟨p1, HE⟩ | ⟨p1, p2, HE⟩ | ⟨p1, p2, p3, HE⟩ | ⟨p1, p2, p3, p4, HE⟩ | ⟨p1, p2, p3, p4, HE⟩
   ·
    go_wp2
    go_roundw
    case rel => exact ⟨k + 1, by omega, by go_num, hq.out.alloc _, hf.out.alloc _, ha.out.alloc _, hbel.out.alloc (by omega) _, anyt_step hd.out hgo.out HE.out⟩
    case measure => simp [intOf]; omega
   ·
    go_wp2
    go_roundw
    case rel => exact ⟨k + 1, by omega, by go_num, hq.out.alloc _, hf.out.alloc _, ha.out.alloc _, hbel.out.alloc (by omega) _, anyt_step hd.out hgo.out HE.out⟩
    case measure => simp [intOf]; omega
   ·
    go_wp2
    go_roundw
    case rel => exact ⟨k + 1, by omega, by go_num, hq.out.alloc _, hf.out.alloc _, ha.out.alloc _, hbel.out.alloc (by omega) _, anyt_step hd.out hgo.out HE.out⟩
    case measure => simp [intOf]; omega
   ·
    go_wp2
    go_roundw
    case rel => exact ⟨k + 1, by omega, by go_num, hq.out.alloc _, hf.out.alloc _, ha.out.alloc _, hbel.out.alloc (by omega) _, anyt_step hd.out hgo.out HE.out⟩
    case measure => simp [intOf]; omega
   ·
    go_wp2
    go_ret
    refine ⟨?_, hbel.out.alloc (by omega) _⟩
    unfold takB
    rw [anyt_stop hd.out hgo.out HE.out]
    rfl
  ·
   have i1 : ¬ (k : Int) < (n : Int) := by omega
   have HE := Li (show l.any (takH g a b) = false by rw [← hgo.out, List.drop_of_length_le (by rw [← HN.out]; omega)]; rfl)
   go_wp2_with (go_at_call 78; refine (RName_any _ _ hg).mono ?_; rintro e w' ⟨rfl, rfl⟩)
   go_ret
   refine ⟨?_, hbel.out⟩
   unfold takB
   rw [HE.out]
   rfl
end Go.Proofs.YtfeemipnalgjnaaGreat
namespace Go.Proofs.YtfeemipnalgjnaaGreat
open Go.RowKit Go.Maps

/-- how an element of the map reads: the function's number -/
def kindR : Value → Option (DataW Unit × List MemPlace)
 | .func (.func f) fs cs => if fs.size = 0 ∧ cs.size = 0 then some (.lit (.int .i64 (f : Int)), []) else none
 | .nilFunc => some (.lit (.int .i64 (-1)), [])
 | _ => none
theorem kindR_inv {v : Value} {n : Int} {ps : List MemPlace} (h : kindR v = some (.lit (.int .i64 n), ps)) : (∃ f : Nat, v = .func (.func f) #[] #[] ∧ n = (f : Int)) ∨ (v = .nilFunc ∧ n = -1) := by
 unfold kindR at h
 split at h
 ·
  next f fs cs =>
  split at h
  ·
   next hs =>
   left
   injection h with h
   injection h with h1 h2
   injection h1 with h1
   injection h1 with _ h1
   exact ⟨f, by rw [Array.eq_empty_of_size_eq_zero hs.1, Array.eq_empty_of_size_eq_zero hs.2], h1.symm⟩
  ·
   cases h
 ·
  right
  injection h with h
  injection h with h1 h2
  injection h1 with h1
  injection h1 with _ h1
  exact ⟨rfl, h1.symm⟩
 ·
  cases h
def kl (k : Int) : Lit := .int .i64 k
def fl (f : Nat) : DataW Unit := .lit (.int .i64 (f : Int))
def kinD : DataW Unit := (((((((DataW.map []).put (kl 1) (fl 94)).put (kl 2) (fl 95)).put (kl 3) (fl 96)).put (kl 4) (fl 97)).put (kl 5) (fl 98)).put (kl 6) (fl 99)).put (kl 7) (fl 100)
theorem mapT : Tryz.prog.underlying 108 = some (.map 3 106) := Tryz.underlying108
theorem keyI : Keyed Tryz.prog 3 := int_keyed Tryz.underlying3
def KM (w : World) (b n : Nat) (D : DataW Unit) : Prop := w.ownsMap Tryz.prog 3 kindR b n D
theorem wpList_insert {w : World} {ops : Array Oper} {rest : List Oper} {o : Oper} {a : Act} {Q : Exit → Act → World → Prop} (hg : o.guard = none) (m x v : Operand) (hop : o.op = Op.insert 108 m x v)
  (b n : Nat) (D : DataW Unit) (hm : a.eval m = .map (some b)) (hown : KM w b n D) (hn : n ≤ 100) (k : Int) (f : Nat) (hx : a.eval x = .int .i64 k) (hv : a.eval v = .func (.func f) #[] #[]) (hk : (Lit.int .i64 k).wf = true)
  (hK : ∀ w', KM w' b (n + 1) (D.put (kl k) (fl f)) → w.grownBy w' (some b) → wpList Tryz.prog ops Q rest (a.put o.dst undef) w') : wpList Tryz.prog ops Q (o :: rest) a w := by
 refine wpList_plain hg fun K' hK' => ?_
 obtain ⟨w', hrun, r1, r2⟩ := World.ownsMap.update hown keyI mapT (by simp only [maxLen]; omega) (keyOf_int_mk Tryz.underlying3 hk) (show kindR (.func (.func f) #[] #[]) = some (fl f, []) from rfl)
 unfold Oper.wp
 simp [execOp, hop, hm, hx, hv, hrun, Result.andThen]
 exact hK' _ _ (hK w' r1 r2)

/-- the function of a kind; nil of none -/
def kindV (k : Int) : Value := if k = 1 then .func (.func 94) #[] #[] else if k = 2 then .func (.func 95) #[] #[] else if k = 3 then .func (.func 96) #[] #[] else if k = 4 then .func (.func 97) #[] #[] else if k = 5 then .func (.func 98) #[] #[] else if k = 6 then .func (.func 99) #[] #[] else if k = 7 then .func (.func 100) #[] #[] else .nilFunc
theorem has_else {k : Int} (h : ¬ (1 ≤ k ∧ k ≤ 7)) : Maps.has kinD (kl k) = false := by
 have hne : ∀ j : Int, 1 ≤ j → j ≤ 7 → kl k ≠ kl j := fun j h1 h2 e => by
  unfold kl at e
  injection e with _ e
  omega
 unfold kinD
 rw [has_put_other (hne 7 (by decide) (by decide)), has_put_other (hne 6 (by decide) (by decide)), has_put_other (hne 5 (by decide) (by decide)), has_put_other (hne 4 (by decide) (by decide)), has_put_other (hne 3 (by decide) (by decide)), has_put_other (hne 2 (by decide) (by decide)), has_put_other (hne 1 (by decide) (by decide))]
 rfl
theorem zeroFn (w : World) : (zeroValue 106).run Tryz.prog w = .ok .nilFunc w := by kernel_rfl
theorem kinds_look {w : World} {b : Nat} (h : KM w b 7 kinD) (k : Int) (hk : (Lit.int .i64 k).wf = true) :
  (Instr.lookup 108 (.map (some b)) (.int .i64 k) true).run Tryz.prog w = .ok (.tuple #[kindV k, .bool (decide (1 ≤ k ∧ k ≤ 7))]) w := by
 obtain ⟨v, ps, hrun, hv⟩ := World.ownsMap.look_ok h keyI mapT (zeroFn w) (show kindR .nilFunc = some (.lit (.int .i64 (-1)), []) from rfl) (keyOf_int_mk Tryz.underlying3 hk)
 rw [hrun]
 by_cases hr : 1 ≤ k ∧ k ≤ 7
 ·
  rcases (by omega : k = 1 ∨ k = 2 ∨ k = 3 ∨ k = 4 ∨ k = 5 ∨ k = 6 ∨ k = 7) with rfl | rfl | rfl | rfl | rfl | rfl | rfl
  ·
   rw [show DataW.atKey kinD (.int .i64 1) (.lit (.int .i64 (-1))) = fl 94 from rfl] at hv
   rw [show Maps.has kinD (.int .i64 1) = true from rfl]
   rcases kindR_inv hv with ⟨f, rfl, hf⟩ | ⟨_, hf⟩
   ·
    have e : f = 94 := by omega
    rw [e]
    rfl
   ·
    omega
  ·
   rw [show DataW.atKey kinD (.int .i64 2) (.lit (.int .i64 (-1))) = fl 95 from rfl] at hv
   rw [show Maps.has kinD (.int .i64 2) = true from rfl]
   rcases kindR_inv hv with ⟨f, rfl, hf⟩ | ⟨_, hf⟩
   ·
    have e : f = 95 := by omega
    rw [e]
    rfl
   ·
    omega
  ·
   rw [show DataW.atKey kinD (.int .i64 3) (.lit (.int .i64 (-1))) = fl 96 from rfl] at hv
   rw [show Maps.has kinD (.int .i64 3) = true from rfl]
   rcases kindR_inv hv with ⟨f, rfl, hf⟩ | ⟨_, hf⟩
   ·
    have e : f = 96 := by omega
    rw [e]
    rfl
   ·
    omega
  ·
   rw [show DataW.atKey kinD (.int .i64 4) (.lit (.int .i64 (-1))) = fl 97 from rfl] at hv
   rw [show Maps.has kinD (.int .i64 4) = true from rfl]
   rcases kindR_inv hv with ⟨f, rfl, hf⟩ | ⟨_, hf⟩
   ·
    have e : f = 97 := by omega
    rw [e]
    rfl
   ·
    omega
  ·
   rw [show DataW.atKey kinD (.int .i64 5) (.lit (.int .i64 (-1))) = fl 98 from rfl] at hv
   rw [show Maps.has kinD (.int .i64 5) = true from rfl]
   rcases kindR_inv hv with ⟨f, rfl, hf⟩ | ⟨_, hf⟩
   ·
    have e : f = 98 := by omega
    rw [e]
    rfl
   ·
    omega
  ·
   rw [show DataW.atKey kinD (.int .i64 6) (.lit (.int .i64 (-1))) = fl 99 from rfl] at hv
   rw [show Maps.has kinD (.int .i64 6) = true from rfl]
   rcases kindR_inv hv with ⟨f, rfl, hf⟩ | ⟨_, hf⟩
   ·
    have e : f = 99 := by omega
    rw [e]
    rfl
   ·
    omega
  ·
   rw [show DataW.atKey kinD (.int .i64 7) (.lit (.int .i64 (-1))) = fl 100 from rfl] at hv
   rw [show Maps.has kinD (.int .i64 7) = true from rfl]
   rcases kindR_inv hv with ⟨f, rfl, hf⟩ | ⟨_, hf⟩
   ·
    have e : f = 100 := by omega
    rw [e]
    rfl
   ·
    omega
 ·
  have hh := has_else hr
  have hat := atKey_of_not_has hh (.lit (.int .i64 (-1)))
  unfold kl at hat hh
  rw [hat] at hv
  rcases kindR_inv hv with ⟨f, rfl, hf⟩ | ⟨rfl, _⟩
  ·
   omega
  ·
   rw [hh]
   have e : kindV k = .nilFunc := by
    unfold kindV
    rw [if_neg (by omega), if_neg (by omega), if_neg (by omega), if_neg (by omega), if_neg (by omega), if_neg (by omega), if_neg (by omega)]
   rw [e, decide_eq_false hr]

set_option maxHeartbeats 1000000 in
set_option maxRecDepth 20000 in
theorem kinds_any (w : World) : Calls Tryz.prog 80 #[] w fun e w' => e = .returned (.map (some w.heap.size)) ∧ KM w' w.heap.size 7 kinD ∧ Below w.heap.size w w' := by
 have hmm := @run_makeMap Tryz.prog
 go_enter Tryz.func80, Tryz.ntmps80
 have HM0 := Li (show KM (w.alloc (.map #[] 0)) w.heap.size 0 (.map []) from World.ownsMap_made w Tryz.prog 3 kindR)
 have tok1 : True := trivial
 have tok2 : True := trivial
 have tok3 : True := trivial
 have tok4 : True := trivial
 have tok5 : True := trivial
 have tok6 : True := trivial
 have tok7 : True := trivial
 go_wp2_with (first | ((with_reducible show wpList _ _ _ _ _ _); have _t := tok1; refine wpList_insert rfl (.tmp 1) (.const (.int .i64 1)) (.func 94) rfl w.heap.size 0 _ rfl HM0.out (by decide) 1 94 rfl rfl (by decide) ?_; intro w1 hm1 hg1; clear tok1 _t; have HM1 := Li hm1; have HG1 := Li ((al1 w _).grown hg1 (by simp) (fun k hk => by injection hk with hk; omega)); clear hm1 hg1) | ((with_reducible show wpList _ _ _ _ _ _); have _t := tok2; refine wpList_insert rfl (.tmp 1) (.const (.int .i64 2)) (.func 95) rfl w.heap.size 1 _ rfl HM1.out (by decide) 2 95 rfl rfl (by decide) ?_; intro w2 hm2 hg2; clear tok2 _t; have HM2 := Li hm2; have HG2 := Li (below_grown HG1.out hg2 HG1.out.size (Nat.le_refl _)); clear hm2 hg2) | ((with_reducible show wpList _ _ _ _ _ _); have _t := tok3; refine wpList_insert rfl (.tmp 1) (.const (.int .i64 3)) (.func 96) rfl w.heap.size 2 _ rfl HM2.out (by decide) 3 96 rfl rfl (by decide) ?_; intro w3 hm3 hg3; clear tok3 _t; have HM3 := Li hm3; have HG3 := Li (below_grown HG2.out hg3 HG2.out.size (Nat.le_refl _)); clear hm3 hg3) | ((with_reducible show wpList _ _ _ _ _ _); have _t := tok4; refine wpList_insert rfl (.tmp 1) (.const (.int .i64 4)) (.func 97) rfl w.heap.size 3 _ rfl HM3.out (by decide) 4 97 rfl rfl (by decide) ?_; intro w4 hm4 hg4; clear tok4 _t; have HM4 := Li hm4; have HG4 := Li (below_grown HG3.out hg4 HG3.out.size (Nat.le_refl _)); clear hm4 hg4) | ((with_reducible show wpList _ _ _ _ _ _); have _t := tok5; refine wpList_insert rfl (.tmp 1) (.const (.int .i64 5)) (.func 98) rfl w.heap.size 4 _ rfl HM4.out (by decide) 5 98 rfl rfl (by decide) ?_; intro w5 hm5 hg5; clear tok5 _t; have HM5 := Li hm5; have HG5 := Li (below_grown HG4.out hg5 HG4.out.size (Nat.le_refl _)); clear hm5 hg5) | ((with_reducible show wpList _ _ _ _ _ _); have _t := tok6; refine wpList_insert rfl (.tmp 1) (.const (.int .i64 6)) (.func 99) rfl w.heap.size 5 _ rfl HM5.out (by decide) 6 99 rfl rfl (by decide) ?_; intro w6 hm6 hg6; clear tok6 _t; have HM6 := Li hm6; have HG6 := Li (below_grown HG5.out hg6 HG5.out.size (Nat.le_refl _)); clear hm6 hg6) | ((with_reducible show wpList _ _ _ _ _ _); have _t := tok7; refine wpList_insert rfl (.tmp 1) (.const (.int .i64 7)) (.func 100) rfl w.heap.size 6 _ rfl HM6.out (by decide) 7 100 rfl rfl (by decide) ?_; intro w7 hm7 hg7; clear tok7 _t; have HM7 := Li hm7; have HG7 := Li (below_grown HG6.out hg7 HG6.out.size (Nat.le_refl _)); clear hm7 hg7))
 go_ret
 exact ⟨rfl, HM7.out, HG7.out⟩
end Go.Proofs.YtfeemipnalgjnaaGreat
