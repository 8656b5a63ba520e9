/-
 The closures of package lens, by contracts.
-/
import Derived.Test.YtfeemipnalgjnaaGreatHd
import Derived.Test.YtfeemipnalgjnaaGreatWth
import Derived.Test.YtfeemipnalgjnaaGreatLnM
import Derived.Test.YtfeemipnalgjnaaGreatLays
namespace Go.Proofs.YtfeemipnalgjnaaGreat
open Go.RowKit

/-- a row that is returned -/
def RetC (w' : World) (q : List Ce) (e : Ending) : Prop := ∃ (A' : Option Addr) (c' : Nat), e = .returned (.agg #[.slice A' q.length c']) ∧ Ces w' w'.heap.size A' q ∧ q.length ≤ c' ∧ c' ≤ 9223372036854775807
theorem RetO.c {w w' : World} {q : List Ce} {e : Ending} (h : RetO w w' q e) : RetC w' q e := by
 obtain ⟨A, c, rfl, ho⟩ := h
 obtain ⟨_, h1, h2, h3⟩ := ho.row
 exact ⟨A, c, rfl, h3, by simpa using h1, h2⟩
/-- Go's own variable that strings.Cut reads -/
def GV (w : World) : Prop := ∃ m : Int, w.cell? ⟨0, 0, none⟩ = some (.int .i64 m)
theorem GV.lt {w : World} (h : GV w) : 0 < w.heap.size := by
 obtain ⟨m, hm⟩ := h
 unfold World.cell? at hm
 rcases Nat.eq_zero_or_pos w.heap.size with h0 | h0
 ·
  rw [Array.getElem?_eq_none (by simp only; omega)] at hm
  cases hm
 ·
  exact h0
theorem GV.up {w w' : World} (h : GV w) (hb : Below w.heap.size w w') : GV w' := by
 obtain ⟨m, hm⟩ := h
 exact ⟨m, (hb.cell (p := ⟨0, 0, none⟩) (GV.lt ⟨m, hm⟩)).trans hm⟩
/-- the two parts of a value, in the program's words -/
def divP (t : Va) (sep : ByteArray) : Va × Va :=
 if (Lib.cut t.s.data.toList sep.data.toList).2.2 = true then (⟨false, 0, ⟨(Lib.cut t.s.data.toList sep.data.toList).1.toArray⟩⟩, ⟨false, 0, ⟨(Lib.cut t.s.data.toList sep.data.toList).2.1.toArray⟩⟩) else (t, Va.nul)
def undP (a b : Va) (sep : ByteArray) : Va := if b.b = true then a else conL a b sep
def narP (r : List Ce) (i : Int) : List Ce := setL r i (if okV (getL r i) 2 = true then getL r i else Va.nul)
def diP (r : List Ce) (wh p0 p1 : Int) (sep : ByteArray) : List Ce := setL (setL (setL r wh Va.nul) p0 (divP (getL r wh) sep).1) p1 (divP (getL r wh) sep).2
def coP (f : Va → Va → ByteArray → Va) (r : List Ce) (p0 p1 wh : Int) (sep : ByteArray) : List Ce := setL (setL (setL r p0 Va.nul) p1 Va.nul) wh (f (getL r p0) (getL r p1) sep)
theorem len3 (r : List Ce) (a b d : Int) (x y z : Va) : (setL (setL (setL r a x) b y) d z).length ≤ r.length + 3 := by
 have h1 := set_len r a x
 have h2 := set_len (setL r a x) b y
 have h3 := set_len (setL (setL r a x) b y) d z
 omega

set_option maxRecDepth 20000 in
theorem unchanged_any (A : Option Addr) (n c : Nat) (w : World) :
  Calls Tryz.prog 62 #[.agg #[.slice A n c]] w fun e w' => e = .returned (.agg #[.slice A n c]) ∧ Below w.heap.size w w' := by
 go_enter Tryz.func62, Tryz.ntmps62
 go_wp2
 refine bodyPost_ret (res_cell1 Tryz.results62 rfl (CB.new1 w (.cells #[.slice A n c] 30) 30 [.slice A n c]) Tryz.underlying30 sizeRw rfl) rfl ⟨rfl, al2 w (.cells #[.slice A n c] 30) (.cells #[.slice A n c] 30)⟩

set_option maxHeartbeats 2000000 in
set_option maxRecDepth 20000 in
theorem dropping1_any (A : Option Addr) (n c : Nat) (r : List Ce) (i : Int) (g : Nat) (w : World) (hn : n = r.length) (hs : Ces w w.heap.size A r) (hl : n ≤ 1000) (hc : n ≤ c) (hcm : c ≤ 9223372036854775807) (hi : Inc r) (hg : CB w g 3 [.int .i64 i]) :
  Calls Tryz.prog 84 #[.agg #[.slice A n c], .pointer (some ⟨g, 0, none⟩)] w fun e w' => RetO w w' (setL r i Va.nul) e ∧ Below w.heap.size w w' := by
 have HN := Li hn
 have HS := Li hs
 have hgl := hg.lt
 have R0 := Li ((CB.new w 30 [.slice A n c]).alloc (.cells #[.slice none 0 0] 30))
 have I0 := Li ((hg.alloc (.cells #[.slice A n c] 30)).alloc (.cells #[.slice none 0 0] 30))
 have T0 := Li (CB.new1 w (.cells #[.slice A n c] 30) 30 [.slice none 0 0])
 have BB := Li (al2 w (.cells #[.slice A n c] 30) (.cells #[.slice none 0 0] 30))
 clear hs hn hg
 go_enter Tryz.func84, Tryz.ntmps84
 go_upto_region 1 with fail
 generalize (w.alloc (.cells #[.slice A n c] 30)).alloc (.cells #[.slice none 0 0] 30) = W0 at *
 have R0 := Li R0.out.dr
 have I0 := Li I0.out.dr
 have T0 := Li T0.out.dr
 have BB := Li BB.out.drew
 refine wp_region_held_drew (S := fun w' => Hid (CB w' w.heap.size 30 [.slice A n c] ∧ CB w' g 3 [.int .i64 i])) (by kernel_rfl) (Li ⟨R0.out, I0.out⟩) (fun hHeld => ?_)
 revert hHeld R0 I0 T0 BB
 generalize W0.drew = X0
 intro R0 I0 T0 BB hHeld
 refine htf 0 (fun _ h => And.intro (h.out.1.cell 0 rfl) (And.intro (h.out.1.lt) (And.intro (h.out.2.cell 0 rfl) (h.out.2.lt)))) ?_
 refine htf 1 (fun _ h => And.intro (h.out.1.cell 0 rfl) (And.intro (h.out.1.lt) (And.intro (h.out.2.cell 0 rfl) (h.out.2.lt)))) ?_
 refine rd1 2 fun KK hK => ?_
 go_simp
 go_at_call 86
 refine (null_any _).mono ?_
 rintro e v2 ⟨rfl, hb8⟩
 have R0 := Li (R0.out.up hb8)
 have I0 := Li (I0.out.up hb8)
 have T0 := Li (T0.out.up hb8)
 have BB := Li (below_step BB.out BB.out.size hb8)
 clear hb8
 go_wp2_with fail
 refine hK.out _ _ (Li ⟨R0.out, I0.out⟩) (fun hHeld => ?_)
 clear hK KK
 try simp only [pnz]
 refine rd1 3 fun KK hK => ?_
 go_simp
 go_at_call 85
 refine (withC_any A n c r i ⟨true, 0, ⟨#[]⟩⟩ _ HN.out (HS.out.up BB.out) (by omega) hc hcm hi).mono ?_
 rintro e v3 ⟨⟨A4, c4, rfl, ho4⟩, hb8⟩
 have HO := Li (ho4.low (b := w.heap.size) BB.out.size)
 clear ho4
 have R0 := Li (R0.out.up hb8)
 have I0 := Li (I0.out.up hb8)
 have T0 := Li (T0.out.up hb8)
 have BB := Li (below_step BB.out BB.out.size hb8)
 clear hb8
 go_wp2_with fail
 refine hK.out _ _ (Li ⟨R0.out, I0.out⟩) (fun hHeld => ?_)
 clear hK KK
 try simp only [pnz]
 refine rd1 4 fun KK hK => ?_
 refine step_store_cb rfl 30 (.tmp 3) (.tmp 7) rfl (w.heap.size + 1) [.slice A4 (setL r i ⟨true, 0, ⟨#[]⟩⟩).length c4] rfl rfl 30 [.slice none 0 0] 1 T0.out sizeRw rfl rfl (one_rw _ _ _) ?_
 intro s4 hc4 hg4 hz4
 have R0 := Li (R0.out.grown hg4 (by intro h; injection h with h; omega))
 have I0 := Li (I0.out.grown hg4 (by intro h; injection h with h; omega))
 have HO := Li (HO.out.kept hg4 (.inr (HO.out.ne T0.out (by decide)).symm))
 have T0 := Li hc4
 have BB := Li (below_grown BB.out hg4 BB.out.size (by omega))
 refine hK.out _ _ (Li ⟨R0.out, I0.out⟩) (fun hHeld => ?_)
 clear hK KK
 try simp only [pnz]
 refine wpAnyH_done (by kernel_rfl) ?_ _
 go_wp2_with fail
 refine bodyPost_ret (res_cell1 Tryz.results84 rfl T0.out Tryz.underlying30 sizeRw rfl) rfl ⟨⟨A4, c4, rfl, HO.out⟩, BB.out⟩

theorem vsz {r : List Ce} (hi : Inc r) (hz : ∀ d ∈ r, d.v.s.size ≤ 1000) (i : Int) : (getL r i).s.size ≤ 1000 := by
 rcases get_cases r i hi with ⟨d, hd, _, h⟩ | ⟨_, h⟩
 ·
  rw [h]; exact hz d hd
 ·
  rw [h]; decide
end Go.Proofs.YtfeemipnalgjnaaGreat
