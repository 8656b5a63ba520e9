/-
  The program's isSet and fits, by contracts.
-/
import Derived.Test.YtkeneoinfegodaaWf
import Derived.Test.YtkeneoinfegodaaValP
import Derived.Test.YtkeneoinfegodaaCmpP
namespace Go.Proofs.Ytkeneoinfegodaa
open Go.RowKit

/-- whether values are a set of a type, the one ahead of them given -/
def setR (t : Int) : Option Va → List Va → Bool
  | _, [] => true
  | o, v :: l => if v.b = true ∨ okV v t = false ∨ (∃ u, o = some u ∧ 0 ≤ cmpV u v) then false else setR t (some v) l
def setB (t : Int) (l : List Va) : Bool := setR t none l && decide (0 < (l.length : Int))
def prv (l : List Va) (k : Nat) : Option Va := if k = 0 then none else l[k - 1]?
theorem prv_succ {l : List Va} {k : Nat} {f : Va} (h : l[k]? = some f) : prv l (k + 1) = some f := by
  unfold prv
  rw [if_neg (by omega)]
  simpa using h
theorem set_bad {t : Int} {o : Option Va} {l r : List Va} {f : Va} {z : Bool} (hd : l = f :: r) (h : setR t o l = z) (hb : f.b = true ∨ okV f t = false ∨ (∃ u, o = some u ∧ 0 ≤ cmpV u f)) : z = false := by
  rw [← h, hd, setR, if_pos hb]
theorem set_ok {t : Int} {o : Option Va} {l r : List Va} {f : Va} {z : Bool} (hd : l = f :: r) (h : setR t o l = z) (hb : ¬ (f.b = true ∨ okV f t = false ∨ (∃ u, o = some u ∧ 0 ≤ cmpV u f))) : setR t (some f) r = z := by
  rw [← h, hd, setR, if_neg hb]
set_option maxHeartbeats 16000000 in
set_option maxRecDepth 20000 in
theorem isSet_any (A : Option Addr) (n c : Nat) (l : List Va) (t : Int) (w : World) (hn : n = l.length) (hs : Vas w w.heap.size A l) (hv : ∀ v ∈ l, v.Fine) (hl : n ≤ 9223372036854775807) :
    Calls Try.prog 64 #[.slice A n c, .int .i64 t] w fun e w' => e = .returned (.bool (setB t l)) ∧ Below w.heap.size w w' := by
  have HN := Li hn
  have HS := Li hs
  have HV := Li hv
  obtain ⟨z, hz⟩ : ∃ z, setR t none l = z := ⟨_, rfl⟩
  have HZ := Li hz
  have B0 := Li (Below.refl w.heap.size w)
  have hE : setB t l = (z && decide (0 < (n : Int))) := by rw [setB, hz, hn]
  rw [hE]
  clear hn hs hz hv hE
  go_enter Try.func64, Try.ntmps64
  go_wp2
  go_loopw [5, 6, 9] (fun _ _ j wr => ∃ k : Nat, k ≤ n ∧ j = .int .i64 k ∧ Hid (Below w.heap.size w wr) ∧ Hid (setR t (prv l k) (l.drop k) = z)) (fun _ _ j _ => n - (intOf j).toNat)
  case atStart => exact ⟨0, by omega, rfl, B0, HZ⟩
  case round =>
    obtain ⟨k, hk, rfl, B1, HG⟩ := hrel
    by_cases hlt : k < n
    · have i1 : (k : Int) < (n : Int) := by omega
      have i0 : (0 : Int) ≤ (k : Int) := by omega
      obtain ⟨f, hf⟩ := getV_of (l := l) (k := k) (by rw [← HN.out]; exact hlt)
      have HF := Li hf
      obtain ⟨b, off, rfl, hb, c0, c1, c2⟩ := (show Vas wr w.heap.size A l from RowAt.below HS.out B1.out).one hf
      have HD := Li (drop_cons hf)
      have HFV := Li (HV.out f (List.mem_of_getElem? hf))
      clear hf
      obtain ⟨⟨fb, fn, fs⟩, hfe⟩ : ∃ u, u = f := ⟨_, rfl⟩
      subst hfe
      simp only at c0 c1 c2
      go_upto_region 4 with fail
      have PP := Li (show (fun X : World => Below w.heap.size w X ∧ CB X wr.heap.size 37 [.bool fb, .int .i64 fn, .string fs]) _ from ⟨B1.out.alloc B1.out.size (.cells #[.bool fb, .int .i64 fn, .string fs] 37), CB.new wr 37 [.bool fb, .int .i64 fn, .string fs]⟩)
      have ZZ := Li (Nat.lt_of_lt_of_le hb B1.out.size)
      have hal := asz wr (.cells #[.bool fb, .int .i64 fn, .string fs] 37)
      clear c0 c1 c2 hal
      generalize wr.alloc (.cells #[.bool fb, .int .i64 fn, .string fs] 37) = W0 at *
      replace PP : Hid ((fun X : World => Below w.heap.size w X ∧ CB X wr.heap.size 37 [.bool fb, .int .i64 fn, .string fs]) W0.drew) := Li ⟨below_drewN PP.out.1 1, PP.out.2.dr⟩
      cases fb with
      | true =>
        have HZF := Li (set_bad HD.out HG.out (.inl rfl))
        refine wp_region_held_drew (S := fun w' => Hid (Below w.heap.size w w' ∧ CB w' wr.heap.size 37 [.bool true, .int .i64 fn, .string fs])) (by kernel_rfl) PP (fun hHeld => ?_)
        revert hHeld PP
        generalize W0.drew = X0
        generalize hgv : wr.heap.size = gv
        clear hgv
        intro PP hHeld
        refine htk 0 ?_
        refine htf 1 (fun _ h => And.intro h.out.2.c3 h.out.2.lt) ?_
        refine htk 2 ?_
        refine htc 3 (undef) ?_ ?_
        · exact Or.inr ⟨by rfl, rfl⟩
        try simp only [pnz]
        refine htc 4 (undef) ?_ ?_
        · exact Or.inr ⟨by rfl, rfl⟩
        try simp only [pnz]
        refine htc 5 (undef) ?_ ?_
        · exact Or.inr ⟨by rfl, rfl⟩
        try simp only [pnz]
        refine htc 6 (undef) ?_ ?_
        · exact Or.inr ⟨by rfl, rfl⟩
        try simp only [pnz]
        refine htk 7 ?_
        refine htk 8 ?_
        refine htc 9 (undef) ?_ ?_
        · exact Or.inr ⟨by rfl, rfl⟩
        try simp only [pnz]
        refine htc 10 (undef) ?_ ?_
        · exact Or.inr ⟨by rfl, rfl⟩
        try simp only [pnz]
        refine htc 11 (undef) ?_ ?_
        · exact Or.inr ⟨by rfl, rfl⟩
        try simp only [pnz]
        refine htc 12 (undef) ?_ ?_
        · exact Or.inr ⟨by rfl, rfl⟩
        try simp only [pnz]
        refine htc 13 (undef) ?_ ?_
        · exact Or.inr ⟨by rfl, rfl⟩
        try simp only [pnz]
        refine htc 14 (undef) ?_ ?_
        · exact Or.inr ⟨by rfl, rfl⟩
        try simp only [pnz]
        refine htc 15 (undef) ?_ ?_
        · exact Or.inr ⟨by rfl, rfl⟩
        try simp only [pnz]
        refine htc 16 (undef) ?_ ?_
        · exact Or.inr ⟨by rfl, rfl⟩
        try simp only [pnz]
        refine htc 17 (undef) ?_ ?_
        · exact Or.inr ⟨by rfl, rfl⟩
        try simp only [pnz]
        refine htc 18 (undef) ?_ ?_
        · exact Or.inr ⟨by rfl, rfl⟩
        try simp only [pnz]
        refine htc 19 (undef) ?_ ?_
        · exact Or.inr ⟨by rfl, rfl⟩
        try simp only [pnz]
        refine htc 20 (undef) ?_ ?_
        · exact Or.inr ⟨by rfl, rfl⟩
        try simp only [pnz]
        refine htk 21 ?_
        refine wpAnyH_done (by kernel_rfl) ?_ _
        go_wp2_with fail
        go_ret
        exact ⟨by rw [HZF.out]; rfl, PP.out.1⟩
      | false =>
        cases hok : okV ⟨false, fn, fs⟩ t with
        | false =>
          have HOK := Li hok
          have HZF := Li (set_bad HD.out HG.out (.inr (.inl hok)))
          clear hok
          refine wp_region_held_drew (S := fun w' => Hid (Below w.heap.size w w' ∧ CB w' wr.heap.size 37 [.bool false, .int .i64 fn, .string fs])) (by kernel_rfl) PP (fun hHeld => ?_)
          revert hHeld PP
          generalize W0.drew = X0
          generalize hgv : wr.heap.size = gv
          clear hgv
          intro PP hHeld
          refine htk 0 ?_
          refine htf 1 (fun _ h => And.intro h.out.2.c3 h.out.2.lt) ?_
          refine htk 2 ?_
          refine htf 3 (fun _ h => And.intro h.out.2.c3 h.out.2.lt) ?_
          refine htk 4 ?_
          refine rd1 5 fun KK hK => ?_
          go_simp
          go_at_call 63
          refine (Valid_any ⟨false, fn, fs⟩ t false _ HOK.out HFV.out.len).mono ?_
          rintro e v5 ⟨rfl, hb5⟩
          replace PP : Hid ((fun w' : World => Below w.heap.size w w' ∧ CB w' gv 37 [.bool false, .int .i64 fn, .string fs]) _) := Li ⟨below_step PP.out.1 PP.out.1.size hb5, PP.out.2.up hb5⟩
          clear hb5
          go_wp2_with fail
          refine hK.out _ _ (PP) (fun hHeld => ?_)
          clear hK KK
          try simp only [pnz]
          refine htk 6 ?_
          refine htk 7 ?_
          refine htk 8 ?_
          refine htc 9 (undef) ?_ ?_
          · exact Or.inr ⟨by rfl, rfl⟩
          try simp only [pnz]
          refine htc 10 (undef) ?_ ?_
          · exact Or.inr ⟨by rfl, rfl⟩
          try simp only [pnz]
          refine htc 11 (undef) ?_ ?_
          · exact Or.inr ⟨by rfl, rfl⟩
          try simp only [pnz]
          refine htc 12 (undef) ?_ ?_
          · exact Or.inr ⟨by rfl, rfl⟩
          try simp only [pnz]
          refine htc 13 (undef) ?_ ?_
          · exact Or.inr ⟨by rfl, rfl⟩
          try simp only [pnz]
          refine htc 14 (undef) ?_ ?_
          · exact Or.inr ⟨by rfl, rfl⟩
          try simp only [pnz]
          refine htc 15 (undef) ?_ ?_
          · exact Or.inr ⟨by rfl, rfl⟩
          try simp only [pnz]
          refine htc 16 (undef) ?_ ?_
          · exact Or.inr ⟨by rfl, rfl⟩
          try simp only [pnz]
          refine htc 17 (undef) ?_ ?_
          · exact Or.inr ⟨by rfl, rfl⟩
          try simp only [pnz]
          refine htc 18 (undef) ?_ ?_
          · exact Or.inr ⟨by rfl, rfl⟩
          try simp only [pnz]
          refine htc 19 (undef) ?_ ?_
          · exact Or.inr ⟨by rfl, rfl⟩
          try simp only [pnz]
          refine htc 20 (undef) ?_ ?_
          · exact Or.inr ⟨by rfl, rfl⟩
          try simp only [pnz]
          refine htk 21 ?_
          refine wpAnyH_done (by kernel_rfl) ?_ _
          go_wp2_with fail
          go_ret
          exact ⟨by rw [HZF.out]; rfl, PP.out.1⟩
        | true =>
          have HOK := Li hok
          clear hok
          by_cases hk0 : k = 0
          · subst hk0
            have HG2 := Li (show setR t (prv l (0 + 1)) (l.drop (0 + 1)) = z by
              rw [prv_succ HF.out]
              refine set_ok HD.out HG.out (fun h => ?_)
              rcases h with h | h | ⟨u, h, _⟩
              · cases h
              · rw [HOK.out] at h; cases h
              · cases h)
            simp only [Nat.zero_add] at HG2
            refine wp_region_held_drew (S := fun w' => Hid (Below w.heap.size w w' ∧ CB w' wr.heap.size 37 [.bool false, .int .i64 fn, .string fs])) (by kernel_rfl) PP (fun hHeld => ?_)
            revert hHeld PP
            generalize W0.drew = X0
            generalize hgv : wr.heap.size = gv
            clear hgv
            intro PP hHeld
            refine htk 0 ?_
            refine htf 1 (fun _ h => And.intro h.out.2.c3 h.out.2.lt) ?_
            refine htk 2 ?_
            refine htf 3 (fun _ h => And.intro h.out.2.c3 h.out.2.lt) ?_
            refine htk 4 ?_
            refine rd1 5 fun KK hK => ?_
            go_simp
            go_at_call 63
            refine (Valid_any ⟨false, fn, fs⟩ t true _ HOK.out HFV.out.len).mono ?_
            rintro e v5 ⟨rfl, hb5⟩
            replace PP : Hid ((fun w' : World => Below w.heap.size w w' ∧ CB w' gv 37 [.bool false, .int .i64 fn, .string fs]) _) := Li ⟨below_step PP.out.1 PP.out.1.size hb5, PP.out.2.up hb5⟩
            clear hb5
            go_wp2_with fail
            refine hK.out _ _ (PP) (fun hHeld => ?_)
            clear hK KK
            try simp only [pnz]
            refine htk 6 ?_
            refine htk 7 ?_
            refine htk 8 ?_
            refine htk 9 ?_
            refine htk 10 ?_
            refine htk 11 ?_
            refine htc 12 (undef) ?_ ?_
            · exact Or.inr ⟨by rfl, rfl⟩
            try simp only [pnz]
            refine htc 13 (undef) ?_ ?_
            · exact Or.inr ⟨by rfl, rfl⟩
            try simp only [pnz]
            refine htc 14 (undef) ?_ ?_
            · exact Or.inr ⟨by rfl, rfl⟩
            try simp only [pnz]
            refine htc 15 (undef) ?_ ?_
            · exact Or.inr ⟨by rfl, rfl⟩
            try simp only [pnz]
            refine htc 16 (undef) ?_ ?_
            · exact Or.inr ⟨by rfl, rfl⟩
            try simp only [pnz]
            refine htc 17 (undef) ?_ ?_
            · exact Or.inr ⟨by rfl, rfl⟩
            try simp only [pnz]
            refine htc 18 (undef) ?_ ?_
            · exact Or.inr ⟨by rfl, rfl⟩
            try simp only [pnz]
            refine htc 19 (undef) ?_ ?_
            · exact Or.inr ⟨by rfl, rfl⟩
            try simp only [pnz]
            refine htk 20 ?_
            refine htk 21 ?_
            refine wpAnyH_done (by kernel_rfl) ?_ _
            go_wp2_with fail
            go_roundw
            case rel => exact ⟨1, by omega, by go_num, Li PP.out.1, HG2⟩
            case measure => simp [intOf]; omega
          · obtain ⟨q, rfl⟩ : ∃ q, k = q + 1 := ⟨k - 1, by omega⟩
            obtain ⟨u, hu⟩ := getV_of (l := l) (k := q) (by rw [← HN.out]; omega)
            have HUC : Hid (∀ X, Below w.heap.size w X → (X.cell? ⟨b, off + q * 3, none⟩ = some (.bool u.b) ∧ X.cell? ⟨b, off + q * 3 + 1, none⟩ = some (.int .i64 u.n) ∧ X.cell? ⟨b, off + q * 3 + 2, none⟩ = some (.string u.s)) ∧ b < X.heap.size) := fun X hX => by
              obtain ⟨b', off', e, hb', d0, d1, d2⟩ := (show Vas X w.heap.size _ l from RowAt.below HS.out hX).one hu
              cases e
              exact ⟨⟨d0, d1, d2⟩, Nat.lt_of_lt_of_le hb' hX.size⟩
            have hq1 : IntKind.i64.wrap (((q + 1 : Nat) : Int) - 1) = (q : Int) := by rw [IntKind.wrap_i64]; omega
            have hq2 : IntKind.i64.wrap (q : Int) = (q : Int) := by rw [IntKind.wrap_i64]; omega
            have j0 : (0 : Int) ≤ (q : Int) := by omega
            have j1 : (q : Int) < (n : Int) := by omega
            have j2 : decide ((0 : Int) < ((q + 1 : Nat) : Int)) = true := decide_eq_true (by omega)
            have HPv := Li (show prv l (q + 1) = some u from prv_succ hu)
            clear hu hk0
            obtain ⟨cz, hcz⟩ : ∃ x, cmpV u ⟨false, fn, fs⟩ = x := ⟨_, rfl⟩
            have HCZ := Li hcz
            by_cases hc : 0 ≤ cz
            · have e5 : decide ((0 : Int) ≤ cz) = true := decide_eq_true hc
              have HZF := Li (set_bad HD.out HG.out (.inr (.inr ⟨u, HPv.out, by rw [hcz]; exact hc⟩)))
              clear hc hcz
              refine wp_region_held_drew (S := fun w' => Hid (Below w.heap.size w w' ∧ CB w' wr.heap.size 37 [.bool false, .int .i64 fn, .string fs])) (by kernel_rfl) PP (fun hHeld => ?_)
              revert hHeld PP
              generalize W0.drew = X0
              generalize hgv : wr.heap.size = gv
              clear hgv
              intro PP hHeld
              refine htk 0 ?_
              refine htf 1 (fun _ h => And.intro h.out.2.c3 h.out.2.lt) ?_
              refine htk 2 ?_
              refine htf 3 (fun _ h => And.intro h.out.2.c3 h.out.2.lt) ?_
              refine htk 4 ?_
              refine rd1 5 fun KK hK => ?_
              go_simp
              go_at_call 63
              refine (Valid_any ⟨false, fn, fs⟩ t true _ HOK.out HFV.out.len).mono ?_
              rintro e v5 ⟨rfl, hb5⟩
              replace PP : Hid ((fun w' : World => Below w.heap.size w w' ∧ CB w' gv 37 [.bool false, .int .i64 fn, .string fs]) _) := Li ⟨below_step PP.out.1 PP.out.1.size hb5, PP.out.2.up hb5⟩
              clear hb5
              go_wp2_with fail
              refine hK.out _ _ (PP) (fun hHeld => ?_)
              clear hK KK
              try simp only [pnz]
              refine htk 6 ?_
              refine htk 7 ?_
              refine htk 8 ?_
              refine htk 9 ?_
              refine htk 10 ?_
              refine htk 11 ?_
              refine htk 12 ?_
              refine htk 13 ?_
              refine htk 14 ?_
              refine htk 15 ?_
              refine htf 16 (fun _ h => HUC.out _ h.out.1) ?_
              refine htf 17 (fun _ h => And.intro h.out.2.c3 h.out.2.lt) ?_
              refine rd1 18 fun KK hK => ?_
              go_simp
              go_at_call 92
              refine (Compare_any u ⟨false, fn, fs⟩ cz _ HCZ.out).mono ?_
              rintro e v18 ⟨rfl, hb18⟩
              replace PP : Hid ((fun w' : World => Below w.heap.size w w' ∧ CB w' gv 37 [.bool false, .int .i64 fn, .string fs]) _) := Li ⟨below_step PP.out.1 PP.out.1.size hb18, PP.out.2.up hb18⟩
              clear hb18
              go_wp2_with fail
              refine hK.out _ _ (PP) (fun hHeld => ?_)
              clear hK KK
              try simp only [pnz]
              refine htk 19 ?_
              refine htk 20 ?_
              refine htk 21 ?_
              refine wpAnyH_done (by kernel_rfl) ?_ _
              go_wp2_with fail
              go_ret
              exact ⟨by rw [HZF.out]; rfl, PP.out.1⟩
            · have e5 : decide ((0 : Int) ≤ cz) = false := decide_eq_false hc
              have HG2 := Li (show setR t (prv l (q + 1 + 1)) (l.drop (q + 1 + 1)) = z by
                rw [prv_succ HF.out]
                refine set_ok HD.out HG.out (fun h => ?_)
                rcases h with h | h | ⟨u', h, h2⟩
                · cases h
                · rw [HOK.out] at h; cases h
                · rw [HPv.out] at h
                  injection h with h
                  subst h
                  rw [hcz] at h2
                  exact hc h2)
              clear hc hcz
              refine wp_region_held_drew (S := fun w' => Hid (Below w.heap.size w w' ∧ CB w' wr.heap.size 37 [.bool false, .int .i64 fn, .string fs])) (by kernel_rfl) PP (fun hHeld => ?_)
              revert hHeld PP
              generalize W0.drew = X0
              generalize hgv : wr.heap.size = gv
              clear hgv
              intro PP hHeld
              refine htk 0 ?_
              refine htf 1 (fun _ h => And.intro h.out.2.c3 h.out.2.lt) ?_
              refine htk 2 ?_
              refine htf 3 (fun _ h => And.intro h.out.2.c3 h.out.2.lt) ?_
              refine htk 4 ?_
              refine rd1 5 fun KK hK => ?_
              go_simp
              go_at_call 63
              refine (Valid_any ⟨false, fn, fs⟩ t true _ HOK.out HFV.out.len).mono ?_
              rintro e v5 ⟨rfl, hb5⟩
              replace PP : Hid ((fun w' : World => Below w.heap.size w w' ∧ CB w' gv 37 [.bool false, .int .i64 fn, .string fs]) _) := Li ⟨below_step PP.out.1 PP.out.1.size hb5, PP.out.2.up hb5⟩
              clear hb5
              go_wp2_with fail
              refine hK.out _ _ (PP) (fun hHeld => ?_)
              clear hK KK
              try simp only [pnz]
              refine htk 6 ?_
              refine htk 7 ?_
              refine htk 8 ?_
              refine htk 9 ?_
              refine htk 10 ?_
              refine htk 11 ?_
              refine htk 12 ?_
              refine htk 13 ?_
              refine htk 14 ?_
              refine htk 15 ?_
              refine htf 16 (fun _ h => HUC.out _ h.out.1) ?_
              refine htf 17 (fun _ h => And.intro h.out.2.c3 h.out.2.lt) ?_
              refine rd1 18 fun KK hK => ?_
              go_simp
              go_at_call 92
              refine (Compare_any u ⟨false, fn, fs⟩ cz _ HCZ.out).mono ?_
              rintro e v18 ⟨rfl, hb18⟩
              replace PP : Hid ((fun w' : World => Below w.heap.size w w' ∧ CB w' gv 37 [.bool false, .int .i64 fn, .string fs]) _) := Li ⟨below_step PP.out.1 PP.out.1.size hb18, PP.out.2.up hb18⟩
              clear hb18
              go_wp2_with fail
              refine hK.out _ _ (PP) (fun hHeld => ?_)
              clear hK KK
              try simp only [pnz]
              refine htk 19 ?_
              refine htk 20 ?_
              refine htk 21 ?_
              refine wpAnyH_done (by kernel_rfl) ?_ _
              go_wp2_with fail
              go_roundw
              case rel => exact ⟨q + 1 + 1, by omega, by go_num, Li PP.out.1, HG2⟩
              case measure => simp [intOf]; omega
    · have i1 : ¬ (k : Int) < (n : Int) := by omega
      have hE : z = true := by rw [← HG.out, List.drop_eq_nil_of_le (by rw [← HN.out]; omega)]; rfl
      subst hE
      go_wp2
      go_ret
      exact ⟨by first | rfl | (simp; done), B1.out⟩
/-- whether a predicate is about a field of its kind -/
def fitsG (l : List Fd) (op id : Int) (set : List Va) : Bool :=
  if hasF l id = true ∧ decide (1 ≤ (fieldD l id).ty ∧ (fieldD l id).ty ≤ 5) = true then (if op = 1 then (fieldD l id).ty != 4 else if op = 2 then setB (fieldD l id).ty set else if op = 3 then (fieldD l id).ty == 4 else true) else false
set_option maxHeartbeats 16000000 in
set_option maxRecDepth 20000 in
theorem fits_any (A : Option Addr) (nf c : Nat) (x : Int) (l : List Fd) (op id lo hi : Int) (S : Option Addr) (n sc : Nat) (set : List Va) (tx : ByteArray) (K : Option Addr) (m kc : Nat) (w : World) (hn : nf = l.length) (hs : Fds w w.heap.size A l) (hl : nf ≤ 9223372036854775807)
    (hsn' : n = set.length) (hss : Vas w w.heap.size S set) (hsv : ∀ v ∈ set, v.Fine) (hsn : n ≤ 9223372036854775807) :
    Calls Try.prog 38 #[.agg #[.slice A nf c, .int .i64 x], .agg #[.int .i64 op, .int .i64 id, .int .i64 lo, .int .i64 hi, .slice S n sc, .string tx, .slice K m kc]] w fun e w' => e = .returned (.bool (fitsG l op id set)) ∧ Below w.heap.size w w' := by
  have HN := Li hn
  have HS := Li hs
  have HSn := Li hsn'
  have HSS := Li hss
  have HSV := Li hsv
  have S0 := Li ((CB.new w 63 [.slice A nf c, .int .i64 x]).alloc (.cells #[.int .i64 op, .int .i64 id, .int .i64 lo, .int .i64 hi, .slice S n sc, .string tx, .slice K m kc] 25))
  have P0 := Li (CB.new1 w (.cells #[.slice A nf c, .int .i64 x] 63) 25 [.int .i64 op, .int .i64 id, .int .i64 lo, .int .i64 hi, .slice S n sc, .string tx, .slice K m kc])
  have B0 := Li (al2 w (.cells #[.slice A nf c, .int .i64 x] 63) (.cells #[.int .i64 op, .int .i64 id, .int .i64 lo, .int .i64 hi, .slice S n sc, .string tx, .slice K m kc] 25))
  obtain ⟨⟨fid, fnm, ty, fpa⟩, hfd⟩ : ∃ f, fieldD l id = f := ⟨_, rfl⟩
  obtain ⟨bh, hbh⟩ : ∃ b, hasF l id = b := ⟨_, rfl⟩
  obtain ⟨tz, htz⟩ : ∃ b, decide (1 ≤ ty ∧ ty ≤ 5) = b := ⟨_, rfl⟩
  obtain ⟨z, hz⟩ : ∃ z, fitsG l op id set = z := ⟨_, rfl⟩
  rw [hz]
  unfold fitsG at hz
  rw [hfd, hbh, htz] at hz
  have HFD := Li hfd
  have HHF := Li hbh
  have HTY := Li htz
  clear hn hs hsn' hss hsv hfd hbh htz
  cases bh with
  | false =>
    rw [if_neg (by simp)] at hz
    subst hz
    go_enter Try.func38, Try.ntmps38
    go_wp2_with (first | (go_at_call 62; refine (Field_any A nf c x l id _ HN.out (HS.out.up B0.out) hl).mono ?_; rintro e w1 ⟨rfl, hb1⟩; rw [HFD.out, HHF.out]; simp only [Fd.val, Fd.cells]; have P1 := Li (P0.out.up hb1); have S1 := Li (S0.out.up hb1); have B1 := Li (below_step B0.out B0.out.size hb1); have p1 := P1.out.c7; have zp1 := P1.out.lt; clear hb1))
    go_ret
    exact ⟨rfl, B1.out.alloc B1.out.size _⟩
  | true =>
    cases tz with
    | false =>
      rw [if_neg (by simp)] at hz
      subst hz
      go_enter Try.func38, Try.ntmps38
      go_wp2_with (first | (go_at_call 62; refine (Field_any A nf c x l id _ HN.out (HS.out.up B0.out) hl).mono ?_; rintro e w1 ⟨rfl, hb1⟩; rw [HFD.out, HHF.out]; simp only [Fd.val, Fd.cells]; have P1 := Li (P0.out.up hb1); have S1 := Li (S0.out.up hb1); have B1 := Li (below_step B0.out B0.out.size hb1); have p1 := P1.out.c7; have zp1 := P1.out.lt; clear hb1) | (go_at_call 63; refine (Valid_null 0 ⟨#[]⟩ ty _ false HTY.out).mono ?_; rintro e w2 ⟨rfl, hb2⟩; rw [show (decide ((0 : Int) = 0) && empS ⟨#[]⟩) = true from by rw [empS_mt]; rfl, Bool.and_true]; have P2 := Li ((P1.out.alloc (.cells #[.int .i64 fid, .string fnm, .int .i64 ty, .int .i64 fpa] 60)).up hb2); have F2 := Li ((CB.new w1 60 [.int .i64 fid, .string fnm, .int .i64 ty, .int .i64 fpa]).up hb2); have B2 := Li (below_step (B1.out.alloc B1.out.size (.cells #[.int .i64 fid, .string fnm, .int .i64 ty, .int .i64 fpa] 60)) (B1.out.alloc B1.out.size (.cells #[.int .i64 fid, .string fnm, .int .i64 ty, .int .i64 fpa] 60)).size hb2); have p2 := P2.out.c7; have zp2 := P2.out.lt; have f2 := F2.out.c4; have zf2 := F2.out.lt; clear hb2))
      go_ret
      exact ⟨rfl, B2.out⟩
    | true =>
      rw [if_pos ⟨rfl, rfl⟩] at hz
      by_cases h1 : op = 1
      · subst h1
        rw [if_pos rfl] at hz
        subst hz
        go_enter Try.func38, Try.ntmps38
        go_wp2_with (first | (go_at_call 62; refine (Field_any A nf c x l id _ HN.out (HS.out.up B0.out) hl).mono ?_; rintro e w1 ⟨rfl, hb1⟩; rw [HFD.out, HHF.out]; simp only [Fd.val, Fd.cells]; have P1 := Li (P0.out.up hb1); have S1 := Li (S0.out.up hb1); have B1 := Li (below_step B0.out B0.out.size hb1); have p1 := P1.out.c7; have zp1 := P1.out.lt; clear hb1) | (go_at_call 63; refine (Valid_null 0 ⟨#[]⟩ ty _ true HTY.out).mono ?_; rintro e w2 ⟨rfl, hb2⟩; rw [show (decide ((0 : Int) = 0) && empS ⟨#[]⟩) = true from by rw [empS_mt]; rfl, Bool.and_true]; have P2 := Li ((P1.out.alloc (.cells #[.int .i64 fid, .string fnm, .int .i64 ty, .int .i64 fpa] 60)).up hb2); have F2 := Li ((CB.new w1 60 [.int .i64 fid, .string fnm, .int .i64 ty, .int .i64 fpa]).up hb2); have B2 := Li (below_step (B1.out.alloc B1.out.size (.cells #[.int .i64 fid, .string fnm, .int .i64 ty, .int .i64 fpa] 60)) (B1.out.alloc B1.out.size (.cells #[.int .i64 fid, .string fnm, .int .i64 ty, .int .i64 fpa] 60)).size hb2); have p2 := P2.out.c7; have zp2 := P2.out.lt; have f2 := F2.out.c4; have zf2 := F2.out.lt; clear hb2))
        go_ret
        exact ⟨rfl, B2.out⟩
      rw [if_neg h1] at hz
      have e1 : (op == 1) = false := by simpa using h1
      clear h1
      by_cases h2 : op = 2
      · subst h2
        rw [if_pos rfl] at hz
        have HZ := Li hz
        clear hz e1
        go_enter Try.func38, Try.ntmps38
        go_wp2_with (first | (go_at_call 62; refine (Field_any A nf c x l id _ HN.out (HS.out.up B0.out) hl).mono ?_; rintro e w1 ⟨rfl, hb1⟩; rw [HFD.out, HHF.out]; simp only [Fd.val, Fd.cells]; have P1 := Li (P0.out.up hb1); have S1 := Li (S0.out.up hb1); have B1 := Li (below_step B0.out B0.out.size hb1); have p1 := P1.out.c7; have zp1 := P1.out.lt; clear hb1) | (go_at_call 63; refine (Valid_null 0 ⟨#[]⟩ ty _ true HTY.out).mono ?_; rintro e w2 ⟨rfl, hb2⟩; rw [show (decide ((0 : Int) = 0) && empS ⟨#[]⟩) = true from by rw [empS_mt]; rfl, Bool.and_true]; have P2 := Li ((P1.out.alloc (.cells #[.int .i64 fid, .string fnm, .int .i64 ty, .int .i64 fpa] 60)).up hb2); have F2 := Li ((CB.new w1 60 [.int .i64 fid, .string fnm, .int .i64 ty, .int .i64 fpa]).up hb2); have B2 := Li (below_step (B1.out.alloc B1.out.size (.cells #[.int .i64 fid, .string fnm, .int .i64 ty, .int .i64 fpa] 60)) (B1.out.alloc B1.out.size (.cells #[.int .i64 fid, .string fnm, .int .i64 ty, .int .i64 fpa] 60)).size hb2); have p2 := P2.out.c7; have zp2 := P2.out.lt; have f2 := F2.out.c4; have zf2 := F2.out.lt; clear hb2) | (go_at_call 64; refine (isSet_any S n sc set ty _ HSn.out (RowAt.up HSS.out B2.out) HSV.out hsn).mono ?_; rintro e w3 ⟨rfl, hb3⟩; rw [HZ.out]; have B3 := Li (below_step B2.out B2.out.size hb3); clear hb3))
        go_ret
        exact ⟨rfl, B3.out⟩
      rw [if_neg h2] at hz
      have e2 : (op == 2) = false := by simpa using h2
      clear h2
      by_cases h3 : op = 3
      · subst h3
        rw [if_pos rfl] at hz
        subst hz
        clear e1 e2
        go_enter Try.func38, Try.ntmps38
        go_wp2_with (first | (go_at_call 62; refine (Field_any A nf c x l id _ HN.out (HS.out.up B0.out) hl).mono ?_; rintro e w1 ⟨rfl, hb1⟩; rw [HFD.out, HHF.out]; simp only [Fd.val, Fd.cells]; have P1 := Li (P0.out.up hb1); have S1 := Li (S0.out.up hb1); have B1 := Li (below_step B0.out B0.out.size hb1); have p1 := P1.out.c7; have zp1 := P1.out.lt; clear hb1) | (go_at_call 63; refine (Valid_null 0 ⟨#[]⟩ ty _ true HTY.out).mono ?_; rintro e w2 ⟨rfl, hb2⟩; rw [show (decide ((0 : Int) = 0) && empS ⟨#[]⟩) = true from by rw [empS_mt]; rfl, Bool.and_true]; have P2 := Li ((P1.out.alloc (.cells #[.int .i64 fid, .string fnm, .int .i64 ty, .int .i64 fpa] 60)).up hb2); have F2 := Li ((CB.new w1 60 [.int .i64 fid, .string fnm, .int .i64 ty, .int .i64 fpa]).up hb2); have B2 := Li (below_step (B1.out.alloc B1.out.size (.cells #[.int .i64 fid, .string fnm, .int .i64 ty, .int .i64 fpa] 60)) (B1.out.alloc B1.out.size (.cells #[.int .i64 fid, .string fnm, .int .i64 ty, .int .i64 fpa] 60)).size hb2); have p2 := P2.out.c7; have zp2 := P2.out.lt; have f2 := F2.out.c4; have zf2 := F2.out.lt; clear hb2))
        go_ret
        exact ⟨rfl, B2.out⟩
      rw [if_neg h3] at hz
      have e3 : (op == 3) = false := by simpa using h3
      clear h3
      subst hz
      go_enter Try.func38, Try.ntmps38
      go_wp2_with (first | (go_at_call 62; refine (Field_any A nf c x l id _ HN.out (HS.out.up B0.out) hl).mono ?_; rintro e w1 ⟨rfl, hb1⟩; rw [HFD.out, HHF.out]; simp only [Fd.val, Fd.cells]; have P1 := Li (P0.out.up hb1); have S1 := Li (S0.out.up hb1); have B1 := Li (below_step B0.out B0.out.size hb1); have p1 := P1.out.c7; have zp1 := P1.out.lt; clear hb1) | (go_at_call 63; refine (Valid_null 0 ⟨#[]⟩ ty _ true HTY.out).mono ?_; rintro e w2 ⟨rfl, hb2⟩; rw [show (decide ((0 : Int) = 0) && empS ⟨#[]⟩) = true from by rw [empS_mt]; rfl, Bool.and_true]; have P2 := Li ((P1.out.alloc (.cells #[.int .i64 fid, .string fnm, .int .i64 ty, .int .i64 fpa] 60)).up hb2); have F2 := Li ((CB.new w1 60 [.int .i64 fid, .string fnm, .int .i64 ty, .int .i64 fpa]).up hb2); have B2 := Li (below_step (B1.out.alloc B1.out.size (.cells #[.int .i64 fid, .string fnm, .int .i64 ty, .int .i64 fpa] 60)) (B1.out.alloc B1.out.size (.cells #[.int .i64 fid, .string fnm, .int .i64 ty, .int .i64 fpa] 60)).size hb2); have p2 := P2.out.c7; have zp2 := P2.out.lt; have f2 := F2.out.c4; have zf2 := F2.out.lt; clear hb2))
      go_ret
      exact ⟨rfl, B2.out⟩
end Go.Proofs.Ytkeneoinfegodaa
