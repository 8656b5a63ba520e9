/-
  The reference's Path, by a contract: for valid schemas.
-/
import Derived.Test.YtpgbpfdedpppeaaPthM
import Derived.Test.YtpgbpfdedpppeaaRFld
namespace Go.Proofs.Ytpgbpfdedpppeaa
open Go.RowKit

theorem path_none {l : List Fd} {i : Int} (h : hasF l i = false) : pathOf l i = ⟨#[]⟩ := by
  have : (anc l 8 true i).1 = [] := by
    unfold anc
    by_cases h0 : i = 0
    · rw [if_pos h0]
    · rw [if_neg h0]
      cases hf : fieldG true l i with
      | none => rfl
      | some f =>
        have := fieldG_mem hf
        rw [has_iff.2 ⟨f, this.1, this.2.1⟩] at h
        cases h
  unfold pathOf
  rw [this]
  rfl
theorem pathB_snoc (d : List Fd) (f : Fd) (hd : d ≠ []) : pathB (d ++ [f]) = f.nm.data.toList ++ 46 :: pathB d := by
  unfold pathB
  rw [List.reverse_append, List.reverse_singleton, List.singleton_append, List.map_cons, Lib.join_cons]
  cases h : (d.reverse.map (fun f => f.nm.data.toList)) with
  | nil => simp at h; exact absurd h hd
  | cons x r => rw [tail_cons]
theorem pathB_one (f : Fd) : pathB [f] = f.nm.data.toList := by
  unfold pathB
  rw [List.reverse_singleton, List.map_cons, List.map_nil, Lib.join_one]
theorem pathB_ne {s : Sc} (ho : Ok s) {d : List Fd} (hm : ∀ f ∈ d, f ∈ s.fs) (hd : d ≠ []) : pathB d ≠ [] := by
  intro h0
  unfold pathB at h0
  obtain ⟨x, r, hxr⟩ : ∃ x r, d.reverse.map (fun f => f.nm.data.toList) = x :: r := by
    cases h : d.reverse.map (fun f => f.nm.data.toList) with
    | nil => simp at h; exact absurd h hd
    | cons x r => exact ⟨x, r, rfl⟩
  rw [hxr, Lib.join_cons] at h0
  have hx : x ∈ d.reverse.map (fun f => f.nm.data.toList) := by rw [hxr]; simp
  obtain ⟨k, hk, rfl⟩ := List.mem_map.1 hx
  exact (nam_bytes (ho.nam.1 k (hm k (List.mem_reverse.1 hk)))).1 (List.append_eq_nil_iff.1 h0).1
theorem toList_app (a b : ByteArray) : (a ++ b).data.toList = a.data.toList ++ b.data.toList := by
  simp
theorem nam32 {b : ByteArray} (h : namB b = true) : b.size ≤ 32 := by
  unfold namB at h
  simp only [Bool.and_eq_true, decide_eq_true_iff] at h
  omega
def lenOf : Value → Nat
  | .string o => o.size
  | _ => 0
theorem size_toList (o : ByteArray) : o.size = o.data.toList.length := rfl
theorem line_next {s : Sc} (ho : Ok s) {R : List Fd} {j : Int} (h : Line s.fs R j) : (hasF s.fs j = false ∧ R = []) ∨ (hasF s.fs j = true ∧ Line s.fs R j) := by
  rcases line_inv h with ⟨rfl, rfl⟩ | ⟨f, d, rfl, hf, hi, _⟩
  · left
    refine ⟨?_, rfl⟩
    cases hh : hasF s.fs 0 with
    | false => rfl
    | true =>
      obtain ⟨f, hf, h0⟩ := has_iff.1 hh
      have := ho.pos f hf
      omega
  · right
    exact ⟨has_iff.2 ⟨f, hf, hi⟩, h⟩
theorem line_head {s : Sc} (ho : Ok s) {R : List Fd} {j : Int} (h : Line s.fs R j) (hh : hasF s.fs j = true) : ∃ f r, R = f :: r ∧ f ∈ s.fs ∧ fieldD s.fs j = f ∧ Line s.fs r f.pa := by
  rcases line_inv h with ⟨rfl, rfl⟩ | ⟨f, d, rfl, hf, hi, hl⟩
  · obtain ⟨f, hf, h0⟩ := has_iff.1 hh
    have := ho.pos f hf
    omega
  · exact ⟨f, d, rfl, hf, by rw [← hi]; exact fieldD_eq ho.srt hf, hl⟩
set_option maxHeartbeats 1000000 in
set_option maxRecDepth 20000 in
theorem RPath_ok (A : Option Addr) (n c : Nat) (x : Int) (l : List Fd) (i : Int) (w : World) (hn : n = l.length) (hs : Fds w w.heap.size A l) (ho : Ok ⟨l, x⟩) :
    Calls Try.prog 22 #[.agg #[.slice A n c, .int .i64 x], .int .i64 i] w fun e w' => e = .returned (.string (pathOf l i)) ∧ Below w.heap.size w w' := by
  have HN := Lib.hid hn
  have HS := Lib.hid hs
  have HO := Lib.hid ho
  have hl : n ≤ 9223372036854775807 := by rw [hn]; have := ho.big.1; simp only at this; omega
  have S0 := Lib.hid (CB.new w 30 [.slice A n c, .int .i64 x])
  have B0 := Lib.hid (al1 w (.cells #[.slice A n c, .int .i64 x] 30))
  obtain ⟨F, hF⟩ : ∃ F, (anc l 8 true i).1 = F := ⟨_, rfl⟩
  have hFl : F.length ≤ 8 := by rw [← hF]; exact anc_len l 8 true i
  have hFm : ∀ f ∈ F, f ∈ l := by rw [← hF]; exact anc_mem l 8 true i
  have hres : pathOf l i = ⟨(pathB F).toArray⟩ := by unfold pathOf; rw [hF]
  have hstart : (hasF l i = false ∧ F = []) ∨ (hasF l i = true ∧ Line l F i) := by
    cases hh : hasF l i with
    | false =>
      left
      refine ⟨rfl, ?_⟩
      have := path_none hh
      rw [hres] at this
      have : (pathB F).toArray = #[] := congrArg ByteArray.data this
      have h0 : pathB F = [] := by simpa using this
      by_cases hd : F = []
      · exact hd
      · exact absurd h0 (pathB_ne ho hFm hd)
    | true =>
      right
      obtain ⟨f, hf, rfl⟩ := has_iff.1 hh
      obtain ⟨d, e, hl'⟩ := path_line ho hf
      refine ⟨rfl, ?_⟩
      rw [← hF]
      have e : (anc l 8 true f.id).1 = f :: d := e
      rw [e]
      exact hl'
  have HR := Lib.hid hres
  have HFM := Lib.hid hFm
  clear hn hs ho hF hres hFm
  go_enter Try.func22, Try.ntmps22
  go_wp2
  go_loopw [1, 5, 6, 7] (fun iv ov _ _ wr => ∃ (j : Int) (o : ByteArray) (D R : List Fd), iv = .int .i64 j ∧ ov = .string o ∧ Hid (F = D ++ R) ∧ Hid (o.data.toList = pathB D) ∧ Hid ((hasF l j = false ∧ R = []) ∨ (hasF l j = true ∧ Line l R j)) ∧ o.size ≤ 40 * D.length ∧ Hid (CB wr w.heap.size 30 [.slice A n c, .int .i64 x]) ∧ Hid (Below w.heap.size w wr)) (fun _ ov _ _ _ => 400 - lenOf ov)
  case atStart => exact ⟨i, ⟨#[]⟩, [], F, rfl, rfl, rfl, rfl, hstart, Nat.le_of_ble_eq_true rfl, S0, B0⟩
  case round =>
    obtain ⟨j, o, D, R, rfl, rfl, hF, ho, hst, hsz, hb, hbel⟩ := hrel
    have s0 := hb.out.cell 0 rfl
    have s1 := hb.out.cell 1 rfl
    have hDl : D.length ≤ 8 := by
      have := congrArg List.length hF.out
      rw [List.length_append] at this
      omega
    rcases hst.out with ⟨h1, h2⟩ | ⟨h1, h2⟩
    · have HH := Lib.hid h1
      have hfin : pathOf l i = o := by
        rw [HR.out, hF.out, h2, List.append_nil, ← ho.out]
      have HFI := Lib.hid hfin
      clear h1 h2 hst hfin
      go_wp2_with (first | (go_at_call 20; refine (RField_any A n c x l j _ HN.out (HS.out.up hbel.out) hl).mono ?_; rintro e w9 ⟨rfl, hb9⟩; rw [HH.out]; have S9 := Lib.hid (hb.out.up hb9); have B9 := Lib.hid (below_step hbel.out hbel.out.size hb9); have z9 := S9.out.lt; clear hb9))
      go_ret
      exact ⟨by rw [HFI.out]; rfl, Lib.hid (B9.out.alloc B9.out.size _) |>.out⟩
    · obtain ⟨f, r, rfl, hfm, hfd, hr⟩ := line_head HO.out h2 h1
      have HH := Lib.hid h1
      have HD := Lib.hid hfd
      have hst' := Lib.hid (line_next HO.out hr)
      have hnb := nam_bytes (HO.out.nam.1 f hfm)
      have hn32 := nam32 (HO.out.nam.1 f hfm)
      have hn1 : 1 ≤ f.nm.size := by
        rw [size_toList]
        cases h : f.nm.data.toList with
        | nil => exact absurd h hnb.1
        | cons _ _ => simp
      have hF' : F = (D ++ [f]) ++ r := by rw [hF.out]; simp
      have HF' := Lib.hid hF'
      clear h1 h2 hfd hr hst hnb hF'
      by_cases hD : D = []
      · subst hD
        have ho0 : o = ⟨#[]⟩ := by
          have h := ho.out
          obtain ⟨d⟩ := o
          have : d.toList = [] := h
          have : d = #[] := Array.toList_eq_nil_iff.1 this
          rw [this]
        subst ho0
        have HB : Hid (f.nm.data.toList = pathB ([] ++ [f])) := (pathB_one f).symm
        go_wp2_with (first | (go_at_call 20; refine (RField_any A n c x l j _ HN.out (HS.out.up hbel.out) hl).mono ?_; rintro e w9 ⟨rfl, hb9⟩; rw [HH.out, HD.out]; have S9 := Lib.hid (hb.out.up hb9); have B9 := Lib.hid (below_step hbel.out hbel.out.size hb9); have z9 := S9.out.lt; clear hb9))
        go_roundw
        case rel => exact ⟨f.pa, f.nm, [] ++ [f], r, rfl, rfl, HF', HB, hst', by simp; omega, Lib.hid (S9.out.alloc _), Lib.hid (B9.out.alloc B9.out.size _)⟩
        case measure => show 400 - f.nm.size < 400 - 0; omega
      · have hne : o.toList.isEmpty = false := by
          rw [Lib.toList_data, ho.out]
          have hDm : ∀ f ∈ D, f ∈ l := fun f hf => HFM.out f (by rw [hF.out]; exact List.mem_append.2 (.inl hf))
          cases h : pathB D with
          | nil => exact absurd h (pathB_ne HO.out hDm hD)
          | cons _ _ => rfl
        have HB : Hid ((f.nm ++ ⟨#[46]⟩ ++ o : ByteArray).data.toList = pathB (D ++ [f])) := by
          show _ = _
          rw [pathB_snoc D f hD, toList_app, toList_app, ho.out]
          simp
        have hsn : (f.nm ++ ⟨#[46]⟩ ++ o : ByteArray).size = f.nm.size + 1 + o.size := by
          rw [size_toList, toList_app, toList_app, List.length_append, List.length_append]
          rfl
        go_wp2_with (first | (go_at_call 20; refine (RField_any A n c x l j _ HN.out (HS.out.up hbel.out) hl).mono ?_; rintro e w9 ⟨rfl, hb9⟩; rw [HH.out, HD.out]; have S9 := Lib.hid (hb.out.up hb9); have B9 := Lib.hid (below_step hbel.out hbel.out.size hb9); have z9 := S9.out.lt; clear hb9))
        go_roundw
        case rel => exact ⟨f.pa, f.nm ++ ⟨#[46]⟩ ++ o, D ++ [f], r, rfl, rfl, HF', HB, hst', by rw [hsn]; simp; omega, Lib.hid (S9.out.alloc _), Lib.hid (B9.out.alloc B9.out.size _)⟩
        case measure => simp only [lenOf]; rw [hsn]; omega
end Go.Proofs.Ytpgbpfdedpppeaa
