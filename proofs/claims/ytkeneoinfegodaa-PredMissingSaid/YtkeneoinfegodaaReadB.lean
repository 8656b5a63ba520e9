/-
  The program's ReadBytes and ReadText, each by a contract.
-/
import Derived.Test.YtkeneoinfegodaaRead
import Derived.Lib.SlBytesRow
namespace Go.Proofs.Ytkeneoinfegodaa
open Go.RowKit Go.Lib

theorem blk_owns {w : World} {g n : Nat} {l : List UInt8} (h : Blk w g (l ++ List.replicate (Int.toNat 0) 0)) (hn : n = l.length) (hl : l.length ≤ 1048576) : Owns w g (.slice (some ⟨g, 0, none⟩) n n) l := by
  have h' : Blk w g l := by simpa using h
  have := h'.owns (B := g) (n := n) (by omega) (by simp only [maxLen]; omega) (Nat.le_refl _)
  subst hn
  simpa using this

/-- string(b): the bytes that the slice shows. -/
theorem run_string_shows {P : Program} (w : World) (src dst : TypeId) (hs : P.underlying src = some (.slice 5)) (he : P.underlying 5 = some (.int .u8)) (hd : P.underlying dst = some .string)
    {B : Nat} {A : Option Addr} {n c : Nat} {l : List UInt8} (hn : n = l.length) (h : Shows w B A l) : (convert src dst (.slice A n c)).run P w = .ok (.string ⟨l.toArray⟩) w := by
  subst hn
  cases A with
  | none =>
    have h0 : l = [] := by
      rcases Nat.eq_zero_or_pos l.length with h0 | h0
      · exact List.eq_nil_of_length_eq_zero h0
      · obtain ⟨b, off, h, _⟩ := h h0
        cases h
    subst h0
    exact run_convert_bytes_nil w src 5 hs he _ c dst hd
  | some ad =>
    have hl : (loadCells ad l.length).run P w = .ok ((l.map fun c => (c.toNat : Int)).map (Value.int .u8)).toArray w := by
      have e : (l.map fun c => (c.toNat : Int)).map (Value.int .u8) = cb l := by simp [cb]
      rw [e]
      have := run_loadCells_list (P := P) w ad (cb l) (fun j v hj => by
        obtain ⟨x, hx, rfl⟩ := cb_get hj
        obtain ⟨b, off, h, _, hc⟩ := h (by have := (List.getElem?_eq_some_iff.1 hx).1; omega)
        injection h with h
        subst h
        simpa [Addr.add_lit] using hc j x hx)
      simpa [cb_len] using this
    rw [run_convert_bytes_string w src dst 5 _ _ c hs he hd, run_bytesToString w ad l.length c _ hl, foldl_push_bytes]
    congr 2
    apply ByteArray.ext
    apply Array.toList_inj.1
    simp [Function.comp_def]

theorem ReadText_any (A : Option Addr) (cap : Nat) (l : List UInt8) (a : Int) (w : World) (hs : Shows w w.heap.size A l) (hc : l.length ≤ cap) (hl : cap ≤ 9223372036854775807) :
    Calls Try.prog 90 #[.slice A l.length cap, .int .i64 a] w fun e w' =>
      e = .returned (.tuple #[.string ⟨(Num.taken l a).toArray⟩, .int .i64 (Num.span l a).2.1, .int .i64 (Num.span l a).2.2]) ∧ w = w' := by
  rcases Num.span_cases l a with ⟨s, n, hv, hsn, hn, _⟩ | hv | hv | hv | hv
  · have HV := Lib.hid hv
    have HT := Lib.hid (Num.taken_ok hv)
    clear hv
    by_cases hcs : cap = s
    · have hcut : Shows w w.heap.size A ((l.drop s).take n) := Shows.cutEnd hsn hc hcs
      have hconv := run_string_shows (P := Try.prog) w 54 9 Try.underlying54 Try.underlying5 Try.underlying9 (n := n) (c := 0) (by simp; omega) hcut
      obtain rfl : s = cap := hcs.symm
      go_enter Try.func90, Try.ntmps90
      go_wp2_with fail
      refine (span_any A s l a w hs (by omega)).mono ?_
      rintro e w1 ⟨rfl, rfl⟩
      rw [HV.out]
      unfold retP
      go_wp2_with fail
      go_ret3
      exact ⟨by rw [HV.out, HT.out]; rfl, rfl⟩
    · have hcut := hs.cutAt hsn hc hcs
      have hconv := run_string_shows (P := Try.prog) w 54 9 Try.underlying54 Try.underlying5 Try.underlying9 (n := n) (c := cap - s) (by simp; omega) hcut
      go_enter Try.func90, Try.ntmps90
      go_wp2_with fail
      refine (span_any A cap l a w hs (by omega)).mono ?_
      rintro e w1 ⟨rfl, rfl⟩
      rw [HV.out]
      unfold retP
      go_wp2_with fail
      go_ret3
      exact ⟨by rw [HV.out, HT.out]; rfl, rfl⟩
  all_goals
    have HV := Lib.hid hv
    have HT := Lib.hid (Num.taken_err hv)
    clear hv
    go_enter Try.func90, Try.ntmps90
    go_wp2_with fail
    refine (span_any A cap l a w hs (by omega)).mono ?_
    rintro e w1 ⟨rfl, rfl⟩
    rw [HV.out]
    unfold retP
    go_wp2_with fail
    go_ret3
    exact ⟨by rw [HV.out, HT.out]; rfl, rfl⟩

end Go.Proofs.Ytkeneoinfegodaa
