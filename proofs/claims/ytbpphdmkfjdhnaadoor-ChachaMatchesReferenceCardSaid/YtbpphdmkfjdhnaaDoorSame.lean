/-
  The reference's Same at equal bytes, by a contract.
-/
import Derived.Test.YtbpphdmkfjdhnaaDoorMem
import Derived.Test.YtbpphdmkfjdhnaaDoorProg
import Derived.Lib.SlBytesRow
namespace Go.Proofs.YtbpphdmkfjdhnaaDoor
open Go.RowKit

/-- string(b): the bytes that the slice shows. -/
theorem run_string_shows {P : Program} (w : World) (src dst : TypeId) (hs : P.underlying src = some (.slice 5)) (he : P.underlying 5 = some (.int .u8)) (hd : P.underlying dst = some .string)
    {B : Nat} {A : Option Addr} {n c : Nat} {l : List UInt8} (hn : n = l.length) (h : Shows w B A l) : (convert src dst (.slice A n c)).run P w = .ok (.string ⟨l.toArray⟩) w := by
  subst hn
  cases A with
  | none =>
    have h0 : l = [] := by
      rcases Nat.eq_zero_or_pos l.length with h0 | h0
      · exact List.eq_nil_of_length_eq_zero h0
      · obtain ⟨b, off, h, _⟩ := h h0
        cases h
    subst h0
    exact run_convert_bytes_nil w src 5 hs he _ c dst hd
  | some ad =>
    have hl : (loadCells ad l.length).run P w = .ok ((l.map fun c => (c.toNat : Int)).map (Value.int .u8)).toArray w := by
      have e : (l.map fun c => (c.toNat : Int)).map (Value.int .u8) = cb l := by simp [cb]
      rw [e]
      have := run_loadCells_list (P := P) w ad (cb l) (fun j v hj => by
        obtain ⟨x, hx, rfl⟩ := cb_get hj
        obtain ⟨b, off, h, _, hc⟩ := h (by have := (List.getElem?_eq_some_iff.1 hx).1; omega)
        injection h with h
        subst h
        simpa [Addr.add_lit] using hc j x hx)
      simpa [cb_len] using this
    rw [run_convert_bytes_string w src dst 5 _ _ c hs he hd, run_bytesToString w ad l.length c _ hl, foldl_push_bytes]
    congr 2
    apply ByteArray.ext
    apply Array.toList_inj.1
    simp [Function.comp_def]

theorem Same_same (A : Option Addr) (n c : Nat) (C : Option Addr) (m d : Nat) (l : List UInt8) (w : World) (hn : n = l.length) (hm : m = l.length) (ha : Shows w w.heap.size A l) (hc : Shows w w.heap.size C l) :
    Calls Tryd.prog 14 #[.slice A n c, .slice C m d] w fun e w' => e = .returned (.bool true) ∧ w' = w := by
  subst hn hm
  have h1 := run_string_shows (P := Tryd.prog) w 22 9 Tryd.underlying22 Tryd.underlying5 Tryd.underlying9 (c := c) rfl ha
  have h2 := run_string_shows (P := Tryd.prog) w 22 9 Tryd.underlying22 Tryd.underlying5 Tryd.underlying9 (c := d) rfl hc
  go_enter Tryd.func14, Tryd.ntmps14
  go_wp2
  go_ret
  exact ⟨rfl, rfl⟩
end Go.Proofs.YtbpphdmkfjdhnaaDoor
