/-
  The program's Apply, by one contract.
-/
import Derived.Test.YtpgbpfdedpppeaaAppP
namespace Go.Proofs.Ytpgbpfdedpppeaa
open Go.RowKit

theorem Apply_any (A : Option Addr) (n c : Nat) (x : Int) (l : List Fd) (kd id wi : Int) (nm ot : ByteArray) (ty pa : Int) (sep : ByteArray) (w : World) (hn : n = l.length) (hs : Fds w w.heap.size A l) (hl0 : n ≤ 1000) (hx0 : 0 ≤ x) (hx1 : x ≤ 2305843009213693952) (hsep : sep.size ≤ 9223372036854775807) (hnl : AllN (fun s => s.size ≤ 9223372036854775807) l) (hnm : nm.size ≤ 9223372036854775807) (hot : ot.size ≤ 9223372036854775807) (hwf : (Lit.int .i64 kd).wf = true) :
    Calls Try.prog 14 #[.agg #[.slice A n c, .int .i64 x], .agg #[.int .i64 kd, .int .i64 id, .int .i64 wi, .string nm, .string ot, .int .i64 ty, .int .i64 pa, .string sep]] w fun e w' => ResS w w' (applyP ⟨l, x⟩ ⟨kd, id, wi, nm, ot, ty, pa, sep⟩) e ∧ Below w.heap.size w w' := by
  by_cases hk : 1 ≤ kd ∧ kd ≤ 7
  · have h : kd = 1 ∨ kd = 2 ∨ kd = 3 ∨ kd = 4 ∨ kd = 5 ∨ kd = 6 ∨ kd = 7 := by omega
    rcases h with rfl | rfl | rfl | rfl | rfl | rfl | rfl
    · exact Apply_add A n c x l id wi nm ot ty pa sep w hn hs hl0 hx0 hx1 hsep hnl hnm hot
    · exact Apply_drop A n c x l id wi nm ot ty pa sep w hn hs hl0 hx0 hx1 hsep hnl hnm hot
    · exact Apply_ren A n c x l id wi nm ot ty pa sep w hn hs hl0 hx0 hx1 hsep hnl hnm hot
    · exact Apply_wid A n c x l id wi nm ot ty pa sep w hn hs hl0 hx0 hx1 hsep hnl hnm hot
    · exact Apply_mov A n c x l id wi nm ot ty pa sep w hn hs hl0 hx0 hx1 hsep hnl hnm hot
    · exact Apply_spl A n c x l id wi nm ot ty pa sep w hn hs hl0 hx0 hx1 hsep hnl hnm hot
    · exact Apply_joi A n c x l id wi nm ot ty pa sep w hn hs hl0 hx0 hx1 hsep hnl hnm hot
  · have h := Apply_none A n c x l kd id wi nm ot ty pa sep w hn hs hl0 hx0 hx1 hsep hnl hnm hot hwf hk
    have e : applyP ⟨l, x⟩ ⟨kd, id, wi, nm, ot, ty, pa, sep⟩ = (Sc.zero, 1) := by
      unfold applyP
      exact if_neg hk
    rw [e]
    exact h
end Go.Proofs.Ytpgbpfdedpppeaa
