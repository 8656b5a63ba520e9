/-
  Concat where Leaf and Pair call it.
-/
import Derived.Test.YtmdokldbggingaaDoorConcat
namespace Go.Proofs.YtmdokldbggingaaDoor
open Go.RowKit

theorem lit_shows {w : World} {x : UInt8} {v : Int} {g B : Nat} (hg : w.heap[g]? = some (.cells #[.int .u8 v] 5 (0, 0))) (hv : v = (x.toNat : Int)) (hB : g < B) : Shows w B (some ⟨g, 0, none⟩) [x] := fun _ => ⟨g, 0, rfl, hB, fun i c hi => by
  have h0 : i = 0 := by have := (List.getElem?_eq_some_iff.1 hi).1; simpa using this
  subst h0 hv
  simp at hi
  subst hi
  rw [cell_of_row w g _ _ _ (0, 0) hg]
  rfl⟩

theorem leaf_concat (w1 : World) (x : UInt8) (v : Int) (hv : v = (x.toNat : Int)) (A : Option Addr) (n cap : Nat) (b : List UInt8) (hn : n = b.length) (hs : Shows w1 w1.heap.size A b) (hc : b.length ≤ 999000) (g g2 : Nat) (hg : g = w1.heap.size) (hg2 : g2 = w1.heap.size + 1) :
    Calls Tryd.prog 49 #[.slice (some ⟨g2, 0, none⟩) 2 2] ((w1.alloc (.cells #[.int .u8 v] 5)).alloc (.cells #[.slice (some ⟨g, 0, none⟩) 1 1, .slice A n cap] 22)) fun e w' =>
      ∃ A2 c2 n2, e = .returned (.slice A2 n2 c2) ∧ Hid (n2 = (x :: b).length) ∧ Hid (Shows w' w'.heap.size A2 (x :: b)) ∧ Hid (n2 ≤ c2 ∧ c2 ≤ 9223372036854775807) ∧ Hid (Below w1.heap.size w1 w') := by
  subst hg hg2 hn
  have e1 := heap_alloc_new w1 (.cells #[.int .u8 v] 5)
  have e2 := heap_alloc_new (w1.alloc (.cells #[.int .u8 v] 5)) (.cells #[.slice (some ⟨w1.heap.size, 0, none⟩) 1 1, .slice A b.length cap] 22)
  have z : ∀ (w : World) (o : Obj), (w.alloc o).heap.size = w.heap.size + 1 := fun w o => by simp
  rw [z] at e2
  have e3 := (Below.heap_alloc (w1.alloc (.cells #[.int .u8 v] 5)) (.cells #[.slice (some ⟨w1.heap.size, 0, none⟩) 1 1, .slice A b.length cap] 22) w1.heap.size (by rw [z]; omega)).trans e1
  have b2 : Below w1.heap.size w1 ((w1.alloc (.cells #[.int .u8 v] 5)).alloc (.cells #[.slice (some ⟨w1.heap.size, 0, none⟩) 1 1, .slice A b.length cap] 22)) := ((Below.refl _ _).alloc (Nat.le_refl _) _).alloc (by rw [z]; omega) _
  have zz : ((w1.alloc (.cells #[.int .u8 v] 5)).alloc (.cells #[.slice (some ⟨w1.heap.size, 0, none⟩) 1 1, .slice A b.length cap] 22)).heap.size = w1.heap.size + 1 + 1 := by rw [z, z]
  generalize ((w1.alloc (.cells #[.int .u8 v] 5)).alloc (.cells #[.slice (some ⟨w1.heap.size, 0, none⟩) 1 1, .slice A b.length cap] 22)) = w2 at e2 e3 b2 zz ⊢
  have hcat : cat [⟨some ⟨w1.heap.size, 0, none⟩, [x], 1⟩, ⟨A, b, cap⟩] 2 = x :: b := by simp [cat]
  have ht : tot [⟨some ⟨w1.heap.size, 0, none⟩, [x], 1⟩, ⟨A, b, cap⟩] 2 = b.length + 1 := by rw [← cat_len, hcat]; rfl
  refine (concat_any [⟨some ⟨w1.heap.size, 0, none⟩, [x], 1⟩, ⟨A, b, cap⟩] (w1.heap.size + 1) 2 w2 ?_ (by omega) ?_ (by show tot _ 2 ≤ _; rw [ht]; omega) (by simp)).mono ?_
  · intro i p hp
    rw [cell_of_row w2 _ i _ _ (0, 0) e2]
    match i, hp with
    | 0, hp => simp at hp; subst hp; rfl
    | 1, hp => simp at hp; subst hp; rfl
  · intro i p hp
    match i, hp with
    | 0, hp => simp at hp; subst hp; exact lit_shows e3 hv (by omega)
    | 1, hp => simp at hp; subst hp; exact (hs.below b2).more (by omega)
  · rintro e w' ⟨A2, c2, n2, rfl, hn2, ho2, hb2⟩
    have hh := hn2.out
    have ho := ho2.out
    simp only [List.length_cons, List.length_nil, Nat.zero_add, Nat.reduceAdd] at hh ho
    rw [hcat] at hh ho
    have hsw := Owns.shows ho
    exact ⟨A2, c2, n2, rfl, hh, hsw.2.2, ⟨by rw [hsw.1]; exact hsw.2.1, Owns.cap_le ho⟩, b2.trans (hb2.mono (by omega))⟩

theorem pair_concat (w1 : World) (x : UInt8) (v : Int) (hv : v = (x.toNat : Int)) (gl gr : Nat) (t : TypeId) (l r : List UInt8) (hl : BT w1 gl t l) (hr : BT w1 gr t r) (ll : l.length = 32) (lr : r.length = 32)
    (A : Option Addr) (n cap : Nat) (b : List UInt8) (hn : n = b.length) (hs : Shows w1 w1.heap.size A b) (hc : b.length ≤ 999000) (g g2 : Nat) (hg : g = w1.heap.size) (hg2 : g2 = w1.heap.size + 1) :
    Calls Tryd.prog 49 #[.slice (some ⟨g2, 0, none⟩) 4 4] ((w1.alloc (.cells #[.int .u8 v] 5)).alloc (.cells #[.slice (some ⟨g, 0, none⟩) 1 1, .slice (some ⟨gl, 0, none⟩) 32 32, .slice (some ⟨gr, 0, none⟩) 32 32, .slice A n cap] 22)) fun e w' =>
      ∃ A2 c2 n2, e = .returned (.slice A2 n2 c2) ∧ Hid (n2 = (x :: (l ++ r ++ b)).length) ∧ Hid (Shows w' w'.heap.size A2 (x :: (l ++ r ++ b))) ∧ Hid (n2 ≤ c2 ∧ c2 ≤ 9223372036854775807) ∧ Hid (Below w1.heap.size w1 w') := by
  subst hg hg2 hn
  have e1 := heap_alloc_new w1 (.cells #[.int .u8 v] 5)
  have e2 := heap_alloc_new (w1.alloc (.cells #[.int .u8 v] 5)) (.cells #[.slice (some ⟨w1.heap.size, 0, none⟩) 1 1, .slice (some ⟨gl, 0, none⟩) 32 32, .slice (some ⟨gr, 0, none⟩) 32 32, .slice A b.length cap] 22)
  have z : ∀ (w : World) (o : Obj), (w.alloc o).heap.size = w.heap.size + 1 := fun w o => by simp
  rw [z] at e2
  have e3 := (Below.heap_alloc (w1.alloc (.cells #[.int .u8 v] 5)) (.cells #[.slice (some ⟨w1.heap.size, 0, none⟩) 1 1, .slice (some ⟨gl, 0, none⟩) 32 32, .slice (some ⟨gr, 0, none⟩) 32 32, .slice A b.length cap] 22) w1.heap.size (by rw [z]; omega)).trans e1
  have b2 : Below w1.heap.size w1 ((w1.alloc (.cells #[.int .u8 v] 5)).alloc (.cells #[.slice (some ⟨w1.heap.size, 0, none⟩) 1 1, .slice (some ⟨gl, 0, none⟩) 32 32, .slice (some ⟨gr, 0, none⟩) 32 32, .slice A b.length cap] 22)) := ((Below.refl _ _).alloc (Nat.le_refl _) _).alloc (by rw [z]; omega) _
  have zz : ((w1.alloc (.cells #[.int .u8 v] 5)).alloc (.cells #[.slice (some ⟨w1.heap.size, 0, none⟩) 1 1, .slice (some ⟨gl, 0, none⟩) 32 32, .slice (some ⟨gr, 0, none⟩) 32 32, .slice A b.length cap] 22)).heap.size = w1.heap.size + 1 + 1 := by rw [z, z]
  generalize ((w1.alloc (.cells #[.int .u8 v] 5)).alloc (.cells #[.slice (some ⟨w1.heap.size, 0, none⟩) 1 1, .slice (some ⟨gl, 0, none⟩) 32 32, .slice (some ⟨gr, 0, none⟩) 32 32, .slice A b.length cap] 22)) = w2 at e2 e3 b2 zz ⊢
  have hcat : cat [⟨some ⟨w1.heap.size, 0, none⟩, [x], 1⟩, ⟨some ⟨gl, 0, none⟩, l, 32⟩, ⟨some ⟨gr, 0, none⟩, r, 32⟩, ⟨A, b, cap⟩] 4 = x :: (l ++ r ++ b) := by simp [cat]
  have ht : tot [⟨some ⟨w1.heap.size, 0, none⟩, [x], 1⟩, ⟨some ⟨gl, 0, none⟩, l, 32⟩, ⟨some ⟨gr, 0, none⟩, r, 32⟩, ⟨A, b, cap⟩] 4 = b.length + 65 := by rw [← cat_len, hcat]; simp [ll, lr]; omega
  refine (concat_any [⟨some ⟨w1.heap.size, 0, none⟩, [x], 1⟩, ⟨some ⟨gl, 0, none⟩, l, 32⟩, ⟨some ⟨gr, 0, none⟩, r, 32⟩, ⟨A, b, cap⟩] (w1.heap.size + 1) 4 w2 ?_ (by omega) ?_ (by show tot _ 4 ≤ _; rw [ht]; omega) (by simp)).mono ?_
  · intro i p hp
    rw [cell_of_row w2 _ i _ _ (0, 0) e2]
    match i, hp with
    | 0, hp => simp at hp; subst hp; rfl
    | 1, hp => simp at hp; subst hp; simp [Part.val, ll]
    | 2, hp => simp at hp; subst hp; simp [Part.val, lr]
    | 3, hp => simp at hp; subst hp; rfl
  · intro i p hp
    match i, hp with
    | 0, hp => simp at hp; subst hp; exact lit_shows e3 hv (by omega)
    | 1, hp => simp at hp; subst hp; exact (hl.below b2 hl.lt).shows (by have := hl.lt; omega)
    | 2, hp => simp at hp; subst hp; exact (hr.below b2 hr.lt).shows (by have := hr.lt; omega)
    | 3, hp => simp at hp; subst hp; exact (hs.below b2).more (by omega)
  · rintro e w' ⟨A2, c2, n2, rfl, hn2, ho2, hb2⟩
    have hh := hn2.out
    have ho := ho2.out
    simp only [List.length_cons, List.length_nil, Nat.zero_add, Nat.reduceAdd] at hh ho
    rw [hcat] at hh ho
    have hsw := Owns.shows ho
    exact ⟨A2, c2, n2, rfl, hh, hsw.2.2, ⟨by rw [hsw.1]; exact hsw.2.1, Owns.cap_le ho⟩, b2.trans (hb2.mono (by omega))⟩
end Go.Proofs.YtmdokldbggingaaDoor
