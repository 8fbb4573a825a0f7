/- Units as texts and powers: products, powers and conversions; the units of texts. The contracts of the numbers in terms of rational numbers; the closure of onTexts; Add, Sub, Mul, Div. Add, Sub, Mul, Div, Compare on texts. Compare, isPositive, Floor on texts. Power of a rational number. -/
import Derived.Test.YtigidchicloleaaGreatDoorRe
import Derived.Outline
import Derived.RegionTactic
import Derived.ChangeAlike
import Derived.BigRegion
import Derived.Deep.RegionHeld3
set_option maxHeartbeats 3200000
set_option maxRecDepth 100000
namespace Go.Proofs.YtigidchicloleaaGreatDoor
open Go.Lib Big
def cntD (l : List UInt8) : Nat := (l.takeWhile isDig).length
end Go.Proofs.YtigidchicloleaaGreatDoor
namespace Go.Proofs.YtigidchicloleaaGreatDoor
open Go.RowKit Go.Lib Big
end Go.Proofs.YtigidchicloleaaGreatDoor
set_option maxHeartbeats 1600000
set_option maxRecDepth 100000
namespace Go.Proofs.YtigidchicloleaaGreatDoor
open Go.RowKit Go.Lib Big
abbrev Blk := Nat × Array Value × TypeId
structure Keep (w0 W : World) (L : List Blk) : Prop where
  below : Below w0.heap.size w0 W
  all : ∀ x ∈ L, W.heap[x.1]? = some (.cells x.2.1 x.2.2 (0, 0))
section
variable {w0 W W' : World} {L : List Blk}
theorem Keep.next (h : Keep w0 W L) (hb : Below W.heap.size W W') : Keep w0 W' L :=
  ⟨h.below.trans (hb.mono h.below.size), fun x hx => (hb.block _ (Array.getElem?_eq_some_iff.1 (h.all x hx)).1).trans (h.all x hx)⟩
theorem Keep.drew (h : Keep w0 W L) : Keep w0 W.drew L := ⟨h.below.drew, h.all⟩
theorem Keep.one (h : Keep w0 W L) (x : Blk) (hx : x ∈ L) : W.heap[x.1]? = some (.cells x.2.1 x.2.2 (0, 0)) := h.all x hx
theorem Keep.nil (w : World) : Keep w w [] := ⟨Below.refl _ _, fun _ h => by cases h⟩
theorem Keep.put {g : Nat} {c : Array Value} {T : TypeId} (h : Keep w0 W ((g, c, T) :: L)) (hg : w0.heap.size ≤ g) (hne : ∀ x ∈ L, x.1 ≠ g) (k : Nat) (v : Value) : Keep w0 (W.setCell ⟨g, k, none⟩ v) ((g, c.setIfInBounds k v, T) :: L) := by
  refine ⟨h.below.setCell hg _, fun x hx => ?_⟩
  rcases List.mem_cons.1 hx with rfl | hx
  · exact heap_set g k c T v (h.all _ (List.mem_cons_self ..))
  · exact (Below.heap_setCell _ _ _ _ (hne x hx)).trans (h.all x (List.mem_cons_of_mem _ hx))
theorem Keep.lt (h : Keep w0 W L) {x : Blk} (hx : x ∈ L) : x.1 < W.heap.size := (Array.getElem?_eq_some_iff.1 (h.all x hx)).1
end
theorem tw_len (p : UInt8 → Bool) (l : List UInt8) (k : Nat) (hk : k ≤ l.length) (ha : (l.take k).all p = true) (hs : k = l.length ∨ ∃ h : k < l.length, p l[k] = false) : (l.takeWhile p).length = k := by
  induction l generalizing k with
  | nil => simp at hk; simp [hk]
  | cons x l ih =>
    cases k with
    | zero =>
      rcases hs with hs | ⟨h, hs⟩
      · simp at hs
      · have : p x = false := hs
        simp [this]
    | succ k =>
      rw [List.take_succ_cons, List.all_cons, Bool.and_eq_true] at ha
      rw [List.takeWhile_cons, if_pos ha.1, List.length_cons, ih k (by simpa using hk) ha.2]
      rcases hs with hs | ⟨h, hs⟩
      · exact .inl (by simpa using hs)
      · exact .inr ⟨by simpa using h, by simpa using hs⟩
theorem all_take_succ' (p : UInt8 → Bool) (l : List UInt8) (k : Nat) (h : k < l.length) (ha : (l.take k).all p = true) (hd : p l[k] = true) : (l.take (k + 1)).all p = true := by
  rw [List.take_succ_eq_append_getElem h, List.all_append, ha]; simp [hd]
end Go.Proofs.YtigidchicloleaaGreatDoor
