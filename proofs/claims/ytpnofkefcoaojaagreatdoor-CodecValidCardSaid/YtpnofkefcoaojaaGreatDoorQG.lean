/- Units as texts and powers: products, powers and conversions; the units of texts. The contracts of the numbers in terms of rational numbers; the closure of onTexts; Add, Sub, Mul, Div. Add, Sub, Mul, Div, Compare on texts. Compare, isPositive, Floor on texts. Power of a rational number. -/
import Derived.Test.YtpnofkefcoaojaaGreatDoorRe
import Derived.Outline
import Derived.RegionTactic
import Derived.ChangeAlike
import Derived.BigRegion
import Derived.Deep.RegionHeld3
set_option maxHeartbeats 3200000
set_option maxRecDepth 100000
namespace Go.Proofs.YtpnofkefcoaojaaGreatDoor
open Go.Lib Big
def cntD (l : List UInt8) : Nat := (l.takeWhile isDig).length
structure FacT where
  v : Rat
  ps : List Int
  e : Int
def satT (ds : List UInt8) : Int := ds.foldl (fun (e : Int) c => if e ≤ 12 then e * 10 + ((c.toNat : Int) - 48) else e) 0
end Go.Proofs.YtpnofkefcoaojaaGreatDoor
namespace Go.Proofs.YtpnofkefcoaojaaGreatDoor
open Go.RowKit Go.Lib Big
def RatIs (w : World) (x : Value) (q : Rat) (K : Nat) : Prop := ∃ s a b, RatAt w x s a b ∧ ratv s a b = q ∧ 0 < b ∧ a < B64 ^ K ∧ b < B64 ^ K
theorem RatIs.below {w w' : World} {x : Value} {q : Rat} {K : Nat} (h : RatIs w x q K) (hb : Below w.heap.size w w') : RatIs w' x q K := by
  obtain ⟨s, a, b, h1, h2⟩ := h
  exact ⟨s, a, b, h1.below hb, h2⟩
theorem RatIs.more {w : World} {x : Value} {q : Rat} {K M : Nat} (h : RatIs w x q K) (hM : K ≤ M) : RatIs w x q M := by
  obtain ⟨s, a, b, h1, h2, h3, h4, h5⟩ := h
  have := Nat.pow_le_pow_right B64_pos hM
  exact ⟨s, a, b, h1, h2, h3, by omega, by omega⟩
theorem RatIs.agg {w : World} {x : Value} {q : Rat} {K : Nat} (h : RatIs w x q K) : ∃ b p n c r m d, x = .agg #[.bool b, .slice p n c, .slice r m d] := by
  obtain ⟨s, a, b, ⟨u, v, rfl, hu, hv, -⟩, -⟩ := h
  obtain ⟨p, n, c, rfl⟩ := hu.slice
  obtain ⟨r, m, d, rfl⟩ := hv.slice
  exact ⟨_, _, _, _, _, _, _, rfl⟩
theorem One.drew {B : Nat} {s : Bool} {u1 v1 : Value} {w0 W : World} (h : One B s u1 v1 w0 W) : One B s u1 v1 w0 W.drew := ⟨h.size, h.below.drew, h.x, h.z⟩
theorem One.all {B : Nat} {s : Bool} {u1 v1 : Value} {w0 W : World} (h : One B s u1 v1 w0 W) : One B s u1 v1 w0 W ∧ W.cell? ⟨B, 0, none⟩ = some (.bool s) ∧ W.cell? ⟨B, 1, none⟩ = some u1 ∧ W.cell? ⟨B, 2, none⟩ = some v1 := ⟨h, h.cells⟩
end Go.Proofs.YtpnofkefcoaojaaGreatDoor
set_option maxHeartbeats 3200000
set_option maxRecDepth 100000
namespace Go.Proofs.YtpnofkefcoaojaaGreatDoor
open Go.RowKit Go.Lib Big
structure ResU (B : Nat) (w0 W : World) : Prop where
  size : B + 1 ≤ W.heap.size
  below : Below w0.heap.size w0 W
  z : ∃ z0 z1 z2 z3 z4 z5 z6 z7 z8 : Value, W.heap[B]? = some (.cells #[z0, z1, z2, z3, z4, z5, z6, z7, z8] 158 (0, 0))
section
variable {B : Nat} {w0 W W' : World}
theorem ResU.next (h : ResU B w0 W) (hb : Below W.heap.size W W') : ResU B w0 W' := by
  have hs := h.size
  obtain ⟨z0, z1, z2, z3, z4, z5, z6, z7, z8, hz⟩ := h.z
  exact ⟨Nat.le_trans hs hb.size, h.below.trans (hb.mono h.below.size), z0, z1, z2, z3, z4, z5, z6, z7, z8, (hb.block _ (by omega)).trans hz⟩
theorem ResU.slots (h : ResU B w0 W) : ∃ z0 z1 z2 z3 z4 z5 z6 z7 z8 : Value, (W.cell? ⟨B, 0, none⟩ = some z0 ∧ W.cell? ⟨B, 1, none⟩ = some z1 ∧ W.cell? ⟨B, 2, none⟩ = some z2 ∧ W.cell? ⟨B, 3, none⟩ = some z3 ∧ W.cell? ⟨B, 4, none⟩ = some z4 ∧ W.cell? ⟨B, 5, none⟩ = some z5 ∧ W.cell? ⟨B, 6, none⟩ = some z6 ∧ W.cell? ⟨B, 7, none⟩ = some z7 ∧ W.cell? ⟨B, 8, none⟩ = some z8) ∧ (W.frozen? ⟨B, 0, none⟩ = false ∧ W.frozen? ⟨B, 1, none⟩ = false ∧ W.frozen? ⟨B, 2, none⟩ = false ∧ W.frozen? ⟨B, 3, none⟩ = false ∧ W.frozen? ⟨B, 4, none⟩ = false ∧ W.frozen? ⟨B, 5, none⟩ = false ∧ W.frozen? ⟨B, 6, none⟩ = false ∧ W.frozen? ⟨B, 7, none⟩ = false ∧ W.frozen? ⟨B, 8, none⟩ = false) := by
  obtain ⟨z0, z1, z2, z3, z4, z5, z6, z7, z8, hz⟩ := h.z
  exact ⟨z0, z1, z2, z3, z4, z5, z6, z7, z8, ⟨ceh hz 0, ceh hz 1, ceh hz 2, ceh hz 3, ceh hz 4, ceh hz 5, ceh hz 6, ceh hz 7, ceh hz 8⟩, ⟨foh hz 0, foh hz 1, foh hz 2, foh hz 3, foh hz 4, foh hz 5, foh hz 6, foh hz 7, foh hz 8⟩⟩
theorem ResU.start (w : World) : ResU w.heap.size w (w.alloc (.cells #[.string ⟨#[]⟩, .string ⟨#[]⟩, .int .i64 0, .int .i64 0, .int .i64 0, .int .i64 0, .int .i64 0, .int .i64 0, .int .i64 0] 158)) :=
  ⟨by simp, (Below.refl _ _).alloc (Nat.le_refl _) _, _, _, _, _, _, _, _, _, _, heap_new _ _⟩
end
end Go.Proofs.YtpnofkefcoaojaaGreatDoor
set_option maxHeartbeats 1600000
set_option maxRecDepth 100000
namespace Go.Proofs.YtpnofkefcoaojaaGreatDoor
open Go.RowKit Go.Lib Big
abbrev Blk := Nat × Array Value × TypeId
structure Keep (w0 W : World) (L : List Blk) : Prop where
  below : Below w0.heap.size w0 W
  all : ∀ x ∈ L, W.heap[x.1]? = some (.cells x.2.1 x.2.2 (0, 0))
section
variable {w0 W W' : World} {L : List Blk}
theorem Keep.next (h : Keep w0 W L) (hb : Below W.heap.size W W') : Keep w0 W' L :=
  ⟨h.below.trans (hb.mono h.below.size), fun x hx => (hb.block _ (Array.getElem?_eq_some_iff.1 (h.all x hx)).1).trans (h.all x hx)⟩
theorem Keep.drew (h : Keep w0 W L) : Keep w0 W.drew L := ⟨h.below.drew, h.all⟩
theorem Keep.one (h : Keep w0 W L) (x : Blk) (hx : x ∈ L) : W.heap[x.1]? = some (.cells x.2.1 x.2.2 (0, 0)) := h.all x hx
theorem Keep.nil (w : World) : Keep w w [] := ⟨Below.refl _ _, fun _ h => by cases h⟩
theorem Keep.more (h : Keep w0 W L) (c : Array Value) (T : TypeId) : Keep w0 (W.alloc (.cells c T)) ((W.heap.size, c, T) :: L) := by
  have h2 := h.next (bea W (.cells c T))
  refine ⟨h2.below, fun x hx => ?_⟩
  rcases List.mem_cons.1 hx with rfl | hx
  · exact heap_new W _
  · exact h2.all x hx
theorem Keep.put {g : Nat} {c : Array Value} {T : TypeId} (h : Keep w0 W ((g, c, T) :: L)) (hg : w0.heap.size ≤ g) (hne : ∀ x ∈ L, x.1 ≠ g) (k : Nat) (v : Value) : Keep w0 (W.setCell ⟨g, k, none⟩ v) ((g, c.setIfInBounds k v, T) :: L) := by
  refine ⟨h.below.setCell hg _, fun x hx => ?_⟩
  rcases List.mem_cons.1 hx with rfl | hx
  · exact heap_set g k c T v (h.all _ (List.mem_cons_self ..))
  · exact (Below.heap_setCell _ _ _ _ (hne x hx)).trans (h.all x (List.mem_cons_of_mem _ hx))
theorem Keep.lt (h : Keep w0 W L) {x : Blk} (hx : x ∈ L) : x.1 < W.heap.size := (Array.getElem?_eq_some_iff.1 (h.all x hx)).1
end
theorem tw_len (p : UInt8 → Bool) (l : List UInt8) (k : Nat) (hk : k ≤ l.length) (ha : (l.take k).all p = true) (hs : k = l.length ∨ ∃ h : k < l.length, p l[k] = false) : (l.takeWhile p).length = k := by
  induction l generalizing k with
  | nil => simp at hk; simp [hk]
  | cons x l ih =>
    cases k with
    | zero =>
      rcases hs with hs | ⟨h, hs⟩
      · simp at hs
      · have : p x = false := hs
        simp [this]
    | succ k =>
      rw [List.take_succ_cons, List.all_cons, Bool.and_eq_true] at ha
      rw [List.takeWhile_cons, if_pos ha.1, List.length_cons, ih k (by simpa using hk) ha.2]
      rcases hs with hs | ⟨h, hs⟩
      · exact .inl (by simpa using hs)
      · exact .inr ⟨by simpa using h, by simpa using hs⟩
theorem all_take_succ' (p : UInt8 → Bool) (l : List UInt8) (k : Nat) (h : k < l.length) (ha : (l.take k).all p = true) (hd : p l[k] = true) : (l.take (k + 1)).all p = true := by
  rw [List.take_succ_eq_append_getElem h, List.all_append, ha]; simp [hd]
end Go.Proofs.YtpnofkefcoaojaaGreatDoor
