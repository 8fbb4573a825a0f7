/- Units as texts and powers: products, powers and conversions; the units of texts. The contracts of the numbers in terms of rational numbers; the closure of onTexts; Add, Sub, Mul, Div. Add, Sub, Mul, Div, Compare on texts. Compare, isPositive, Floor on texts. Power of a rational number. -/
import Derived.Test.YtpnofkefcoaojaaGreatDoorRe
import Derived.Outline
import Derived.RegionTactic
import Derived.ChangeAlike
import Derived.BigRegion
import Derived.Deep.RegionHeld3
set_option maxHeartbeats 3200000
set_option maxRecDepth 100000
namespace Go.Proofs.YtpnofkefcoaojaaGreatDoor
open Go.Lib Big
def cntD (l : List UInt8) : Nat := (l.takeWhile isDig).length
structure FacT where
  v : Rat
  ps : List Int
  e : Int
def satT (ds : List UInt8) : Int := ds.foldl (fun (e : Int) c => if e ≤ 12 then e * 10 + ((c.toNat : Int) - 48) else e) 0
end Go.Proofs.YtpnofkefcoaojaaGreatDoor
namespace Go.Proofs.YtpnofkefcoaojaaGreatDoor
open Go.RowKit Go.Lib Big
def RatIs (w : World) (x : Value) (q : Rat) (K : Nat) : Prop := ∃ s a b, RatAt w x s a b ∧ ratv s a b = q ∧ 0 < b ∧ a < B64 ^ K ∧ b < B64 ^ K
theorem RatIs.below {w w' : World} {x : Value} {q : Rat} {K : Nat} (h : RatIs w x q K) (hb : Below w.heap.size w w') : RatIs w' x q K := by
  obtain ⟨s, a, b, h1, h2⟩ := h
  exact ⟨s, a, b, h1.below hb, h2⟩
theorem RatIs.more {w : World} {x : Value} {q : Rat} {K M : Nat} (h : RatIs w x q K) (hM : K ≤ M) : RatIs w x q M := by
  obtain ⟨s, a, b, h1, h2, h3, h4, h5⟩ := h
  have := Nat.pow_le_pow_right B64_pos hM
  exact ⟨s, a, b, h1, h2, h3, by omega, by omega⟩
theorem RatIs.agg {w : World} {x : Value} {q : Rat} {K : Nat} (h : RatIs w x q K) : ∃ b p n c r m d, x = .agg #[.bool b, .slice p n c, .slice r m d] := by
  obtain ⟨s, a, b, ⟨u, v, rfl, hu, hv, -⟩, -⟩ := h
  obtain ⟨p, n, c, rfl⟩ := hu.slice
  obtain ⟨r, m, d, rfl⟩ := hv.slice
  exact ⟨_, _, _, _, _, _, _, rfl⟩
theorem One.drew {B : Nat} {s : Bool} {u1 v1 : Value} {w0 W : World} (h : One B s u1 v1 w0 W) : One B s u1 v1 w0 W.drew := ⟨h.size, h.below.drew, h.x, h.z⟩
theorem One.all {B : Nat} {s : Bool} {u1 v1 : Value} {w0 W : World} (h : One B s u1 v1 w0 W) : One B s u1 v1 w0 W ∧ W.cell? ⟨B, 0, none⟩ = some (.bool s) ∧ W.cell? ⟨B, 1, none⟩ = some u1 ∧ W.cell? ⟨B, 2, none⟩ = some v1 := ⟨h, h.cells⟩
end Go.Proofs.YtpnofkefcoaojaaGreatDoor
set_option maxHeartbeats 3200000
set_option maxRecDepth 100000
namespace Go.Proofs.YtpnofkefcoaojaaGreatDoor
open Go.RowKit Go.Lib Big
structure ResU (B : Nat) (w0 W : World) : Prop where
  size : B + 1 ≤ W.heap.size
  below : Below w0.heap.size w0 W
  z : ∃ z0 z1 z2 z3 z4 z5 z6 z7 z8 : Value, W.heap[B]? = some (.cells #[z0, z1, z2, z3, z4, z5, z6, z7, z8] 158 (0, 0))
section
variable {B : Nat} {w0 W W' : World}
theorem ResU.next (h : ResU B w0 W) (hb : Below W.heap.size W W') : ResU B w0 W' := by
  have hs := h.size
  obtain ⟨z0, z1, z2, z3, z4, z5, z6, z7, z8, hz⟩ := h.z
  exact ⟨Nat.le_trans hs hb.size, h.below.trans (hb.mono h.below.size), z0, z1, z2, z3, z4, z5, z6, z7, z8, (hb.block _ (by omega)).trans hz⟩
theorem ResU.slots (h : ResU B w0 W) : ∃ z0 z1 z2 z3 z4 z5 z6 z7 z8 : Value, (W.cell? ⟨B, 0, none⟩ = some z0 ∧ W.cell? ⟨B, 1, none⟩ = some z1 ∧ W.cell? ⟨B, 2, none⟩ = some z2 ∧ W.cell? ⟨B, 3, none⟩ = some z3 ∧ W.cell? ⟨B, 4, none⟩ = some z4 ∧ W.cell? ⟨B, 5, none⟩ = some z5 ∧ W.cell? ⟨B, 6, none⟩ = some z6 ∧ W.cell? ⟨B, 7, none⟩ = some z7 ∧ W.cell? ⟨B, 8, none⟩ = some z8) ∧ (W.frozen? ⟨B, 0, none⟩ = false ∧ W.frozen? ⟨B, 1, none⟩ = false ∧ W.frozen? ⟨B, 2, none⟩ = false ∧ W.frozen? ⟨B, 3, none⟩ = false ∧ W.frozen? ⟨B, 4, none⟩ = false ∧ W.frozen? ⟨B, 5, none⟩ = false ∧ W.frozen? ⟨B, 6, none⟩ = false ∧ W.frozen? ⟨B, 7, none⟩ = false ∧ W.frozen? ⟨B, 8, none⟩ = false) := by
  obtain ⟨z0, z1, z2, z3, z4, z5, z6, z7, z8, hz⟩ := h.z
  exact ⟨z0, z1, z2, z3, z4, z5, z6, z7, z8, ⟨ceh hz 0, ceh hz 1, ceh hz 2, ceh hz 3, ceh hz 4, ceh hz 5, ceh hz 6, ceh hz 7, ceh hz 8⟩, ⟨foh hz 0, foh hz 1, foh hz 2, foh hz 3, foh hz 4, foh hz 5, foh hz 6, foh hz 7, foh hz 8⟩⟩
theorem ResU.start (w : World) : ResU w.heap.size w (w.alloc (.cells #[.string ⟨#[]⟩, .string ⟨#[]⟩, .int .i64 0, .int .i64 0, .int .i64 0, .int .i64 0, .int .i64 0, .int .i64 0, .int .i64 0] 158)) :=
  ⟨by simp, (Below.refl _ _).alloc (Nat.le_refl _) _, _, _, _, _, _, _, _, _, _, heap_new _ _⟩
end
end Go.Proofs.YtpnofkefcoaojaaGreatDoor
set_option maxHeartbeats 1600000
set_option maxRecDepth 100000
namespace Go.Proofs.YtpnofkefcoaojaaGreatDoor
open Go.RowKit Go.Lib Big
abbrev Blk := Nat × Array Value × TypeId
structure Keep (w0 W : World) (L : List Blk) : Prop where
  below : Below w0.heap.size w0 W
  all : ∀ x ∈ L, W.heap[x.1]? = some (.cells x.2.1 x.2.2 (0, 0))
section
variable {w0 W W' : World} {L : List Blk}
theorem Keep.next (h : Keep w0 W L) (hb : Below W.heap.size W W') : Keep w0 W' L :=
  ⟨h.below.trans (hb.mono h.below.size), fun x hx => (hb.block _ (Array.getElem?_eq_some_iff.1 (h.all x hx)).1).trans (h.all x hx)⟩
theorem Keep.drew (h : Keep w0 W L) : Keep w0 W.drew L := ⟨h.below.drew, h.all⟩
theorem Keep.one (h : Keep w0 W L) (x : Blk) (hx : x ∈ L) : W.heap[x.1]? = some (.cells x.2.1 x.2.2 (0, 0)) := h.all x hx
theorem Keep.nil (w : World) : Keep w w [] := ⟨Below.refl _ _, fun _ h => by cases h⟩
theorem Keep.more (h : Keep w0 W L) (c : Array Value) (T : TypeId) : Keep w0 (W.alloc (.cells c T)) ((W.heap.size, c, T) :: L) := by
  have h2 := h.next (bea W (.cells c T))
  refine ⟨h2.below, fun x hx => ?_⟩
  rcases List.mem_cons.1 hx with rfl | hx
  · exact heap_new W _
  · exact h2.all x hx
theorem Keep.put {g : Nat} {c : Array Value} {T : TypeId} (h : Keep w0 W ((g, c, T) :: L)) (hg : w0.heap.size ≤ g) (hne : ∀ x ∈ L, x.1 ≠ g) (k : Nat) (v : Value) : Keep w0 (W.setCell ⟨g, k, none⟩ v) ((g, c.setIfInBounds k v, T) :: L) := by
  refine ⟨h.below.setCell hg _, fun x hx => ?_⟩
  rcases List.mem_cons.1 hx with rfl | hx
  · exact heap_set g k c T v (h.all _ (List.mem_cons_self ..))
  · exact (Below.heap_setCell _ _ _ _ (hne x hx)).trans (h.all x (List.mem_cons_of_mem _ hx))
theorem Keep.lt (h : Keep w0 W L) {x : Blk} (hx : x ∈ L) : x.1 < W.heap.size := (Array.getElem?_eq_some_iff.1 (h.all x hx)).1
end
theorem tw_len (p : UInt8 → Bool) (l : List UInt8) (k : Nat) (hk : k ≤ l.length) (ha : (l.take k).all p = true) (hs : k = l.length ∨ ∃ h : k < l.length, p l[k] = false) : (l.takeWhile p).length = k := by
  induction l generalizing k with
  | nil => simp at hk; simp [hk]
  | cons x l ih =>
    cases k with
    | zero =>
      rcases hs with hs | ⟨h, hs⟩
      · simp at hs
      · have : p x = false := hs
        simp [this]
    | succ k =>
      rw [List.take_succ_cons, List.all_cons, Bool.and_eq_true] at ha
      rw [List.takeWhile_cons, if_pos ha.1, List.length_cons, ih k (by simpa using hk) ha.2]
      rcases hs with hs | ⟨h, hs⟩
      · exact .inl (by simpa using hs)
      · exact .inr ⟨by simpa using h, by simpa using hs⟩
theorem all_take_succ' (p : UInt8 → Bool) (l : List UInt8) (k : Nat) (h : k < l.length) (ha : (l.take k).all p = true) (hd : p l[k] = true) : (l.take (k + 1)).all p = true := by
  rw [List.take_succ_eq_append_getElem h, List.all_append, ha]; simp [hd]
end Go.Proofs.YtpnofkefcoaojaaGreatDoor
set_option maxHeartbeats 3200000
set_option maxRecDepth 100000
namespace Go.Proofs.YtpnofkefcoaojaaGreatDoor
open Go.RowKit Go.Lib Big
structure ResT (T : TypeId) (B : Nat) (w0 W : World) : Prop where
  size : B + 1 ≤ W.heap.size
  below : Below w0.heap.size w0 W
  z : ∃ z0 z1 z2 z3 z4 z5 z6 z7 z8 : Value, W.heap[B]? = some (.cells #[z0, z1, z2, z3, z4, z5, z6, z7, z8] T (0, 0))
section
variable {T : TypeId} {B : Nat} {w0 W W' : World}
theorem ResT.next (h : ResT T B w0 W) (hb : Below W.heap.size W W') : ResT T B w0 W' := by
  have hs := h.size
  obtain ⟨z0, z1, z2, z3, z4, z5, z6, z7, z8, hz⟩ := h.z
  exact ⟨Nat.le_trans hs hb.size, h.below.trans (hb.mono h.below.size), z0, z1, z2, z3, z4, z5, z6, z7, z8, (hb.block _ (by omega)).trans hz⟩
theorem ResT.slots (h : ResT T B w0 W) : ∃ z0 z1 z2 z3 z4 z5 z6 z7 z8 : Value, (W.cell? ⟨B, 0, none⟩ = some z0 ∧ W.cell? ⟨B, 1, none⟩ = some z1 ∧ W.cell? ⟨B, 2, none⟩ = some z2 ∧ W.cell? ⟨B, 3, none⟩ = some z3 ∧ W.cell? ⟨B, 4, none⟩ = some z4 ∧ W.cell? ⟨B, 5, none⟩ = some z5 ∧ W.cell? ⟨B, 6, none⟩ = some z6 ∧ W.cell? ⟨B, 7, none⟩ = some z7 ∧ W.cell? ⟨B, 8, none⟩ = some z8) ∧ (W.frozen? ⟨B, 0, none⟩ = false ∧ W.frozen? ⟨B, 1, none⟩ = false ∧ W.frozen? ⟨B, 2, none⟩ = false ∧ W.frozen? ⟨B, 3, none⟩ = false ∧ W.frozen? ⟨B, 4, none⟩ = false ∧ W.frozen? ⟨B, 5, none⟩ = false ∧ W.frozen? ⟨B, 6, none⟩ = false ∧ W.frozen? ⟨B, 7, none⟩ = false ∧ W.frozen? ⟨B, 8, none⟩ = false) := by
  obtain ⟨z0, z1, z2, z3, z4, z5, z6, z7, z8, hz⟩ := h.z
  exact ⟨z0, z1, z2, z3, z4, z5, z6, z7, z8, ⟨ceh hz 0, ceh hz 1, ceh hz 2, ceh hz 3, ceh hz 4, ceh hz 5, ceh hz 6, ceh hz 7, ceh hz 8⟩, ⟨foh hz 0, foh hz 1, foh hz 2, foh hz 3, foh hz 4, foh hz 5, foh hz 6, foh hz 7, foh hz 8⟩⟩
end
theorem ResT.start (T : TypeId) (w : World) (a0 a1 a2 a3 a4 a5 a6 a7 a8 : Value) : ResT T w.heap.size w (w.alloc (.cells #[a0, a1, a2, a3, a4, a5, a6, a7, a8] T)) :=
  ⟨by simp, (Below.refl _ _).alloc (Nat.le_refl _) _, _, _, _, _, _, _, _, _, _, heap_new _ _⟩
def NoU (v : Value) : Prop := ∀ n, v ≠ .int .u64 n
theorem nub (b : Bool) : NoU (.bool b) := fun _ h => by cases h
theorem nus (p : Option Addr) (n c : Nat) : NoU (.slice p n c) := fun _ h => by cases h
theorem nui (n : Int) : NoU (.int .i64 n) := fun _ h => by cases h
structure ResF (B : Nat) (w0 W : World) : Prop where
  below : Below w0.heap.size w0 W
  z : ∃ z0 z1 z2 z3 z4 z5 z6 z7 z8 z9 z10 : Value, W.heap[B]? = some (.cells #[z0, z1, z2, z3, z4, z5, z6, z7, z8, z9, z10] 246 (0, 0)) ∧ NoU z0 ∧ NoU z1 ∧ NoU z2 ∧ NoU z3 ∧ NoU z4 ∧ NoU z5 ∧ NoU z6 ∧ NoU z7 ∧ NoU z8 ∧ NoU z9 ∧ NoU z10
section
variable {B : Nat} {w0 W W' : World}
theorem ResF.lt (h : ResF B w0 W) : B < W.heap.size := by
  obtain ⟨z0, z1, z2, z3, z4, z5, z6, z7, z8, z9, z10, hz, -⟩ := h.z
  exact (Array.getElem?_eq_some_iff.1 hz).1
theorem ResF.next (h : ResF B w0 W) (hb : Below W.heap.size W W') : ResF B w0 W' := by
  obtain ⟨z0, z1, z2, z3, z4, z5, z6, z7, z8, z9, z10, hz, hn⟩ := h.z
  exact ⟨h.below.trans (hb.mono h.below.size), z0, z1, z2, z3, z4, z5, z6, z7, z8, z9, z10, (hb.block _ h.lt).trans hz, hn⟩
theorem ResF.drew (h : ResF B w0 W) : ResF B w0 W.drew := ⟨h.below.drew, h.z⟩
theorem ResF.slots (h : ResF B w0 W) : ∃ z0 z1 z2 z3 z4 z5 z6 z7 z8 z9 z10 : Value, (W.cell? ⟨B, 0, none⟩ = some z0 ∧ W.cell? ⟨B, 1, none⟩ = some z1 ∧ W.cell? ⟨B, 2, none⟩ = some z2 ∧ W.cell? ⟨B, 3, none⟩ = some z3 ∧ W.cell? ⟨B, 4, none⟩ = some z4 ∧ W.cell? ⟨B, 5, none⟩ = some z5 ∧ W.cell? ⟨B, 6, none⟩ = some z6 ∧ W.cell? ⟨B, 7, none⟩ = some z7 ∧ W.cell? ⟨B, 8, none⟩ = some z8 ∧ W.cell? ⟨B, 9, none⟩ = some z9 ∧ W.cell? ⟨B, 10, none⟩ = some z10) ∧ (W.frozen? ⟨B, 0, none⟩ = false ∧ W.frozen? ⟨B, 1, none⟩ = false ∧ W.frozen? ⟨B, 2, none⟩ = false ∧ W.frozen? ⟨B, 3, none⟩ = false ∧ W.frozen? ⟨B, 4, none⟩ = false ∧ W.frozen? ⟨B, 5, none⟩ = false ∧ W.frozen? ⟨B, 6, none⟩ = false ∧ W.frozen? ⟨B, 7, none⟩ = false ∧ W.frozen? ⟨B, 8, none⟩ = false ∧ W.frozen? ⟨B, 9, none⟩ = false ∧ W.frozen? ⟨B, 10, none⟩ = false) := by
  obtain ⟨z0, z1, z2, z3, z4, z5, z6, z7, z8, z9, z10, hz, -⟩ := h.z
  exact ⟨z0, z1, z2, z3, z4, z5, z6, z7, z8, z9, z10, ⟨ceh hz 0, ceh hz 1, ceh hz 2, ceh hz 3, ceh hz 4, ceh hz 5, ceh hz 6, ceh hz 7, ceh hz 8, ceh hz 9, ceh hz 10⟩, ⟨foh hz 0, foh hz 1, foh hz 2, foh hz 3, foh hz 4, foh hz 5, foh hz 6, foh hz 7, foh hz 8, foh hz 9, foh hz 10⟩⟩
theorem ResF.put (h : ResF B w0 W) (hB : w0.heap.size ≤ B) (a0 a1 a2 a3 a4 a5 a6 a7 a8 a9 a10 : Value) (hn : NoU a0 ∧ NoU a1 ∧ NoU a2 ∧ NoU a3 ∧ NoU a4 ∧ NoU a5 ∧ NoU a6 ∧ NoU a7 ∧ NoU a8 ∧ NoU a9 ∧ NoU a10) : ResF B w0 ((((((((((((W).setCell ⟨B, 0, none⟩ a0).setCell ⟨B, 1, none⟩ a1).setCell ⟨B, 2, none⟩ a2).setCell ⟨B, 3, none⟩ a3).setCell ⟨B, 4, none⟩ a4).setCell ⟨B, 5, none⟩ a5).setCell ⟨B, 6, none⟩ a6).setCell ⟨B, 7, none⟩ a7).setCell ⟨B, 8, none⟩ a8).setCell ⟨B, 9, none⟩ a9).setCell ⟨B, 10, none⟩ a10) ∧ ((((((((((((W).setCell ⟨B, 0, none⟩ a0).setCell ⟨B, 1, none⟩ a1).setCell ⟨B, 2, none⟩ a2).setCell ⟨B, 3, none⟩ a3).setCell ⟨B, 4, none⟩ a4).setCell ⟨B, 5, none⟩ a5).setCell ⟨B, 6, none⟩ a6).setCell ⟨B, 7, none⟩ a7).setCell ⟨B, 8, none⟩ a8).setCell ⟨B, 9, none⟩ a9).setCell ⟨B, 10, none⟩ a10).heap[B]? = some (.cells #[a0, a1, a2, a3, a4, a5, a6, a7, a8, a9, a10] 246 (0, 0)) := by
  obtain ⟨z0, z1, z2, z3, z4, z5, z6, z7, z8, z9, z10, hz, -⟩ := h.z
  have hh : ((((((((((((W).setCell ⟨B, 0, none⟩ a0).setCell ⟨B, 1, none⟩ a1).setCell ⟨B, 2, none⟩ a2).setCell ⟨B, 3, none⟩ a3).setCell ⟨B, 4, none⟩ a4).setCell ⟨B, 5, none⟩ a5).setCell ⟨B, 6, none⟩ a6).setCell ⟨B, 7, none⟩ a7).setCell ⟨B, 8, none⟩ a8).setCell ⟨B, 9, none⟩ a9).setCell ⟨B, 10, none⟩ a10).heap[B]? = some (.cells #[a0, a1, a2, a3, a4, a5, a6, a7, a8, a9, a10] 246 (0, 0)) := by
    have h0 : ((W).setCell ⟨B, 0, none⟩ a0).heap[B]? = some (.cells #[a0, z1, z2, z3, z4, z5, z6, z7, z8, z9, z10] 246 (0, 0)) := heap_set B 0 _ 246 a0 hz
    have h1 : (((W).setCell ⟨B, 0, none⟩ a0).setCell ⟨B, 1, none⟩ a1).heap[B]? = some (.cells #[a0, a1, z2, z3, z4, z5, z6, z7, z8, z9, z10] 246 (0, 0)) := heap_set B 1 _ 246 a1 h0
    have h2 : ((((W).setCell ⟨B, 0, none⟩ a0).setCell ⟨B, 1, none⟩ a1).setCell ⟨B, 2, none⟩ a2).heap[B]? = some (.cells #[a0, a1, a2, z3, z4, z5, z6, z7, z8, z9, z10] 246 (0, 0)) := heap_set B 2 _ 246 a2 h1
    have h3 : (((((W).setCell ⟨B, 0, none⟩ a0).setCell ⟨B, 1, none⟩ a1).setCell ⟨B, 2, none⟩ a2).setCell ⟨B, 3, none⟩ a3).heap[B]? = some (.cells #[a0, a1, a2, a3, z4, z5, z6, z7, z8, z9, z10] 246 (0, 0)) := heap_set B 3 _ 246 a3 h2
    have h4 : ((((((W).setCell ⟨B, 0, none⟩ a0).setCell ⟨B, 1, none⟩ a1).setCell ⟨B, 2, none⟩ a2).setCell ⟨B, 3, none⟩ a3).setCell ⟨B, 4, none⟩ a4).heap[B]? = some (.cells #[a0, a1, a2, a3, a4, z5, z6, z7, z8, z9, z10] 246 (0, 0)) := heap_set B 4 _ 246 a4 h3
    have h5 : (((((((W).setCell ⟨B, 0, none⟩ a0).setCell ⟨B, 1, none⟩ a1).setCell ⟨B, 2, none⟩ a2).setCell ⟨B, 3, none⟩ a3).setCell ⟨B, 4, none⟩ a4).setCell ⟨B, 5, none⟩ a5).heap[B]? = some (.cells #[a0, a1, a2, a3, a4, a5, z6, z7, z8, z9, z10] 246 (0, 0)) := heap_set B 5 _ 246 a5 h4
    have h6 : ((((((((W).setCell ⟨B, 0, none⟩ a0).setCell ⟨B, 1, none⟩ a1).setCell ⟨B, 2, none⟩ a2).setCell ⟨B, 3, none⟩ a3).setCell ⟨B, 4, none⟩ a4).setCell ⟨B, 5, none⟩ a5).setCell ⟨B, 6, none⟩ a6).heap[B]? = some (.cells #[a0, a1, a2, a3, a4, a5, a6, z7, z8, z9, z10] 246 (0, 0)) := heap_set B 6 _ 246 a6 h5
    have h7 : (((((((((W).setCell ⟨B, 0, none⟩ a0).setCell ⟨B, 1, none⟩ a1).setCell ⟨B, 2, none⟩ a2).setCell ⟨B, 3, none⟩ a3).setCell ⟨B, 4, none⟩ a4).setCell ⟨B, 5, none⟩ a5).setCell ⟨B, 6, none⟩ a6).setCell ⟨B, 7, none⟩ a7).heap[B]? = some (.cells #[a0, a1, a2, a3, a4, a5, a6, a7, z8, z9, z10] 246 (0, 0)) := heap_set B 7 _ 246 a7 h6
    have h8 : ((((((((((W).setCell ⟨B, 0, none⟩ a0).setCell ⟨B, 1, none⟩ a1).setCell ⟨B, 2, none⟩ a2).setCell ⟨B, 3, none⟩ a3).setCell ⟨B, 4, none⟩ a4).setCell ⟨B, 5, none⟩ a5).setCell ⟨B, 6, none⟩ a6).setCell ⟨B, 7, none⟩ a7).setCell ⟨B, 8, none⟩ a8).heap[B]? = some (.cells #[a0, a1, a2, a3, a4, a5, a6, a7, a8, z9, z10] 246 (0, 0)) := heap_set B 8 _ 246 a8 h7
    have h9 : (((((((((((W).setCell ⟨B, 0, none⟩ a0).setCell ⟨B, 1, none⟩ a1).setCell ⟨B, 2, none⟩ a2).setCell ⟨B, 3, none⟩ a3).setCell ⟨B, 4, none⟩ a4).setCell ⟨B, 5, none⟩ a5).setCell ⟨B, 6, none⟩ a6).setCell ⟨B, 7, none⟩ a7).setCell ⟨B, 8, none⟩ a8).setCell ⟨B, 9, none⟩ a9).heap[B]? = some (.cells #[a0, a1, a2, a3, a4, a5, a6, a7, a8, a9, z10] 246 (0, 0)) := heap_set B 9 _ 246 a9 h8
    have h10 : ((((((((((((W).setCell ⟨B, 0, none⟩ a0).setCell ⟨B, 1, none⟩ a1).setCell ⟨B, 2, none⟩ a2).setCell ⟨B, 3, none⟩ a3).setCell ⟨B, 4, none⟩ a4).setCell ⟨B, 5, none⟩ a5).setCell ⟨B, 6, none⟩ a6).setCell ⟨B, 7, none⟩ a7).setCell ⟨B, 8, none⟩ a8).setCell ⟨B, 9, none⟩ a9).setCell ⟨B, 10, none⟩ a10).heap[B]? = some (.cells #[a0, a1, a2, a3, a4, a5, a6, a7, a8, a9, a10] 246 (0, 0)) := heap_set B 10 _ 246 a10 h9
    exact h10
  exact ⟨⟨(((((((((((h.below).setCell hB _).setCell hB _).setCell hB _).setCell hB _).setCell hB _).setCell hB _).setCell hB _).setCell hB _).setCell hB _).setCell hB _).setCell hB _, a0, a1, a2, a3, a4, a5, a6, a7, a8, a9, a10, hh, hn⟩, hh⟩
theorem ResF.start (w : World) : ResF w.heap.size w (w.alloc (.cells #[.bool false, .slice none 0 0, .slice none 0 0, .int .i64 0, .int .i64 0, .int .i64 0, .int .i64 0, .int .i64 0, .int .i64 0, .int .i64 0, .int .i64 0] 246)) :=
  ⟨bea _ _, _, _, _, _, _, _, _, _, _, _, _, heap_new _ _, nub _, nus _ _ _, nus _ _ _, nui _, nui _, nui _, nui _, nui _, nui _, nui _, nui _⟩
end
def FacAt (w : World) (x : Value) (f : FacT) (K : Nat) : Prop := ∃ b p n c q m d p0 p1 p2 p3 p4 p5 p6, x = .agg #[.bool b, .slice p n c, .slice q m d, .int .i64 p0, .int .i64 p1, .int .i64 p2, .int .i64 p3, .int .i64 p4, .int .i64 p5, .int .i64 p6, .int .i64 f.e] ∧ RatIs w (.agg #[.bool b, .slice p n c, .slice q m d]) f.v K ∧ [p0, p1, p2, p3, p4, p5, p6] = f.ps
theorem FacAt.below {w w' : World} {x : Value} {f : FacT} {K : Nat} (h : FacAt w x f K) (hb : Below w.heap.size w w') : FacAt w' x f K := by
  obtain ⟨b, p, n, c, q, m, d, p0, p1, p2, p3, p4, p5, p6, h1, h2, h3⟩ := h
  exact ⟨b, p, n, c, q, m, d, p0, p1, p2, p3, p4, p5, p6, h1, h2.below hb, h3⟩
end Go.Proofs.YtpnofkefcoaojaaGreatDoor
