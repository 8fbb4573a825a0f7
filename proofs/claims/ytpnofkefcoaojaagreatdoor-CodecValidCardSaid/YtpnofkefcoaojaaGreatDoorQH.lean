/- Texts of units: prefixValue, findSymbol. Texts of units: factors as values, known. -/
import Derived.Test.YtpnofkefcoaojaaGreatDoorQG
set_option maxHeartbeats 3200000
set_option maxRecDepth 100000
namespace Go.Proofs.YtpnofkefcoaojaaGreatDoor
open Go.RowKit Go.Lib Big
structure ResT (T : TypeId) (B : Nat) (w0 W : World) : Prop where
  size : B + 1 ≤ W.heap.size
  below : Below w0.heap.size w0 W
  z : ∃ z0 z1 z2 z3 z4 z5 z6 z7 z8 : Value, W.heap[B]? = some (.cells #[z0, z1, z2, z3, z4, z5, z6, z7, z8] T (0, 0))
section
variable {T : TypeId} {B : Nat} {w0 W W' : World}
theorem ResT.next (h : ResT T B w0 W) (hb : Below W.heap.size W W') : ResT T B w0 W' := by
  have hs := h.size
  obtain ⟨z0, z1, z2, z3, z4, z5, z6, z7, z8, hz⟩ := h.z
  exact ⟨Nat.le_trans hs hb.size, h.below.trans (hb.mono h.below.size), z0, z1, z2, z3, z4, z5, z6, z7, z8, (hb.block _ (by omega)).trans hz⟩
theorem ResT.slots (h : ResT T B w0 W) : ∃ z0 z1 z2 z3 z4 z5 z6 z7 z8 : Value, (W.cell? ⟨B, 0, none⟩ = some z0 ∧ W.cell? ⟨B, 1, none⟩ = some z1 ∧ W.cell? ⟨B, 2, none⟩ = some z2 ∧ W.cell? ⟨B, 3, none⟩ = some z3 ∧ W.cell? ⟨B, 4, none⟩ = some z4 ∧ W.cell? ⟨B, 5, none⟩ = some z5 ∧ W.cell? ⟨B, 6, none⟩ = some z6 ∧ W.cell? ⟨B, 7, none⟩ = some z7 ∧ W.cell? ⟨B, 8, none⟩ = some z8) ∧ (W.frozen? ⟨B, 0, none⟩ = false ∧ W.frozen? ⟨B, 1, none⟩ = false ∧ W.frozen? ⟨B, 2, none⟩ = false ∧ W.frozen? ⟨B, 3, none⟩ = false ∧ W.frozen? ⟨B, 4, none⟩ = false ∧ W.frozen? ⟨B, 5, none⟩ = false ∧ W.frozen? ⟨B, 6, none⟩ = false ∧ W.frozen? ⟨B, 7, none⟩ = false ∧ W.frozen? ⟨B, 8, none⟩ = false) := by
  obtain ⟨z0, z1, z2, z3, z4, z5, z6, z7, z8, hz⟩ := h.z
  exact ⟨z0, z1, z2, z3, z4, z5, z6, z7, z8, ⟨ceh hz 0, ceh hz 1, ceh hz 2, ceh hz 3, ceh hz 4, ceh hz 5, ceh hz 6, ceh hz 7, ceh hz 8⟩, ⟨foh hz 0, foh hz 1, foh hz 2, foh hz 3, foh hz 4, foh hz 5, foh hz 6, foh hz 7, foh hz 8⟩⟩
end
theorem ResT.start (T : TypeId) (w : World) (a0 a1 a2 a3 a4 a5 a6 a7 a8 : Value) : ResT T w.heap.size w (w.alloc (.cells #[a0, a1, a2, a3, a4, a5, a6, a7, a8] T)) :=
  ⟨by simp, (Below.refl _ _).alloc (Nat.le_refl _) _, _, _, _, _, _, _, _, _, _, heap_new _ _⟩
def NoU (v : Value) : Prop := ∀ n, v ≠ .int .u64 n
theorem nub (b : Bool) : NoU (.bool b) := fun _ h => by cases h
theorem nus (p : Option Addr) (n c : Nat) : NoU (.slice p n c) := fun _ h => by cases h
theorem nui (n : Int) : NoU (.int .i64 n) := fun _ h => by cases h
structure ResF (B : Nat) (w0 W : World) : Prop where
  below : Below w0.heap.size w0 W
  z : ∃ z0 z1 z2 z3 z4 z5 z6 z7 z8 z9 z10 : Value, W.heap[B]? = some (.cells #[z0, z1, z2, z3, z4, z5, z6, z7, z8, z9, z10] 246 (0, 0)) ∧ NoU z0 ∧ NoU z1 ∧ NoU z2 ∧ NoU z3 ∧ NoU z4 ∧ NoU z5 ∧ NoU z6 ∧ NoU z7 ∧ NoU z8 ∧ NoU z9 ∧ NoU z10
section
variable {B : Nat} {w0 W W' : World}
theorem ResF.lt (h : ResF B w0 W) : B < W.heap.size := by
  obtain ⟨z0, z1, z2, z3, z4, z5, z6, z7, z8, z9, z10, hz, -⟩ := h.z
  exact (Array.getElem?_eq_some_iff.1 hz).1
theorem ResF.next (h : ResF B w0 W) (hb : Below W.heap.size W W') : ResF B w0 W' := by
  obtain ⟨z0, z1, z2, z3, z4, z5, z6, z7, z8, z9, z10, hz, hn⟩ := h.z
  exact ⟨h.below.trans (hb.mono h.below.size), z0, z1, z2, z3, z4, z5, z6, z7, z8, z9, z10, (hb.block _ h.lt).trans hz, hn⟩
theorem ResF.drew (h : ResF B w0 W) : ResF B w0 W.drew := ⟨h.below.drew, h.z⟩
theorem ResF.slots (h : ResF B w0 W) : ∃ z0 z1 z2 z3 z4 z5 z6 z7 z8 z9 z10 : Value, (W.cell? ⟨B, 0, none⟩ = some z0 ∧ W.cell? ⟨B, 1, none⟩ = some z1 ∧ W.cell? ⟨B, 2, none⟩ = some z2 ∧ W.cell? ⟨B, 3, none⟩ = some z3 ∧ W.cell? ⟨B, 4, none⟩ = some z4 ∧ W.cell? ⟨B, 5, none⟩ = some z5 ∧ W.cell? ⟨B, 6, none⟩ = some z6 ∧ W.cell? ⟨B, 7, none⟩ = some z7 ∧ W.cell? ⟨B, 8, none⟩ = some z8 ∧ W.cell? ⟨B, 9, none⟩ = some z9 ∧ W.cell? ⟨B, 10, none⟩ = some z10) ∧ (W.frozen? ⟨B, 0, none⟩ = false ∧ W.frozen? ⟨B, 1, none⟩ = false ∧ W.frozen? ⟨B, 2, none⟩ = false ∧ W.frozen? ⟨B, 3, none⟩ = false ∧ W.frozen? ⟨B, 4, none⟩ = false ∧ W.frozen? ⟨B, 5, none⟩ = false ∧ W.frozen? ⟨B, 6, none⟩ = false ∧ W.frozen? ⟨B, 7, none⟩ = false ∧ W.frozen? ⟨B, 8, none⟩ = false ∧ W.frozen? ⟨B, 9, none⟩ = false ∧ W.frozen? ⟨B, 10, none⟩ = false) := by
  obtain ⟨z0, z1, z2, z3, z4, z5, z6, z7, z8, z9, z10, hz, -⟩ := h.z
  exact ⟨z0, z1, z2, z3, z4, z5, z6, z7, z8, z9, z10, ⟨ceh hz 0, ceh hz 1, ceh hz 2, ceh hz 3, ceh hz 4, ceh hz 5, ceh hz 6, ceh hz 7, ceh hz 8, ceh hz 9, ceh hz 10⟩, ⟨foh hz 0, foh hz 1, foh hz 2, foh hz 3, foh hz 4, foh hz 5, foh hz 6, foh hz 7, foh hz 8, foh hz 9, foh hz 10⟩⟩
theorem ResF.put (h : ResF B w0 W) (hB : w0.heap.size ≤ B) (a0 a1 a2 a3 a4 a5 a6 a7 a8 a9 a10 : Value) (hn : NoU a0 ∧ NoU a1 ∧ NoU a2 ∧ NoU a3 ∧ NoU a4 ∧ NoU a5 ∧ NoU a6 ∧ NoU a7 ∧ NoU a8 ∧ NoU a9 ∧ NoU a10) : ResF B w0 ((((((((((((W).setCell ⟨B, 0, none⟩ a0).setCell ⟨B, 1, none⟩ a1).setCell ⟨B, 2, none⟩ a2).setCell ⟨B, 3, none⟩ a3).setCell ⟨B, 4, none⟩ a4).setCell ⟨B, 5, none⟩ a5).setCell ⟨B, 6, none⟩ a6).setCell ⟨B, 7, none⟩ a7).setCell ⟨B, 8, none⟩ a8).setCell ⟨B, 9, none⟩ a9).setCell ⟨B, 10, none⟩ a10) ∧ ((((((((((((W).setCell ⟨B, 0, none⟩ a0).setCell ⟨B, 1, none⟩ a1).setCell ⟨B, 2, none⟩ a2).setCell ⟨B, 3, none⟩ a3).setCell ⟨B, 4, none⟩ a4).setCell ⟨B, 5, none⟩ a5).setCell ⟨B, 6, none⟩ a6).setCell ⟨B, 7, none⟩ a7).setCell ⟨B, 8, none⟩ a8).setCell ⟨B, 9, none⟩ a9).setCell ⟨B, 10, none⟩ a10).heap[B]? = some (.cells #[a0, a1, a2, a3, a4, a5, a6, a7, a8, a9, a10] 246 (0, 0)) := by
  obtain ⟨z0, z1, z2, z3, z4, z5, z6, z7, z8, z9, z10, hz, -⟩ := h.z
  have hh : ((((((((((((W).setCell ⟨B, 0, none⟩ a0).setCell ⟨B, 1, none⟩ a1).setCell ⟨B, 2, none⟩ a2).setCell ⟨B, 3, none⟩ a3).setCell ⟨B, 4, none⟩ a4).setCell ⟨B, 5, none⟩ a5).setCell ⟨B, 6, none⟩ a6).setCell ⟨B, 7, none⟩ a7).setCell ⟨B, 8, none⟩ a8).setCell ⟨B, 9, none⟩ a9).setCell ⟨B, 10, none⟩ a10).heap[B]? = some (.cells #[a0, a1, a2, a3, a4, a5, a6, a7, a8, a9, a10] 246 (0, 0)) := by
    have h0 : ((W).setCell ⟨B, 0, none⟩ a0).heap[B]? = some (.cells #[a0, z1, z2, z3, z4, z5, z6, z7, z8, z9, z10] 246 (0, 0)) := heap_set B 0 _ 246 a0 hz
    have h1 : (((W).setCell ⟨B, 0, none⟩ a0).setCell ⟨B, 1, none⟩ a1).heap[B]? = some (.cells #[a0, a1, z2, z3, z4, z5, z6, z7, z8, z9, z10] 246 (0, 0)) := heap_set B 1 _ 246 a1 h0
    have h2 : ((((W).setCell ⟨B, 0, none⟩ a0).setCell ⟨B, 1, none⟩ a1).setCell ⟨B, 2, none⟩ a2).heap[B]? = some (.cells #[a0, a1, a2, z3, z4, z5, z6, z7, z8, z9, z10] 246 (0, 0)) := heap_set B 2 _ 246 a2 h1
    have h3 : (((((W).setCell ⟨B, 0, none⟩ a0).setCell ⟨B, 1, none⟩ a1).setCell ⟨B, 2, none⟩ a2).setCell ⟨B, 3, none⟩ a3).heap[B]? = some (.cells #[a0, a1, a2, a3, z4, z5, z6, z7, z8, z9, z10] 246 (0, 0)) := heap_set B 3 _ 246 a3 h2
    have h4 : ((((((W).setCell ⟨B, 0, none⟩ a0).setCell ⟨B, 1, none⟩ a1).setCell ⟨B, 2, none⟩ a2).setCell ⟨B, 3, none⟩ a3).setCell ⟨B, 4, none⟩ a4).heap[B]? = some (.cells #[a0, a1, a2, a3, a4, z5, z6, z7, z8, z9, z10] 246 (0, 0)) := heap_set B 4 _ 246 a4 h3
    have h5 : (((((((W).setCell ⟨B, 0, none⟩ a0).setCell ⟨B, 1, none⟩ a1).setCell ⟨B, 2, none⟩ a2).setCell ⟨B, 3, none⟩ a3).setCell ⟨B, 4, none⟩ a4).setCell ⟨B, 5, none⟩ a5).heap[B]? = some (.cells #[a0, a1, a2, a3, a4, a5, z6, z7, z8, z9, z10] 246 (0, 0)) := heap_set B 5 _ 246 a5 h4
    have h6 : ((((((((W).setCell ⟨B, 0, none⟩ a0).setCell ⟨B, 1, none⟩ a1).setCell ⟨B, 2, none⟩ a2).setCell ⟨B, 3, none⟩ a3).setCell ⟨B, 4, none⟩ a4).setCell ⟨B, 5, none⟩ a5).setCell ⟨B, 6, none⟩ a6).heap[B]? = some (.cells #[a0, a1, a2, a3, a4, a5, a6, z7, z8, z9, z10] 246 (0, 0)) := heap_set B 6 _ 246 a6 h5
    have h7 : (((((((((W).setCell ⟨B, 0, none⟩ a0).setCell ⟨B, 1, none⟩ a1).setCell ⟨B, 2, none⟩ a2).setCell ⟨B, 3, none⟩ a3).setCell ⟨B, 4, none⟩ a4).setCell ⟨B, 5, none⟩ a5).setCell ⟨B, 6, none⟩ a6).setCell ⟨B, 7, none⟩ a7).heap[B]? = some (.cells #[a0, a1, a2, a3, a4, a5, a6, a7, z8, z9, z10] 246 (0, 0)) := heap_set B 7 _ 246 a7 h6
    have h8 : ((((((((((W).setCell ⟨B, 0, none⟩ a0).setCell ⟨B, 1, none⟩ a1).setCell ⟨B, 2, none⟩ a2).setCell ⟨B, 3, none⟩ a3).setCell ⟨B, 4, none⟩ a4).setCell ⟨B, 5, none⟩ a5).setCell ⟨B, 6, none⟩ a6).setCell ⟨B, 7, none⟩ a7).setCell ⟨B, 8, none⟩ a8).heap[B]? = some (.cells #[a0, a1, a2, a3, a4, a5, a6, a7, a8, z9, z10] 246 (0, 0)) := heap_set B 8 _ 246 a8 h7
    have h9 : (((((((((((W).setCell ⟨B, 0, none⟩ a0).setCell ⟨B, 1, none⟩ a1).setCell ⟨B, 2, none⟩ a2).setCell ⟨B, 3, none⟩ a3).setCell ⟨B, 4, none⟩ a4).setCell ⟨B, 5, none⟩ a5).setCell ⟨B, 6, none⟩ a6).setCell ⟨B, 7, none⟩ a7).setCell ⟨B, 8, none⟩ a8).setCell ⟨B, 9, none⟩ a9).heap[B]? = some (.cells #[a0, a1, a2, a3, a4, a5, a6, a7, a8, a9, z10] 246 (0, 0)) := heap_set B 9 _ 246 a9 h8
    have h10 : ((((((((((((W).setCell ⟨B, 0, none⟩ a0).setCell ⟨B, 1, none⟩ a1).setCell ⟨B, 2, none⟩ a2).setCell ⟨B, 3, none⟩ a3).setCell ⟨B, 4, none⟩ a4).setCell ⟨B, 5, none⟩ a5).setCell ⟨B, 6, none⟩ a6).setCell ⟨B, 7, none⟩ a7).setCell ⟨B, 8, none⟩ a8).setCell ⟨B, 9, none⟩ a9).setCell ⟨B, 10, none⟩ a10).heap[B]? = some (.cells #[a0, a1, a2, a3, a4, a5, a6, a7, a8, a9, a10] 246 (0, 0)) := heap_set B 10 _ 246 a10 h9
    exact h10
  exact ⟨⟨(((((((((((h.below).setCell hB _).setCell hB _).setCell hB _).setCell hB _).setCell hB _).setCell hB _).setCell hB _).setCell hB _).setCell hB _).setCell hB _).setCell hB _, a0, a1, a2, a3, a4, a5, a6, a7, a8, a9, a10, hh, hn⟩, hh⟩
theorem ResF.start (w : World) : ResF w.heap.size w (w.alloc (.cells #[.bool false, .slice none 0 0, .slice none 0 0, .int .i64 0, .int .i64 0, .int .i64 0, .int .i64 0, .int .i64 0, .int .i64 0, .int .i64 0, .int .i64 0] 246)) :=
  ⟨bea _ _, _, _, _, _, _, _, _, _, _, _, _, heap_new _ _, nub _, nus _ _ _, nus _ _ _, nui _, nui _, nui _, nui _, nui _, nui _, nui _, nui _⟩
end
def FacAt (w : World) (x : Value) (f : FacT) (K : Nat) : Prop := ∃ b p n c q m d p0 p1 p2 p3 p4 p5 p6, x = .agg #[.bool b, .slice p n c, .slice q m d, .int .i64 p0, .int .i64 p1, .int .i64 p2, .int .i64 p3, .int .i64 p4, .int .i64 p5, .int .i64 p6, .int .i64 f.e] ∧ RatIs w (.agg #[.bool b, .slice p n c, .slice q m d]) f.v K ∧ [p0, p1, p2, p3, p4, p5, p6] = f.ps
theorem FacAt.below {w w' : World} {x : Value} {f : FacT} {K : Nat} (h : FacAt w x f K) (hb : Below w.heap.size w w') : FacAt w' x f K := by
  obtain ⟨b, p, n, c, q, m, d, p0, p1, p2, p3, p4, p5, p6, h1, h2, h3⟩ := h
  exact ⟨b, p, n, c, q, m, d, p0, p1, p2, p3, p4, p5, p6, h1, h2.below hb, h3⟩
end Go.Proofs.YtpnofkefcoaojaaGreatDoor
