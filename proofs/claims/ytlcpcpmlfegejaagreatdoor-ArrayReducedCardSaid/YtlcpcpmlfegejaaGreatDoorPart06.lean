/-  -/
import Derived.Test.YtlcpcpmlfegejaaGreatDoorPart05
set_option maxHeartbeats 6400000
set_option maxRecDepth 100000
namespace Go.Proofs.YtlcpcpmlfegejaaGreatDoor
open Go.RowKit Big
section
variable {B : Nat} {s : Bool} {u1 v1 : Value} {w0 W W' : World}
theorem nat_set {g : Nat} {z0 z1 z2 : Value} (hz : W.heap[g]? = some (.cells #[z0, z1, z2] 62 (0, 0))) (n0 : NoInt z0) (n1 : NoInt z1) (n2 : NoInt z2) {v : Value} {x : Nat} (hx : NatAt W v x) (k : Nat) (a : Value) : NatAt (W.setCell ⟨g, k, none⟩ a) v x := by
  obtain ⟨p, n, c, l, h1, h2, hr, h4⟩ := hx
  refine ⟨p, n, c, l, h1, h2, ⟨hr.len, ?_⟩, h4⟩
  rcases hr.cell with h0 | ⟨b, off, hp, hlt, hc⟩
  · exact .inl h0
  · by_cases hn : n = 0
    · exact .inl hn
    refine .inr ⟨b, off, hp, by rw [World.size_setCell]; exact hlt, fun j hj => ?_⟩
    have hne : b ≠ g := by
      rintro rfl
      have h1 := hc 0 (by omega)
      rw [ceh hz] at h1
      match hoff : off + 0, h1 with
      | 0, h1 => simp at h1; exact n0 _ _ h1
      | 1, h1 => simp at h1; exact n1 _ _ h1
      | 2, h1 => simp at h1; exact n2 _ _ h1
      | k + 3, h1 => simp at h1
    rw [← hc j hj]
    exact World.cell?_of_block (w := W) (Below.heap_setCell _ _ _ _ hne)
end
structure Res (B : Nat) (w0 W : World) : Prop where
  size : B + 1 ≤ W.heap.size
  below : Below w0.heap.size w0 W
  z : ∃ z0 z1 z2, W.heap[B]? = some (.cells #[z0, z1, z2] 62 (0, 0)) ∧ NoInt z0 ∧ NoInt z1 ∧ NoInt z2
section
variable {B : Nat} {w0 W W' : World}
theorem Res.next (h : Res B w0 W) (hb : Below W.heap.size W W') : Res B w0 W' := by
  have hs := h.size
  exact ⟨Nat.le_trans hs hb.size, h.below.trans (hb.mono h.below.size), h.z.elim fun z0 k => k.elim fun z1 k => k.elim fun z2 k => ⟨z0, z1, z2, (hb.block _ (by omega)).trans k.1, k.2⟩⟩
theorem Res.slots (h : Res B w0 W) : ∃ z0 z1 z2, W.cell? ⟨B, 0, none⟩ = some z0 ∧ W.cell? ⟨B, 1, none⟩ = some z1 ∧ W.cell? ⟨B, 2, none⟩ = some z2 ∧ W.frozen? ⟨B, 0, none⟩ = false ∧ W.frozen? ⟨B, 1, none⟩ = false ∧ W.frozen? ⟨B, 2, none⟩ = false := by
  obtain ⟨z0, z1, z2, hz, -⟩ := h.z
  exact ⟨z0, z1, z2, ceh hz 0, ceh hz 1, ceh hz 2, foh hz 0, foh hz 1, foh hz 2⟩
theorem Res.put1 (h : Res B w0 W) (hB : w0.heap.size ≤ B) (k : Nat) (hk : k < 3) (a : Value) (ha : NoInt a) : Res B w0 (W.setCell ⟨B, k, none⟩ a) := by
  obtain ⟨z0, z1, z2, hz, n0, n1, n2⟩ := h.z
  refine ⟨by rw [World.size_setCell]; exact h.size, h.below.setCell (by simp; omega) _, ?_⟩
  have h1 := heap_set B k _ 62 a hz
  match k, hk with
  | 0, _ => exact ⟨_, _, _, h1, ha, n1, n2⟩
  | 1, _ => exact ⟨_, _, _, h1, n0, ha, n2⟩
  | 2, _ => exact ⟨_, _, _, h1, n0, n1, ha⟩
theorem Res.put3 (h : Res B w0 W) (hB : w0.heap.size ≤ B) (a : Bool) (p q : Option Addr) (n c m d : Nat) : Res B w0 (((W.setCell ⟨B, 0, none⟩ (.bool a)).setCell ⟨B, 1, none⟩ (.slice p n c)).setCell ⟨B, 2, none⟩ (.slice q m d)) :=
  ((h.put1 hB 0 (by omega) _ (noInt_bool _)).put1 hB 1 (by omega) _ (noInt_slice _ _ _)).put1 hB 2 (by omega) _ (noInt_slice _ _ _)
theorem Res.nat1 (h : Res B w0 W) {v : Value} {x : Nat} (hx : NatAt W v x) (k : Nat) (a : Value) : NatAt (W.setCell ⟨B, k, none⟩ a) v x := by
  obtain ⟨z0, z1, z2, hz, n0, n1, n2⟩ := h.z
  exact nat_set hz n0 n1 n2 hx k a
theorem Res.nat3 (h : Res B w0 W) (hB : w0.heap.size ≤ B) {v : Value} {x : Nat} (hx : NatAt W v x) (a : Bool) (p q : Option Addr) (n c m d : Nat) : NatAt (((W.setCell ⟨B, 0, none⟩ (.bool a)).setCell ⟨B, 1, none⟩ (.slice p n c)).setCell ⟨B, 2, none⟩ (.slice q m d)) v x :=
  ((h.put1 hB 0 (by omega) _ (noInt_bool _)).put1 hB 1 (by omega) _ (noInt_slice _ _ _)).nat1 ((h.put1 hB 0 (by omega) _ (noInt_bool _)).nat1 (h.nat1 hx _ _) _ _) _ _
theorem Res.start (w : World) : Res w.heap.size w (w.alloc (.cells #[.bool false, .slice none 0 0, .slice none 0 0] 62)) :=
  ⟨by simp, (Below.refl _ _).alloc (Nat.le_refl _) _, .bool false, .slice none 0 0, .slice none 0 0, heap_new _ _, noInt_bool _, noInt_slice _ _ _, noInt_slice _ _ _⟩
end
theorem bea (W : World) (o : Obj) : Below W.heap.size W (W.alloc o) := (Below.refl _ _).alloc (Nat.le_refl _) o
end Go.Proofs.YtlcpcpmlfegejaaGreatDoor
