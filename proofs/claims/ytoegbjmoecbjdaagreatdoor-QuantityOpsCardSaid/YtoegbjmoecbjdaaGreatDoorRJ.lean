/- The document's rational numbers in memory, and their boxes. -/
import Derived.Test.YtoegbjmoecbjdaaGreatDoorRI
import Derived.Test.YtoegbjmoecbjdaaGreatDoorPart09
set_option maxHeartbeats 1600000
set_option maxRecDepth 100000
namespace Go.Proofs.YtoegbjmoecbjdaaGreatDoor
open Go.RowKit Big
section
structure Twa (B : Nat) (s : Bool) (u1 v1 : Value) (t : Bool) (u2 v2 : Value) (w0 W : World) : Prop where
  size : B + 3 ≤ W.heap.size
  below : Below w0.heap.size w0 W
  x : W.heap[B]? = some (.cells #[.bool s, u1, v1] 38 (0, 0))
  y : W.heap[B + 1]? = some (.cells #[.bool t, u2, v2] 38 (0, 0))
  z : ∃ z0 z1 z2, W.heap[B + 1 + 1]? = some (.cells #[z0, z1, z2] 38 (0, 0)) ∧ NoInt z0 ∧ NoInt z1 ∧ NoInt z2
variable {B : Nat} {s : Bool} {u1 v1 : Value} {t : Bool} {u2 v2 : Value} {w0 W W' : World}
theorem Twa.next (h : Twa B s u1 v1 t u2 v2 w0 W) (hb : Below W.heap.size W W') : Twa B s u1 v1 t u2 v2 w0 W' := by
  have hs := h.size
  exact ⟨Nat.le_trans hs hb.size, h.below.trans (hb.mono h.below.size), (hb.block _ (by omega)).trans h.x, (hb.block _ (by omega)).trans h.y, h.z.elim fun z0 k => k.elim fun z1 k => k.elim fun z2 k => ⟨z0, z1, z2, (hb.block _ (by omega)).trans k.1, k.2⟩⟩
theorem Twa.drew (h : Twa B s u1 v1 t u2 v2 w0 W) : Twa B s u1 v1 t u2 v2 w0 W.drew := ⟨h.size, h.below.drew, h.x, h.y, h.z⟩
theorem Twa.start (w : World) (s : Bool) (u1 v1 : Value) (t : Bool) (u2 v2 : Value) :
    Twa w.heap.size s u1 v1 t u2 v2 w (((w.alloc (.cells #[.bool s, u1, v1] 38)).alloc (.cells #[.bool t, u2, v2] 38)).alloc (.cells #[.bool false, .slice none 0 0, .slice none 0 0] 38)) := by
  have hb : ∀ (W : World) (o : Obj), Below W.heap.size W (W.alloc o) := fun W o => (Below.refl _ _).alloc (Nat.le_refl _) o
  refine ⟨by simp, ((hb _ _).trans ((hb _ _).mono (by simp))).trans ((hb _ _).mono (by simp; omega)), ?_, ?_, ⟨.bool false, .slice none 0 0, .slice none 0 0, ?_, noInt_bool _, noInt_slice _ _ _, noInt_slice _ _ _⟩⟩
  · rw [heap_old _ _ _ (by simp; omega), heap_old _ _ _ (by simp), heap_new]
  · rw [heap_old _ _ _ (by simp), show w.heap.size + 1 = (w.alloc (.cells #[.bool s, u1, v1] 38)).heap.size from by simp, heap_new]
  · rw [show w.heap.size + 1 + 1 = ((w.alloc (.cells #[.bool s, u1, v1] 38)).alloc (.cells #[.bool t, u2, v2] 38)).heap.size from by simp, heap_new]
theorem Twa.all (h : Twa B s u1 v1 t u2 v2 w0 W) : Twa B s u1 v1 t u2 v2 w0 W ∧ W.cell? ⟨B, 0, none⟩ = some (.bool s) ∧ W.cell? ⟨B, 1, none⟩ = some u1 ∧ W.cell? ⟨B, 2, none⟩ = some v1 ∧
    W.cell? ⟨B + 1, 0, none⟩ = some (.bool t) ∧ W.cell? ⟨B + 1, 1, none⟩ = some u2 ∧ W.cell? ⟨B + 1, 2, none⟩ = some v2 :=
  ⟨h, ceh h.x 0, ceh h.x 1, ceh h.x 2, ceh h.y 0, ceh h.y 1, ceh h.y 2⟩
theorem Twa.slots (h : Twa B s u1 v1 t u2 v2 w0 W) : ∃ z0 z1 z2, W.cell? ⟨B + 1 + 1, 0, none⟩ = some z0 ∧ W.cell? ⟨B + 1 + 1, 1, none⟩ = some z1 ∧ W.cell? ⟨B + 1 + 1, 2, none⟩ = some z2 ∧
    W.frozen? ⟨B + 1 + 1, 0, none⟩ = false ∧ W.frozen? ⟨B + 1 + 1, 1, none⟩ = false ∧ W.frozen? ⟨B + 1 + 1, 2, none⟩ = false := by
  obtain ⟨z0, z1, z2, hz, -⟩ := h.z
  exact ⟨z0, z1, z2, ceh hz 0, ceh hz 1, ceh hz 2, foh hz 0, foh hz 1, foh hz 2⟩
theorem Twa.put1 (h : Twa B s u1 v1 t u2 v2 w0 W) (hB : w0.heap.size ≤ B) (k : Nat) (hk : k < 3) (a : Value) (ha : NoInt a) : Twa B s u1 v1 t u2 v2 w0 (W.setCell ⟨B + 1 + 1, k, none⟩ a) := by
  obtain ⟨z0, z1, z2, hz, n0, n1, n2⟩ := h.z
  refine ⟨by rw [World.size_setCell]; exact h.size, h.below.setCell (by simp; omega) _, (Below.heap_setCell _ _ _ _ (by simp; omega)).trans h.x, (Below.heap_setCell _ _ _ _ (by simp)).trans h.y, ?_⟩
  have h1 := heap_set (B + 1 + 1) k _ 38 a hz
  match k, hk with
  | 0, _ => exact ⟨_, _, _, h1, ha, n1, n2⟩
  | 1, _ => exact ⟨_, _, _, h1, n0, ha, n2⟩
  | 2, _ => exact ⟨_, _, _, h1, n0, n1, ha⟩
theorem Twa.put3 (h : Twa B s u1 v1 t u2 v2 w0 W) (hB : w0.heap.size ≤ B) (a : Bool) (p q : Option Addr) (n c m d : Nat) : Twa B s u1 v1 t u2 v2 w0 (((W.setCell ⟨B + 1 + 1, 0, none⟩ (.bool a)).setCell ⟨B + 1 + 1, 1, none⟩ (.slice p n c)).setCell ⟨B + 1 + 1, 2, none⟩ (.slice q m d)) :=
  ((h.put1 hB 0 (by omega) _ (noInt_bool _)).put1 hB 1 (by omega) _ (noInt_slice _ _ _)).put1 hB 2 (by omega) _ (noInt_slice _ _ _)
theorem Twa.rd (h : Twa B s u1 v1 t u2 v2 w0 W) {p : Option Addr} {n : Nat} {l : List Nat} (hr : Rd W p n l) (k : Nat) (a : Value) : Rd (W.setCell ⟨B + 1 + 1, k, none⟩ a) p n l := by
  refine ⟨hr.len, ?_⟩
  rcases hr.cell with h0 | ⟨b, off, hp, hlt, hc⟩
  · exact .inl h0
  · by_cases hn : n = 0
    · exact .inl hn
    refine .inr ⟨b, off, hp, by rw [World.size_setCell]; exact hlt, fun j hj => ?_⟩
    have hne : b ≠ B + 1 + 1 := by
      rintro rfl
      obtain ⟨z0, z1, z2, hz, n0, n1, n2⟩ := h.z
      have h1 := hc 0 (by omega)
      rw [ceh hz] at h1
      match hoff : off + 0, h1 with
      | 0, h1 => simp at h1; exact n0 _ _ h1
      | 1, h1 => simp at h1; exact n1 _ _ h1
      | 2, h1 => simp at h1; exact n2 _ _ h1
      | k + 3, h1 => simp at h1
    rw [← hc j hj]
    exact World.cell?_of_block (w := W) (Below.heap_setCell _ _ _ _ hne)
theorem Twa.nat1 (h : Twa B s u1 v1 t u2 v2 w0 W) {v : Value} {x : Nat} (hx : Nat9 W v x) (k : Nat) (a : Value) : Nat9 (W.setCell ⟨B + 1 + 1, k, none⟩ a) v x := by
  obtain ⟨p, n, c, l, h1, h2, h3, h4⟩ := hx
  exact ⟨p, n, c, l, h1, h2, h.rd h3 k a, h4⟩
theorem Twa.nat3 (h : Twa B s u1 v1 t u2 v2 w0 W) (hB : w0.heap.size ≤ B) {v : Value} {x : Nat} (hx : Nat9 W v x) (a : Bool) (p q : Option Addr) (n c m d : Nat) : Nat9 (((W.setCell ⟨B + 1 + 1, 0, none⟩ (.bool a)).setCell ⟨B + 1 + 1, 1, none⟩ (.slice p n c)).setCell ⟨B + 1 + 1, 2, none⟩ (.slice q m d)) v x :=
  ((h.put1 hB 0 (by omega) _ (noInt_bool _)).put1 hB 1 (by omega) _ (noInt_slice _ _ _)).nat1 ((h.put1 hB 0 (by omega) _ (noInt_bool _)).nat1 (h.nat1 hx _ _) _ _) _ _
end
section
variable {W : World}
theorem nat_seta {g : Nat} {z0 z1 z2 : Value} (hz : W.heap[g]? = some (.cells #[z0, z1, z2] 38 (0, 0))) (n0 : NoInt z0) (n1 : NoInt z1) (n2 : NoInt z2) {v : Value} {x : Nat} (hx : Nat9 W v x) (k : Nat) (a : Value) : Nat9 (W.setCell ⟨g, k, none⟩ a) v x := by
  obtain ⟨p, n, c, l, h1, h2, hr, h4⟩ := hx
  refine ⟨p, n, c, l, h1, h2, ⟨hr.len, ?_⟩, h4⟩
  rcases hr.cell with h0 | ⟨b, off, hp, hlt, hc⟩
  · exact .inl h0
  · by_cases hn : n = 0
    · exact .inl hn
    refine .inr ⟨b, off, hp, by rw [World.size_setCell]; exact hlt, fun j hj => ?_⟩
    have hne : b ≠ g := by
      rintro rfl
      have h1 := hc 0 (by omega)
      rw [ceh hz] at h1
      match hoff : off + 0, h1 with
      | 0, h1 => simp at h1; exact n0 _ _ h1
      | 1, h1 => simp at h1; exact n1 _ _ h1
      | 2, h1 => simp at h1; exact n2 _ _ h1
      | k + 3, h1 => simp at h1
    rw [← hc j hj]
    exact World.cell?_of_block (w := W) (Below.heap_setCell _ _ _ _ hne)
end
structure Resa (B : Nat) (w0 W : World) : Prop where
  size : B + 1 ≤ W.heap.size
  below : Below w0.heap.size w0 W
  z : ∃ z0 z1 z2, W.heap[B]? = some (.cells #[z0, z1, z2] 38 (0, 0)) ∧ NoInt z0 ∧ NoInt z1 ∧ NoInt z2
section
variable {B : Nat} {w0 W W' : World}
theorem Resa.next (h : Resa B w0 W) (hb : Below W.heap.size W W') : Resa B w0 W' := by
  have hs := h.size
  exact ⟨Nat.le_trans hs hb.size, h.below.trans (hb.mono h.below.size), h.z.elim fun z0 k => k.elim fun z1 k => k.elim fun z2 k => ⟨z0, z1, z2, (hb.block _ (by omega)).trans k.1, k.2⟩⟩
theorem Resa.slots (h : Resa B w0 W) : ∃ z0 z1 z2, W.cell? ⟨B, 0, none⟩ = some z0 ∧ W.cell? ⟨B, 1, none⟩ = some z1 ∧ W.cell? ⟨B, 2, none⟩ = some z2 ∧ W.frozen? ⟨B, 0, none⟩ = false ∧ W.frozen? ⟨B, 1, none⟩ = false ∧ W.frozen? ⟨B, 2, none⟩ = false := by
  obtain ⟨z0, z1, z2, hz, -⟩ := h.z
  exact ⟨z0, z1, z2, ceh hz 0, ceh hz 1, ceh hz 2, foh hz 0, foh hz 1, foh hz 2⟩
theorem Resa.put1 (h : Resa B w0 W) (hB : w0.heap.size ≤ B) (k : Nat) (hk : k < 3) (a : Value) (ha : NoInt a) : Resa B w0 (W.setCell ⟨B, k, none⟩ a) := by
  obtain ⟨z0, z1, z2, hz, n0, n1, n2⟩ := h.z
  refine ⟨by rw [World.size_setCell]; exact h.size, h.below.setCell (by simp; omega) _, ?_⟩
  have h1 := heap_set B k _ 38 a hz
  match k, hk with
  | 0, _ => exact ⟨_, _, _, h1, ha, n1, n2⟩
  | 1, _ => exact ⟨_, _, _, h1, n0, ha, n2⟩
  | 2, _ => exact ⟨_, _, _, h1, n0, n1, ha⟩
theorem Resa.put3 (h : Resa B w0 W) (hB : w0.heap.size ≤ B) (a : Bool) (p q : Option Addr) (n c m d : Nat) : Resa B w0 (((W.setCell ⟨B, 0, none⟩ (.bool a)).setCell ⟨B, 1, none⟩ (.slice p n c)).setCell ⟨B, 2, none⟩ (.slice q m d)) :=
  ((h.put1 hB 0 (by omega) _ (noInt_bool _)).put1 hB 1 (by omega) _ (noInt_slice _ _ _)).put1 hB 2 (by omega) _ (noInt_slice _ _ _)
theorem Resa.nat1 (h : Resa B w0 W) {v : Value} {x : Nat} (hx : Nat9 W v x) (k : Nat) (a : Value) : Nat9 (W.setCell ⟨B, k, none⟩ a) v x := by
  obtain ⟨z0, z1, z2, hz, n0, n1, n2⟩ := h.z
  exact nat_seta hz n0 n1 n2 hx k a
theorem Resa.nat3 (h : Resa B w0 W) (hB : w0.heap.size ≤ B) {v : Value} {x : Nat} (hx : Nat9 W v x) (a : Bool) (p q : Option Addr) (n c m d : Nat) : Nat9 (((W.setCell ⟨B, 0, none⟩ (.bool a)).setCell ⟨B, 1, none⟩ (.slice p n c)).setCell ⟨B, 2, none⟩ (.slice q m d)) v x :=
  ((h.put1 hB 0 (by omega) _ (noInt_bool _)).put1 hB 1 (by omega) _ (noInt_slice _ _ _)).nat1 ((h.put1 hB 0 (by omega) _ (noInt_bool _)).nat1 (h.nat1 hx _ _) _ _) _ _
theorem Resa.start (w : World) : Resa w.heap.size w (w.alloc (.cells #[.bool false, .slice none 0 0, .slice none 0 0] 38)) :=
  ⟨by simp, (Below.refl _ _).alloc (Nat.le_refl _) _, .bool false, .slice none 0 0, .slice none 0 0, heap_new _ _, noInt_bool _, noInt_slice _ _ _, noInt_slice _ _ _⟩
end
def QAt (w : World) (x : Value) (q : Rat) : Prop := ∃ u v, x = .agg #[.bool (decide (q.num < 0)), u, v] ∧ Nat9 w u q.num.natAbs ∧ (Nat9 w v q.den ∨ (Nat9 w v 0 ∧ q.den = 1))
theorem QAt.below {w w' : World} {x : Value} {q : Rat} (h : QAt w x q) (hb : Below w.heap.size w w') : QAt w' x q := by
  obtain ⟨u, v, h1, h2, h3⟩ := h
  exact ⟨u, v, h1, h2.below hb, h3.imp (·.below hb) fun h => ⟨h.1.below hb, h.2⟩⟩
def QPost (q : Rat) (w : World) (e : Ending) (w' : World) : Prop := ∃ x, e = .returned x ∧ QAt w' x q ∧ Below w.heap.size w w'
theorem QAt.slices {w : World} {x : Value} {q : Rat} (h : QAt w x q) : ∃ p n c p2 n2 c2, x = .agg #[.bool (decide (q.num < 0)), .slice p n c, .slice p2 n2 c2] ∧ Nat9 w (.slice p n c) q.num.natAbs ∧ (Nat9 w (.slice p2 n2 c2) q.den ∨ (Nat9 w (.slice p2 n2 c2) 0 ∧ q.den = 1)) := by
  obtain ⟨u, v, h1, h2, h3⟩ := h
  obtain ⟨p, n, c, rfl⟩ := h2.slice
  obtain ⟨p2, n2, c2, rfl⟩ : ∃ p n c, v = .slice p n c := h3.elim (·.slice) fun h => h.1.slice
  exact ⟨p, n, c, p2, n2, c2, h1, h2, h3⟩
def QLt (K : Nat) (q : Rat) : Prop := q.num.natAbs < B9 ^ K ∧ q.den < B9 ^ K
theorem ratv_zero (s : Bool) (b : Nat) : ratv s 0 b = 0 := by unfold ratv; cases s <;> simp <;> grind
theorem ratv_den0 (s : Bool) (a : Nat) : ratv s a 0 = 0 := by unfold ratv; cases s <;> simp <;> grind
theorem ratv_lt {K a b : Nat} (s : Bool) (ha : a < B9 ^ K) (hb : b < B9 ^ K) (hb0 : 0 < b) (hs : s = true → 0 < a) : QLt K (ratv s a b) := by
  obtain ⟨-, h2, h3⟩ := ratv_num hb0 hs
  exact ⟨by rw [h2]; exact Nat.lt_of_le_of_lt (Nat.div_le_self _ _) ha, by rw [h3]; exact Nat.lt_of_le_of_lt (Nat.div_le_self _ _) hb⟩
theorem below_alloc9 (W : World) (o : Obj) : Below W.heap.size W (W.alloc o) := (Below.refl _ _).alloc (Nat.le_refl _) o
theorem one_any (w : World) : Calls Tryz.prog 90 #[] w (Post9 1 w) := by
  have hno := hiD (natOf_any 1 w (by omega))
  go_enter Tryz.func90, Tryz.ntmps90
  go_wp2_with fail
  refine hno.out.mono ?_
  rintro e w' ⟨v, rfl, hv⟩
  obtain ⟨p, n, c, rfl⟩ := hv.1.slice
  go_wp2_with fail
  go_ret
  exact ⟨_, rfl, hv⟩
def Some9 (x : Nat) (w : World) (e : Ending) (w' : World) : Prop := ∃ p n c, e = .returned (.slice p n c) ∧ Nat9 w' (.slice p n c) x ∧ Below w.heap.size w w'
theorem den_any (x : Value) (q : Rat) (w : World) (hx : QAt w x q) : Calls Tryz.prog 89 #[x] w (Some9 q.den w) := by
  obtain ⟨p, n, c, p2, n2, c2, rfl, hu, hv⟩ := hx.slices
  have hq0 := q.den_pos
  rcases hv with hv | ⟨hv, h1⟩
  · have hn2 : ((n2 : Int) == 0) = false := by
      have := hv.zero_iff (n := n2)
      simp; omega
    have Hv := hiD hv
    clear hu hv hq0
    go_enter Tryz.func89, Tryz.ntmps89
    go_wp2_with fail
    go_ret
    exact ⟨_, _, _, rfl, Hv.out.below (below_alloc9 _ _), below_alloc9 _ _⟩
  · have hn2 : n2 = 0 := hv.zero_iff.2 rfl
    subst hn2
    have Hq := hiD h1
    have hone : ∀ W, Hid (Calls Tryz.prog 90 #[] W (Post9 1 W)) := fun W => hiD (one_any W)
    clear hu hv hq0 h1
    go_enter Tryz.func89, Tryz.ntmps89
    go_wp2_with fail
    refine (hone _).out.mono ?_
    rintro e w' ⟨v, rfl, hv, hb, -⟩
    obtain ⟨p3, n3, c3, rfl⟩ := hv.slice
    have Hb := hiD ((below_alloc9 w _).trans (hb.mono (below_alloc9 w _).size))
    clear hb
    go_wp2_with fail
    go_ret
    exact ⟨_, _, _, rfl, by rw [Hq.out]; exact hv, Hb.out⟩
end Go.Proofs.YtoegbjmoecbjdaaGreatDoor
