/- Slice, where it is refused. -/
import Derived.Test.YtigidchicloleaaGreatDoorGQ
import Derived.Laws.ResultCell
set_option maxHeartbeats 4000000
set_option maxRecDepth 100000
namespace Go.Proofs.YtigidchicloleaaGreatDoor.Arr
open Go.RowKit Go.Shelf
open Go.Lib
attribute [local go_sem] Oper.semAt_some
def SliceNo (w : World) (k : Int) (e : Ending) (w' : World) : Prop := Below w.heap.size w w' ∧ e = .returned (.tuple #[.agg #[.slice none 0 0, .slice none 0 0], .int .i64 k])
theorem slice_no1 (p q cq : Option Addr) (c d n m k cd : Nat) (s : List Int) (l : List (List UInt8)) (w : World) (he : Env w) (hs : Hid (s.length = n)) (hl : Hid (l.length = m)) (hm : m ≤ 5000) (hp : Rd w p s) (hq : RdS w q l) (hva : validA s l = false) :
    Calls Tryz.prog 24 #[.agg #[.slice p n c, .slice q m d], .slice cq k cd] w (SliceNo w 60) := by
  have HP := Lib.hid hp
  have HQ := Lib.hid hq
  obtain ⟨A, HA⟩ : ∃ A, Hid (A = w.heap.size) := ⟨_, Lib.hid rfl⟩
  obtain ⟨W0, HW0⟩ : ∃ W0, Hid ((w.alloc (.cells #[.slice p n c, .slice q m d] 25)).alloc (.cells #[.slice none 0 0, .slice none 0 0] 25) = W0) := ⟨_, Lib.hid rfl⟩
  have HB0 : Hid (Below w.heap.size w W0) := Lib.hid (by rw [← HW0.out]; exact ((Below.refl _ w).alloc (Nat.le_refl _) _).alloc (by simp) _)
  have hs0 : W0.heap.size = A + 1 + 1 := by rw [← HW0.out, HA.out]; simp
  have hA0 : W0.heap[A]? = some (.cells #[.slice p n c, .slice q m d] 25 (0, 0)) := by
    rw [← HW0.out, HA.out, (Below.alloc (Below.refl (w.alloc (.cells #[.slice p n c, .slice q m d] 25)).heap.size _) (Nat.le_refl _) _).block w.heap.size (by simp)]
    exact World.alloc_heap_new w _
  have hA1 : W0.heap[A + 1]? = some (.cells #[.slice none 0 0, .slice none 0 0] 25 (0, 0)) := by
    rw [← HW0.out, HA.out, show w.heap.size + 1 = (w.alloc (.cells #[.slice p n c, .slice q m d] 25)).heap.size by simp]
    exact World.alloc_heap_new _ _
  have H20 : Hid (Calls Tryz.prog 21 #[.agg #[.slice p n c, .slice q m d]] W0 fun e w' => Below W0.heap.size W0 w' ∧ e = .returned (.bool false)) := Lib.hid (by
    have := valid_any p q c d n m s l W0 (he.below HB0.out) hs hl hm (HP.out.below HB0.out) (HQ.out.below HB0.out)
    rwa [hva] at this)
  clear hp hq hva
  go_enter Tryz.func24, Tryz.ntmps24
  go_wp2_with fail
  rw [HW0.out, ← HA.out]
  refine (H20.out).mono ?_
  rintro e w1 ⟨hb1, rfl⟩
  have HB1 : Hid (Below w.heap.size w w1) := Lib.hid (HB0.out.trans (hb1.mono HB0.out.size))
  have x1 : w1.heap[A]? = some (.cells #[.slice p n c, .slice q m d] 25 (0, 0)) := (hb1.block A (by omega)).trans hA0
  have y1 : w1.heap[A + 1]? = some (.cells #[.slice none 0 0, .slice none 0 0] 25 (0, 0)) := (hb1.block (A + 1) (by omega)).trans hA1
  clear hb1
  have r0 : w1.cell? ⟨A + 1, 0, none⟩ = some (.slice none 0 0) := by simp [World.cell?, y1]
  have r1 : w1.cell? ⟨A + 1, 1, none⟩ = some (.slice none 0 0) := by simp [World.cell?, y1]
  have z0 : w1.frozen? ⟨A + 1, 0, none⟩ = false := by simp [World.frozen?, y1]
  have z1 : w1.frozen? ⟨A + 1, 1, none⟩ = false := by simp [World.frozen?, y1]
  have hE1 := heap_set w1 (A + 1) 0 (.slice none 0 0) _ _ y1
  have hE2 := heap_set _ (A + 1) 1 (.slice none 0 0) _ _ hE1
  obtain ⟨W7, hW7⟩ : ∃ W7, (w1.setCell ⟨A + 1, 0, none⟩ (.slice none 0 0)).setCell ⟨A + 1, 1, none⟩ (.slice none 0 0) = W7 := ⟨_, rfl⟩
  rw [hW7] at hE2
  have k0 : W7.cell? ⟨A + 1, 0, none⟩ = some (.slice none 0 0) := by simp [World.cell?, hE2]
  have k1 : W7.cell? ⟨A + 1, 1, none⟩ = some (.slice none 0 0) := by simp [World.cell?, hE2]
  have HFIN : Hid (Below w.heap.size w W7) := Lib.hid (by
    rw [← hW7]
    exact (HB1.out.setCell (p := ⟨A + 1, 0, none⟩) (by show w.heap.size ≤ A + 1; rw [HA.out]; omega) _).setCell (p := ⟨A + 1, 1, none⟩) (by show w.heap.size ≤ A + 1; rw [HA.out]; omega) _)
  clear hE1 hE2 y1 x1 hs0 hA0 hA1
  go_wp2_with fail
  (try simp only [Exit.inBlock, Exit.then])
  refine bodyPost_ret (v := .tuple #[.agg #[.slice none 0 0, .slice none 0 0], .int .i64 60]) ?_ rfl ⟨HFIN.out, rfl⟩
  rw [results_cell_tmp rfl]
  go_simp
theorem slice_no2 (p q cq : Option Addr) (c d n m k cd : Nat) (s : List Nat) (l : List (List UInt8)) (cuts : List (Int × Int × Int)) (w : World) (he : Env w) (hs : Hid (s.length = n)) (hl : Hid (l.length = m)) (hm : m ≤ 5000) (hsh : Hid (Shp s)) (hk : Hid (cuts.length = k)) (hp : RdN w p s) (hq : RdS w q l) (hcq : RdC w cq cuts) (hva : validA (s.map Int.ofNat) l = true) (hsl : Hid (slabOk s cuts = false)) :
    Calls Tryz.prog 24 #[.agg #[.slice p n c, .slice q m d], .slice cq k cd] w (SliceNo w 61) := by
  have HCQ := Lib.hid hcq
  have HP := Lib.hid hp
  have HQ := Lib.hid hq
  obtain ⟨A, HA⟩ : ∃ A, Hid (A = w.heap.size) := ⟨_, Lib.hid rfl⟩
  obtain ⟨W0, HW0⟩ : ∃ W0, Hid ((w.alloc (.cells #[.slice p n c, .slice q m d] 25)).alloc (.cells #[.slice none 0 0, .slice none 0 0] 25) = W0) := ⟨_, Lib.hid rfl⟩
  have HB0 : Hid (Below w.heap.size w W0) := Lib.hid (by rw [← HW0.out]; exact ((Below.refl _ w).alloc (Nat.le_refl _) _).alloc (by simp) _)
  have hs0 : W0.heap.size = A + 1 + 1 := by rw [← HW0.out, HA.out]; simp
  have hA0 : W0.heap[A]? = some (.cells #[.slice p n c, .slice q m d] 25 (0, 0)) := by
    rw [← HW0.out, HA.out, (Below.alloc (Below.refl (w.alloc (.cells #[.slice p n c, .slice q m d] 25)).heap.size _) (Nat.le_refl _) _).block w.heap.size (by simp)]
    exact World.alloc_heap_new w _
  have hA1 : W0.heap[A + 1]? = some (.cells #[.slice none 0 0, .slice none 0 0] 25 (0, 0)) := by
    rw [← HW0.out, HA.out, show w.heap.size + 1 = (w.alloc (.cells #[.slice p n c, .slice q m d] 25)).heap.size by simp]
    exact World.alloc_heap_new _ _
  have H20 : Hid (Calls Tryz.prog 21 #[.agg #[.slice p n c, .slice q m d]] W0 fun e w' => Below W0.heap.size W0 w' ∧ e = .returned (.bool true)) := Lib.hid (by
    have := valid_any p q c d n m (s.map Int.ofNat) l W0 (he.below HB0.out) (Lib.hid (by rw [List.length_map, hs.out])) hl hm (HP.out.below HB0.out) (HQ.out.below HB0.out)
    rwa [hva] at this)
  clear hp hq hcq hva
  go_enter Tryz.func24, Tryz.ntmps24
  go_wp2_with fail
  rw [HW0.out, ← HA.out]
  refine (H20.out).mono ?_
  rintro e w1 ⟨hb1, rfl⟩
  have HB1 : Hid (Below w.heap.size w w1) := Lib.hid (HB0.out.trans (hb1.mono HB0.out.size))
  have x1 : w1.heap[A]? = some (.cells #[.slice p n c, .slice q m d] 25 (0, 0)) := (hb1.block A (by omega)).trans hA0
  have y1 : w1.heap[A + 1]? = some (.cells #[.slice none 0 0, .slice none 0 0] 25 (0, 0)) := (hb1.block (A + 1) (by omega)).trans hA1
  have c1 : w1.cell? ⟨A, 0, none⟩ = some (.slice p n c) := by simp [World.cell?, x1]
  have hs1 : A + 1 + 1 ≤ w1.heap.size := by rw [← hs0]; exact hb1.size
  have H56 : Hid (Calls Tryz.prog 59 #[.slice p n c, .slice cq k cd] w1 (CutPost false w1)) := Lib.hid (by
    have := isslab_any p cq c cd s cuts w1 hsh.out.1 hsh.out.2.1 (HP.out.below HB1.out) (HCQ.out.below HB1.out)
    rwa [hsl.out, hk.out, hs.out] at this)
  clear hb1
  go_wp2_with fail
  refine (H56.out).mono ?_
  rintro e w2 ⟨hb2, rfl⟩
  have HB2 : Hid (Below w.heap.size w w2) := Lib.hid (HB1.out.trans (hb2.mono HB1.out.size))
  have y2 := (hb2.block (A + 1) (by omega)).trans y1
  clear hb2 c1 hs1 y1
  have r0 : w2.cell? ⟨A + 1, 0, none⟩ = some (.slice none 0 0) := by simp [World.cell?, y2]
  have r1 : w2.cell? ⟨A + 1, 1, none⟩ = some (.slice none 0 0) := by simp [World.cell?, y2]
  have z0 : w2.frozen? ⟨A + 1, 0, none⟩ = false := by simp [World.frozen?, y2]
  have z1 : w2.frozen? ⟨A + 1, 1, none⟩ = false := by simp [World.frozen?, y2]
  have hE1 := heap_set w2 (A + 1) 0 (.slice none 0 0) _ _ y2
  have hE2 := heap_set _ (A + 1) 1 (.slice none 0 0) _ _ hE1
  obtain ⟨W7, hW7⟩ : ∃ W7, (w2.setCell ⟨A + 1, 0, none⟩ (.slice none 0 0)).setCell ⟨A + 1, 1, none⟩ (.slice none 0 0) = W7 := ⟨_, rfl⟩
  rw [hW7] at hE2
  have k0 : W7.cell? ⟨A + 1, 0, none⟩ = some (.slice none 0 0) := by simp [World.cell?, hE2]
  have k1 : W7.cell? ⟨A + 1, 1, none⟩ = some (.slice none 0 0) := by simp [World.cell?, hE2]
  have HFIN : Hid (Below w.heap.size w W7) := Lib.hid (by
    rw [← hW7]
    exact (HB2.out.setCell (p := ⟨A + 1, 0, none⟩) (by show w.heap.size ≤ A + 1; rw [HA.out]; omega) _).setCell (p := ⟨A + 1, 1, none⟩) (by show w.heap.size ≤ A + 1; rw [HA.out]; omega) _)
  clear hE1 hE2 y2 x1 hs0 hA0 hA1
  go_wp2_with fail
  (try simp only [Exit.inBlock, Exit.then])
  refine bodyPost_ret (v := .tuple #[.agg #[.slice none 0 0, .slice none 0 0], .int .i64 61]) ?_ rfl ⟨HFIN.out, rfl⟩
  rw [results_cell_tmp rfl]
  go_simp
end Go.Proofs.YtigidchicloleaaGreatDoor.Arr
