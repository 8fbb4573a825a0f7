/- The document's two. -/
import Derived.Test.YtoegbjmoecbjdaaGreatDoorRV
set_option maxHeartbeats 3200000
set_option maxRecDepth 100000
namespace Go.Proofs.YtoegbjmoecbjdaaGreatDoor
open Go.RowKit Big
open Go.Lib
theorem Resa.other {B g : Nat} {w0 W : World} (h : Resa B w0 W) (hg : g ≠ B) (h0 : w0.heap.size ≤ g) (k : Nat) (v : Value) : Resa B w0 (W.setCell ⟨g, k, none⟩ v) := by
  refine ⟨by rw [World.size_setCell]; exact h.size, h.below.setCell h0 _, ?_⟩
  obtain ⟨z0, z1, z2, hz, hn⟩ := h.z
  exact ⟨z0, z1, z2, (Below.heap_setCell _ _ _ _ (fun e => hg e.symm)).trans hz, hn⟩
theorem QAt.put3 {B : Nat} {w0 W : World} {x : Value} {r : Rat} (hq : QAt W x r) (h : Resa B w0 W) (hB : w0.heap.size ≤ B) (a : Bool) (p q : Option Addr) (n c m d : Nat) : QAt (((W.setCell ⟨B, 0, none⟩ (.bool a)).setCell ⟨B, 1, none⟩ (.slice p n c)).setCell ⟨B, 2, none⟩ (.slice q m d)) x r := by
  obtain ⟨u, v, rfl, hu, hv⟩ := hq
  exact ⟨u, v, rfl, h.nat3 hB hu a p q n c m d, hv.imp (fun h2 => h.nat3 hB h2 a p q n c m d) fun h2 => ⟨h.nat3 hB h2.1 a p q n c m d, h2.2⟩⟩
def TwoPost (a b : Rat) (f : Bool) (w : World) (e : Ending) (w' : World) : Prop := ∃ b1 p n c p2 n2 c2 b2 q m d q2 m2 d2, e = .returned (.tuple #[.agg #[.bool b1, .slice p n c, .slice p2 n2 c2], .agg #[.bool b2, .slice q m d, .slice q2 m2 d2], .bool f]) ∧ Below w.heap.size w w' ∧
  (f = true → QAt w' (.agg #[.bool b1, .slice p n c, .slice p2 n2 c2]) a ∧ QAt w' (.agg #[.bool b2, .slice q m d, .slice q2 m2 d2]) b)
theorem two_true_true (s t : ByteArray) (a b : Rat) (w : World) (h1 : ∀ W, Hid (Calls Tryz.prog 38 #[.string s] W (FlagPost a true W))) (h2 : ∀ W, Hid (Calls Tryz.prog 38 #[.string t] W (FlagPost b true W))) :
    Calls Tryz.prog 77 #[.string s, .string t] w (TwoPost a b true w) := by
  have hr1 := (Resa.start w).next (below_alloc9 _ (.cells #[.bool false, .slice none 0 0, .slice none 0 0] 38))
  have hr2 : Resa (w.heap.size + 1) w ((w.alloc (.cells #[.bool false, .slice none 0 0, .slice none 0 0] 38)).alloc (.cells #[.bool false, .slice none 0 0, .slice none 0 0] 38)) :=
    ⟨by simp, hr1.below, .bool false, .slice none 0 0, .slice none 0 0, by rw [show w.heap.size + 1 = (w.alloc (.cells #[.bool false, .slice none 0 0, .slice none 0 0] 38)).heap.size from by simp]; exact heap_new _ _, noInt_bool _, noInt_slice _ _ _, noInt_slice _ _ _⟩
  have Hr1 := hiD hr1
  have Hr2 := hiD hr2
  clear hr1 hr2
  go_enter Tryz.func77, Tryz.ntmps77
  go_wp2_with fail
  refine (h1 _).out.mono ?_
  rintro e w1 ⟨b1, p, n, c, p2, n2, c2, rfl, hb1, hq1⟩
  have hR1 := hiD ((Hr1.out.next hb1).next (below_alloc9 w1 (.cells #[.bool b1, .slice p n c, .slice p2 n2 c2] 38)))
  have hR2 := hiD ((Hr2.out.next hb1).next (below_alloc9 w1 (.cells #[.bool b1, .slice p n c, .slice p2 n2 c2] 38)))
  have hQ1 := hiD (fun h => (hq1 h).below (below_alloc9 w1 (.cells #[.bool b1, .slice p n c, .slice p2 n2 c2] 38)))
  have hB7 : Hid ((w1.alloc (.cells #[.bool b1, .slice p n c, .slice p2 n2 c2] 38)).heap[w1.heap.size]? = some (.cells #[.bool b1, .slice p n c, .slice p2 n2 c2] 38 (0, 0))) := hiD (heap_new _ _)
  have hlt1 : Hid (w.heap.size + 1 < w1.heap.size) := hiD (by have := hb1.size; simp at this; omega)
  clear hb1 hq1
  go_wp2_with fail
  refine (h2 _).out.mono ?_
  rintro e w2 ⟨b2, q, m, d, q2, m2, d2, rfl, hb2, hq2⟩
  have hS1 := hiD ((hR1.out.next hb2).next (below_alloc9 w2 (.cells #[.bool b2, .slice q m d, .slice q2 m2 d2] 38)))
  have hS2 := hiD ((hR2.out.next hb2).next (below_alloc9 w2 (.cells #[.bool b2, .slice q m d, .slice q2 m2 d2] 38)))
  have hT1 := hiD (fun h => ((hQ1.out h).below hb2).below (below_alloc9 w2 (.cells #[.bool b2, .slice q m d, .slice q2 m2 d2] 38)))
  have hT2 := hiD (fun h => (hq2 h).below (below_alloc9 w2 (.cells #[.bool b2, .slice q m d, .slice q2 m2 d2] 38)))
  have h7 : (w2.alloc (.cells #[.bool b2, .slice q m d, .slice q2 m2 d2] 38)).heap[w1.heap.size]? = some (.cells #[.bool b1, .slice p n c, .slice p2 n2 c2] 38 (0, 0)) := by
    rw [heap_old _ _ _ (by have := hb2.size; simp at this; omega), hb2.block _ (by simp)]; exact hB7.out
  have h9 : (w2.alloc (.cells #[.bool b2, .slice q m d, .slice q2 m2 d2] 38)).heap[w2.heap.size]? = some (.cells #[.bool b2, .slice q m d, .slice q2 m2 d2] 38 (0, 0)) := heap_new _ _
  have x70 := ceh h7 0
  have x71 := ceh h7 1
  have x72 := ceh h7 2
  obtain ⟨y0, y1, y2, l0, l1, l2, f0, f1, f2⟩ := hS1.out.slots
  obtain ⟨z0, z1, z2, k0, k1, k2, g0, g1, g2⟩ := hS2.out.slots
  have x90 := ceh h9 0
  have x91 := ceh h9 1
  have x92 := ceh h9 2
  have hs1 : w.heap.size + 1 < w1.heap.size := hlt1.out
  have hs2 : w1.heap.size < w2.heap.size := by have := hb2.size; simp at this; omega
  have n1 : w2.heap.size ≠ w.heap.size := by omega
  have n2' : w.heap.size ≠ w2.heap.size := by omega
  have n3 : w2.heap.size ≠ w.heap.size + 1 := by omega
  have n4 : w.heap.size + 1 ≠ w2.heap.size := by omega
  have n5 : w1.heap.size ≠ w.heap.size := by omega
  have n6 : w.heap.size ≠ w1.heap.size := by omega
  have n7 : w1.heap.size ≠ w.heap.size + 1 := by omega
  have n8 : w.heap.size + 1 ≠ w1.heap.size := by omega
  clear h7 h9 hb2 hq2
  go_wp2_with fail
  have hA := hiD (hS1.out.put3 (Nat.le_refl _) b1 p p2 n c n2 c2)
  have hB := hiD (((hS2.out.other (by omega) (Nat.le_refl _) 0 (.bool b1)).other (by omega) (Nat.le_refl _) 1 (.slice p n c)).other (by omega) (Nat.le_refl _) 2 (.slice p2 n2 c2))
  have hQ : Hid (TwoPost a b true w (.returned (.tuple #[.agg #[.bool b1, .slice p n c, .slice p2 n2 c2], .agg #[.bool b2, .slice q m d, .slice q2 m2 d2], .bool true])) ((((((((w2.alloc (.cells #[.bool b2, .slice q m d, .slice q2 m2 d2] 38)).setCell ⟨w.heap.size, 0, none⟩ (.bool b1)).setCell ⟨w.heap.size, 1, none⟩ (.slice p n c)).setCell ⟨w.heap.size, 2, none⟩ (.slice p2 n2 c2)).setCell ⟨w.heap.size + 1, 0, none⟩ (.bool b2)).setCell ⟨w.heap.size + 1, 1, none⟩ (.slice q m d)).setCell ⟨w.heap.size + 1, 2, none⟩ (.slice q2 m2 d2)).drew)) := hiD (by
    refine ⟨_, _, _, _, _, _, _, _, _, _, _, _, _, _, rfl, ((hB.out.put3 (by omega) b2 q q2 m d m2 d2).below).drew, ?_⟩
    exact fun _ => ⟨((hT1.out (by trivial)).put3 hS1.out (Nat.le_refl _) b1 p p2 n c n2 c2).put3 hB.out (by omega) b2 q q2 m d m2 d2 |>.below (Below.refl _ _).drew, ((hT2.out (by trivial)).put3 hS1.out (Nat.le_refl _) b1 p p2 n c n2 c2).put3 hB.out (by omega) b2 q q2 m d m2 d2 |>.below (Below.refl _ _).drew⟩)
  go_region
  go_wp2_with fail
  refine bodyPost_ret (v := .tuple #[.agg #[.bool b1, .slice p n c, .slice p2 n2 c2], .agg #[.bool b2, .slice q m d, .slice q2 m2 d2], .bool true]) ?h1 rfl ?h2
  case h1 => simp [results, Tryz.results77, go_sem, l0, l1, l2, k0, k1, k2]
  exact hQ.out
theorem two_true_false (s t : ByteArray) (a b : Rat) (w : World) (h1 : ∀ W, Hid (Calls Tryz.prog 38 #[.string s] W (FlagPost a true W))) (h2 : ∀ W, Hid (Calls Tryz.prog 38 #[.string t] W (FlagPost b false W))) :
    Calls Tryz.prog 77 #[.string s, .string t] w (TwoPost a b false w) := by
  have hr1 := (Resa.start w).next (below_alloc9 _ (.cells #[.bool false, .slice none 0 0, .slice none 0 0] 38))
  have hr2 : Resa (w.heap.size + 1) w ((w.alloc (.cells #[.bool false, .slice none 0 0, .slice none 0 0] 38)).alloc (.cells #[.bool false, .slice none 0 0, .slice none 0 0] 38)) :=
    ⟨by simp, hr1.below, .bool false, .slice none 0 0, .slice none 0 0, by rw [show w.heap.size + 1 = (w.alloc (.cells #[.bool false, .slice none 0 0, .slice none 0 0] 38)).heap.size from by simp]; exact heap_new _ _, noInt_bool _, noInt_slice _ _ _, noInt_slice _ _ _⟩
  have Hr1 := hiD hr1
  have Hr2 := hiD hr2
  clear hr1 hr2
  go_enter Tryz.func77, Tryz.ntmps77
  go_wp2_with fail
  refine (h1 _).out.mono ?_
  rintro e w1 ⟨b1, p, n, c, p2, n2, c2, rfl, hb1, hq1⟩
  have hR1 := hiD ((Hr1.out.next hb1).next (below_alloc9 w1 (.cells #[.bool b1, .slice p n c, .slice p2 n2 c2] 38)))
  have hR2 := hiD ((Hr2.out.next hb1).next (below_alloc9 w1 (.cells #[.bool b1, .slice p n c, .slice p2 n2 c2] 38)))
  have hQ1 := hiD (fun h => (hq1 h).below (below_alloc9 w1 (.cells #[.bool b1, .slice p n c, .slice p2 n2 c2] 38)))
  have hB7 : Hid ((w1.alloc (.cells #[.bool b1, .slice p n c, .slice p2 n2 c2] 38)).heap[w1.heap.size]? = some (.cells #[.bool b1, .slice p n c, .slice p2 n2 c2] 38 (0, 0))) := hiD (heap_new _ _)
  have hlt1 : Hid (w.heap.size + 1 < w1.heap.size) := hiD (by have := hb1.size; simp at this; omega)
  clear hb1 hq1
  go_wp2_with fail
  refine (h2 _).out.mono ?_
  rintro e w2 ⟨b2, q, m, d, q2, m2, d2, rfl, hb2, hq2⟩
  have hS1 := hiD ((hR1.out.next hb2).next (below_alloc9 w2 (.cells #[.bool b2, .slice q m d, .slice q2 m2 d2] 38)))
  have hS2 := hiD ((hR2.out.next hb2).next (below_alloc9 w2 (.cells #[.bool b2, .slice q m d, .slice q2 m2 d2] 38)))
  have hT1 := hiD (fun h => ((hQ1.out h).below hb2).below (below_alloc9 w2 (.cells #[.bool b2, .slice q m d, .slice q2 m2 d2] 38)))
  have hT2 := hiD (fun h => (hq2 h).below (below_alloc9 w2 (.cells #[.bool b2, .slice q m d, .slice q2 m2 d2] 38)))
  have h7 : (w2.alloc (.cells #[.bool b2, .slice q m d, .slice q2 m2 d2] 38)).heap[w1.heap.size]? = some (.cells #[.bool b1, .slice p n c, .slice p2 n2 c2] 38 (0, 0)) := by
    rw [heap_old _ _ _ (by have := hb2.size; simp at this; omega), hb2.block _ (by simp)]; exact hB7.out
  have h9 : (w2.alloc (.cells #[.bool b2, .slice q m d, .slice q2 m2 d2] 38)).heap[w2.heap.size]? = some (.cells #[.bool b2, .slice q m d, .slice q2 m2 d2] 38 (0, 0)) := heap_new _ _
  have x70 := ceh h7 0
  have x71 := ceh h7 1
  have x72 := ceh h7 2
  obtain ⟨y0, y1, y2, l0, l1, l2, f0, f1, f2⟩ := hS1.out.slots
  obtain ⟨z0, z1, z2, k0, k1, k2, g0, g1, g2⟩ := hS2.out.slots
  have x90 := ceh h9 0
  have x91 := ceh h9 1
  have x92 := ceh h9 2
  have hs1 : w.heap.size + 1 < w1.heap.size := hlt1.out
  have hs2 : w1.heap.size < w2.heap.size := by have := hb2.size; simp at this; omega
  have n1 : w2.heap.size ≠ w.heap.size := by omega
  have n2' : w.heap.size ≠ w2.heap.size := by omega
  have n3 : w2.heap.size ≠ w.heap.size + 1 := by omega
  have n4 : w.heap.size + 1 ≠ w2.heap.size := by omega
  have n5 : w1.heap.size ≠ w.heap.size := by omega
  have n6 : w.heap.size ≠ w1.heap.size := by omega
  have n7 : w1.heap.size ≠ w.heap.size + 1 := by omega
  have n8 : w.heap.size + 1 ≠ w1.heap.size := by omega
  clear h7 h9 hb2 hq2
  go_wp2_with fail
  have hA := hiD (hS1.out.put3 (Nat.le_refl _) b1 p p2 n c n2 c2)
  have hB := hiD (((hS2.out.other (by omega) (Nat.le_refl _) 0 (.bool b1)).other (by omega) (Nat.le_refl _) 1 (.slice p n c)).other (by omega) (Nat.le_refl _) 2 (.slice p2 n2 c2))
  have hQ : Hid (TwoPost a b false w (.returned (.tuple #[.agg #[.bool b1, .slice p n c, .slice p2 n2 c2], .agg #[.bool b2, .slice q m d, .slice q2 m2 d2], .bool false])) ((((((((w2.alloc (.cells #[.bool b2, .slice q m d, .slice q2 m2 d2] 38)).setCell ⟨w.heap.size, 0, none⟩ (.bool b1)).setCell ⟨w.heap.size, 1, none⟩ (.slice p n c)).setCell ⟨w.heap.size, 2, none⟩ (.slice p2 n2 c2)).setCell ⟨w.heap.size + 1, 0, none⟩ (.bool b2)).setCell ⟨w.heap.size + 1, 1, none⟩ (.slice q m d)).setCell ⟨w.heap.size + 1, 2, none⟩ (.slice q2 m2 d2)).drew)) := hiD (by
    refine ⟨_, _, _, _, _, _, _, _, _, _, _, _, _, _, rfl, ((hB.out.put3 (by omega) b2 q q2 m d m2 d2).below).drew, ?_⟩
    exact fun h => by cases h)
  go_region
  go_wp2_with fail
  refine bodyPost_ret (v := .tuple #[.agg #[.bool b1, .slice p n c, .slice p2 n2 c2], .agg #[.bool b2, .slice q m d, .slice q2 m2 d2], .bool false]) ?h1 rfl ?h2
  case h1 => simp [results, Tryz.results77, go_sem, l0, l1, l2, k0, k1, k2]
  exact hQ.out
theorem two_false_true (s t : ByteArray) (a b : Rat) (w : World) (h1 : ∀ W, Hid (Calls Tryz.prog 38 #[.string s] W (FlagPost a false W))) (h2 : ∀ W, Hid (Calls Tryz.prog 38 #[.string t] W (FlagPost b true W))) :
    Calls Tryz.prog 77 #[.string s, .string t] w (TwoPost a b false w) := by
  have hr1 := (Resa.start w).next (below_alloc9 _ (.cells #[.bool false, .slice none 0 0, .slice none 0 0] 38))
  have hr2 : Resa (w.heap.size + 1) w ((w.alloc (.cells #[.bool false, .slice none 0 0, .slice none 0 0] 38)).alloc (.cells #[.bool false, .slice none 0 0, .slice none 0 0] 38)) :=
    ⟨by simp, hr1.below, .bool false, .slice none 0 0, .slice none 0 0, by rw [show w.heap.size + 1 = (w.alloc (.cells #[.bool false, .slice none 0 0, .slice none 0 0] 38)).heap.size from by simp]; exact heap_new _ _, noInt_bool _, noInt_slice _ _ _, noInt_slice _ _ _⟩
  have Hr1 := hiD hr1
  have Hr2 := hiD hr2
  clear hr1 hr2
  go_enter Tryz.func77, Tryz.ntmps77
  go_wp2_with fail
  refine (h1 _).out.mono ?_
  rintro e w1 ⟨b1, p, n, c, p2, n2, c2, rfl, hb1, hq1⟩
  have hR1 := hiD ((Hr1.out.next hb1).next (below_alloc9 w1 (.cells #[.bool b1, .slice p n c, .slice p2 n2 c2] 38)))
  have hR2 := hiD ((Hr2.out.next hb1).next (below_alloc9 w1 (.cells #[.bool b1, .slice p n c, .slice p2 n2 c2] 38)))
  have hQ1 := hiD (fun h => (hq1 h).below (below_alloc9 w1 (.cells #[.bool b1, .slice p n c, .slice p2 n2 c2] 38)))
  have hB7 : Hid ((w1.alloc (.cells #[.bool b1, .slice p n c, .slice p2 n2 c2] 38)).heap[w1.heap.size]? = some (.cells #[.bool b1, .slice p n c, .slice p2 n2 c2] 38 (0, 0))) := hiD (heap_new _ _)
  have hlt1 : Hid (w.heap.size + 1 < w1.heap.size) := hiD (by have := hb1.size; simp at this; omega)
  clear hb1 hq1
  go_wp2_with fail
  refine (h2 _).out.mono ?_
  rintro e w2 ⟨b2, q, m, d, q2, m2, d2, rfl, hb2, hq2⟩
  have hS1 := hiD ((hR1.out.next hb2).next (below_alloc9 w2 (.cells #[.bool b2, .slice q m d, .slice q2 m2 d2] 38)))
  have hS2 := hiD ((hR2.out.next hb2).next (below_alloc9 w2 (.cells #[.bool b2, .slice q m d, .slice q2 m2 d2] 38)))
  have hT1 := hiD (fun h => ((hQ1.out h).below hb2).below (below_alloc9 w2 (.cells #[.bool b2, .slice q m d, .slice q2 m2 d2] 38)))
  have hT2 := hiD (fun h => (hq2 h).below (below_alloc9 w2 (.cells #[.bool b2, .slice q m d, .slice q2 m2 d2] 38)))
  have h7 : (w2.alloc (.cells #[.bool b2, .slice q m d, .slice q2 m2 d2] 38)).heap[w1.heap.size]? = some (.cells #[.bool b1, .slice p n c, .slice p2 n2 c2] 38 (0, 0)) := by
    rw [heap_old _ _ _ (by have := hb2.size; simp at this; omega), hb2.block _ (by simp)]; exact hB7.out
  have h9 : (w2.alloc (.cells #[.bool b2, .slice q m d, .slice q2 m2 d2] 38)).heap[w2.heap.size]? = some (.cells #[.bool b2, .slice q m d, .slice q2 m2 d2] 38 (0, 0)) := heap_new _ _
  have x70 := ceh h7 0
  have x71 := ceh h7 1
  have x72 := ceh h7 2
  obtain ⟨y0, y1, y2, l0, l1, l2, f0, f1, f2⟩ := hS1.out.slots
  obtain ⟨z0, z1, z2, k0, k1, k2, g0, g1, g2⟩ := hS2.out.slots
  have x90 := ceh h9 0
  have x91 := ceh h9 1
  have x92 := ceh h9 2
  have hs1 : w.heap.size + 1 < w1.heap.size := hlt1.out
  have hs2 : w1.heap.size < w2.heap.size := by have := hb2.size; simp at this; omega
  have n1 : w2.heap.size ≠ w.heap.size := by omega
  have n2' : w.heap.size ≠ w2.heap.size := by omega
  have n3 : w2.heap.size ≠ w.heap.size + 1 := by omega
  have n4 : w.heap.size + 1 ≠ w2.heap.size := by omega
  have n5 : w1.heap.size ≠ w.heap.size := by omega
  have n6 : w.heap.size ≠ w1.heap.size := by omega
  have n7 : w1.heap.size ≠ w.heap.size + 1 := by omega
  have n8 : w.heap.size + 1 ≠ w1.heap.size := by omega
  clear h7 h9 hb2 hq2
  go_wp2_with fail
  have hA := hiD (hS1.out.put3 (Nat.le_refl _) b1 p p2 n c n2 c2)
  have hB := hiD (((hS2.out.other (by omega) (Nat.le_refl _) 0 (.bool b1)).other (by omega) (Nat.le_refl _) 1 (.slice p n c)).other (by omega) (Nat.le_refl _) 2 (.slice p2 n2 c2))
  have hQ : Hid (TwoPost a b false w (.returned (.tuple #[.agg #[.bool b1, .slice p n c, .slice p2 n2 c2], .agg #[.bool b2, .slice q m d, .slice q2 m2 d2], .bool false])) ((((((((w2.alloc (.cells #[.bool b2, .slice q m d, .slice q2 m2 d2] 38)).setCell ⟨w.heap.size, 0, none⟩ (.bool b1)).setCell ⟨w.heap.size, 1, none⟩ (.slice p n c)).setCell ⟨w.heap.size, 2, none⟩ (.slice p2 n2 c2)).setCell ⟨w.heap.size + 1, 0, none⟩ (.bool b2)).setCell ⟨w.heap.size + 1, 1, none⟩ (.slice q m d)).setCell ⟨w.heap.size + 1, 2, none⟩ (.slice q2 m2 d2)).drew)) := hiD (by
    refine ⟨_, _, _, _, _, _, _, _, _, _, _, _, _, _, rfl, ((hB.out.put3 (by omega) b2 q q2 m d m2 d2).below).drew, ?_⟩
    exact fun h => by cases h)
  go_region
  go_wp2_with fail
  refine bodyPost_ret (v := .tuple #[.agg #[.bool b1, .slice p n c, .slice p2 n2 c2], .agg #[.bool b2, .slice q m d, .slice q2 m2 d2], .bool false]) ?h1 rfl ?h2
  case h1 => simp [results, Tryz.results77, go_sem, l0, l1, l2, k0, k1, k2]
  exact hQ.out
theorem two_false_false (s t : ByteArray) (a b : Rat) (w : World) (h1 : ∀ W, Hid (Calls Tryz.prog 38 #[.string s] W (FlagPost a false W))) (h2 : ∀ W, Hid (Calls Tryz.prog 38 #[.string t] W (FlagPost b false W))) :
    Calls Tryz.prog 77 #[.string s, .string t] w (TwoPost a b false w) := by
  have hr1 := (Resa.start w).next (below_alloc9 _ (.cells #[.bool false, .slice none 0 0, .slice none 0 0] 38))
  have hr2 : Resa (w.heap.size + 1) w ((w.alloc (.cells #[.bool false, .slice none 0 0, .slice none 0 0] 38)).alloc (.cells #[.bool false, .slice none 0 0, .slice none 0 0] 38)) :=
    ⟨by simp, hr1.below, .bool false, .slice none 0 0, .slice none 0 0, by rw [show w.heap.size + 1 = (w.alloc (.cells #[.bool false, .slice none 0 0, .slice none 0 0] 38)).heap.size from by simp]; exact heap_new _ _, noInt_bool _, noInt_slice _ _ _, noInt_slice _ _ _⟩
  have Hr1 := hiD hr1
  have Hr2 := hiD hr2
  clear hr1 hr2
  go_enter Tryz.func77, Tryz.ntmps77
  go_wp2_with fail
  refine (h1 _).out.mono ?_
  rintro e w1 ⟨b1, p, n, c, p2, n2, c2, rfl, hb1, hq1⟩
  have hR1 := hiD ((Hr1.out.next hb1).next (below_alloc9 w1 (.cells #[.bool b1, .slice p n c, .slice p2 n2 c2] 38)))
  have hR2 := hiD ((Hr2.out.next hb1).next (below_alloc9 w1 (.cells #[.bool b1, .slice p n c, .slice p2 n2 c2] 38)))
  have hQ1 := hiD (fun h => (hq1 h).below (below_alloc9 w1 (.cells #[.bool b1, .slice p n c, .slice p2 n2 c2] 38)))
  have hB7 : Hid ((w1.alloc (.cells #[.bool b1, .slice p n c, .slice p2 n2 c2] 38)).heap[w1.heap.size]? = some (.cells #[.bool b1, .slice p n c, .slice p2 n2 c2] 38 (0, 0))) := hiD (heap_new _ _)
  have hlt1 : Hid (w.heap.size + 1 < w1.heap.size) := hiD (by have := hb1.size; simp at this; omega)
  clear hb1 hq1
  go_wp2_with fail
  refine (h2 _).out.mono ?_
  rintro e w2 ⟨b2, q, m, d, q2, m2, d2, rfl, hb2, hq2⟩
  have hS1 := hiD ((hR1.out.next hb2).next (below_alloc9 w2 (.cells #[.bool b2, .slice q m d, .slice q2 m2 d2] 38)))
  have hS2 := hiD ((hR2.out.next hb2).next (below_alloc9 w2 (.cells #[.bool b2, .slice q m d, .slice q2 m2 d2] 38)))
  have hT1 := hiD (fun h => ((hQ1.out h).below hb2).below (below_alloc9 w2 (.cells #[.bool b2, .slice q m d, .slice q2 m2 d2] 38)))
  have hT2 := hiD (fun h => (hq2 h).below (below_alloc9 w2 (.cells #[.bool b2, .slice q m d, .slice q2 m2 d2] 38)))
  have h7 : (w2.alloc (.cells #[.bool b2, .slice q m d, .slice q2 m2 d2] 38)).heap[w1.heap.size]? = some (.cells #[.bool b1, .slice p n c, .slice p2 n2 c2] 38 (0, 0)) := by
    rw [heap_old _ _ _ (by have := hb2.size; simp at this; omega), hb2.block _ (by simp)]; exact hB7.out
  have h9 : (w2.alloc (.cells #[.bool b2, .slice q m d, .slice q2 m2 d2] 38)).heap[w2.heap.size]? = some (.cells #[.bool b2, .slice q m d, .slice q2 m2 d2] 38 (0, 0)) := heap_new _ _
  have x70 := ceh h7 0
  have x71 := ceh h7 1
  have x72 := ceh h7 2
  obtain ⟨y0, y1, y2, l0, l1, l2, f0, f1, f2⟩ := hS1.out.slots
  obtain ⟨z0, z1, z2, k0, k1, k2, g0, g1, g2⟩ := hS2.out.slots
  have x90 := ceh h9 0
  have x91 := ceh h9 1
  have x92 := ceh h9 2
  have hs1 : w.heap.size + 1 < w1.heap.size := hlt1.out
  have hs2 : w1.heap.size < w2.heap.size := by have := hb2.size; simp at this; omega
  have n1 : w2.heap.size ≠ w.heap.size := by omega
  have n2' : w.heap.size ≠ w2.heap.size := by omega
  have n3 : w2.heap.size ≠ w.heap.size + 1 := by omega
  have n4 : w.heap.size + 1 ≠ w2.heap.size := by omega
  have n5 : w1.heap.size ≠ w.heap.size := by omega
  have n6 : w.heap.size ≠ w1.heap.size := by omega
  have n7 : w1.heap.size ≠ w.heap.size + 1 := by omega
  have n8 : w.heap.size + 1 ≠ w1.heap.size := by omega
  clear h7 h9 hb2 hq2
  go_wp2_with fail
  have hA := hiD (hS1.out.put3 (Nat.le_refl _) b1 p p2 n c n2 c2)
  have hB := hiD (((hS2.out.other (by omega) (Nat.le_refl _) 0 (.bool b1)).other (by omega) (Nat.le_refl _) 1 (.slice p n c)).other (by omega) (Nat.le_refl _) 2 (.slice p2 n2 c2))
  have hQ : Hid (TwoPost a b false w (.returned (.tuple #[.agg #[.bool b1, .slice p n c, .slice p2 n2 c2], .agg #[.bool b2, .slice q m d, .slice q2 m2 d2], .bool false])) ((((((((w2.alloc (.cells #[.bool b2, .slice q m d, .slice q2 m2 d2] 38)).setCell ⟨w.heap.size, 0, none⟩ (.bool b1)).setCell ⟨w.heap.size, 1, none⟩ (.slice p n c)).setCell ⟨w.heap.size, 2, none⟩ (.slice p2 n2 c2)).setCell ⟨w.heap.size + 1, 0, none⟩ (.bool b2)).setCell ⟨w.heap.size + 1, 1, none⟩ (.slice q m d)).setCell ⟨w.heap.size + 1, 2, none⟩ (.slice q2 m2 d2)).drew)) := hiD (by
    refine ⟨_, _, _, _, _, _, _, _, _, _, _, _, _, _, rfl, ((hB.out.put3 (by omega) b2 q q2 m d m2 d2).below).drew, ?_⟩
    exact fun h => by cases h)
  go_region
  go_wp2_with fail
  refine bodyPost_ret (v := .tuple #[.agg #[.bool b1, .slice p n c, .slice p2 n2 c2], .agg #[.bool b2, .slice q m d, .slice q2 m2 d2], .bool false]) ?h1 rfl ?h2
  case h1 => simp [results, Tryz.results77, go_sem, l0, l1, l2, k0, k1, k2]
  exact hQ.out
end Go.Proofs.YtoegbjmoecbjdaaGreatDoor
