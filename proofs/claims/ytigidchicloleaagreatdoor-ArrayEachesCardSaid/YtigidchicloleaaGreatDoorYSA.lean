/- The document's Minus, Cmp, Whole. -/
import Derived.Test.YtigidchicloleaaGreatDoorQA
import Derived.Test.YtigidchicloleaaGreatDoorY05
import Derived.Test.YtigidchicloleaaGreatDoorYRM
set_option maxHeartbeats 3200000
set_option maxRecDepth 100000
namespace Go.Proofs.YtigidchicloleaaGreatDoor
open Go.RowKit Big
theorem plus_any (x y : Value) (a b : Rat) (K L : Nat) (w : World) (hK : K + L + 1 ≤ 900000) (hab : QLt K a) (hbb : QLt L b) (hx : QAt w x a) (hy : QAt w y b) : Calls Tryz.prog 128 #[x, y] w (QPost (a + b) w) := by
  by_cases h : decide (a.num < 0) = decide (b.num < 0)
  · exact plus_same x y a b K L w hK hab hbb hx hy h
  · by_cases h2 : b.num.natAbs * a.den ≤ a.num.natAbs * b.den
    · exact plus_ge9 x y a b K L w hK hab hbb hx hy h h2
    · exact plus_lt9 x y a b K L w hK hab hbb hx hy h (by omega)
theorem QAt.dr {w : World} {v : Value} {x : Rat} (h : QAt w v x) : QAt w.drew v x := h.below (Below.refl _ _).drew
theorem minus_any (x y : Value) (a b : Rat) (K L : Nat) (w : World) (hK : K + L + 1 ≤ 900000) (hab : QLt K a) (hbb : QLt L b) (hx : QAt w x a) (hy : QAt w y b) : Calls Tryz.prog 129 #[x, y] w (QPost (a - b) w) := by
  obtain ⟨sb, hsb⟩ : ∃ sb, Hid (sb = decide ((a - b).num < 0)) := ⟨_, hiD rfl⟩
  obtain ⟨tb, htb⟩ : ∃ tb, Hid (tb = decide ((-b).num < 0)) := ⟨_, hiD rfl⟩
  have hop : Hid (∀ W, Below w.heap.size w W → Calls Tryz.prog 154 #[y] W (QPostB (-b) tb W)) := hiD fun W hW => (opp_any y b W (hy.below hW)).mono fun e w' h => h.b htb.out
  have hpl : Hid (∀ W z, Below w.heap.size w W → QAt W z (-b) → Calls Tryz.prog 128 #[x, z] W (QPostB (a - b) sb W)) := hiD fun W z hW hz => by
    have h := plus_any x z a (-b) K L W hK hab hbb.neg (hx.below hW) hz
    rw [← Rat.sub_eq_add_neg] at h
    exact h.mono fun e w' h => h.b hsb.out
  obtain ⟨u1, v1, rfl, hu1, hv1⟩ := hx
  obtain ⟨u2, v2, rfl, hu2, hv2⟩ := hy
  obtain ⟨s, hs⟩ : ∃ s, Hid (s = decide (a.num < 0)) := ⟨_, hiD rfl⟩
  obtain ⟨t, ht⟩ : ∃ t, Hid (t = decide (b.num < 0)) := ⟨_, hiD rfl⟩
  rw [← hs.out] at hpl ⊢
  rw [← ht.out] at hop ⊢
  have htwo := Twa.start w s u1 v1 t u2 v2
  have Htwo := hiD htwo
  obtain ⟨-, c0, c1, c2, c3, c4, c5⟩ := htwo.all
  clear htwo hv1 hv2 hab hbb hu1 hu2
  go_enter Tryz.func129, Tryz.ntmps129
  go_wp2_with fail
  go_region_held3 (fun w' => Twa w.heap.size s u1 v1 t u2 v2 w w' ∧ w'.cell? ⟨w.heap.size, 0, none⟩ = some (.bool s) ∧ w'.cell? ⟨w.heap.size, 1, none⟩ = some u1 ∧ w'.cell? ⟨w.heap.size, 2, none⟩ = some v1 ∧ w'.cell? ⟨w.heap.size + 1, 0, none⟩ = some (.bool t) ∧ w'.cell? ⟨w.heap.size + 1, 1, none⟩ = some u2 ∧ w'.cell? ⟨w.heap.size + 1, 2, none⟩ = some v2)
    (first | exact Twa.all (Twa.drew Htwo.out) | exact Twa.all Htwo.out | (go_split_ands; exact Twa.all (Twa.next (by assumption) hb1)) | (go_split_ands; exact Twa.all (Twa.next (by assumption) hb2)) | (go_split_ands; exact Twa.all (Twa.put3 (by assumption) (Nat.le_refl _) _ _ _ _ _ _ _)) | go_keep)
    (first | (go_at_call 154; go_split_ands; refine (hop.out _ (Twa.below (by assumption))).mono ?_; rintro e w1 ⟨p1, n1, c1, p2, n2, c2, rfl, ho1, ho2, hb1⟩) | (go_at_call 128; go_split_ands; refine (hpl.out _ _ (Twa.below (by assumption)) ⟨_, _, by rw [htb.out], ho1, ho2⟩).mono ?_; rintro e w2 ⟨pr, nr, cr, pq, nq, cq, rfl, hr1, hr2, hb2⟩; have htw := Twa.next (by assumption) hb2; obtain ⟨z0, z1, z2, k0, k1, k2, f0, f1, f2⟩ := Twa.slots htw))
  go_wp2_with fail
  have hfin := hiD (htw.fin (Nat.le_refl _) hsb.out hr1 hr2)
  refine bodyPost_ret (v := .agg #[.bool sb, .slice pr nr cr, .slice pq nq cq]) (by simp [results, Tryz.results129, go_sem, k0, k1, k2]) rfl ?_
  exact hfin.out
theorem cmp_any (x y : Value) (a b : Rat) (K L : Nat) (w : World) (hK : K + L + 1 ≤ 900000) (hab : QLt K a) (hbb : QLt L b) (hx : QAt w x a) (hy : QAt w y b) : Calls Tryz.prog 133 #[x, y] w fun e w' => e = .returned (.int .i64 (sgnQ (a - b))) ∧ Below w.heap.size w w' := by
  have hmi : Hid (∀ W, Below w.heap.size w W → Calls Tryz.prog 129 #[x, y] W (QPost (a - b) W)) := hiD fun W hW => minus_any x y a b K L W hK hab hbb (hx.below hW) (hy.below hW)
  have hsg : Hid (∀ W z, QAt W z (a - b) → Calls Tryz.prog 131 #[z] W fun e w' => e = .returned (.int .i64 (sgnQ (a - b))) ∧ Below W.heap.size W w') := hiD fun W z hz => sgn_any z _ W hz
  have hW : ∀ o1 o2, Hid (Below w.heap.size w ((w.alloc o1).alloc o2)) := fun o1 o2 => hiD ((below_alloc9 w o1).trans ((below_alloc9 _ o2).mono (below_alloc9 w o1).size))
  obtain ⟨p, n, c, p2, n2, c2, rfl, -, -⟩ := hx.slices
  obtain ⟨q, m, d, q2, m2, d2, rfl, -, -⟩ := hy.slices
  clear hx hy hab hbb
  obtain ⟨s, hs⟩ : ∃ s, Hid (s = decide (a.num < 0)) := ⟨_, hiD rfl⟩
  obtain ⟨t, ht⟩ : ∃ t, Hid (t = decide (b.num < 0)) := ⟨_, hiD rfl⟩
  rw [← hs.out, ← ht.out] at hmi ⊢
  go_enter Tryz.func133, Tryz.ntmps133
  go_wp2_with fail
  refine (hmi.out _ (hW _ _).out).mono ?_
  rintro e w1 ⟨z, rfl, hz, hb1⟩
  have hs1 := hiD (hsg.out w1 z hz)
  obtain ⟨p3, n3, c3, p4, n4, c4, rfl, -, -⟩ := hz.slices
  have Hb1 := hiD ((hW _ _).out.trans (hb1.mono (hW _ _).out.size))
  clear hz hb1
  obtain ⟨sz, hsz⟩ : ∃ sz, Hid (sz = decide ((a - b).num < 0)) := ⟨_, hiD rfl⟩
  rw [← hsz.out] at hs1 ⊢
  go_wp2_with fail
  refine hs1.out.mono ?_
  rintro e w2 ⟨rfl, hb2⟩
  have Hb2 := hiD (Hb1.out.trans (hb2.mono Hb1.out.size))
  clear hb2
  go_wp2_with fail
  go_ret
  exact ⟨rfl, Hb2.out⟩
end Go.Proofs.YtigidchicloleaaGreatDoor
set_option maxHeartbeats 3200000
set_option maxRecDepth 100000
namespace Go.Proofs.YtigidchicloleaaGreatDoor
open Go.RowKit Big
open Go.Lib
theorem put_any (x : Value) (q : Rat) (K : Nat) (w : World) (hK : K ≤ 900000) (hq : QLt K q) (hx : QAt w x q) : Calls Tryz.prog 127 #[x] w fun e w' => e = .returned (.string ⟨(txt q).toArray⟩) ∧ Below w.heap.size w w' := by
  have htx := hiD (fun W (hW : Below w.heap.size w W) => text_q x q K W hK hq (hx.below hW))
  obtain ⟨p, n, c, p2, n2, c2, rfl, -, -⟩ := hx.slices
  obtain ⟨s, hs⟩ : ∃ s, Hid (s = decide (q.num < 0)) := ⟨_, hiD rfl⟩
  rw [← hs.out] at htx ⊢
  obtain ⟨y, hy⟩ : ∃ y : ByteArray, Hid (y = ⟨(txt q).toArray⟩) := ⟨_, hiD rfl⟩
  obtain ⟨f, hf⟩ : ∃ f, Hid (f = !(txt q).isEmpty) := ⟨_, hiD rfl⟩
  unfold TextPost9 at htx
  rw [← hy.out, ← hf.out] at htx
  rw [← hy.out]
  clear hx hq
  go_enter Tryz.func127, Tryz.ntmps127
  go_wp2_with fail
  refine (htx.out _ (below_alloc9 _ _)).mono ?_
  rintro e w1 ⟨rfl, hb1⟩
  have Hb1 := hiD ((below_alloc9 w _).trans (hb1.mono (below_alloc9 w _).size))
  clear hb1
  go_wp2_with fail
  go_ret
  exact ⟨rfl, Hb1.out⟩
end Go.Proofs.YtigidchicloleaaGreatDoor
set_option maxHeartbeats 3200000
set_option maxRecDepth 100000
namespace Go.Proofs.YtigidchicloleaaGreatDoor
open Go.RowKit Big
open Go.Lib
theorem Resa.other {B g : Nat} {w0 W : World} (h : Resa B w0 W) (hg : g ≠ B) (h0 : w0.heap.size ≤ g) (k : Nat) (v : Value) : Resa B w0 (W.setCell ⟨g, k, none⟩ v) := by
  refine ⟨by rw [World.size_setCell]; exact h.size, h.below.setCell h0 _, ?_⟩
  obtain ⟨z0, z1, z2, hz, hn⟩ := h.z
  exact ⟨z0, z1, z2, (Below.heap_setCell _ _ _ _ (fun e => hg e.symm)).trans hz, hn⟩
def TwoPost (a b : Rat) (f : Bool) (w : World) (e : Ending) (w' : World) : Prop := ∃ b1 p n c p2 n2 c2 b2 q m d q2 m2 d2, e = .returned (.tuple #[.agg #[.bool b1, .slice p n c, .slice p2 n2 c2], .agg #[.bool b2, .slice q m d, .slice q2 m2 d2], .bool f]) ∧ Below w.heap.size w w' ∧
  (f = true → QAt w' (.agg #[.bool b1, .slice p n c, .slice p2 n2 c2]) a ∧ QAt w' (.agg #[.bool b2, .slice q m d, .slice q2 m2 d2]) b)
theorem two_true_true (s t : ByteArray) (a b : Rat) (w : World) (h1 : ∀ W, Hid (Calls Tryz.prog 117 #[.string s] W (FlagPost a true W))) (h2 : ∀ W, Hid (Calls Tryz.prog 117 #[.string t] W (FlagPost b true W))) :
    Calls Tryz.prog 126 #[.string s, .string t] w (TwoPost a b true w) := by
  have hr1 := (Resa.start w).next (below_alloc9 _ (.cells #[.bool false, .slice none 0 0, .slice none 0 0] 112))
  have hr2 : Resa (w.heap.size + 1) w ((w.alloc (.cells #[.bool false, .slice none 0 0, .slice none 0 0] 112)).alloc (.cells #[.bool false, .slice none 0 0, .slice none 0 0] 112)) :=
    ⟨by simp, hr1.below, .bool false, .slice none 0 0, .slice none 0 0, by rw [show w.heap.size + 1 = (w.alloc (.cells #[.bool false, .slice none 0 0, .slice none 0 0] 112)).heap.size from by simp]; exact heap_new _ _, noInt_bool _, noInt_slice _ _ _, noInt_slice _ _ _⟩
  have Hr1 := hiD hr1
  have Hr2 := hiD hr2
  clear hr1 hr2
  go_enter Tryz.func126, Tryz.ntmps126
  go_wp2_with fail
  refine (h1 _).out.mono ?_
  rintro e w1 ⟨b1, p, n, c, p2, n2, c2, rfl, hb1, hq1⟩
  have hR1 := hiD ((Hr1.out.next hb1).next (below_alloc9 w1 (.cells #[.bool b1, .slice p n c, .slice p2 n2 c2] 112)))
  have hR2 := hiD ((Hr2.out.next hb1).next (below_alloc9 w1 (.cells #[.bool b1, .slice p n c, .slice p2 n2 c2] 112)))
  have hQ1 := hiD (fun h => (hq1 h).below (below_alloc9 w1 (.cells #[.bool b1, .slice p n c, .slice p2 n2 c2] 112)))
  have hB7 : Hid ((w1.alloc (.cells #[.bool b1, .slice p n c, .slice p2 n2 c2] 112)).heap[w1.heap.size]? = some (.cells #[.bool b1, .slice p n c, .slice p2 n2 c2] 112 (0, 0))) := hiD (heap_new _ _)
  have hlt1 : Hid (w.heap.size + 1 < w1.heap.size) := hiD (by have := hb1.size; simp at this; omega)
  clear hb1 hq1
  go_wp2_with fail
  refine (h2 _).out.mono ?_
  rintro e w2 ⟨b2, q, m, d, q2, m2, d2, rfl, hb2, hq2⟩
  have hS1 := hiD ((hR1.out.next hb2).next (below_alloc9 w2 (.cells #[.bool b2, .slice q m d, .slice q2 m2 d2] 112)))
  have hS2 := hiD ((hR2.out.next hb2).next (below_alloc9 w2 (.cells #[.bool b2, .slice q m d, .slice q2 m2 d2] 112)))
  have hT1 := hiD (fun h => ((hQ1.out h).below hb2).below (below_alloc9 w2 (.cells #[.bool b2, .slice q m d, .slice q2 m2 d2] 112)))
  have hT2 := hiD (fun h => (hq2 h).below (below_alloc9 w2 (.cells #[.bool b2, .slice q m d, .slice q2 m2 d2] 112)))
  have h7 : (w2.alloc (.cells #[.bool b2, .slice q m d, .slice q2 m2 d2] 112)).heap[w1.heap.size]? = some (.cells #[.bool b1, .slice p n c, .slice p2 n2 c2] 112 (0, 0)) := by
    rw [heap_old _ _ _ (by have := hb2.size; simp at this; omega), hb2.block _ (by simp)]; exact hB7.out
  have h9 : (w2.alloc (.cells #[.bool b2, .slice q m d, .slice q2 m2 d2] 112)).heap[w2.heap.size]? = some (.cells #[.bool b2, .slice q m d, .slice q2 m2 d2] 112 (0, 0)) := heap_new _ _
  have x70 := ceh h7 0
  have x71 := ceh h7 1
  have x72 := ceh h7 2
  obtain ⟨y0, y1, y2, l0, l1, l2, f0, f1, f2⟩ := hS1.out.slots
  obtain ⟨z0, z1, z2, k0, k1, k2, g0, g1, g2⟩ := hS2.out.slots
  have x90 := ceh h9 0
  have x91 := ceh h9 1
  have x92 := ceh h9 2
  have hs1 : w.heap.size + 1 < w1.heap.size := hlt1.out
  have hs2 : w1.heap.size < w2.heap.size := by have := hb2.size; simp at this; omega
  have n1 : w2.heap.size ≠ w.heap.size := by omega
  have n2' : w.heap.size ≠ w2.heap.size := by omega
  have n3 : w2.heap.size ≠ w.heap.size + 1 := by omega
  have n4 : w.heap.size + 1 ≠ w2.heap.size := by omega
  have n5 : w1.heap.size ≠ w.heap.size := by omega
  have n6 : w.heap.size ≠ w1.heap.size := by omega
  have n7 : w1.heap.size ≠ w.heap.size + 1 := by omega
  have n8 : w.heap.size + 1 ≠ w1.heap.size := by omega
  clear h7 h9 hb2 hq2
  go_wp2_with fail
  have hA := hiD (hS1.out.put3 (Nat.le_refl _) b1 p p2 n c n2 c2)
  have hB := hiD (((hS2.out.other (by omega) (Nat.le_refl _) 0 (.bool b1)).other (by omega) (Nat.le_refl _) 1 (.slice p n c)).other (by omega) (Nat.le_refl _) 2 (.slice p2 n2 c2))
  have hQ : Hid (TwoPost a b true w (.returned (.tuple #[.agg #[.bool b1, .slice p n c, .slice p2 n2 c2], .agg #[.bool b2, .slice q m d, .slice q2 m2 d2], .bool true])) ((((((((w2.alloc (.cells #[.bool b2, .slice q m d, .slice q2 m2 d2] 112)).setCell ⟨w.heap.size, 0, none⟩ (.bool b1)).setCell ⟨w.heap.size, 1, none⟩ (.slice p n c)).setCell ⟨w.heap.size, 2, none⟩ (.slice p2 n2 c2)).setCell ⟨w.heap.size + 1, 0, none⟩ (.bool b2)).setCell ⟨w.heap.size + 1, 1, none⟩ (.slice q m d)).setCell ⟨w.heap.size + 1, 2, none⟩ (.slice q2 m2 d2)).drew)) := hiD (by
    refine ⟨_, _, _, _, _, _, _, _, _, _, _, _, _, _, rfl, ((hB.out.put3 (by omega) b2 q q2 m d m2 d2).below).drew, ?_⟩
    exact fun _ => ⟨((hT1.out (by trivial)).put3 hS1.out (Nat.le_refl _) b1 p p2 n c n2 c2).put3 hB.out (by omega) b2 q q2 m d m2 d2 |>.below (Below.refl _ _).drew, ((hT2.out (by trivial)).put3 hS1.out (Nat.le_refl _) b1 p p2 n c n2 c2).put3 hB.out (by omega) b2 q q2 m d m2 d2 |>.below (Below.refl _ _).drew⟩)
  go_region
  go_wp2_with fail
  refine bodyPost_ret (v := .tuple #[.agg #[.bool b1, .slice p n c, .slice p2 n2 c2], .agg #[.bool b2, .slice q m d, .slice q2 m2 d2], .bool true]) ?h1 rfl ?h2
  case h1 => simp [results, Tryz.results126, go_sem, l0, l1, l2, k0, k1, k2]
  exact hQ.out
theorem two_true_false (s t : ByteArray) (a b : Rat) (w : World) (h1 : ∀ W, Hid (Calls Tryz.prog 117 #[.string s] W (FlagPost a true W))) (h2 : ∀ W, Hid (Calls Tryz.prog 117 #[.string t] W (FlagPost b false W))) :
    Calls Tryz.prog 126 #[.string s, .string t] w (TwoPost a b false w) := by
  have hr1 := (Resa.start w).next (below_alloc9 _ (.cells #[.bool false, .slice none 0 0, .slice none 0 0] 112))
  have hr2 : Resa (w.heap.size + 1) w ((w.alloc (.cells #[.bool false, .slice none 0 0, .slice none 0 0] 112)).alloc (.cells #[.bool false, .slice none 0 0, .slice none 0 0] 112)) :=
    ⟨by simp, hr1.below, .bool false, .slice none 0 0, .slice none 0 0, by rw [show w.heap.size + 1 = (w.alloc (.cells #[.bool false, .slice none 0 0, .slice none 0 0] 112)).heap.size from by simp]; exact heap_new _ _, noInt_bool _, noInt_slice _ _ _, noInt_slice _ _ _⟩
  have Hr1 := hiD hr1
  have Hr2 := hiD hr2
  clear hr1 hr2
  go_enter Tryz.func126, Tryz.ntmps126
  go_wp2_with fail
  refine (h1 _).out.mono ?_
  rintro e w1 ⟨b1, p, n, c, p2, n2, c2, rfl, hb1, hq1⟩
  have hR1 := hiD ((Hr1.out.next hb1).next (below_alloc9 w1 (.cells #[.bool b1, .slice p n c, .slice p2 n2 c2] 112)))
  have hR2 := hiD ((Hr2.out.next hb1).next (below_alloc9 w1 (.cells #[.bool b1, .slice p n c, .slice p2 n2 c2] 112)))
  have hQ1 := hiD (fun h => (hq1 h).below (below_alloc9 w1 (.cells #[.bool b1, .slice p n c, .slice p2 n2 c2] 112)))
  have hB7 : Hid ((w1.alloc (.cells #[.bool b1, .slice p n c, .slice p2 n2 c2] 112)).heap[w1.heap.size]? = some (.cells #[.bool b1, .slice p n c, .slice p2 n2 c2] 112 (0, 0))) := hiD (heap_new _ _)
  have hlt1 : Hid (w.heap.size + 1 < w1.heap.size) := hiD (by have := hb1.size; simp at this; omega)
  clear hb1 hq1
  go_wp2_with fail
  refine (h2 _).out.mono ?_
  rintro e w2 ⟨b2, q, m, d, q2, m2, d2, rfl, hb2, hq2⟩
  have hS1 := hiD ((hR1.out.next hb2).next (below_alloc9 w2 (.cells #[.bool b2, .slice q m d, .slice q2 m2 d2] 112)))
  have hS2 := hiD ((hR2.out.next hb2).next (below_alloc9 w2 (.cells #[.bool b2, .slice q m d, .slice q2 m2 d2] 112)))
  have hT1 := hiD (fun h => ((hQ1.out h).below hb2).below (below_alloc9 w2 (.cells #[.bool b2, .slice q m d, .slice q2 m2 d2] 112)))
  have hT2 := hiD (fun h => (hq2 h).below (below_alloc9 w2 (.cells #[.bool b2, .slice q m d, .slice q2 m2 d2] 112)))
  have h7 : (w2.alloc (.cells #[.bool b2, .slice q m d, .slice q2 m2 d2] 112)).heap[w1.heap.size]? = some (.cells #[.bool b1, .slice p n c, .slice p2 n2 c2] 112 (0, 0)) := by
    rw [heap_old _ _ _ (by have := hb2.size; simp at this; omega), hb2.block _ (by simp)]; exact hB7.out
  have h9 : (w2.alloc (.cells #[.bool b2, .slice q m d, .slice q2 m2 d2] 112)).heap[w2.heap.size]? = some (.cells #[.bool b2, .slice q m d, .slice q2 m2 d2] 112 (0, 0)) := heap_new _ _
  have x70 := ceh h7 0
  have x71 := ceh h7 1
  have x72 := ceh h7 2
  obtain ⟨y0, y1, y2, l0, l1, l2, f0, f1, f2⟩ := hS1.out.slots
  obtain ⟨z0, z1, z2, k0, k1, k2, g0, g1, g2⟩ := hS2.out.slots
  have x90 := ceh h9 0
  have x91 := ceh h9 1
  have x92 := ceh h9 2
  have hs1 : w.heap.size + 1 < w1.heap.size := hlt1.out
  have hs2 : w1.heap.size < w2.heap.size := by have := hb2.size; simp at this; omega
  have n1 : w2.heap.size ≠ w.heap.size := by omega
  have n2' : w.heap.size ≠ w2.heap.size := by omega
  have n3 : w2.heap.size ≠ w.heap.size + 1 := by omega
  have n4 : w.heap.size + 1 ≠ w2.heap.size := by omega
  have n5 : w1.heap.size ≠ w.heap.size := by omega
  have n6 : w.heap.size ≠ w1.heap.size := by omega
  have n7 : w1.heap.size ≠ w.heap.size + 1 := by omega
  have n8 : w.heap.size + 1 ≠ w1.heap.size := by omega
  clear h7 h9 hb2 hq2
  go_wp2_with fail
  have hA := hiD (hS1.out.put3 (Nat.le_refl _) b1 p p2 n c n2 c2)
  have hB := hiD (((hS2.out.other (by omega) (Nat.le_refl _) 0 (.bool b1)).other (by omega) (Nat.le_refl _) 1 (.slice p n c)).other (by omega) (Nat.le_refl _) 2 (.slice p2 n2 c2))
  have hQ : Hid (TwoPost a b false w (.returned (.tuple #[.agg #[.bool b1, .slice p n c, .slice p2 n2 c2], .agg #[.bool b2, .slice q m d, .slice q2 m2 d2], .bool false])) ((((((((w2.alloc (.cells #[.bool b2, .slice q m d, .slice q2 m2 d2] 112)).setCell ⟨w.heap.size, 0, none⟩ (.bool b1)).setCell ⟨w.heap.size, 1, none⟩ (.slice p n c)).setCell ⟨w.heap.size, 2, none⟩ (.slice p2 n2 c2)).setCell ⟨w.heap.size + 1, 0, none⟩ (.bool b2)).setCell ⟨w.heap.size + 1, 1, none⟩ (.slice q m d)).setCell ⟨w.heap.size + 1, 2, none⟩ (.slice q2 m2 d2)).drew)) := hiD (by
    refine ⟨_, _, _, _, _, _, _, _, _, _, _, _, _, _, rfl, ((hB.out.put3 (by omega) b2 q q2 m d m2 d2).below).drew, ?_⟩
    exact fun h => by cases h)
  go_region
  go_wp2_with fail
  refine bodyPost_ret (v := .tuple #[.agg #[.bool b1, .slice p n c, .slice p2 n2 c2], .agg #[.bool b2, .slice q m d, .slice q2 m2 d2], .bool false]) ?h1 rfl ?h2
  case h1 => simp [results, Tryz.results126, go_sem, l0, l1, l2, k0, k1, k2]
  exact hQ.out
theorem two_false_true (s t : ByteArray) (a b : Rat) (w : World) (h1 : ∀ W, Hid (Calls Tryz.prog 117 #[.string s] W (FlagPost a false W))) (h2 : ∀ W, Hid (Calls Tryz.prog 117 #[.string t] W (FlagPost b true W))) :
    Calls Tryz.prog 126 #[.string s, .string t] w (TwoPost a b false w) := by
  have hr1 := (Resa.start w).next (below_alloc9 _ (.cells #[.bool false, .slice none 0 0, .slice none 0 0] 112))
  have hr2 : Resa (w.heap.size + 1) w ((w.alloc (.cells #[.bool false, .slice none 0 0, .slice none 0 0] 112)).alloc (.cells #[.bool false, .slice none 0 0, .slice none 0 0] 112)) :=
    ⟨by simp, hr1.below, .bool false, .slice none 0 0, .slice none 0 0, by rw [show w.heap.size + 1 = (w.alloc (.cells #[.bool false, .slice none 0 0, .slice none 0 0] 112)).heap.size from by simp]; exact heap_new _ _, noInt_bool _, noInt_slice _ _ _, noInt_slice _ _ _⟩
  have Hr1 := hiD hr1
  have Hr2 := hiD hr2
  clear hr1 hr2
  go_enter Tryz.func126, Tryz.ntmps126
  go_wp2_with fail
  refine (h1 _).out.mono ?_
  rintro e w1 ⟨b1, p, n, c, p2, n2, c2, rfl, hb1, hq1⟩
  have hR1 := hiD ((Hr1.out.next hb1).next (below_alloc9 w1 (.cells #[.bool b1, .slice p n c, .slice p2 n2 c2] 112)))
  have hR2 := hiD ((Hr2.out.next hb1).next (below_alloc9 w1 (.cells #[.bool b1, .slice p n c, .slice p2 n2 c2] 112)))
  have hQ1 := hiD (fun h => (hq1 h).below (below_alloc9 w1 (.cells #[.bool b1, .slice p n c, .slice p2 n2 c2] 112)))
  have hB7 : Hid ((w1.alloc (.cells #[.bool b1, .slice p n c, .slice p2 n2 c2] 112)).heap[w1.heap.size]? = some (.cells #[.bool b1, .slice p n c, .slice p2 n2 c2] 112 (0, 0))) := hiD (heap_new _ _)
  have hlt1 : Hid (w.heap.size + 1 < w1.heap.size) := hiD (by have := hb1.size; simp at this; omega)
  clear hb1 hq1
  go_wp2_with fail
  refine (h2 _).out.mono ?_
  rintro e w2 ⟨b2, q, m, d, q2, m2, d2, rfl, hb2, hq2⟩
  have hS1 := hiD ((hR1.out.next hb2).next (below_alloc9 w2 (.cells #[.bool b2, .slice q m d, .slice q2 m2 d2] 112)))
  have hS2 := hiD ((hR2.out.next hb2).next (below_alloc9 w2 (.cells #[.bool b2, .slice q m d, .slice q2 m2 d2] 112)))
  have hT1 := hiD (fun h => ((hQ1.out h).below hb2).below (below_alloc9 w2 (.cells #[.bool b2, .slice q m d, .slice q2 m2 d2] 112)))
  have hT2 := hiD (fun h => (hq2 h).below (below_alloc9 w2 (.cells #[.bool b2, .slice q m d, .slice q2 m2 d2] 112)))
  have h7 : (w2.alloc (.cells #[.bool b2, .slice q m d, .slice q2 m2 d2] 112)).heap[w1.heap.size]? = some (.cells #[.bool b1, .slice p n c, .slice p2 n2 c2] 112 (0, 0)) := by
    rw [heap_old _ _ _ (by have := hb2.size; simp at this; omega), hb2.block _ (by simp)]; exact hB7.out
  have h9 : (w2.alloc (.cells #[.bool b2, .slice q m d, .slice q2 m2 d2] 112)).heap[w2.heap.size]? = some (.cells #[.bool b2, .slice q m d, .slice q2 m2 d2] 112 (0, 0)) := heap_new _ _
  have x70 := ceh h7 0
  have x71 := ceh h7 1
  have x72 := ceh h7 2
  obtain ⟨y0, y1, y2, l0, l1, l2, f0, f1, f2⟩ := hS1.out.slots
  obtain ⟨z0, z1, z2, k0, k1, k2, g0, g1, g2⟩ := hS2.out.slots
  have x90 := ceh h9 0
  have x91 := ceh h9 1
  have x92 := ceh h9 2
  have hs1 : w.heap.size + 1 < w1.heap.size := hlt1.out
  have hs2 : w1.heap.size < w2.heap.size := by have := hb2.size; simp at this; omega
  have n1 : w2.heap.size ≠ w.heap.size := by omega
  have n2' : w.heap.size ≠ w2.heap.size := by omega
  have n3 : w2.heap.size ≠ w.heap.size + 1 := by omega
  have n4 : w.heap.size + 1 ≠ w2.heap.size := by omega
  have n5 : w1.heap.size ≠ w.heap.size := by omega
  have n6 : w.heap.size ≠ w1.heap.size := by omega
  have n7 : w1.heap.size ≠ w.heap.size + 1 := by omega
  have n8 : w.heap.size + 1 ≠ w1.heap.size := by omega
  clear h7 h9 hb2 hq2
  go_wp2_with fail
  have hA := hiD (hS1.out.put3 (Nat.le_refl _) b1 p p2 n c n2 c2)
  have hB := hiD (((hS2.out.other (by omega) (Nat.le_refl _) 0 (.bool b1)).other (by omega) (Nat.le_refl _) 1 (.slice p n c)).other (by omega) (Nat.le_refl _) 2 (.slice p2 n2 c2))
  have hQ : Hid (TwoPost a b false w (.returned (.tuple #[.agg #[.bool b1, .slice p n c, .slice p2 n2 c2], .agg #[.bool b2, .slice q m d, .slice q2 m2 d2], .bool false])) ((((((((w2.alloc (.cells #[.bool b2, .slice q m d, .slice q2 m2 d2] 112)).setCell ⟨w.heap.size, 0, none⟩ (.bool b1)).setCell ⟨w.heap.size, 1, none⟩ (.slice p n c)).setCell ⟨w.heap.size, 2, none⟩ (.slice p2 n2 c2)).setCell ⟨w.heap.size + 1, 0, none⟩ (.bool b2)).setCell ⟨w.heap.size + 1, 1, none⟩ (.slice q m d)).setCell ⟨w.heap.size + 1, 2, none⟩ (.slice q2 m2 d2)).drew)) := hiD (by
    refine ⟨_, _, _, _, _, _, _, _, _, _, _, _, _, _, rfl, ((hB.out.put3 (by omega) b2 q q2 m d m2 d2).below).drew, ?_⟩
    exact fun h => by cases h)
  go_region
  go_wp2_with fail
  refine bodyPost_ret (v := .tuple #[.agg #[.bool b1, .slice p n c, .slice p2 n2 c2], .agg #[.bool b2, .slice q m d, .slice q2 m2 d2], .bool false]) ?h1 rfl ?h2
  case h1 => simp [results, Tryz.results126, go_sem, l0, l1, l2, k0, k1, k2]
  exact hQ.out
theorem two_false_false (s t : ByteArray) (a b : Rat) (w : World) (h1 : ∀ W, Hid (Calls Tryz.prog 117 #[.string s] W (FlagPost a false W))) (h2 : ∀ W, Hid (Calls Tryz.prog 117 #[.string t] W (FlagPost b false W))) :
    Calls Tryz.prog 126 #[.string s, .string t] w (TwoPost a b false w) := by
  have hr1 := (Resa.start w).next (below_alloc9 _ (.cells #[.bool false, .slice none 0 0, .slice none 0 0] 112))
  have hr2 : Resa (w.heap.size + 1) w ((w.alloc (.cells #[.bool false, .slice none 0 0, .slice none 0 0] 112)).alloc (.cells #[.bool false, .slice none 0 0, .slice none 0 0] 112)) :=
    ⟨by simp, hr1.below, .bool false, .slice none 0 0, .slice none 0 0, by rw [show w.heap.size + 1 = (w.alloc (.cells #[.bool false, .slice none 0 0, .slice none 0 0] 112)).heap.size from by simp]; exact heap_new _ _, noInt_bool _, noInt_slice _ _ _, noInt_slice _ _ _⟩
  have Hr1 := hiD hr1
  have Hr2 := hiD hr2
  clear hr1 hr2
  go_enter Tryz.func126, Tryz.ntmps126
  go_wp2_with fail
  refine (h1 _).out.mono ?_
  rintro e w1 ⟨b1, p, n, c, p2, n2, c2, rfl, hb1, hq1⟩
  have hR1 := hiD ((Hr1.out.next hb1).next (below_alloc9 w1 (.cells #[.bool b1, .slice p n c, .slice p2 n2 c2] 112)))
  have hR2 := hiD ((Hr2.out.next hb1).next (below_alloc9 w1 (.cells #[.bool b1, .slice p n c, .slice p2 n2 c2] 112)))
  have hQ1 := hiD (fun h => (hq1 h).below (below_alloc9 w1 (.cells #[.bool b1, .slice p n c, .slice p2 n2 c2] 112)))
  have hB7 : Hid ((w1.alloc (.cells #[.bool b1, .slice p n c, .slice p2 n2 c2] 112)).heap[w1.heap.size]? = some (.cells #[.bool b1, .slice p n c, .slice p2 n2 c2] 112 (0, 0))) := hiD (heap_new _ _)
  have hlt1 : Hid (w.heap.size + 1 < w1.heap.size) := hiD (by have := hb1.size; simp at this; omega)
  clear hb1 hq1
  go_wp2_with fail
  refine (h2 _).out.mono ?_
  rintro e w2 ⟨b2, q, m, d, q2, m2, d2, rfl, hb2, hq2⟩
  have hS1 := hiD ((hR1.out.next hb2).next (below_alloc9 w2 (.cells #[.bool b2, .slice q m d, .slice q2 m2 d2] 112)))
  have hS2 := hiD ((hR2.out.next hb2).next (below_alloc9 w2 (.cells #[.bool b2, .slice q m d, .slice q2 m2 d2] 112)))
  have hT1 := hiD (fun h => ((hQ1.out h).below hb2).below (below_alloc9 w2 (.cells #[.bool b2, .slice q m d, .slice q2 m2 d2] 112)))
  have hT2 := hiD (fun h => (hq2 h).below (below_alloc9 w2 (.cells #[.bool b2, .slice q m d, .slice q2 m2 d2] 112)))
  have h7 : (w2.alloc (.cells #[.bool b2, .slice q m d, .slice q2 m2 d2] 112)).heap[w1.heap.size]? = some (.cells #[.bool b1, .slice p n c, .slice p2 n2 c2] 112 (0, 0)) := by
    rw [heap_old _ _ _ (by have := hb2.size; simp at this; omega), hb2.block _ (by simp)]; exact hB7.out
  have h9 : (w2.alloc (.cells #[.bool b2, .slice q m d, .slice q2 m2 d2] 112)).heap[w2.heap.size]? = some (.cells #[.bool b2, .slice q m d, .slice q2 m2 d2] 112 (0, 0)) := heap_new _ _
  have x70 := ceh h7 0
  have x71 := ceh h7 1
  have x72 := ceh h7 2
  obtain ⟨y0, y1, y2, l0, l1, l2, f0, f1, f2⟩ := hS1.out.slots
  obtain ⟨z0, z1, z2, k0, k1, k2, g0, g1, g2⟩ := hS2.out.slots
  have x90 := ceh h9 0
  have x91 := ceh h9 1
  have x92 := ceh h9 2
  have hs1 : w.heap.size + 1 < w1.heap.size := hlt1.out
  have hs2 : w1.heap.size < w2.heap.size := by have := hb2.size; simp at this; omega
  have n1 : w2.heap.size ≠ w.heap.size := by omega
  have n2' : w.heap.size ≠ w2.heap.size := by omega
  have n3 : w2.heap.size ≠ w.heap.size + 1 := by omega
  have n4 : w.heap.size + 1 ≠ w2.heap.size := by omega
  have n5 : w1.heap.size ≠ w.heap.size := by omega
  have n6 : w.heap.size ≠ w1.heap.size := by omega
  have n7 : w1.heap.size ≠ w.heap.size + 1 := by omega
  have n8 : w.heap.size + 1 ≠ w1.heap.size := by omega
  clear h7 h9 hb2 hq2
  go_wp2_with fail
  have hA := hiD (hS1.out.put3 (Nat.le_refl _) b1 p p2 n c n2 c2)
  have hB := hiD (((hS2.out.other (by omega) (Nat.le_refl _) 0 (.bool b1)).other (by omega) (Nat.le_refl _) 1 (.slice p n c)).other (by omega) (Nat.le_refl _) 2 (.slice p2 n2 c2))
  have hQ : Hid (TwoPost a b false w (.returned (.tuple #[.agg #[.bool b1, .slice p n c, .slice p2 n2 c2], .agg #[.bool b2, .slice q m d, .slice q2 m2 d2], .bool false])) ((((((((w2.alloc (.cells #[.bool b2, .slice q m d, .slice q2 m2 d2] 112)).setCell ⟨w.heap.size, 0, none⟩ (.bool b1)).setCell ⟨w.heap.size, 1, none⟩ (.slice p n c)).setCell ⟨w.heap.size, 2, none⟩ (.slice p2 n2 c2)).setCell ⟨w.heap.size + 1, 0, none⟩ (.bool b2)).setCell ⟨w.heap.size + 1, 1, none⟩ (.slice q m d)).setCell ⟨w.heap.size + 1, 2, none⟩ (.slice q2 m2 d2)).drew)) := hiD (by
    refine ⟨_, _, _, _, _, _, _, _, _, _, _, _, _, _, rfl, ((hB.out.put3 (by omega) b2 q q2 m d m2 d2).below).drew, ?_⟩
    exact fun h => by cases h)
  go_region
  go_wp2_with fail
  refine bodyPost_ret (v := .tuple #[.agg #[.bool b1, .slice p n c, .slice p2 n2 c2], .agg #[.bool b2, .slice q m d, .slice q2 m2 d2], .bool false]) ?h1 rfl ?h2
  case h1 => simp [results, Tryz.results126, go_sem, l0, l1, l2, k0, k1, k2]
  exact hQ.out
end Go.Proofs.YtigidchicloleaaGreatDoor
