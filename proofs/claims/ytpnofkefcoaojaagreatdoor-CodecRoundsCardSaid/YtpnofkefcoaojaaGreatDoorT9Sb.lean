/- The document's Round on texts. -/
import Derived.Test.YtpnofkefcoaojaaGreatDoorYD
import Derived.Test.YtpnofkefcoaojaaGreatDoorT9Sa
import Derived.Test.YtpnofkefcoaojaaGreatDoorT9SE
set_option maxHeartbeats 3200000
set_option maxRecDepth 100000
namespace Go.Proofs.YtpnofkefcoaojaaGreatDoor
open Go.RowKit Big
open Go.Lib
theorem rround_no (s t : ByteArray) (a b : Rat) (w : World) (htwo : ∀ W, Hid (Calls Tryz.prog 80 #[.string s, .string t] W (TwoPost a b false W))) : Calls Tryz.prog 49 #[.string s, .string t] w (TxtPost [] w) := by
  go_enter Tryz.func49, Tryz.ntmps49
  go_wp2_with fail
  refine (htwo _).out.mono ?_
  rintro e w1 ⟨b1, p, n, c, p2, n2, c2, b2, q, m, d, q2, m2, d2, rfl, hb1, -⟩
  have HB : Hid (∀ o1 o2, Below w.heap.size w ((w1.alloc o1).alloc o2)) := hiD fun o1 o2 => (hb1.alloc hb1.size o1).alloc (by have := hb1.size; simp; omega) o2
  clear hb1
  go_wp2_with fail
  go_ret
  exact ⟨rfl, HB.out _ _⟩
theorem rround_zero (s t : ByteArray) (a b : Rat) (w : World) (hb0 : sgnQ b = 0) (htwo : ∀ W, Hid (Calls Tryz.prog 80 #[.string s, .string t] W (TwoPost a b true W))) : Calls Tryz.prog 49 #[.string s, .string t] w (TxtPost [] w) := by
  have hsg : ∀ W z, QAt W z b → Hid (Calls Tryz.prog 81 #[z] W fun e w' => e = .returned (.int .i64 (0)) ∧ Below W.heap.size W w') := fun W z hz => hiD (by have h := sgn_any z b W hz; rw [hb0] at h; exact h)
  go_enter Tryz.func49, Tryz.ntmps49
  go_wp2_with fail
  refine (htwo _).out.mono ?_
  rintro e w1 ⟨b1, p, n, c, p2, n2, c2, b2, q, m, d, q2, m2, d2, rfl, hb1, hq⟩
  obtain ⟨hx, hz⟩ := hq rfl
  have HB : Hid (∀ o1 o2, Below w.heap.size w ((w1.alloc o1).alloc o2)) := hiD fun o1 o2 => (hb1.alloc hb1.size o1).alloc (by have := hb1.size; simp; omega) o2
  have HX : Hid (∀ o1 o2, QAt ((w1.alloc o1).alloc o2) (.agg #[.bool b1, .slice p n c, .slice p2 n2 c2]) a ∧ QAt ((w1.alloc o1).alloc o2) (.agg #[.bool b2, .slice q m d, .slice q2 m2 d2]) b) := hiD fun o1 o2 => ⟨(hx.below (below_alloc9 _ _)).below (below_alloc9 _ _), (hz.below (below_alloc9 _ _)).below (below_alloc9 _ _)⟩
  clear hb1 hq hx hz
  go_wp2_with fail
  refine (hsg _ _ (HX.out _ _).2).out.mono ?_
  rintro e w3 ⟨rfl, hb3⟩
  have Hb3 := hiD ((HB.out _ _).trans (hb3.mono (HB.out _ _).size))
  clear hb3
  go_wp2_with fail
  go_ret
  exact ⟨rfl, Hb3.out⟩
theorem rround_neg (s t : ByteArray) (a b : Rat) (w : World) (hb0 : sgnQ b = -1) (htwo : ∀ W, Hid (Calls Tryz.prog 80 #[.string s, .string t] W (TwoPost a b true W))) : Calls Tryz.prog 49 #[.string s, .string t] w (TxtPost [] w) := by
  have hsg : ∀ W z, QAt W z b → Hid (Calls Tryz.prog 81 #[z] W fun e w' => e = .returned (.int .i64 (-1)) ∧ Below W.heap.size W w') := fun W z hz => hiD (by have h := sgn_any z b W hz; rw [hb0] at h; exact h)
  go_enter Tryz.func49, Tryz.ntmps49
  go_wp2_with fail
  refine (htwo _).out.mono ?_
  rintro e w1 ⟨b1, p, n, c, p2, n2, c2, b2, q, m, d, q2, m2, d2, rfl, hb1, hq⟩
  obtain ⟨hx, hz⟩ := hq rfl
  have HB : Hid (∀ o1 o2, Below w.heap.size w ((w1.alloc o1).alloc o2)) := hiD fun o1 o2 => (hb1.alloc hb1.size o1).alloc (by have := hb1.size; simp; omega) o2
  have HX : Hid (∀ o1 o2, QAt ((w1.alloc o1).alloc o2) (.agg #[.bool b1, .slice p n c, .slice p2 n2 c2]) a ∧ QAt ((w1.alloc o1).alloc o2) (.agg #[.bool b2, .slice q m d, .slice q2 m2 d2]) b) := hiD fun o1 o2 => ⟨(hx.below (below_alloc9 _ _)).below (below_alloc9 _ _), (hz.below (below_alloc9 _ _)).below (below_alloc9 _ _)⟩
  clear hb1 hq hx hz
  go_wp2_with fail
  refine (hsg _ _ (HX.out _ _).2).out.mono ?_
  rintro e w3 ⟨rfl, hb3⟩
  have Hb3 := hiD ((HB.out _ _).trans (hb3.mono (HB.out _ _).size))
  clear hb3
  go_wp2_with fail
  go_ret
  exact ⟨rfl, Hb3.out⟩
theorem rround_yes (s t : ByteArray) (a b : Rat) (w : World) (hz0 : sgnQ b = 1) (hab : QLt 5 a) (hbb : QLt 5 b) (htwo : ∀ W, Hid (Calls Tryz.prog 80 #[.string s, .string t] W (TwoPost a b true W))) : Calls Tryz.prog 49 #[.string s, .string t] w (TxtPost (txt (rndQ a b)) w) := by
  obtain ⟨y, hy⟩ : ∃ y : ByteArray, Hid (y = ⟨(txt (rndQ a b)).toArray⟩) := ⟨_, hiD rfl⟩
  unfold TxtPost
  rw [← hy.out]
  have hsg : ∀ W z', QAt W z' b → Hid (Calls Tryz.prog 81 #[z'] W fun e w' => e = .returned (.int .i64 1) ∧ Below W.heap.size W w') := fun W z' hz => hiD (by have h := sgn_any z' b W hz; rw [hz0] at h; exact h)
  have hput : ∀ W x, QAt W x (rndQ a b) → Hid (Calls Tryz.prog 82 #[x] W fun e w' => e = .returned (.string y) ∧ Below W.heap.size W w') := fun W x hx => hiD (by rw [hy.out]; exact put_any x _ (5 + 5 + 6 + 5) W (by omega) (hab.rnd hbb) hx)
  have hop : ∀ W x z, QAt W x a → QAt W z b → Hid (Calls Tryz.prog 95 #[x, z] W (QPost (rndQ a b) W)) := fun W x z hx hz => hiD (rounded_any x z a b 5 5 W (by omega) hab hbb hx hz)
  clear hab hbb hz0
  obtain ⟨f, hf⟩ : ∃ f, Hid (f = rndQ a b) := ⟨_, hiD rfl⟩
  rw [← hf.out] at hput hop hy
  go_enter Tryz.func49, Tryz.ntmps49
  go_wp2_with fail
  refine (htwo _).out.mono ?_
  rintro e w1 ⟨b1, p, n, c, p2, n2, c2, b2, q, m, d, q2, m2, d2, rfl, hb1, hq⟩
  obtain ⟨hx, hz⟩ := hq rfl
  have HB : Hid (∀ o1 o2, Below w.heap.size w ((w1.alloc o1).alloc o2)) := hiD fun o1 o2 => (hb1.alloc hb1.size o1).alloc (by have := hb1.size; simp; omega) o2
  have HX : Hid (∀ o1 o2, QAt ((w1.alloc o1).alloc o2) (.agg #[.bool b1, .slice p n c, .slice p2 n2 c2]) a ∧ QAt ((w1.alloc o1).alloc o2) (.agg #[.bool b2, .slice q m d, .slice q2 m2 d2]) b) := hiD fun o1 o2 => ⟨(hx.below (below_alloc9 _ _)).below (below_alloc9 _ _), (hz.below (below_alloc9 _ _)).below (below_alloc9 _ _)⟩
  clear hb1 hq hx hz
  have hB5 : (((w1.alloc (.cells #[.bool b1, .slice p n c, .slice p2 n2 c2] 59)).alloc (.cells #[.bool b2, .slice q m d, .slice q2 m2 d2] 59))).heap[w1.heap.size]? = some (.cells #[.bool b1, .slice p n c, .slice p2 n2 c2] 59 (0, 0)) := by rw [heap_old _ _ _ (by simp)]; exact heap_new _ _
  have hB6 : (((w1.alloc (.cells #[.bool b1, .slice p n c, .slice p2 n2 c2] 59)).alloc (.cells #[.bool b2, .slice q m d, .slice q2 m2 d2] 59))).heap[w1.heap.size + 1]? = some (.cells #[.bool b2, .slice q m d, .slice q2 m2 d2] 59 (0, 0)) := by
    rw [show w1.heap.size + 1 = (w1.alloc (.cells #[.bool b1, .slice p n c, .slice p2 n2 c2] 59)).heap.size from by simp]; exact heap_new _ _
  have HB5 := hiD hB5
  have HB6 := hiD hB6
  clear hB5 hB6
  go_wp2_with fail
  refine (hsg _ _ (HX.out _ _).2).out.mono ?_
  rintro e w3 ⟨rfl, hb3⟩
  have Hb3 := hiD ((HB.out _ _).trans (hb3.mono (HB.out _ _).size))
  have hX3 := hiD ((HX.out _ _).1.below hb3)
  have hZ3 := hiD ((HX.out _ _).2.below hb3)
  have h5 := (hb3.block w1.heap.size (by simp; omega)).trans HB5.out
  have h6 := (hb3.block (w1.heap.size + 1) (by simp)).trans HB6.out
  have y0 := ceh h5 0
  have y1 := ceh h5 1
  have y2 := ceh h5 2
  have y3 := ceh h6 0
  have y4 := ceh h6 1
  have y5 := ceh h6 2
  clear hb3 h5 h6
  go_wp2_with fail
  refine (hop _ _ _ hX3.out hZ3.out).out.mono ?_
  rintro e w4 ⟨x3, rfl, hx3, hb4⟩
  have hp3 := hput w4 x3 hx3
  obtain ⟨p3, n3, c3, p4, n4, c4, rfl, -, -⟩ := hx3.slices
  obtain ⟨sb, hsb⟩ : ∃ sb, Hid (sb = decide (f.num < 0)) := ⟨_, hiD rfl⟩
  rw [← hsb.out] at hp3 ⊢
  have Hb4 := hiD (Hb3.out.trans (hb4.mono Hb3.out.size))
  clear hb4 hx3
  go_wp2_with fail
  refine hp3.out.mono ?_
  rintro e w5 ⟨rfl, hb5⟩
  have Hb5 := hiD (Hb4.out.trans (hb5.mono Hb4.out.size))
  clear hb5 hp3
  go_wp2_with fail
  go_ret
  exact ⟨rfl, Hb5.out⟩
theorem rround_any (s t : ByteArray) (w : World) : Calls Tryz.prog 49 #[.string s, .string t] w (TxtPost (rndT s.data.toList t.data.toList) w) := by
  rcases num_both s.data.toList t.data.toList with ⟨a, b, ha, hb⟩ | h
  · unfold rndT
    rw [ha, hb]
    have ht := two_yes ha hb
    by_cases h1 : sgnQ b = 1
    · simp only [h1, if_true]
      exact rround_yes s t a b w h1 (num_lt9 ha) (num_lt9 hb) ht
    · simp only [h1, if_false]
      by_cases h0 : sgnQ b = 0
      · exact rround_zero s t a b w h0 ht
      · exact rround_neg s t a b w (by unfold sgnQ at h0 h1 ⊢; split at h0 <;> simp_all) ht
  · have e : rndT s.data.toList t.data.toList = [] := by
      unfold rndT
      rcases h with h | h
      · rw [h]
      · rw [h]; cases num s.data.toList <;> rfl
    rw [e]
    exact rround_no s t 0 0 w (two_not h)
end Go.Proofs.YtpnofkefcoaojaaGreatDoor
namespace Go.Proofs.YtpnofkefcoaojaaGreatDoor
open Go.RowKit Big
open Go.Lib
end Go.Proofs.YtpnofkefcoaojaaGreatDoor
namespace Go.Proofs.YtpnofkefcoaojaaGreatDoor
open Go.RowKit Big
open Go.Lib
section
variable {B g : Nat} {s : Bool} {u1 v1 : Value} {t : Bool} {u2 v2 : Value} {x0 x1 x2 : Value} {w0 W W' : World}
end
end Go.Proofs.YtpnofkefcoaojaaGreatDoor
