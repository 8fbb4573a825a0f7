/- The document's Div and Compare on texts; the law QuantityOps. -/
import Derived.Test.YtoegbjmoecbjdaaGreatDoorSB
import Derived.Test.YtoegbjmoecbjdaaGreatDoorPart19
set_option maxHeartbeats 3200000
set_option maxRecDepth 100000
namespace Go.Proofs.YtoegbjmoecbjdaaGreatDoor
open Go.RowKit Big
open Go.Lib
theorem sgn_same (q : Rat) : sgnQ q = sgnR q := by
  unfold sgnQ sgnR
  have h1 : q.num < 0 ↔ q < 0 := by rw [← Rat.not_le, ← Rat.num_nonneg]; omega
  have h2 : q.num = 0 ↔ q = 0 := Rat.num_eq_zero
  simp only [h1, h2]
theorem rdiv_no (s t : ByteArray) (a b : Rat) (w : World) (htwo : ∀ W, Hid (Calls Tryz.prog 77 #[.string s, .string t] W (TwoPost a b false W))) : Calls Tryz.prog 33 #[.string s, .string t] w (TxtPost [] w) := by
  go_enter Tryz.func33, Tryz.ntmps33
  go_wp2_with fail
  refine (htwo _).out.mono ?_
  rintro e w1 ⟨b1, p, n, c, p2, n2, c2, b2, q, m, d, q2, m2, d2, rfl, hb1, -⟩
  have HB : Hid (∀ o1 o2, Below w.heap.size w ((w1.alloc o1).alloc o2)) := hiD fun o1 o2 => (hb1.alloc hb1.size o1).alloc (by have := hb1.size; simp; omega) o2
  clear hb1
  go_wp2_with fail
  go_ret
  exact ⟨rfl, HB.out _ _⟩
theorem rdiv_zero (s t : ByteArray) (a b : Rat) (w : World) (hb0 : sgnQ b = 0) (htwo : ∀ W, Hid (Calls Tryz.prog 77 #[.string s, .string t] W (TwoPost a b true W))) : Calls Tryz.prog 33 #[.string s, .string t] w (TxtPost [] w) := by
  have hsg : ∀ W z, QAt W z b → Hid (Calls Tryz.prog 40 #[z] W fun e w' => e = .returned (.int .i64 0) ∧ Below W.heap.size W w') := fun W z hz => hiD (by have h := sgn_any z b W hz; rw [hb0] at h; exact h)
  go_enter Tryz.func33, Tryz.ntmps33
  go_wp2_with fail
  refine (htwo _).out.mono ?_
  rintro e w1 ⟨b1, p, n, c, p2, n2, c2, b2, q, m, d, q2, m2, d2, rfl, hb1, hq⟩
  obtain ⟨hx, hz⟩ := hq rfl
  have HB : Hid (∀ o1 o2, Below w.heap.size w ((w1.alloc o1).alloc o2)) := hiD fun o1 o2 => (hb1.alloc hb1.size o1).alloc (by have := hb1.size; simp; omega) o2
  have HX : Hid (∀ o1 o2, QAt ((w1.alloc o1).alloc o2) (.agg #[.bool b1, .slice p n c, .slice p2 n2 c2]) a ∧ QAt ((w1.alloc o1).alloc o2) (.agg #[.bool b2, .slice q m d, .slice q2 m2 d2]) b) := hiD fun o1 o2 => ⟨(hx.below (below_alloc9 _ _)).below (below_alloc9 _ _), (hz.below (below_alloc9 _ _)).below (below_alloc9 _ _)⟩
  clear hb1 hq hx hz
  go_wp2_with fail
  refine (hsg _ _ (HX.out _ _).2).out.mono ?_
  rintro e w3 ⟨rfl, hb3⟩
  have Hb3 := hiD ((HB.out _ _).trans (hb3.mono (HB.out _ _).size))
  clear hb3
  go_wp2_with fail
  go_ret
  exact ⟨rfl, Hb3.out⟩
theorem rdiv_yes (s t : ByteArray) (a b : Rat) (z : Int) (w : World) (hz0 : sgnQ b = z) (hzb : (z == 0) = false) (hab : QLt 5 a) (hbb : QLt 5 b) (htwo : ∀ W, Hid (Calls Tryz.prog 77 #[.string s, .string t] W (TwoPost a b true W))) : Calls Tryz.prog 33 #[.string s, .string t] w (TxtPost (txt (a / b)) w) := by
  obtain ⟨y, hy⟩ : ∃ y : ByteArray, Hid (y = ⟨(txt (a / b)).toArray⟩) := ⟨_, hiD rfl⟩
  unfold TxtPost
  rw [← hy.out]
  have hsg : ∀ W z', QAt W z' b → Hid (Calls Tryz.prog 40 #[z'] W fun e w' => e = .returned (.int .i64 z) ∧ Below W.heap.size W w') := fun W z' hz => hiD (by have h := sgn_any z' b W hz; rw [hz0] at h; exact h)
  have hput : ∀ W x, QAt W x (a / b) → Hid (Calls Tryz.prog 73 #[x] W fun e w' => e = .returned (.string y) ∧ Below W.heap.size W w') := fun W x hx => hiD (by rw [hy.out]; exact put_any x _ (5 + 5) W (by omega) (hab.quo hbb) hx)
  have hop : ∀ W x z, QAt W x a → QAt W z b → Hid (Calls Tryz.prog 43 #[x, z] W (QPost (a / b) W)) := fun W x z hx hz => hiD (quot_any x z a b 5 5 W (by omega) hab hbb hx hz)
  clear hab hbb hz0
  go_enter Tryz.func33, Tryz.ntmps33
  go_wp2_with fail
  refine (htwo _).out.mono ?_
  rintro e w1 ⟨b1, p, n, c, p2, n2, c2, b2, q, m, d, q2, m2, d2, rfl, hb1, hq⟩
  obtain ⟨hx, hz⟩ := hq rfl
  have HB : Hid (∀ o1 o2, Below w.heap.size w ((w1.alloc o1).alloc o2)) := hiD fun o1 o2 => (hb1.alloc hb1.size o1).alloc (by have := hb1.size; simp; omega) o2
  have HX : Hid (∀ o1 o2, QAt ((w1.alloc o1).alloc o2) (.agg #[.bool b1, .slice p n c, .slice p2 n2 c2]) a ∧ QAt ((w1.alloc o1).alloc o2) (.agg #[.bool b2, .slice q m d, .slice q2 m2 d2]) b) := hiD fun o1 o2 => ⟨(hx.below (below_alloc9 _ _)).below (below_alloc9 _ _), (hz.below (below_alloc9 _ _)).below (below_alloc9 _ _)⟩
  clear hb1 hq hx hz
  have hB5 : (((w1.alloc (.cells #[.bool b1, .slice p n c, .slice p2 n2 c2] 38)).alloc (.cells #[.bool b2, .slice q m d, .slice q2 m2 d2] 38))).heap[w1.heap.size]? = some (.cells #[.bool b1, .slice p n c, .slice p2 n2 c2] 38 (0, 0)) := by rw [heap_old _ _ _ (by simp)]; exact heap_new _ _
  have hB6 : (((w1.alloc (.cells #[.bool b1, .slice p n c, .slice p2 n2 c2] 38)).alloc (.cells #[.bool b2, .slice q m d, .slice q2 m2 d2] 38))).heap[w1.heap.size + 1]? = some (.cells #[.bool b2, .slice q m d, .slice q2 m2 d2] 38 (0, 0)) := by
    rw [show w1.heap.size + 1 = (w1.alloc (.cells #[.bool b1, .slice p n c, .slice p2 n2 c2] 38)).heap.size from by simp]; exact heap_new _ _
  have HB5 := hiD hB5
  have HB6 := hiD hB6
  clear hB5 hB6
  go_wp2_with fail
  refine (hsg _ _ (HX.out _ _).2).out.mono ?_
  rintro e w3 ⟨rfl, hb3⟩
  have Hb3 := hiD ((HB.out _ _).trans (hb3.mono (HB.out _ _).size))
  have hX3 := hiD ((HX.out _ _).1.below hb3)
  have hZ3 := hiD ((HX.out _ _).2.below hb3)
  have h5 := (hb3.block w1.heap.size (by simp; omega)).trans HB5.out
  have h6 := (hb3.block (w1.heap.size + 1) (by simp)).trans HB6.out
  have y0 := ceh h5 0
  have y1 := ceh h5 1
  have y2 := ceh h5 2
  have y3 := ceh h6 0
  have y4 := ceh h6 1
  have y5 := ceh h6 2
  clear hb3 h5 h6
  go_wp2_with fail
  refine (hop _ _ _ hX3.out hZ3.out).out.mono ?_
  rintro e w4 ⟨x3, rfl, hx3, hb4⟩
  have hp3 := hput w4 x3 hx3
  obtain ⟨p3, n3, c3, p4, n4, c4, rfl, -, -⟩ := hx3.slices
  obtain ⟨sb, hsb⟩ : ∃ sb, Hid (sb = decide ((a / b).num < 0)) := ⟨_, hiD rfl⟩
  rw [← hsb.out] at hp3 ⊢
  have Hb4 := hiD (Hb3.out.trans (hb4.mono Hb3.out.size))
  clear hb4 hx3
  go_wp2_with fail
  refine hp3.out.mono ?_
  rintro e w5 ⟨rfl, hb5⟩
  have Hb5 := hiD (Hb4.out.trans (hb5.mono Hb4.out.size))
  clear hb5 hp3
  go_wp2_with fail
  go_ret
  exact ⟨rfl, Hb5.out⟩
theorem rcmp_no (s t : ByteArray) (a b : Rat) (w : World) (htwo : ∀ W, Hid (Calls Tryz.prog 77 #[.string s, .string t] W (TwoPost a b false W))) : Calls Tryz.prog 25 #[.string s, .string t] w (CmpTPost (0, false) w) := by
  go_enter Tryz.func25, Tryz.ntmps25
  go_wp2_with fail
  refine (htwo _).out.mono ?_
  rintro e w1 ⟨b1, p, n, c, p2, n2, c2, b2, q, m, d, q2, m2, d2, rfl, hb1, -⟩
  have HB : Hid (∀ o1 o2, Below w.heap.size w ((w1.alloc o1).alloc o2)) := hiD fun o1 o2 => (hb1.alloc hb1.size o1).alloc (by have := hb1.size; simp; omega) o2
  clear hb1
  go_wp2_with fail
  go_ret2
  exact ⟨rfl, HB.out _ _⟩
theorem rcmp_yes (s t : ByteArray) (a b : Rat) (z : Int) (w : World) (hz0 : sgnQ (a - b) = z) (hab : QLt 5 a) (hbb : QLt 5 b) (htwo : ∀ W, Hid (Calls Tryz.prog 77 #[.string s, .string t] W (TwoPost a b true W))) : Calls Tryz.prog 25 #[.string s, .string t] w (CmpTPost (z, true) w) := by
  have hop : ∀ W x y, QAt W x a → QAt W y b → Hid (Calls Tryz.prog 44 #[x, y] W fun e w' => e = .returned (.int .i64 z) ∧ Below W.heap.size W w') := fun W x y hx hy => hiD (by have h := cmp_any x y a b 5 5 W (by omega) hab hbb hx hy; rw [hz0] at h; exact h)
  clear hab hbb hz0
  go_enter Tryz.func25, Tryz.ntmps25
  go_wp2_with fail
  refine (htwo _).out.mono ?_
  rintro e w1 ⟨b1, p, n, c, p2, n2, c2, b2, q, m, d, q2, m2, d2, rfl, hb1, hq⟩
  obtain ⟨hx, hz⟩ := hq rfl
  have HB : Hid (∀ o1 o2, Below w.heap.size w ((w1.alloc o1).alloc o2)) := hiD fun o1 o2 => (hb1.alloc hb1.size o1).alloc (by have := hb1.size; simp; omega) o2
  have HX : Hid (∀ o1 o2, QAt ((w1.alloc o1).alloc o2) (.agg #[.bool b1, .slice p n c, .slice p2 n2 c2]) a ∧ QAt ((w1.alloc o1).alloc o2) (.agg #[.bool b2, .slice q m d, .slice q2 m2 d2]) b) := hiD fun o1 o2 => ⟨(hx.below (below_alloc9 _ _)).below (below_alloc9 _ _), (hz.below (below_alloc9 _ _)).below (below_alloc9 _ _)⟩
  clear hb1 hq hx hz
  go_wp2_with fail
  refine (hop _ _ _ (HX.out _ _).1 (HX.out _ _).2).out.mono ?_
  rintro e w3 ⟨rfl, hb3⟩
  have Hb3 := hiD ((HB.out _ _).trans (hb3.mono (HB.out _ _).size))
  clear hb3
  go_wp2_with fail
  go_ret2
  exact ⟨rfl, Hb3.out⟩
theorem two_yes {s t : ByteArray} {a b : Rat} (ha : num s.data.toList = some a) (hb : num t.data.toList = some b) (W : World) : Hid (Calls Tryz.prog 77 #[.string s, .string t] W (TwoPost a b true W)) := hiD (by
  have h := two_any s t W
  rw [ha, hb] at h; exact h)
theorem two_not {s t : ByteArray} (hn : num s.data.toList = none ∨ num t.data.toList = none) (W : World) : Hid (Calls Tryz.prog 77 #[.string s, .string t] W (TwoPost 0 0 false W)) := hiD (by
  have h := two_any s t W
  have k : ∀ e w', (∃ a b, TwoPost a b false W e w') → TwoPost 0 0 false W e w' := by
    rintro e w' ⟨a, b, b1, p, n, c, p2, n2, c2, b2, q, m, d, q2, m2, d2, h1, h2, _⟩
    exact ⟨b1, p, n, c, p2, n2, c2, b2, q, m, d, q2, m2, d2, h1, h2, fun h => by cases h⟩
  refine h.mono fun e w' h => ?_
  rcases hn with h1 | h1
  · rw [h1] at h; exact k _ _ h
  · rw [h1] at h
    cases h2 : num s.data.toList with
    | none => rw [h2] at h; exact k _ _ h
    | some a => rw [h2] at h; exact k _ _ h)
theorem opT_none {f : Rat → Rat → Rat} {x y : List UInt8} (h : num x = none ∨ num y = none) : opT f x y = [] := by
  unfold opT
  rcases h with h | h
  · rw [h]
  · rw [h]; cases num x <;> rfl
theorem num_both (x y : List UInt8) : (∃ a b, num x = some a ∧ num y = some b) ∨ (num x = none ∨ num y = none) := by
  cases hx : num x with
  | none => exact .inr (.inl rfl)
  | some a => cases hy : num y with
    | none => exact .inr (.inr rfl)
    | some b => exact .inl ⟨a, b, rfl, rfl⟩
theorem radd_q (s t : ByteArray) (w : World) : Calls Tryz.prog 27 #[.string s, .string t] w (TxtPost (opT (· + ·) s.data.toList t.data.toList) w) := by
  rcases num_both s.data.toList t.data.toList with ⟨a, b, ha, hb⟩ | hn
  · rw [opT_some ha hb]; exact radd_yes s t a b w (num_lt9 ha) (num_lt9 hb) (two_yes ha hb)
  · rw [opT_none hn]; exact radd_no s t 0 0 w (two_not hn)
theorem rsub_q (s t : ByteArray) (w : World) : Calls Tryz.prog 29 #[.string s, .string t] w (TxtPost (opT (· - ·) s.data.toList t.data.toList) w) := by
  rcases num_both s.data.toList t.data.toList with ⟨a, b, ha, hb⟩ | hn
  · rw [opT_some ha hb]; exact rsub_yes s t a b w (num_lt9 ha) (num_lt9 hb) (two_yes ha hb)
  · rw [opT_none hn]; exact rsub_no s t 0 0 w (two_not hn)
theorem rmul_q (s t : ByteArray) (w : World) : Calls Tryz.prog 31 #[.string s, .string t] w (TxtPost (opT (· * ·) s.data.toList t.data.toList) w) := by
  rcases num_both s.data.toList t.data.toList with ⟨a, b, ha, hb⟩ | hn
  · rw [opT_some ha hb]; exact rmul_yes s t a b w (num_lt9 ha) (num_lt9 hb) (two_yes ha hb)
  · rw [opT_none hn]; exact rmul_no s t 0 0 w (two_not hn)
theorem rdiv_q (s t : ByteArray) (w : World) : Calls Tryz.prog 33 #[.string s, .string t] w (TxtPost (divT s.data.toList t.data.toList) w) := by
  unfold divT
  rcases num_both s.data.toList t.data.toList with ⟨a, b, ha, hb⟩ | hn
  · by_cases h0 : t.data.toList = [48]
    · rw [if_pos h0]
      have hb0 : b = 0 := by rw [h0, num_zero] at hb; exact (Option.some.inj hb).symm
      exact rdiv_zero s t a b w (by rw [hb0]; rfl) (two_yes ha hb)
    · rw [if_neg h0, opT_some ha hb]
      have hbn : b ≠ 0 := fun e => h0 (num_inj (e ▸ hb) num_zero)
      refine rdiv_yes s t a b _ w rfl ?_ (num_lt9 ha) (num_lt9 hb) (two_yes ha hb)
      have hn0 : b.num ≠ 0 := fun e => hbn (Rat.num_eq_zero.1 e)
      unfold sgnQ
      by_cases h : b.num < 0
      · rw [if_pos h]; rfl
      · rw [if_neg h, if_neg hn0]; rfl
  · have e : (if t.data.toList = [48] then [] else opT (· / ·) s.data.toList t.data.toList) = [] := by rw [opT_none hn]; simp
    rw [e]; exact rdiv_no s t 0 0 w (two_not hn)
theorem rcompare_q (s t : ByteArray) (w : World) : Calls Tryz.prog 25 #[.string s, .string t] w (CmpTPost (cmpT s.data.toList t.data.toList) w) := by
  rcases num_both s.data.toList t.data.toList with ⟨a, b, ha, hb⟩ | hn
  · rw [cmpT_some ha hb]; exact rcmp_yes s t a b _ w (sgn_same _) (num_lt9 ha) (num_lt9 hb) (two_yes ha hb)
  · have e : cmpT s.data.toList t.data.toList = (0, false) := by
      unfold cmpT
      rcases hn with h | h
      · rw [h]
      · rw [h]; cases num s.data.toList <;> rfl
    rw [e]; exact rcmp_no s t 0 0 w (two_not hn)
theorem ops_walk (x y a1 a2 a3 a4 : ByteArray) (z : Int) (f : Bool) (w : World)
    (h26 : Hid (∀ W, Below w.heap.size w W → Calls Tryz.prog 24 #[.string x, .string y] W fun e w' => e = .returned (.tuple #[.int .i64 z, .bool f]) ∧ Below W.heap.size W w')) (h27 : Hid (∀ W, Calls Tryz.prog 25 #[.string x, .string y] W fun e w' => e = .returned (.tuple #[.int .i64 z, .bool f]) ∧ Below W.heap.size W w'))
    (h28 : Hid (∀ W, Below w.heap.size w W → Calls Tryz.prog 26 #[.string x, .string y] W fun e w' => e = .returned (.string a1) ∧ Below W.heap.size W w')) (h29 : Hid (∀ W, Calls Tryz.prog 27 #[.string x, .string y] W fun e w' => e = .returned (.string a1) ∧ Below W.heap.size W w'))
    (h30 : Hid (∀ W, Below w.heap.size w W → Calls Tryz.prog 28 #[.string x, .string y] W fun e w' => e = .returned (.string a2) ∧ Below W.heap.size W w')) (h31 : Hid (∀ W, Calls Tryz.prog 29 #[.string x, .string y] W fun e w' => e = .returned (.string a2) ∧ Below W.heap.size W w'))
    (h32 : Hid (∀ W, Below w.heap.size w W → Calls Tryz.prog 30 #[.string x, .string y] W fun e w' => e = .returned (.string a3) ∧ Below W.heap.size W w')) (h33 : Hid (∀ W, Calls Tryz.prog 31 #[.string x, .string y] W fun e w' => e = .returned (.string a3) ∧ Below W.heap.size W w'))
    (h34 : Hid (∀ W, Below w.heap.size w W → Calls Tryz.prog 32 #[.string x, .string y] W fun e w' => e = .returned (.string a4) ∧ Below W.heap.size W w')) (h35 : Hid (∀ W, Calls Tryz.prog 33 #[.string x, .string y] W fun e w' => e = .returned (.string a4) ∧ Below W.heap.size W w'))
    (hw : Hid (∀ W, Below w.heap.size w W → Calls Tryz.prog 21 #[] W fun e w' => e = .returned (.bool true) ∧ Below W.heap.size W w')) : Calls Tryz.prog 5 #[.string x, .string y] w fun e w' => e = .returned (.bool true) ∧ Below w.heap.size w w' := by
  go_enter Tryz.func5, Tryz.ntmps5
  go_wp2_with fail
  refine (h26.out _ (Below.refl _ _)).mono ?_
  rintro e w1 ⟨rfl, hb⟩
  have B1 := hiD (hb)
  clear hb
  go_wp2_with fail
  refine (h27.out _ ).mono ?_
  rintro e w2 ⟨rfl, hb⟩
  have B2 := hiD (Below.trans B1.out (hb.mono B1.out.size))
  clear hb
  go_wp2_with fail
  refine (h28.out _ B2.out).mono ?_
  rintro e w3 ⟨rfl, hb⟩
  have B3 := hiD (Below.trans B2.out (hb.mono B2.out.size))
  clear hb
  go_wp2_with fail
  refine (h29.out _ ).mono ?_
  rintro e w4 ⟨rfl, hb⟩
  have B4 := hiD (Below.trans B3.out (hb.mono B3.out.size))
  clear hb
  go_wp2_with fail
  refine (h30.out _ B4.out).mono ?_
  rintro e w5 ⟨rfl, hb⟩
  have B5 := hiD (Below.trans B4.out (hb.mono B4.out.size))
  clear hb
  go_wp2_with fail
  refine (h31.out _ ).mono ?_
  rintro e w6 ⟨rfl, hb⟩
  have B6 := hiD (Below.trans B5.out (hb.mono B5.out.size))
  clear hb
  go_wp2_with fail
  refine (h32.out _ B6.out).mono ?_
  rintro e w7 ⟨rfl, hb⟩
  have B7 := hiD (Below.trans B6.out (hb.mono B6.out.size))
  clear hb
  go_wp2_with fail
  refine (h33.out _ ).mono ?_
  rintro e w8 ⟨rfl, hb⟩
  have B8 := hiD (Below.trans B7.out (hb.mono B7.out.size))
  clear hb
  go_wp2_with fail
  refine (h34.out _ B8.out).mono ?_
  rintro e w9 ⟨rfl, hb⟩
  have B9 := hiD (Below.trans B8.out (hb.mono B8.out.size))
  clear hb
  go_wp2_with fail
  refine (h35.out _ ).mono ?_
  rintro e w10 ⟨rfl, hb⟩
  have B10 := hiD (Below.trans B9.out (hb.mono B9.out.size))
  clear hb
  go_wp2_with fail
  refine (hw.out _ B10.out).mono ?_
  rintro e w11 ⟨rfl, hb⟩
  have B11 := hiD (Below.trans B10.out (hb.mono B10.out.size))
  clear hb
  go_wp2_with fail
  go_ret
  exact ⟨rfl, B11.out⟩
theorem ops_any (x y : ByteArray) (w : World) (htab : Tab w) : Calls Tryz.prog 5 #[.string x, .string y] w fun e w' => e = .returned (.bool true) ∧ Below w.heap.size w w' :=
  ops_walk x y _ _ _ _ _ _ w (hiD fun W hW => compare_q x y W (htab.below hW)) (hiD fun W => rcompare_q x y W) (hiD fun W hW => add_q x y W (htab.below hW)) (hiD fun W => radd_q x y W) (hiD fun W hW => sub_q x y W (htab.below hW)) (hiD fun W => rsub_q x y W)
    (hiD fun W hW => mul_q x y W (htab.below hW)) (hiD fun W => rmul_q x y W) (hiD fun W hW => div_q x y W (htab.below hW)) (hiD fun W => rdiv_q x y W) (hiD fun W hW => awake_any W (htab.below hW))
end Go.Proofs.YtoegbjmoecbjdaaGreatDoor
