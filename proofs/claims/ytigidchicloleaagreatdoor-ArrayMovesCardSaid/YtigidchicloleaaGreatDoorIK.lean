/- The law ArrayMoves. -/
import Derived.Test.YtigidchicloleaaGreatDoorHJ
set_option maxHeartbeats 16000000
set_option maxRecDepth 100000
namespace Go.Proofs.YtigidchicloleaaGreatDoor.Arr
open Go.RowKit Go.Shelf
open Go.Lib
attribute [local go_sem] Oper.semAt_some
theorem moves_law (p q xq r : Option Addr) (c d f cx n m k x : Nat) (s axes t : List Int) (l : List (List UInt8)) (w : World) (he : Env w) (hs : Hid (s.length = n)) (hl : Hid (l.length = m)) (hx : Hid (axes.length = x)) (hk : Hid (t.length = k)) (hxc : x ≤ cx) (hp : Rd w p s) (hq : RdS w q l) (hxq : Rd w xq axes) (hr : Rd w r t) :
    Calls Tryz.prog 10 #[.agg #[.slice p n c, .slice q m d], .slice xq x cx, .slice r k f] w fun e w' => Below w.heap.size w w' ∧ e = .returned (.bool true) := by
  have HP := Lib.hid hp
  have HQ := Lib.hid hq
  have HXQ := Lib.hid hxq
  have HR := Lib.hid hr
  have HE := Lib.hid he
  have HXC := Lib.hid hxc
  clear hp hq hxq hr he hxc
  obtain ⟨A, HA⟩ : ∃ A, Hid (A = w.heap.size) := ⟨_, Lib.hid rfl⟩
  obtain ⟨W0, HW0⟩ : ∃ W0, Hid (w.alloc (.cells #[.slice p n c, .slice q m d] 25) = W0) := ⟨_, Lib.hid rfl⟩
  have HB0 : Hid (Below w.heap.size w W0) := Lib.hid (by rw [← HW0.out]; exact (Below.refl _ w).alloc (Nat.le_refl _) _)
  have HX0 : Hid (W0.heap[A]? = some (.cells #[.slice p n c, .slice q m d] 25 (0, 0))) := Lib.hid (by rw [← HW0.out, HA.out]; exact World.alloc_heap_new w _)
  have HBX : Hid (∀ W, Below W0.heap.size W0 W → Vz w W0 A p q n c m d W) := Lib.hid (fun W hW => by
    have h0 := (hW.block A (Array.getElem?_eq_some_iff.1 HX0.out).1).trans HX0.out
    exact ⟨HB0.out.trans (hW.mono HB0.out.size), hW, by simp [World.cell?, h0], by simp [World.cell?, h0]⟩)
  have H11 := Lib.hid (wide_any p q c d n m s l W0 hs hl (HQ.out.below HB0.out))
  have H12 : Hid (∀ W, Below W0.heap.size W0 W → Calls Tryz.prog 13 #[.slice r k f] W fun e w' => W = w' ∧ e = .returned (.bool (bigT t))) := Lib.hid (fun W hW => big_any r f k t W hk (HR.out.below (HBX.out W hW).below))
  have HSANE : Hid (∀ W, Below W0.heap.size W0 W → Calls Tryz.prog 14 #[] W fun e w' => Below W.heap.size W w' ∧ e = .returned (.bool true)) := Lib.hid (fun W hW => sane_any W (HE.out.below (HBX.out W hW).below))
  obtain ⟨b, HWB⟩ : ∃ b, Hid (b = wideT s l) := ⟨_, Lib.hid rfl⟩
  obtain ⟨g, HG⟩ : ∃ g, Hid (g = bigT t) := ⟨_, Lib.hid rfl⟩
  rw [← HWB.out] at H11
  rw [← HG.out] at H12
  by_cases hb : b = true
  · subst hb
    obtain ⟨-, -, b0, b1⟩ := HBX.out W0 (Below.refl _ _)
    go_enter Tryz.func10, Tryz.ntmps10
    go_wp2_with fail
    rw [HW0.out, ← HA.out]
    go_wp2_with fail
    refine (H11.out).mono ?_
    rintro e w1 ⟨hb1, rfl⟩
    have HBw1 := Lib.hid hb1
    clear hb1 b0 b1
    obtain ⟨-, -, b0, b1⟩ := HBX.out w1 HBw1.out
    go_wp2_with fail
    refine (HSANE.out _ HBw1.out).mono ?_
    rintro e w9 ⟨hb9, rfl⟩
    have HB9 := Lib.hid (HBX.out w9 (HBw1.out.trans (hb9.mono HBw1.out.size))).below
    clear hb9
    go_wp2_with fail
    go_ret
    exact ⟨HB9.out, rfl⟩
  obtain rfl : b = false := by simpa using hb
  by_cases hk10 : 10 < x
  · have ik : (10 : Int) < (x : Int) := by omega
    obtain ⟨-, -, b0, b1⟩ := HBX.out W0 (Below.refl _ _)
    go_enter Tryz.func10, Tryz.ntmps10
    go_wp2_with fail
    rw [HW0.out, ← HA.out]
    go_wp2_with fail
    refine (H11.out).mono ?_
    rintro e w1 ⟨hb1, rfl⟩
    have HBw1 := Lib.hid hb1
    clear hb1 b0 b1
    obtain ⟨-, -, b0, b1⟩ := HBX.out w1 HBw1.out
    go_wp2_with fail
    refine (HSANE.out _ HBw1.out).mono ?_
    rintro e w9 ⟨hb9, rfl⟩
    have HB9 := Lib.hid (HBX.out w9 (HBw1.out.trans (hb9.mono HBw1.out.size))).below
    clear hb9
    go_wp2_with fail
    go_ret
    exact ⟨HB9.out, rfl⟩
  have ik : ¬ (10 : Int) < (x : Int) := by omega
  by_cases hg : g = true
  · subst hg
    obtain ⟨-, -, b0, b1⟩ := HBX.out W0 (Below.refl _ _)
    go_enter Tryz.func10, Tryz.ntmps10
    go_wp2_with fail
    rw [HW0.out, ← HA.out]
    go_wp2_with fail
    refine (H11.out).mono ?_
    rintro e w1 ⟨hb1, rfl⟩
    have HBw1 := Lib.hid hb1
    clear hb1 b0 b1
    obtain ⟨-, -, b0, b1⟩ := HBX.out w1 HBw1.out
    go_wp2_with fail
    refine (H12.out _ HBw1.out).mono ?_
    rintro e w1' ⟨rfl, rfl⟩
    go_wp2_with fail
    refine (HSANE.out _ HBw1.out).mono ?_
    rintro e w9 ⟨hb9, rfl⟩
    have HB9 := Lib.hid (HBX.out w9 (HBw1.out.trans (hb9.mono HBw1.out.size))).below
    clear hb9
    go_wp2_with fail
    go_ret
    exact ⟨HB9.out, rfl⟩
  obtain rfl : g = false := by simpa using hg
  have hm : m ≤ 5000 ∧ n ≤ 1000 := by
    have h : wideT s l = false := HWB.out.symm
    unfold wideT at h
    rw [Bool.or_eq_false_iff, Bool.or_eq_false_iff, decide_eq_false_iff_not, decide_eq_false_iff_not, hl.out, hs.out] at h
    omega
  have HM := Lib.hid hm
  have HX10 : Hid (x ≤ 10) := Lib.hid (by omega)
  obtain ⟨z1, HZ1⟩ : ∃ z, Hid (z = (sprR s t axes l).1) := ⟨_, Lib.hid rfl⟩
  obtain ⟨s1, HS1⟩ : ∃ z, Hid (z = (sprR s t axes l).2.1) := ⟨_, Lib.hid rfl⟩
  obtain ⟨l1, HL1⟩ : ∃ z, Hid (z = (sprR s t axes l).2.2) := ⟨_, Lib.hid rfl⟩
  obtain ⟨z2, HZ2⟩ : ∃ z, Hid (z = (mvR s axes l).1) := ⟨_, Lib.hid rfl⟩
  obtain ⟨s2, HS2⟩ : ∃ z, Hid (z = (mvR s axes l).2.1) := ⟨_, Lib.hid rfl⟩
  obtain ⟨l2, HL2⟩ : ∃ z, Hid (z = (mvR s axes l).2.2) := ⟨_, Lib.hid rfl⟩
  have H40 : Hid (∀ W, Below W0.heap.size W0 W → Calls Tryz.prog 43 #[.agg #[.slice p n c, .slice q m d], .slice xq x cx, .slice r k f] W (ArrPost W z1 s1 l1)) := Lib.hid (fun W hW => by
    have h := (HBX.out W hW).below
    rw [HZ1.out, HS1.out, HL1.out]; exact spread_all p q xq r c d f n m k x cx s t axes l W (HE.out.below h) hs hl hk hx HM.out.1 HX10.out HXC.out (HP.out.below h) (HQ.out.below h) (HR.out.below h) (HXQ.out.below h))
  have H41 : Hid (∀ W, Below W0.heap.size W0 W → Calls Tryz.prog 44 #[.agg #[.slice p n c, .slice q m d], .slice xq x cx, .slice r k f] W (ArrPost W z1 s1 l1)) := Lib.hid (fun W hW => by
    have h := (HBX.out W hW).below
    rw [HZ1.out, HS1.out, HL1.out]; exact rspread_all p q xq r c d f n m k x cx s t axes l W hs hl hk hx HM.out.1 HX10.out (HP.out.below h) (HQ.out.below h) (HR.out.below h) (HXQ.out.below h))
  have H42 : Hid (∀ W, Below W0.heap.size W0 W → Calls Tryz.prog 45 #[.agg #[.slice p n c, .slice q m d], .slice xq x cx] W (ArrPost W z2 s2 l2)) := Lib.hid (fun W hW => by
    have h := (HBX.out W hW).below
    rw [HZ2.out, HS2.out, HL2.out]; exact move_all p q xq c d n m x cx s axes l W (HE.out.below h) hs hl hx HM.out.1 HX10.out HXC.out (HP.out.below h) (HQ.out.below h) (HXQ.out.below h))
  have H43 : Hid (∀ W, Below W0.heap.size W0 W → Calls Tryz.prog 46 #[.agg #[.slice p n c, .slice q m d], .slice xq x cx] W (ArrPost W z2 s2 l2)) := Lib.hid (fun W hW => by
    have h := (HBX.out W hW).below
    rw [HZ2.out, HS2.out, HL2.out]; exact rmove_all p q xq c d n m x cx s axes l W hs hl hx HM.out.1 HX10.out (HP.out.below h) (HQ.out.below h) (HXQ.out.below h))
  obtain ⟨hle1, hle2⟩ := sprR_len (s := s) (t := t) (axes := axes) (l := l)
  rw [← HS1.out] at hle1
  rw [← HL1.out] at hle2
  obtain ⟨hle3, hle4⟩ := mvR_len (s := s) (axes := axes) (l := l)
  rw [← HS2.out] at hle3
  rw [← HL2.out] at hle4
  have HLE := Lib.hid (And.intro (And.intro hle1 hle2) (And.intro hle3 hle4))
  clear hle1 hle2 hle3 hle4 hm
  obtain ⟨-, -, b0, b1⟩ := HBX.out W0 (Below.refl _ _)
  go_enter Tryz.func10, Tryz.ntmps10
  go_wp2_with fail
  rw [HW0.out, ← HA.out]
  go_wp2_with fail
  refine (H11.out).mono ?_
  rintro e w1 ⟨hb1, rfl⟩
  have HBw1 := Lib.hid hb1
  clear hb1 b0 b1
  obtain ⟨-, -, b0, b1⟩ := HBX.out w1 HBw1.out
  go_wp2_with fail
  refine (H12.out _ HBw1.out).mono ?_
  rintro e w1' ⟨rfl, rfl⟩
  go_wp2_with fail
  refine (H40.out _ HBw1.out).mono ?_
  rintro e v1 ⟨hb2, qa1, qb1, na1, da1, nb1, db1, rfl, hn1, hm1, hr1, hr2⟩
  obtain ⟨E1, HE1⟩ : ∃ E, Hid (E = v1.heap.size) := ⟨_, Lib.hid rfl⟩
  obtain ⟨X1, HX1⟩ : ∃ W, Hid (v1.alloc (.cells #[.slice qa1 na1 da1, .slice qb1 nb1 db1] 25) = W) := ⟨_, Lib.hid rfl⟩
  have hb22 : Below v1.heap.size v1 X1 := by rw [← HX1.out]; exact (Below.refl _ _).alloc (Nat.le_refl _) _
  have HN1 : Hid (Below w1.heap.size w1 X1) := Lib.hid (hb2.trans (hb22.mono hb2.size))
  have HBX1 : Hid (Below W0.heap.size W0 X1) := Lib.hid (HBw1.out.trans (HN1.out.mono HBw1.out.size))
  have HBB1 : Hid (X1.heap[E1]? = some (.cells #[.slice qa1 na1 da1, .slice qb1 nb1 db1] 25 (0, 0))) := Lib.hid (by rw [← HX1.out, HE1.out]; exact World.alloc_heap_new _ _)
  have HEC1 : Hid (∀ W, Below X1.heap.size X1 W → W.cell? ⟨E1, 0, none⟩ = some (.slice qa1 na1 da1) ∧ W.cell? ⟨E1, 1, none⟩ = some (.slice qb1 nb1 db1)) := Lib.hid (fun W hW => by
    have h0 := (hW.block E1 (Array.getElem?_eq_some_iff.1 HBB1.out).1).trans HBB1.out
    exact ⟨by simp [World.cell?, h0], by simp [World.cell?, h0]⟩)
  have HRA1 : Hid (RdN X1 qa1 s1) := Lib.hid (hr1.below hb22)
  have HRB1 : Hid (RdS X1 qb1 l1) := Lib.hid (hr2.below hb22)
  have HNA1 : Hid (s1.length = na1) := Lib.hid hn1
  have HNB1 : Hid (l1.length = nb1) := Lib.hid hm1
  clear hb2 hb22 hr1 hr2 hn1 hm1
  clear b0 b1
  obtain ⟨-, -, b0, b1⟩ := HBX.out X1 HBX1.out
  rw [← HX1.out] at b0 b1
  go_wp2_with fail
  rw [HX1.out, ← HE1.out]
  refine (H41.out _ HBX1.out).mono ?_
  rintro e v2 ⟨hb2, qa2, qb2, na2, da2, nb2, db2, rfl, hn1, hm1, hr1, hr2⟩
  obtain ⟨E2, HE2⟩ : ∃ E, Hid (E = v2.heap.size) := ⟨_, Lib.hid rfl⟩
  obtain ⟨X2, HX2⟩ : ∃ W, Hid (v2.alloc (.cells #[.slice qa2 na2 da2, .slice qb2 nb2 db2] 25) = W) := ⟨_, Lib.hid rfl⟩
  have hb22 : Below v2.heap.size v2 X2 := by rw [← HX2.out]; exact (Below.refl _ _).alloc (Nat.le_refl _) _
  have HN2 : Hid (Below X1.heap.size X1 X2) := Lib.hid (hb2.trans (hb22.mono hb2.size))
  have HBX2 : Hid (Below W0.heap.size W0 X2) := Lib.hid (HBX1.out.trans (HN2.out.mono HBX1.out.size))
  have HBB2 : Hid (X2.heap[E2]? = some (.cells #[.slice qa2 na2 da2, .slice qb2 nb2 db2] 25 (0, 0))) := Lib.hid (by rw [← HX2.out, HE2.out]; exact World.alloc_heap_new _ _)
  have HEC2 : Hid (∀ W, Below X2.heap.size X2 W → W.cell? ⟨E2, 0, none⟩ = some (.slice qa2 na2 da2) ∧ W.cell? ⟨E2, 1, none⟩ = some (.slice qb2 nb2 db2)) := Lib.hid (fun W hW => by
    have h0 := (hW.block E2 (Array.getElem?_eq_some_iff.1 HBB2.out).1).trans HBB2.out
    exact ⟨by simp [World.cell?, h0], by simp [World.cell?, h0]⟩)
  have HRA2 : Hid (RdN X2 qa2 s1) := Lib.hid (hr1.below hb22)
  have HRB2 : Hid (RdS X2 qb2 l1) := Lib.hid (hr2.below hb22)
  have HNA2 : Hid (s1.length = na2) := Lib.hid hn1
  have HNB2 : Hid (l1.length = nb2) := Lib.hid hm1
  clear hb2 hb22 hr1 hr2 hn1 hm1
  clear b0 b1
  obtain ⟨-, -, b0, b1⟩ := HBX.out X2 HBX2.out
  rw [← HX2.out] at b0 b1
  go_wp2_with fail
  rw [HX2.out, ← HE2.out]
  refine (H42.out _ HBX2.out).mono ?_
  rintro e v3 ⟨hb2, qa3, qb3, na3, da3, nb3, db3, rfl, hn1, hm1, hr1, hr2⟩
  obtain ⟨E3, HE3⟩ : ∃ E, Hid (E = v3.heap.size) := ⟨_, Lib.hid rfl⟩
  obtain ⟨X3, HX3⟩ : ∃ W, Hid (v3.alloc (.cells #[.slice qa3 na3 da3, .slice qb3 nb3 db3] 25) = W) := ⟨_, Lib.hid rfl⟩
  have hb22 : Below v3.heap.size v3 X3 := by rw [← HX3.out]; exact (Below.refl _ _).alloc (Nat.le_refl _) _
  have HN3 : Hid (Below X2.heap.size X2 X3) := Lib.hid (hb2.trans (hb22.mono hb2.size))
  have HBX3 : Hid (Below W0.heap.size W0 X3) := Lib.hid (HBX2.out.trans (HN3.out.mono HBX2.out.size))
  have HBB3 : Hid (X3.heap[E3]? = some (.cells #[.slice qa3 na3 da3, .slice qb3 nb3 db3] 25 (0, 0))) := Lib.hid (by rw [← HX3.out, HE3.out]; exact World.alloc_heap_new _ _)
  have HEC3 : Hid (∀ W, Below X3.heap.size X3 W → W.cell? ⟨E3, 0, none⟩ = some (.slice qa3 na3 da3) ∧ W.cell? ⟨E3, 1, none⟩ = some (.slice qb3 nb3 db3)) := Lib.hid (fun W hW => by
    have h0 := (hW.block E3 (Array.getElem?_eq_some_iff.1 HBB3.out).1).trans HBB3.out
    exact ⟨by simp [World.cell?, h0], by simp [World.cell?, h0]⟩)
  have HRA3 : Hid (RdN X3 qa3 s2) := Lib.hid (hr1.below hb22)
  have HRB3 : Hid (RdS X3 qb3 l2) := Lib.hid (hr2.below hb22)
  have HNA3 : Hid (s2.length = na3) := Lib.hid hn1
  have HNB3 : Hid (l2.length = nb3) := Lib.hid hm1
  clear hb2 hb22 hr1 hr2 hn1 hm1
  clear b0 b1
  obtain ⟨-, -, b0, b1⟩ := HBX.out X3 HBX3.out
  rw [← HX3.out] at b0 b1
  go_wp2_with fail
  rw [HX3.out, ← HE3.out]
  refine (H43.out _ HBX3.out).mono ?_
  rintro e v4 ⟨hb2, qa4, qb4, na4, da4, nb4, db4, rfl, hn1, hm1, hr1, hr2⟩
  obtain ⟨E4, HE4⟩ : ∃ E, Hid (E = v4.heap.size) := ⟨_, Lib.hid rfl⟩
  obtain ⟨X4, HX4⟩ : ∃ W, Hid (v4.alloc (.cells #[.slice qa4 na4 da4, .slice qb4 nb4 db4] 25) = W) := ⟨_, Lib.hid rfl⟩
  have hb22 : Below v4.heap.size v4 X4 := by rw [← HX4.out]; exact (Below.refl _ _).alloc (Nat.le_refl _) _
  have HN4 : Hid (Below X3.heap.size X3 X4) := Lib.hid (hb2.trans (hb22.mono hb2.size))
  have HBX4 : Hid (Below W0.heap.size W0 X4) := Lib.hid (HBX3.out.trans (HN4.out.mono HBX3.out.size))
  have HBB4 : Hid (X4.heap[E4]? = some (.cells #[.slice qa4 na4 da4, .slice qb4 nb4 db4] 25 (0, 0))) := Lib.hid (by rw [← HX4.out, HE4.out]; exact World.alloc_heap_new _ _)
  have HEC4 : Hid (∀ W, Below X4.heap.size X4 W → W.cell? ⟨E4, 0, none⟩ = some (.slice qa4 na4 da4) ∧ W.cell? ⟨E4, 1, none⟩ = some (.slice qb4 nb4 db4)) := Lib.hid (fun W hW => by
    have h0 := (hW.block E4 (Array.getElem?_eq_some_iff.1 HBB4.out).1).trans HBB4.out
    exact ⟨by simp [World.cell?, h0], by simp [World.cell?, h0]⟩)
  have HRA4 : Hid (RdN X4 qa4 s2) := Lib.hid (hr1.below hb22)
  have HRB4 : Hid (RdS X4 qb4 l2) := Lib.hid (hr2.below hb22)
  have HNA4 : Hid (s2.length = na4) := Lib.hid hn1
  have HNB4 : Hid (l2.length = nb4) := Lib.hid hm1
  clear hb2 hb22 hr1 hr2 hn1 hm1
  have HC14 : Hid (Below X1.heap.size X1 X4) := Lib.hid ((HN2.out.trans (HN3.out.mono HN2.out.size)).trans (HN4.out.mono (Nat.le_trans HN2.out.size HN3.out.size)))
  have HC24 : Hid (Below X2.heap.size X2 X4) := Lib.hid (HN3.out.trans (HN4.out.mono HN3.out.size))
  have HE14 : Hid (∀ W, Below X4.heap.size X4 W → Below X1.heap.size X1 W ∧ Below X2.heap.size X2 W ∧ Below X3.heap.size X3 W ∧ Below W0.heap.size W0 W) := Lib.hid (fun W hW => ⟨HC14.out.trans (hW.mono HC14.out.size), HC24.out.trans (hW.mono HC24.out.size), HN4.out.trans (hW.mono HN4.out.size), HBX4.out.trans (hW.mono HBX4.out.size)⟩)
  have H22a : Hid (Calls Tryz.prog 23 #[.agg #[.slice qa1 na1 da1, .slice qb1 nb1 db1], .int .i64 z1, .agg #[.slice qa2 na2 da2, .slice qb2 nb2 db2], .int .i64 z1] X4 fun e w' => Below X4.heap.size X4 w' ∧ e = .returned (.bool true)) := Lib.hid (by
    have := agrees_any qa1 qb1 qa2 qb2 da1 db1 da2 db2 na1 nb1 na2 nb2 z1 z1 (s1.map Int.ofNat) (s1.map Int.ofNat) l1 l1 X4 (Lib.hid (by rw [List.length_map, HNA1.out])) HNB1 (Lib.hid (by rw [List.length_map, HNA2.out])) HNB2 (by rw [← HNA1.out]; exact HLE.out.1.1) (by rw [← HNB1.out]; exact HLE.out.1.2) (by rw [← HNA2.out]; exact HLE.out.1.1) (by rw [← HNB2.out]; exact HLE.out.1.2) (HRA1.out.below HC14.out) (HRB1.out.below HC14.out) (HRA2.out.below HC24.out) (HRB2.out.below HC24.out)
    simpa using this)
  have H22b : Hid (∀ W, Below X4.heap.size X4 W → Calls Tryz.prog 23 #[.agg #[.slice qa3 na3 da3, .slice qb3 nb3 db3], .int .i64 z2, .agg #[.slice qa4 na4 da4, .slice qb4 nb4 db4], .int .i64 z2] W fun e w' => Below W.heap.size W w' ∧ e = .returned (.bool true)) := Lib.hid (fun W hW => by
    have := agrees_any qa3 qb3 qa4 qb4 da3 db3 da4 db4 na3 nb3 na4 nb4 z2 z2 (s2.map Int.ofNat) (s2.map Int.ofNat) l2 l2 W (Lib.hid (by rw [List.length_map, HNA3.out])) HNB3 (Lib.hid (by rw [List.length_map, HNA4.out])) HNB4 (by rw [← HNA3.out]; exact HLE.out.2.1) (by rw [← HNB3.out]; exact HLE.out.2.2) (by rw [← HNA4.out]; exact HLE.out.2.1) (by rw [← HNB4.out]; exact HLE.out.2.2) (HRA3.out.below (HE14.out W hW).2.2.1) (HRB3.out.below (HE14.out W hW).2.2.1) (HRA4.out.below hW) (HRB4.out.below hW)
    simpa using this)
  clear b0 b1
  obtain ⟨a0, a1⟩ := HEC1.out X4 HC14.out
  obtain ⟨a2, a3⟩ := HEC2.out X4 HC24.out
  rw [← HX4.out] at a0 a1 a2 a3
  go_wp2_with fail
  rw [HX4.out, ← HE4.out]
  refine (H22a.out).mono ?_
  rintro e v5 ⟨hb5, rfl⟩
  have HB5 := Lib.hid hb5
  clear hb5 a0 a1 a2 a3
  obtain ⟨a0, a1⟩ := HEC3.out v5 (HE14.out v5 HB5.out).2.2.1
  obtain ⟨a2, a3⟩ := HEC4.out v5 HB5.out
  go_wp2_with fail
  refine (H22b.out _ HB5.out).mono ?_
  rintro e v6 ⟨hb6, rfl⟩
  have HB6 : Hid (Below X4.heap.size X4 v6) := Lib.hid (HB5.out.trans (hb6.mono HB5.out.size))
  clear hb6 a0 a1 a2 a3
  go_wp2_with fail
  refine (HSANE.out _ (HE14.out _ HB6.out).2.2.2).mono ?_
  rintro e v7 ⟨hb7, rfl⟩
  have HB7 : Hid (Below X4.heap.size X4 v7) := Lib.hid (HB6.out.trans (hb7.mono HB6.out.size))
  clear hb7
  by_cases hz : z2 = 0
  case neg =>
    have HF7 := Lib.hid (HBX.out v7 (HE14.out v7 HB7.out).2.2.2).below
    have hzb : (z2 == 0) = false := by rw [beq_eq_false_iff_ne]; exact hz
    go_wp2_with fail
    go_ret
    exact ⟨HF7.out, rfl⟩
  have hz0 : (mvR s axes l).1 = 0 := by rw [← HZ2.out]; exact hz
  obtain ⟨s0, ax, rfl, rfl, hsh, hsa, hab, hnd, hll, hva, emv⟩ := mv_zero hz0
  have HXL : Hid (ax.length = x) := Lib.hid (by rw [← hx.out, List.length_map])
  have HAB := Lib.hid hab
  have HND := Lib.hid hnd
  have HS2E : Hid (s2 = pk s0 ax) := Lib.hid (by rw [HS2.out, emv])
  have HL2E : Hid (l2 = sprV s0 (pk s0 ax) (inv ax) l) := Lib.hid (by rw [HL2.out, emv])
  have EB : Hid (mvR (s2.map Int.ofNat) ((inv ax).map Int.ofNat) l2 = (0, s0, l)) := Lib.hid (by rw [HS2E.out, HL2E.out]; exact mv_back hsh hsa hab hnd hll hva)
  have HSL : Hid (s0.length ≤ 1000) := Lib.hid (by have := hsh.1; omega)
  have HLL : Hid (l.length ≤ 5000) := Lib.hid (by rw [hl.out]; exact HM.out.1)
  subst hz
  clear hz0 hsh hsa hab hnd hll hva emv
  have HB07 : Hid (Below W0.heap.size W0 v7) := Lib.hid (HE14.out v7 HB7.out).2.2.2
  have HIB : Hid (∀ z ∈ inv ax, (z : Int) ≤ 9223372036854775807) := Lib.hid (fun z hz => by
    have h1 := inv_lt HND.out HAB.out z hz
    have h2 := HX10.out
    have h3 := HXL.out
    omega)
  have hxi : (x : Int) ≤ 10 := by have := HX10.out; omega
  have hmk := fun W => make_ints x (by have := HX10.out; omega) W
  obtain ⟨G, HGG⟩ : ∃ G, Hid (G = v7.heap.size) := ⟨_, Lib.hid rfl⟩
  obtain ⟨W8, HW8⟩ : ∃ W8, Hid (v7.alloc (.cells (ixC (zn x)) 3) = W8) := ⟨_, Lib.hid rfl⟩
  have HB78 : Hid (Below v7.heap.size v7 W8) := Lib.hid (by rw [← HW8.out]; exact (Below.refl _ v7).alloc (Nat.le_refl _) _)
  have HG8 : Hid (W8.heap[G]? = some (.cells (ixC (bk ax 0)) 3 (0, 0))) := Lib.hid (by rw [bk_zero, HXL.out, ← HW8.out, HGG.out]; exact World.alloc_heap_new _ _)
  go_wp2_with fail
  rw [HW8.out, ← HGG.out]
  clear hmk
  go_loopw [16] (fun iv wr => ∃ i : Nat, i ≤ x ∧ iv = .int .i64 i ∧ Hid (Below v7.heap.size v7 wr) ∧ Hid (wr.heap[G]? = some (.cells (ixC (bk ax i)) 3 (0, 0)))) (fun iv _ => x - (Go.RowKit.intOf iv).toNat)
  case atStart => exact ⟨0, Nat.zero_le _, rfl, HB78, HG8⟩
  case round =>
    obtain ⟨i, hi, rfl, HB, HRW⟩ := hrel
    have ii : (i : Int) ≤ (x : Int) := by omega
    by_cases hlt : i < x
    · have ilt : (i : Int) < (x : Int) := by omega
      have hia : i < ax.length := by rw [HXL.out]; exact hlt
      have hbw : Below w.heap.size w wr := (HBX.out v7 HB07.out).below.trans (HB.out.mono (HBX.out v7 HB07.out).below.size)
      obtain ⟨b1, o1, a, e1, hb1, hc1, HAX⟩ := RdN.at (w := wr) (l := ax) (HXQ.out.below hbw) hia
      have han : a < x := by
        have := HAB.out a (by rw [HAX.out, List.getD_eq_getElem?_getD, List.getElem?_eq_getElem hia]; exact List.getElem_mem _)
        rw [HXL.out] at this; exact this
      have ian : (a : Int) < (x : Int) := by omega
      subst e1
      have q3 : wr.cell? ⟨G, a, none⟩ = some (.int .i64 (((bk ax i).getD a 0 : Nat) : Int)) := cell_row HRW.out (by rw [bk_len, HXL.out]; exact han)
      have z3 : wr.frozen? ⟨G, a, none⟩ = false := free_row HRW.out
      have HE3 := Lib.hid (heap_set wr G a (.int .i64 (i : Int)) _ _ HRW.out)
      obtain ⟨W5, HW5⟩ : ∃ W5, Hid (wr.setCell ⟨G, a, none⟩ (.int .i64 (i : Int)) = W5) := ⟨_, Lib.hid rfl⟩
      have HB5' : Hid (Below v7.heap.size v7 W5) := Lib.hid (by rw [← HW5.out]; exact HB.out.setCell (p := ⟨G, a, none⟩) (by rw [HGG.out]; exact Nat.le_refl _) _)
      have HR5 : Hid (W5.heap[G]? = some (.cells (ixC (bk ax (i + 1))) 3 (0, 0))) := Lib.hid (by
        rw [← HW5.out, HE3.out, ← bk_succ HND.out HAB.out hia, ← HAX.out, ixC_put])
      clear hb1 hbw HAX
      go_wp2_with fail
      rw [HW5.out]
      go_roundw
      case rel => exact ⟨i + 1, by omega, by go_num, HB5', HR5⟩
      case measure => simp [Go.RowKit.intOf]; omega
    · obtain rfl : i = x := by omega
      have ilt : ¬ (i : Int) < (i : Int) := by omega
      have hrow : wr.heap[G]? = some (.cells (ixC (inv ax)) 3 (0, 0)) := by
        have h := HRW.out
        unfold inv; rw [HXL.out]; exact h
      have HRI : Hid (RdN wr (some ⟨G, 0, none⟩) (inv ax)) := Lib.hid (rdn_row hrow HIB.out)
      clear hrow
      have HB4r : Hid (Below X4.heap.size X4 wr) := Lib.hid (HB7.out.trans (HB.out.mono HB7.out.size))
      have HBwr : Hid (Below W0.heap.size W0 wr) := Lib.hid (HE14.out wr HB4r.out).2.2.2
      have H42c : Hid (Calls Tryz.prog 45 #[.agg #[.slice qa3 na3 da3, .slice qb3 nb3 db3], .slice (some ⟨G, 0, none⟩) i i] wr (ArrPost wr 0 s0 l)) := Lib.hid (by
        have := move_all qa3 qb3 (some ⟨G, 0, none⟩) da3 db3 na3 nb3 i i (s2.map Int.ofNat) ((inv ax).map Int.ofNat) l2 wr (HE.out.below (HBX.out wr HBwr.out).below) (Lib.hid (by rw [List.length_map, HNA3.out])) HNB3 (Lib.hid (by rw [List.length_map, inv_len, HXL.out])) (by rw [← HNB3.out]; exact HLE.out.2.2) HX10.out (Nat.le_refl _) (HRA3.out.below (HE14.out wr HB4r.out).2.2.1) (HRB3.out.below (HE14.out wr HB4r.out).2.2.1) HRI.out
        rwa [EB.out] at this)
      obtain ⟨a0, a1⟩ := HEC3.out wr (HE14.out wr HB4r.out).2.2.1
      go_wp2_with fail
      refine (H42c.out).mono ?_
      rintro e v5 ⟨hb2, qa5, qb5, na5, da5, nb5, db5, rfl, hn1, hm1, hr1, hr2⟩
      obtain ⟨E5, HE5⟩ : ∃ E, Hid (E = v5.heap.size) := ⟨_, Lib.hid rfl⟩
      obtain ⟨X5, HX5⟩ : ∃ W, Hid (v5.alloc (.cells #[.slice qa5 na5 da5, .slice qb5 nb5 db5] 25) = W) := ⟨_, Lib.hid rfl⟩
      have hb22 : Below v5.heap.size v5 X5 := by rw [← HX5.out]; exact (Below.refl _ _).alloc (Nat.le_refl _) _
      have HN5 : Hid (Below wr.heap.size wr X5) := Lib.hid (hb2.trans (hb22.mono hb2.size))
      have HBX5 : Hid (Below W0.heap.size W0 X5) := Lib.hid (HBwr.out.trans (HN5.out.mono HBwr.out.size))
      have HBB5 : Hid (X5.heap[E5]? = some (.cells #[.slice qa5 na5 da5, .slice qb5 nb5 db5] 25 (0, 0))) := Lib.hid (by rw [← HX5.out, HE5.out]; exact World.alloc_heap_new _ _)
      have HEC5 : Hid (∀ W, Below X5.heap.size X5 W → W.cell? ⟨E5, 0, none⟩ = some (.slice qa5 na5 da5) ∧ W.cell? ⟨E5, 1, none⟩ = some (.slice qb5 nb5 db5)) := Lib.hid (fun W hW => by
        have h0 := (hW.block E5 (Array.getElem?_eq_some_iff.1 HBB5.out).1).trans HBB5.out
        exact ⟨by simp [World.cell?, h0], by simp [World.cell?, h0]⟩)
      have HRA5 : Hid (RdN X5 qa5 s0) := Lib.hid (hr1.below hb22)
      have HRB5 : Hid (RdS X5 qb5 l) := Lib.hid (hr2.below hb22)
      have HNA5 : Hid (s0.length = na5) := Lib.hid hn1
      have HNB5 : Hid (l.length = nb5) := Lib.hid hm1
      clear hb2 hb22 hr1 hr2 hn1 hm1
      clear a0 a1
      obtain ⟨-, -, b0, b1⟩ := HBX.out X5 HBX5.out
      obtain ⟨a0, a1⟩ := HEC5.out X5 (Below.refl _ _)
      rw [← HX5.out] at a0 a1 b0 b1
      rw [HE5.out] at a0 a1
      have H22c : Hid (Calls Tryz.prog 23 #[.agg #[.slice qa5 na5 da5, .slice qb5 nb5 db5], .int .i64 0, .agg #[.slice p n c, .slice q m d], .int .i64 0] X5 fun e w' => Below X5.heap.size X5 w' ∧ e = .returned (.bool true)) := Lib.hid (by
        have h := (HBX.out X5 HBX5.out).below
        have := agrees_any qa5 qb5 p q da5 db5 c d na5 nb5 n m 0 0 (s0.map Int.ofNat) (s0.map Int.ofNat) l l X5 (Lib.hid (by rw [List.length_map, HNA5.out])) HNB5 hs hl (by rw [← HNA5.out]; exact HSL.out) (by rw [← HNB5.out]; exact HLL.out) HM.out.2 HM.out.1 HRA5.out HRB5.out (HP.out.below h) (HQ.out.below h)
        simpa using this)
      go_wp2_with fail
      rw [HX5.out]
      refine (H22c.out).mono ?_
      rintro e v10 ⟨hb10, rfl⟩
      have HB11 : Hid (Below w.heap.size w v10) := Lib.hid (HBX.out v10 (HBX5.out.trans (hb10.mono HBX5.out.size))).below
      clear hb10 a0 a1 b0 b1
      go_wp2_with fail
      go_ret
      exact ⟨HB11.out, rfl⟩
end Go.Proofs.YtigidchicloleaaGreatDoor.Arr
