/- The law ArraySlabs. -/
import Derived.Test.YtigidchicloleaaGreatDoorHQ
set_option maxHeartbeats 16000000
set_option maxRecDepth 100000
namespace Go.Proofs.YtigidchicloleaaGreatDoor.Arr
open Go.RowKit Go.Shelf
open Go.Lib
attribute [local go_sem] Oper.semAt_some
theorem slV_len (s : List Int) (l : List (List UInt8)) (cuts : List (Int × Int × Int)) : (slV s l cuts).2.1.length ≤ 1000 ∧ (slV s l cuts).2.2.length ≤ 5000 := by
  unfold slV
  by_cases hv : validA s l = false
  · rw [if_pos hv]; exact ⟨by simp, by simp⟩
  rw [if_neg hv]
  by_cases hf : slabOk (s.map Int.toNat) cuts = false
  · rw [if_pos hf]; exact ⟨by simp, by simp⟩
  rw [if_neg hf]
  have hv2 : validA s l = true := by simpa using hv
  have hvs : vs s = true := by unfold validA at hv2; rw [Bool.and_eq_true] at hv2; exact hv2.1
  obtain ⟨s0, rfl, hs0⟩ := vs_yes hvs
  rw [toNat_map] at hf ⊢
  obtain ⟨h1, -, -, h4⟩ := cnts_ok (by simpa using hf) hs0.2.1
  have h5 := hs0.1
  have h6 := hs0.2.2
  exact ⟨by show (cnts cuts).length ≤ 1000; rw [cnts, List.length_map]; omega, by show (sliceV s0 l cuts).length ≤ 5000; rw [sliceV_len]; omega⟩
theorem pstV_len (s t : List Int) (l bl : List (List UInt8)) (cuts : List (Int × Int × Int)) (hl : l.length ≤ 5000) : (pstV s t l bl cuts).2.1.length ≤ 1000 ∧ (pstV s t l bl cuts).2.2.length ≤ 5000 := by
  by_cases h0 : (pstV s t l bl cuts).1 = 0
  · obtain ⟨s0, rfl, hsh, -, -, -, -, e⟩ := pst_zero h0
    rw [e]
    have := hsh.1
    exact ⟨by show s0.length ≤ 1000; omega, by show (pasteV s0 l cuts bl).length ≤ 5000; rw [pasteV_is, pasG_len]; exact hl⟩
  · unfold pstV at h0 ⊢
    split at h0
    · rename_i h; rw [if_pos h]; exact ⟨by simp, by simp⟩
    · rename_i h; rw [if_neg h]
      split at h0
      · rename_i h; rw [if_pos h]; exact ⟨by simp, by simp⟩
      · rename_i h; rw [if_neg h]
        split at h0
        · rename_i h; rw [if_pos h]; exact ⟨by simp, by simp⟩
        · rename_i h; rw [if_neg h]
          split at h0
          · rename_i h; rw [if_pos h]; exact ⟨by simp, by simp⟩
          · exact absurd rfl h0
structure Vs (w W0 : World) (A : Nat) (p q cq p2 q2 : Option Addr) (n c m d k cd n2 c2 m2 d2 : Nat) (W : World) : Prop where
  below : Below w.heap.size w W
  more : Below W0.heap.size W0 W
  fc0 : W.cell? ⟨A, 0, none⟩ = some (.slice p n c)
  fc1 : W.cell? ⟨A, 1, none⟩ = some (.slice q m d)
  fc2 : W.cell? ⟨A, 2, none⟩ = some (.slice cq k cd)
  fc3 : W.cell? ⟨A, 3, none⟩ = some (.slice p2 n2 c2)
  fc4 : W.cell? ⟨A, 4, none⟩ = some (.slice q2 m2 d2)
theorem slabs_law (p q cq p2 q2 : Option Addr) (c d cd c2 d2 n m k n2 m2 : Nat) (s t : List Int) (l bl : List (List UInt8)) (cuts : List (Int × Int × Int)) (w : World) (he : Env w) (hs : Hid (s.length = n)) (hl : Hid (l.length = m)) (hk : Hid (cuts.length = k)) (ht : Hid (t.length = n2)) (hbl : Hid (bl.length = m2)) (hp : Rd w p s) (hq : RdS w q l) (hcq : RdC w cq cuts) (hp2 : Rd w p2 t) (hq2 : RdS w q2 bl) :
    Calls Tryz.prog 4 #[.agg #[.slice p n c, .slice q m d, .slice cq k cd, .slice p2 n2 c2, .slice q2 m2 d2]] w fun e w' => Below w.heap.size w w' ∧ e = .returned (.bool true) := by
  have HP := Lib.hid hp
  have HQ := Lib.hid hq
  have HCQ := Lib.hid hcq
  have HP2 := Lib.hid hp2
  have HQ2 := Lib.hid hq2
  have HE := Lib.hid he
  clear hp hq hcq hp2 hq2 he
  obtain ⟨A, HA⟩ : ∃ A, Hid (A = w.heap.size) := ⟨_, Lib.hid rfl⟩
  obtain ⟨W0, HW0⟩ : ∃ W0, Hid (w.alloc (.cells #[.slice p n c, .slice q m d, .slice cq k cd, .slice p2 n2 c2, .slice q2 m2 d2] 38) = W0) := ⟨_, Lib.hid rfl⟩
  have HB0 : Hid (Below w.heap.size w W0) := Lib.hid (by rw [← HW0.out]; exact (Below.refl _ w).alloc (Nat.le_refl _) _)
  have HX0 : Hid (W0.heap[A]? = some (.cells #[.slice p n c, .slice q m d, .slice cq k cd, .slice p2 n2 c2, .slice q2 m2 d2] 38 (0, 0))) := Lib.hid (by rw [← HW0.out, HA.out]; exact World.alloc_heap_new w _)
  have HBX : Hid (∀ W, Below W0.heap.size W0 W → Vs w W0 A p q cq p2 q2 n c m d k cd n2 c2 m2 d2 W) := Lib.hid (fun W hW => by
    have h0 := (hW.block A (Array.getElem?_eq_some_iff.1 HX0.out).1).trans HX0.out
    exact ⟨HB0.out.trans (hW.mono HB0.out.size), hW, by simp [World.cell?, h0], by simp [World.cell?, h0], by simp [World.cell?, h0], by simp [World.cell?, h0], by simp [World.cell?, h0]⟩)
  have H11 := Lib.hid (wide_any p q c d n m s l W0 hs hl (HQ.out.below HB0.out))
  have H11b : Hid (∀ W, Below W0.heap.size W0 W → Calls Tryz.prog 12 #[.agg #[.slice p2 n2 c2, .slice q2 m2 d2]] W fun e w' => Below W.heap.size W w' ∧ e = .returned (.bool (wideT t bl))) := Lib.hid (fun W hW => wide_any p2 q2 c2 d2 n2 m2 t bl W ht hbl (HQ2.out.below (HBX.out W hW).below))
  have HSANE : Hid (∀ W, Below W0.heap.size W0 W → Calls Tryz.prog 14 #[] W fun e w' => Below W.heap.size W w' ∧ e = .returned (.bool true)) := Lib.hid (fun W hW => sane_any W (HE.out.below (HBX.out W hW).below))
  obtain ⟨b, HWB⟩ : ∃ b, Hid (b = wideT s l) := ⟨_, Lib.hid rfl⟩
  obtain ⟨g, HG⟩ : ∃ g, Hid (g = wideT t bl) := ⟨_, Lib.hid rfl⟩
  rw [← HWB.out] at H11
  rw [← HG.out] at H11b
  by_cases hb : b = true
  · subst hb
    obtain ⟨-, -, b0, b1, b2, b3, b4⟩ := HBX.out W0 (Below.refl _ _)
    go_enter Tryz.func4, Tryz.ntmps4
    go_wp2_with fail
    rw [HW0.out, ← HA.out]
    go_wp2_with fail
    refine (H11.out).mono ?_
    rintro e w1 ⟨hb1, rfl⟩
    have HB1 := Lib.hid hb1
    clear hb1 b0 b1 b2 b3 b4
    obtain ⟨-, -, b0, b1, b2, b3, b4⟩ := HBX.out w1 HB1.out
    go_wp2_with fail
    refine (HSANE.out _ HB1.out).mono ?_
    rintro e w9 ⟨hb9, rfl⟩
    have HB9 := Lib.hid (HBX.out w9 (HB1.out.trans (hb9.mono HB1.out.size))).below
    clear hb9
    go_wp2_with fail
    go_ret
    exact ⟨HB9.out, rfl⟩
  obtain rfl : b = false := by simpa using hb
  by_cases hg : g = true
  · subst hg
    obtain ⟨-, -, b0, b1, b2, b3, b4⟩ := HBX.out W0 (Below.refl _ _)
    go_enter Tryz.func4, Tryz.ntmps4
    go_wp2_with fail
    rw [HW0.out, ← HA.out]
    go_wp2_with fail
    refine (H11.out).mono ?_
    rintro e w1 ⟨hb1, rfl⟩
    have HB1 := Lib.hid hb1
    clear hb1 b0 b1 b2 b3 b4
    obtain ⟨-, -, b0, b1, b2, b3, b4⟩ := HBX.out w1 HB1.out
    go_wp2_with fail
    refine (H11b.out _ HB1.out).mono ?_
    rintro e w2 ⟨hb2, rfl⟩
    have HB2 : Hid (Below W0.heap.size W0 w2) := Lib.hid (HB1.out.trans (hb2.mono HB1.out.size))
    clear hb2 b0 b1 b2 b3 b4
    obtain ⟨-, -, b0, b1, b2, b3, b4⟩ := HBX.out w2 HB2.out
    go_wp2_with fail
    refine (HSANE.out _ HB2.out).mono ?_
    rintro e w9 ⟨hb9, rfl⟩
    have HB9 := Lib.hid (HBX.out w9 (HB2.out.trans (hb9.mono HB2.out.size))).below
    clear hb9
    go_wp2_with fail
    go_ret
    exact ⟨HB9.out, rfl⟩
  obtain rfl : g = false := by simpa using hg
  by_cases hk10 : 10 < k
  · have ik : (10 : Int) < (k : Int) := by omega
    obtain ⟨-, -, b0, b1, b2, b3, b4⟩ := HBX.out W0 (Below.refl _ _)
    go_enter Tryz.func4, Tryz.ntmps4
    go_wp2_with fail
    rw [HW0.out, ← HA.out]
    go_wp2_with fail
    refine (H11.out).mono ?_
    rintro e w1 ⟨hb1, rfl⟩
    have HB1 := Lib.hid hb1
    clear hb1 b0 b1 b2 b3 b4
    obtain ⟨-, -, b0, b1, b2, b3, b4⟩ := HBX.out w1 HB1.out
    go_wp2_with fail
    refine (H11b.out _ HB1.out).mono ?_
    rintro e w2 ⟨hb2, rfl⟩
    have HB2 : Hid (Below W0.heap.size W0 w2) := Lib.hid (HB1.out.trans (hb2.mono HB1.out.size))
    clear hb2 b0 b1 b2 b3 b4
    obtain ⟨-, -, b0, b1, b2, b3, b4⟩ := HBX.out w2 HB2.out
    go_wp2_with fail
    refine (HSANE.out _ HB2.out).mono ?_
    rintro e w9 ⟨hb9, rfl⟩
    have HB9 := Lib.hid (HBX.out w9 (HB2.out.trans (hb9.mono HB2.out.size))).below
    clear hb9
    go_wp2_with fail
    go_ret
    exact ⟨HB9.out, rfl⟩
  have ik : ¬ (10 : Int) < (k : Int) := by omega
  have hm : m ≤ 5000 ∧ n ≤ 1000 := by
    have h : wideT s l = false := HWB.out.symm
    unfold wideT at h
    rw [Bool.or_eq_false_iff, Bool.or_eq_false_iff, decide_eq_false_iff_not, decide_eq_false_iff_not, hl.out, hs.out] at h
    omega
  have hm2 : m2 ≤ 5000 ∧ n2 ≤ 1000 := by
    have h : wideT t bl = false := HG.out.symm
    unfold wideT at h
    rw [Bool.or_eq_false_iff, Bool.or_eq_false_iff, decide_eq_false_iff_not, decide_eq_false_iff_not, hbl.out, ht.out] at h
    omega
  have HM := Lib.hid hm
  have HM2 := Lib.hid hm2
  obtain ⟨z1, HZ1⟩ : ∃ z, Hid (z = (slV s l cuts).1) := ⟨_, Lib.hid rfl⟩
  obtain ⟨s1, HS1⟩ : ∃ z, Hid (z = (slV s l cuts).2.1) := ⟨_, Lib.hid rfl⟩
  obtain ⟨l1, HL1⟩ : ∃ z, Hid (z = (slV s l cuts).2.2) := ⟨_, Lib.hid rfl⟩
  obtain ⟨z2, HZ2⟩ : ∃ z, Hid (z = (pstV s t l bl cuts).1) := ⟨_, Lib.hid rfl⟩
  obtain ⟨s2, HS2⟩ : ∃ z, Hid (z = (pstV s t l bl cuts).2.1) := ⟨_, Lib.hid rfl⟩
  obtain ⟨l2, HL2⟩ : ∃ z, Hid (z = (pstV s t l bl cuts).2.2) := ⟨_, Lib.hid rfl⟩
  have H23 : Hid (∀ W, Below W0.heap.size W0 W → Calls Tryz.prog 24 #[.agg #[.slice p n c, .slice q m d], .slice cq k cd] W (ArrPost W z1 s1 l1)) := Lib.hid (fun W hW => by
    have h := (HBX.out W hW).below
    rw [HZ1.out, HS1.out, HL1.out]; exact slice_ans p q cq c d n m k cd s l cuts W (HE.out.below h) hs hl HM.out.1 hk (HP.out.below h) (HQ.out.below h) (HCQ.out.below h))
  have H24 : Hid (∀ W, Below W0.heap.size W0 W → Calls Tryz.prog 25 #[.agg #[.slice p n c, .slice q m d], .slice cq k cd] W (ArrPost W z1 s1 l1)) := Lib.hid (fun W hW => by
    have h := (HBX.out W hW).below
    rw [HZ1.out, HS1.out, HL1.out]; exact rslice_any p q cq c d n m k cd s l cuts W hs hl HM.out.1 hk (HP.out.below h) (HQ.out.below h) (HCQ.out.below h))
  have H25 : Hid (∀ W, Below W0.heap.size W0 W → Calls Tryz.prog 26 #[.agg #[.slice p n c, .slice q m d], .slice cq k cd, .agg #[.slice p2 n2 c2, .slice q2 m2 d2]] W (ArrPost W z2 s2 l2)) := Lib.hid (fun W hW => by
    have h := (HBX.out W hW).below
    rw [HZ2.out, HS2.out, HL2.out]; exact ppaste_any p q p2 q2 cq c d c2 d2 n m n2 m2 k cd s t l bl cuts W (HE.out.below h) hs hl HM.out.1 ht hbl HM2.out.1 hk (HP.out.below h) (HQ.out.below h) (HP2.out.below h) (HQ2.out.below h) (HCQ.out.below h))
  have H26 : Hid (∀ W, Below W0.heap.size W0 W → Calls Tryz.prog 27 #[.agg #[.slice p n c, .slice q m d], .slice cq k cd, .agg #[.slice p2 n2 c2, .slice q2 m2 d2]] W (ArrPost W z2 s2 l2)) := Lib.hid (fun W hW => by
    have h := (HBX.out W hW).below
    rw [HZ2.out, HS2.out, HL2.out]; exact rpaste_any p q p2 q2 cq c d c2 d2 n m n2 m2 k cd s t l bl cuts W hs hl HM.out.1 ht hbl HM2.out.1 hk (HP.out.below h) (HQ.out.below h) (HP2.out.below h) (HQ2.out.below h) (HCQ.out.below h))
  obtain ⟨hle1, hle2⟩ := slV_len s l cuts
  rw [← HS1.out] at hle1
  rw [← HL1.out] at hle2
  obtain ⟨hle3, hle4⟩ := pstV_len s t l bl cuts (by rw [hl.out]; exact hm.1)
  rw [← HS2.out] at hle3
  rw [← HL2.out] at hle4
  have HLE := Lib.hid (And.intro (And.intro hle1 hle2) (And.intro hle3 hle4))
  clear hle1 hle2 hle3 hle4 hm hm2
  obtain ⟨-, -, b0, b1, b2, b3, b4⟩ := HBX.out W0 (Below.refl _ _)
  go_enter Tryz.func4, Tryz.ntmps4
  go_wp2_with fail
  rw [HW0.out, ← HA.out]
  go_wp2_with fail
  refine (H11.out).mono ?_
  rintro e w1 ⟨hb1, rfl⟩
  have HB1 := Lib.hid hb1
  clear hb1 b0 b1 b2 b3 b4
  obtain ⟨-, -, b0, b1, b2, b3, b4⟩ := HBX.out w1 HB1.out
  go_wp2_with fail
  refine (H11b.out _ HB1.out).mono ?_
  rintro e w2 ⟨hb2, rfl⟩
  have HBw2 : Hid (Below W0.heap.size W0 w2) := Lib.hid (HB1.out.trans (hb2.mono HB1.out.size))
  clear hb2 b0 b1 b2 b3 b4
  obtain ⟨-, -, b0, b1, b2, b3, b4⟩ := HBX.out w2 HBw2.out
  go_wp2_with fail
  refine (H23.out _ HBw2.out).mono ?_
  rintro e v1 ⟨hb2, qa1, qb1, na1, da1, nb1, db1, rfl, hn1, hm1, hr1, hr2⟩
  obtain ⟨E1, HE1⟩ : ∃ E, Hid (E = v1.heap.size) := ⟨_, Lib.hid rfl⟩
  obtain ⟨X1, HX1⟩ : ∃ W, Hid (v1.alloc (.cells #[.slice qa1 na1 da1, .slice qb1 nb1 db1] 25) = W) := ⟨_, Lib.hid rfl⟩
  have hb22 : Below v1.heap.size v1 X1 := by rw [← HX1.out]; exact (Below.refl _ _).alloc (Nat.le_refl _) _
  have HN1 : Hid (Below w2.heap.size w2 X1) := Lib.hid (hb2.trans (hb22.mono hb2.size))
  have HBX1 : Hid (Below W0.heap.size W0 X1) := Lib.hid (HBw2.out.trans (HN1.out.mono HBw2.out.size))
  have HBB1 : Hid (X1.heap[E1]? = some (.cells #[.slice qa1 na1 da1, .slice qb1 nb1 db1] 25 (0, 0))) := Lib.hid (by rw [← HX1.out, HE1.out]; exact World.alloc_heap_new _ _)
  have HEC1 : Hid (∀ W, Below X1.heap.size X1 W → W.cell? ⟨E1, 0, none⟩ = some (.slice qa1 na1 da1) ∧ W.cell? ⟨E1, 1, none⟩ = some (.slice qb1 nb1 db1)) := Lib.hid (fun W hW => by
    have h0 := (hW.block E1 (Array.getElem?_eq_some_iff.1 HBB1.out).1).trans HBB1.out
    exact ⟨by simp [World.cell?, h0], by simp [World.cell?, h0]⟩)
  have HRA1 : Hid (RdN X1 qa1 s1) := Lib.hid (hr1.below hb22)
  have HRB1 : Hid (RdS X1 qb1 l1) := Lib.hid (hr2.below hb22)
  have HNA1 : Hid (s1.length = na1) := Lib.hid hn1
  have HNB1 : Hid (l1.length = nb1) := Lib.hid hm1
  clear hb2 hb22 hr1 hr2 hn1 hm1
  clear b0 b1 b2 b3 b4
  obtain ⟨-, -, b0, b1, b2, b3, b4⟩ := HBX.out X1 HBX1.out
  rw [← HX1.out] at b0 b1 b2 b3 b4
  go_wp2_with fail
  rw [HX1.out, ← HE1.out]
  refine (H24.out _ HBX1.out).mono ?_
  rintro e v2 ⟨hb2, qa2, qb2, na2, da2, nb2, db2, rfl, hn1, hm1, hr1, hr2⟩
  obtain ⟨E2, HE2⟩ : ∃ E, Hid (E = v2.heap.size) := ⟨_, Lib.hid rfl⟩
  obtain ⟨X2, HX2⟩ : ∃ W, Hid (v2.alloc (.cells #[.slice qa2 na2 da2, .slice qb2 nb2 db2] 25) = W) := ⟨_, Lib.hid rfl⟩
  have hb22 : Below v2.heap.size v2 X2 := by rw [← HX2.out]; exact (Below.refl _ _).alloc (Nat.le_refl _) _
  have HN2 : Hid (Below X1.heap.size X1 X2) := Lib.hid (hb2.trans (hb22.mono hb2.size))
  have HBX2 : Hid (Below W0.heap.size W0 X2) := Lib.hid (HBX1.out.trans (HN2.out.mono HBX1.out.size))
  have HBB2 : Hid (X2.heap[E2]? = some (.cells #[.slice qa2 na2 da2, .slice qb2 nb2 db2] 25 (0, 0))) := Lib.hid (by rw [← HX2.out, HE2.out]; exact World.alloc_heap_new _ _)
  have HEC2 : Hid (∀ W, Below X2.heap.size X2 W → W.cell? ⟨E2, 0, none⟩ = some (.slice qa2 na2 da2) ∧ W.cell? ⟨E2, 1, none⟩ = some (.slice qb2 nb2 db2)) := Lib.hid (fun W hW => by
    have h0 := (hW.block E2 (Array.getElem?_eq_some_iff.1 HBB2.out).1).trans HBB2.out
    exact ⟨by simp [World.cell?, h0], by simp [World.cell?, h0]⟩)
  have HRA2 : Hid (RdN X2 qa2 s1) := Lib.hid (hr1.below hb22)
  have HRB2 : Hid (RdS X2 qb2 l1) := Lib.hid (hr2.below hb22)
  have HNA2 : Hid (s1.length = na2) := Lib.hid hn1
  have HNB2 : Hid (l1.length = nb2) := Lib.hid hm1
  clear hb2 hb22 hr1 hr2 hn1 hm1
  clear b0 b1 b2 b3 b4
  obtain ⟨-, -, b0, b1, b2, b3, b4⟩ := HBX.out X2 HBX2.out
  rw [← HX2.out] at b0 b1 b2 b3 b4
  go_wp2_with fail
  rw [HX2.out, ← HE2.out]
  refine (H25.out _ HBX2.out).mono ?_
  rintro e v3 ⟨hb2, qa3, qb3, na3, da3, nb3, db3, rfl, hn1, hm1, hr1, hr2⟩
  obtain ⟨E3, HE3⟩ : ∃ E, Hid (E = v3.heap.size) := ⟨_, Lib.hid rfl⟩
  obtain ⟨X3, HX3⟩ : ∃ W, Hid (v3.alloc (.cells #[.slice qa3 na3 da3, .slice qb3 nb3 db3] 25) = W) := ⟨_, Lib.hid rfl⟩
  have hb22 : Below v3.heap.size v3 X3 := by rw [← HX3.out]; exact (Below.refl _ _).alloc (Nat.le_refl _) _
  have HN3 : Hid (Below X2.heap.size X2 X3) := Lib.hid (hb2.trans (hb22.mono hb2.size))
  have HBX3 : Hid (Below W0.heap.size W0 X3) := Lib.hid (HBX2.out.trans (HN3.out.mono HBX2.out.size))
  have HBB3 : Hid (X3.heap[E3]? = some (.cells #[.slice qa3 na3 da3, .slice qb3 nb3 db3] 25 (0, 0))) := Lib.hid (by rw [← HX3.out, HE3.out]; exact World.alloc_heap_new _ _)
  have HEC3 : Hid (∀ W, Below X3.heap.size X3 W → W.cell? ⟨E3, 0, none⟩ = some (.slice qa3 na3 da3) ∧ W.cell? ⟨E3, 1, none⟩ = some (.slice qb3 nb3 db3)) := Lib.hid (fun W hW => by
    have h0 := (hW.block E3 (Array.getElem?_eq_some_iff.1 HBB3.out).1).trans HBB3.out
    exact ⟨by simp [World.cell?, h0], by simp [World.cell?, h0]⟩)
  have HRA3 : Hid (RdN X3 qa3 s2) := Lib.hid (hr1.below hb22)
  have HRB3 : Hid (RdS X3 qb3 l2) := Lib.hid (hr2.below hb22)
  have HNA3 : Hid (s2.length = na3) := Lib.hid hn1
  have HNB3 : Hid (l2.length = nb3) := Lib.hid hm1
  clear hb2 hb22 hr1 hr2 hn1 hm1
  clear b0 b1 b2 b3 b4
  obtain ⟨-, -, b0, b1, b2, b3, b4⟩ := HBX.out X3 HBX3.out
  rw [← HX3.out] at b0 b1 b2 b3 b4
  go_wp2_with fail
  rw [HX3.out, ← HE3.out]
  refine (H26.out _ HBX3.out).mono ?_
  rintro e v4 ⟨hb2, qa4, qb4, na4, da4, nb4, db4, rfl, hn1, hm1, hr1, hr2⟩
  obtain ⟨E4, HE4⟩ : ∃ E, Hid (E = v4.heap.size) := ⟨_, Lib.hid rfl⟩
  obtain ⟨X4, HX4⟩ : ∃ W, Hid (v4.alloc (.cells #[.slice qa4 na4 da4, .slice qb4 nb4 db4] 25) = W) := ⟨_, Lib.hid rfl⟩
  have hb22 : Below v4.heap.size v4 X4 := by rw [← HX4.out]; exact (Below.refl _ _).alloc (Nat.le_refl _) _
  have HN4 : Hid (Below X3.heap.size X3 X4) := Lib.hid (hb2.trans (hb22.mono hb2.size))
  have HBX4 : Hid (Below W0.heap.size W0 X4) := Lib.hid (HBX3.out.trans (HN4.out.mono HBX3.out.size))
  have HBB4 : Hid (X4.heap[E4]? = some (.cells #[.slice qa4 na4 da4, .slice qb4 nb4 db4] 25 (0, 0))) := Lib.hid (by rw [← HX4.out, HE4.out]; exact World.alloc_heap_new _ _)
  have HEC4 : Hid (∀ W, Below X4.heap.size X4 W → W.cell? ⟨E4, 0, none⟩ = some (.slice qa4 na4 da4) ∧ W.cell? ⟨E4, 1, none⟩ = some (.slice qb4 nb4 db4)) := Lib.hid (fun W hW => by
    have h0 := (hW.block E4 (Array.getElem?_eq_some_iff.1 HBB4.out).1).trans HBB4.out
    exact ⟨by simp [World.cell?, h0], by simp [World.cell?, h0]⟩)
  have HRA4 : Hid (RdN X4 qa4 s2) := Lib.hid (hr1.below hb22)
  have HRB4 : Hid (RdS X4 qb4 l2) := Lib.hid (hr2.below hb22)
  have HNA4 : Hid (s2.length = na4) := Lib.hid hn1
  have HNB4 : Hid (l2.length = nb4) := Lib.hid hm1
  clear hb2 hb22 hr1 hr2 hn1 hm1
  have HC14 : Hid (Below X1.heap.size X1 X4) := Lib.hid ((HN2.out.trans (HN3.out.mono HN2.out.size)).trans (HN4.out.mono (Nat.le_trans HN2.out.size HN3.out.size)))
  have HC24 : Hid (Below X2.heap.size X2 X4) := Lib.hid (HN3.out.trans (HN4.out.mono HN3.out.size))
  have HE14 : Hid (∀ W, Below X4.heap.size X4 W → Below X1.heap.size X1 W ∧ Below X2.heap.size X2 W ∧ Below X3.heap.size X3 W ∧ Below W0.heap.size W0 W) := Lib.hid (fun W hW => ⟨HC14.out.trans (hW.mono HC14.out.size), HC24.out.trans (hW.mono HC24.out.size), HN4.out.trans (hW.mono HN4.out.size), HBX4.out.trans (hW.mono HBX4.out.size)⟩)
  have H22a : Hid (Calls Tryz.prog 23 #[.agg #[.slice qa1 na1 da1, .slice qb1 nb1 db1], .int .i64 z1, .agg #[.slice qa2 na2 da2, .slice qb2 nb2 db2], .int .i64 z1] X4 fun e w' => Below X4.heap.size X4 w' ∧ e = .returned (.bool true)) := Lib.hid (by
    have := agrees_any qa1 qb1 qa2 qb2 da1 db1 da2 db2 na1 nb1 na2 nb2 z1 z1 (s1.map Int.ofNat) (s1.map Int.ofNat) l1 l1 X4 (Lib.hid (by rw [List.length_map, HNA1.out])) HNB1 (Lib.hid (by rw [List.length_map, HNA2.out])) HNB2 (by rw [← HNA1.out]; exact HLE.out.1.1) (by rw [← HNB1.out]; exact HLE.out.1.2) (by rw [← HNA2.out]; exact HLE.out.1.1) (by rw [← HNB2.out]; exact HLE.out.1.2) (HRA1.out.below HC14.out) (HRB1.out.below HC14.out) (HRA2.out.below HC24.out) (HRB2.out.below HC24.out)
    simpa using this)
  have H22b : Hid (∀ W, Below X4.heap.size X4 W → Calls Tryz.prog 23 #[.agg #[.slice qa3 na3 da3, .slice qb3 nb3 db3], .int .i64 z2, .agg #[.slice qa4 na4 da4, .slice qb4 nb4 db4], .int .i64 z2] W fun e w' => Below W.heap.size W w' ∧ e = .returned (.bool true)) := Lib.hid (fun W hW => by
    have := agrees_any qa3 qb3 qa4 qb4 da3 db3 da4 db4 na3 nb3 na4 nb4 z2 z2 (s2.map Int.ofNat) (s2.map Int.ofNat) l2 l2 W (Lib.hid (by rw [List.length_map, HNA3.out])) HNB3 (Lib.hid (by rw [List.length_map, HNA4.out])) HNB4 (by rw [← HNA3.out]; exact HLE.out.2.1) (by rw [← HNB3.out]; exact HLE.out.2.2) (by rw [← HNA4.out]; exact HLE.out.2.1) (by rw [← HNB4.out]; exact HLE.out.2.2) (HRA3.out.below (HE14.out W hW).2.2.1) (HRB3.out.below (HE14.out W hW).2.2.1) (HRA4.out.below hW) (HRB4.out.below hW)
    simpa using this)
  clear b0 b1 b2 b3 b4
  obtain ⟨a0, a1⟩ := HEC1.out X4 HC14.out
  obtain ⟨a2, a3⟩ := HEC2.out X4 HC24.out
  rw [← HX4.out] at a0 a1 a2 a3
  go_wp2_with fail
  rw [HX4.out, ← HE4.out]
  refine (H22a.out).mono ?_
  rintro e v5 ⟨hb5, rfl⟩
  have HB5 := Lib.hid hb5
  clear hb5 a0 a1 a2 a3
  obtain ⟨a0, a1⟩ := HEC3.out v5 (HE14.out v5 HB5.out).2.2.1
  obtain ⟨a2, a3⟩ := HEC4.out v5 HB5.out
  go_wp2_with fail
  refine (H22b.out _ HB5.out).mono ?_
  rintro e v6 ⟨hb6, rfl⟩
  have HB6 : Hid (Below X4.heap.size X4 v6) := Lib.hid (HB5.out.trans (hb6.mono HB5.out.size))
  clear hb6 a0 a1 a2 a3
  go_wp2_with fail
  refine (HSANE.out _ (HE14.out _ HB6.out).2.2.2).mono ?_
  rintro e v7 ⟨hb7, rfl⟩
  have HB7 : Hid (Below X4.heap.size X4 v7) := Lib.hid (HB6.out.trans (hb7.mono HB6.out.size))
  clear hb7
  by_cases hz : z2 = 0
  case neg =>
    have HF7 := Lib.hid (HBX.out v7 (HE14.out v7 HB7.out).2.2.2).below
    have hzb : (z2 == 0) = false := by rw [beq_eq_false_iff_ne]; exact hz
    go_wp2_with fail
    go_ret
    exact ⟨HF7.out, rfl⟩
  have hz0 : (pstV s t l bl cuts).1 = 0 := by rw [← HZ2.out]; exact hz
  obtain ⟨s0, rfl, hsh, hva, hvb, hsl, rfl, epst⟩ := pst_zero hz0
  obtain rfl : s2 = s0 := by rw [HS2.out, epst]
  have el2 : l2 = pasteV s2 l cuts bl := by rw [HL2.out, epst]
  have esl : slV (s2.map Int.ofNat) l cuts = (0, cnts cuts, sliceV s2 l cuts) := by unfold slV; rw [if_neg (by rw [hva]; simp), toNat_map, if_neg (by rw [hsl]; simp)]
  have es1 : s1 = cnts cuts := by rw [HS1.out, esl]
  have el1 : l1 = sliceV s2 l cuts := by rw [HL1.out, esl]
  have hll : l.length = prod s2 := by
    unfold validA at hva
    rw [Bool.and_eq_true, Bool.and_eq_true, decide_eq_true_eq, toNat_map] at hva
    exact hva.2.1
  have hbb : bl.length = prod (cnts cuts) := by
    unfold validA at hvb
    rw [Bool.and_eq_true, Bool.and_eq_true, decide_eq_true_eq, toNat_map] at hvb
    exact hvb.2.1
  have hvp : validA (s2.map Int.ofNat) l2 = true := by rw [el2]; exact valid_paste hva hvb
  have hvl : validA ((cnts cuts).map Int.ofNat) l1 = true := by rw [el1]; exact valid_slice hsh hsl hva
  have EB : Hid (slV (s2.map Int.ofNat) l2 cuts = (0, cnts cuts, bl)) := Lib.hid (by
    unfold slV; rw [if_neg (by rw [hvp]; simp), toNat_map, if_neg (by rw [hsl]; simp), el2, slice_paste hsh hsl hll hbb])
  have EO : Hid (pstV (s2.map Int.ofNat) (s1.map Int.ofNat) l2 l1 cuts = (0, s2, l)) := Lib.hid (by
    unfold pstV; rw [if_neg (by rw [hvp]; simp), es1, if_neg (by rw [hvl]; simp), toNat_map, if_neg (by rw [hsl]; simp), if_neg (by simp), el2, el1, paste_back hsh hsl hll])
  have H23c : Hid (∀ W, Below X3.heap.size X3 W → Below W0.heap.size W0 W → Calls Tryz.prog 24 #[.agg #[.slice qa3 na3 da3, .slice qb3 nb3 db3], .slice cq k cd] W (ArrPost W 0 (cnts cuts) bl)) := Lib.hid (fun W hW hW0 => by
    have h := (HBX.out W hW0).below
    have := slice_ans qa3 qb3 cq da3 db3 na3 nb3 k cd (s2.map Int.ofNat) l2 cuts W (HE.out.below h) (Lib.hid (by rw [List.length_map, HNA3.out])) HNB3 (by rw [← HNB3.out]; exact HLE.out.2.2) hk (HRA3.out.below hW) (HRB3.out.below hW) (HCQ.out.below h)
    rwa [EB.out] at this)
  have H25c : Hid (∀ W, Below X1.heap.size X1 W → Below X3.heap.size X3 W → Below W0.heap.size W0 W → Calls Tryz.prog 26 #[.agg #[.slice qa3 na3 da3, .slice qb3 nb3 db3], .slice cq k cd, .agg #[.slice qa1 na1 da1, .slice qb1 nb1 db1]] W (ArrPost W 0 s2 l)) := Lib.hid (fun W hW1 hW hW0 => by
    have h := (HBX.out W hW0).below
    have := ppaste_any qa3 qb3 qa1 qb1 cq da3 db3 da1 db1 na3 nb3 na1 nb1 k cd (s2.map Int.ofNat) (s1.map Int.ofNat) l2 l1 cuts W (HE.out.below h) (Lib.hid (by rw [List.length_map, HNA3.out])) HNB3 (by rw [← HNB3.out]; exact HLE.out.2.2) (Lib.hid (by rw [List.length_map, HNA1.out])) HNB1 (by rw [← HNB1.out]; exact HLE.out.1.2) hk (HRA3.out.below hW) (HRB3.out.below hW) (HRA1.out.below hW1) (HRB1.out.below hW1) (HCQ.out.below h)
    rwa [EO.out] at this)
  have HCL : Hid ((cnts cuts).length ≤ 1000) := Lib.hid (by rw [← es1]; exact HLE.out.1.1)
  subst hz
  clear hz0 hsh hva hvb hsl epst el2 esl es1 el1 hll hbb hvp hvl
  have HB07 : Hid (Below W0.heap.size W0 v7) := Lib.hid (HE14.out v7 HB7.out).2.2.2
  have HBv7 := HB07
  obtain ⟨-, -, b0, b1, b2, b3, b4⟩ := HBX.out v7 HB07.out
  obtain ⟨a0, a1⟩ := HEC3.out v7 (HE14.out v7 HB7.out).2.2.1
  go_wp2_with fail
  refine (H23c.out _ (HE14.out v7 HB7.out).2.2.1 HB07.out).mono ?_
  rintro e v8 ⟨hb2, qa8, qb8, na8, da8, nb8, db8, rfl, hn1, hm1, hr1, hr2⟩
  obtain ⟨E8, HE8⟩ : ∃ E, Hid (E = v8.heap.size) := ⟨_, Lib.hid rfl⟩
  obtain ⟨X8, HX8⟩ : ∃ W, Hid (v8.alloc (.cells #[.slice qa8 na8 da8, .slice qb8 nb8 db8] 25) = W) := ⟨_, Lib.hid rfl⟩
  have hb22 : Below v8.heap.size v8 X8 := by rw [← HX8.out]; exact (Below.refl _ _).alloc (Nat.le_refl _) _
  have HN8 : Hid (Below v7.heap.size v7 X8) := Lib.hid (hb2.trans (hb22.mono hb2.size))
  have HBX8 : Hid (Below W0.heap.size W0 X8) := Lib.hid (HBv7.out.trans (HN8.out.mono HBv7.out.size))
  have HBB8 : Hid (X8.heap[E8]? = some (.cells #[.slice qa8 na8 da8, .slice qb8 nb8 db8] 25 (0, 0))) := Lib.hid (by rw [← HX8.out, HE8.out]; exact World.alloc_heap_new _ _)
  have HEC8 : Hid (∀ W, Below X8.heap.size X8 W → W.cell? ⟨E8, 0, none⟩ = some (.slice qa8 na8 da8) ∧ W.cell? ⟨E8, 1, none⟩ = some (.slice qb8 nb8 db8)) := Lib.hid (fun W hW => by
    have h0 := (hW.block E8 (Array.getElem?_eq_some_iff.1 HBB8.out).1).trans HBB8.out
    exact ⟨by simp [World.cell?, h0], by simp [World.cell?, h0]⟩)
  have HRA8 : Hid (RdN X8 qa8 (cnts cuts)) := Lib.hid (hr1.below hb22)
  have HRB8 : Hid (RdS X8 qb8 bl) := Lib.hid (hr2.below hb22)
  have HNA8 : Hid ((cnts cuts).length = na8) := Lib.hid hn1
  have HNB8 : Hid (bl.length = nb8) := Lib.hid hm1
  clear hb2 hb22 hr1 hr2 hn1 hm1
  have HB48 : Hid (Below X4.heap.size X4 X8) := Lib.hid (HB7.out.trans (HN8.out.mono HB7.out.size))
  clear a0 a1
  clear b0 b1 b2 b3 b4
  obtain ⟨-, -, b0, b1, b2, b3, b4⟩ := HBX.out X8 HBX8.out
  rw [← HX8.out] at b0 b1 b2 b3 b4
  obtain ⟨a0, a1⟩ := HEC3.out X8 (HE14.out X8 HB48.out).2.2.1
  obtain ⟨a2, a3⟩ := HEC1.out X8 (HE14.out X8 HB48.out).1
  rw [← HX8.out] at a0 a1 a2 a3
  go_wp2_with fail
  rw [HX8.out, ← HE8.out]
  refine (H25c.out _ (HE14.out X8 HB48.out).1 (HE14.out X8 HB48.out).2.2.1 HBX8.out).mono ?_
  rintro e v9 ⟨hb2, qa9, qb9, na9, da9, nb9, db9, rfl, hn1, hm1, hr1, hr2⟩
  obtain ⟨E9, HE9⟩ : ∃ E, Hid (E = v9.heap.size) := ⟨_, Lib.hid rfl⟩
  obtain ⟨X9, HX9⟩ : ∃ W, Hid (v9.alloc (.cells #[.slice qa9 na9 da9, .slice qb9 nb9 db9] 25) = W) := ⟨_, Lib.hid rfl⟩
  have hb22 : Below v9.heap.size v9 X9 := by rw [← HX9.out]; exact (Below.refl _ _).alloc (Nat.le_refl _) _
  have HN9 : Hid (Below X8.heap.size X8 X9) := Lib.hid (hb2.trans (hb22.mono hb2.size))
  have HBX9 : Hid (Below W0.heap.size W0 X9) := Lib.hid (HBX8.out.trans (HN9.out.mono HBX8.out.size))
  have HBB9 : Hid (X9.heap[E9]? = some (.cells #[.slice qa9 na9 da9, .slice qb9 nb9 db9] 25 (0, 0))) := Lib.hid (by rw [← HX9.out, HE9.out]; exact World.alloc_heap_new _ _)
  have HEC9 : Hid (∀ W, Below X9.heap.size X9 W → W.cell? ⟨E9, 0, none⟩ = some (.slice qa9 na9 da9) ∧ W.cell? ⟨E9, 1, none⟩ = some (.slice qb9 nb9 db9)) := Lib.hid (fun W hW => by
    have h0 := (hW.block E9 (Array.getElem?_eq_some_iff.1 HBB9.out).1).trans HBB9.out
    exact ⟨by simp [World.cell?, h0], by simp [World.cell?, h0]⟩)
  have HRA9 : Hid (RdN X9 qa9 s2) := Lib.hid (hr1.below hb22)
  have HRB9 : Hid (RdS X9 qb9 l) := Lib.hid (hr2.below hb22)
  have HNA9 : Hid (s2.length = na9) := Lib.hid hn1
  have HNB9 : Hid (l.length = nb9) := Lib.hid hm1
  clear hb2 hb22 hr1 hr2 hn1 hm1
  clear a0 a1 a2 a3
  have H22c : Hid (Calls Tryz.prog 23 #[.agg #[.slice qa8 na8 da8, .slice qb8 nb8 db8], .int .i64 0, .agg #[.slice p2 n2 c2, .slice q2 m2 d2], .int .i64 0] X9 fun e w' => Below X9.heap.size X9 w' ∧ e = .returned (.bool true)) := Lib.hid (by
    have h := (HBX.out X9 HBX9.out).below
    have := agrees_any qa8 qb8 p2 q2 da8 db8 c2 d2 na8 nb8 n2 m2 0 0 ((cnts cuts).map Int.ofNat) ((cnts cuts).map Int.ofNat) bl bl X9 (Lib.hid (by rw [List.length_map, HNA8.out])) HNB8 ht hbl (by rw [← HNA8.out]; exact HCL.out) (by rw [← HNB8.out, hbl.out]; exact HM2.out.1) HM2.out.2 HM2.out.1 (HRA8.out.below HN9.out) (HRB8.out.below HN9.out) (HP2.out.below h) (HQ2.out.below h)
    simpa using this)
  have H22d : Hid (∀ W, Below X9.heap.size X9 W → Calls Tryz.prog 23 #[.agg #[.slice qa9 na9 da9, .slice qb9 nb9 db9], .int .i64 0, .agg #[.slice p n c, .slice q m d], .int .i64 0] W fun e w' => Below W.heap.size W w' ∧ e = .returned (.bool true)) := Lib.hid (fun W hW => by
    have h := (HBX.out W (HBX9.out.trans (hW.mono HBX9.out.size))).below
    have := agrees_any qa9 qb9 p q da9 db9 c d na9 nb9 n m 0 0 (s2.map Int.ofNat) (s2.map Int.ofNat) l l W (Lib.hid (by rw [List.length_map, HNA9.out])) HNB9 hs hl (by rw [← HNA9.out]; exact HLE.out.2.1) (by rw [← HNB9.out, hl.out]; exact HM.out.1) HM.out.2 HM.out.1 (HRA9.out.below hW) (HRB9.out.below hW) (HP.out.below h) (HQ.out.below h)
    simpa using this)
  clear b0 b1 b2 b3 b4
  obtain ⟨-, -, b0, b1, b2, b3, b4⟩ := HBX.out X9 HBX9.out
  rw [← HX9.out] at b0 b1 b2 b3 b4
  obtain ⟨a0, a1⟩ := HEC8.out X9 HN9.out
  rw [← HX9.out] at a0 a1
  go_wp2_with fail
  rw [HX9.out, ← HE9.out]
  refine (H22c.out).mono ?_
  rintro e v10 ⟨hb10, rfl⟩
  have HB10 := Lib.hid hb10
  clear hb10 a0 a1 b0 b1 b2 b3 b4
  obtain ⟨a0, a1⟩ := HEC9.out v10 HB10.out
  obtain ⟨-, -, b0, b1, b2, b3, b4⟩ := HBX.out v10 (HBX9.out.trans (HB10.out.mono HBX9.out.size))
  go_wp2_with fail
  refine (H22d.out _ HB10.out).mono ?_
  rintro e v11 ⟨hb11, rfl⟩
  have HB11 : Hid (Below w.heap.size w v11) := Lib.hid (HBX.out v11 (HBX9.out.trans ((HB10.out.trans (hb11.mono HB10.out.size)).mono HBX9.out.size))).below
  clear hb11
  go_wp2_with fail
  go_ret
  exact ⟨HB11.out, rfl⟩
end Go.Proofs.YtigidchicloleaaGreatDoor.Arr
