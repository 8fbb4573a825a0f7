/- The law ArrayValid. -/
import Derived.Test.YtigidchicloleaaGreatDoorHE
set_option maxHeartbeats 8000000
set_option maxRecDepth 100000
namespace Go.Proofs.YtigidchicloleaaGreatDoor.Arr
open Go.RowKit Go.Shelf
open Go.Lib
attribute [local go_sem] Oper.semAt_some
theorem fillV_len (s : List Int) (v : List UInt8) : (fillV s v).2.1.length ≤ 1000 ∧ (fillV s v).2.2.length ≤ 5000 := by
  unfold fillV
  split
  · exact ⟨by simp, by simp⟩
  · split
    · exact ⟨by simp, by simp⟩
    · rename_i h1 _
      have h2 : vs s = true := by simpa using h1
      obtain ⟨m, rfl, hm⟩ := vs_yes h2
      rw [toNat_map]
      have h3 := hm.1
      have h4 := hm.2.2
      exact ⟨by show m.length ≤ 1000; omega, by show (List.replicate _ _).length ≤ 5000; rw [List.length_replicate]; omega⟩
structure Vx (w W0 : World) (A : Nat) (p q : Option Addr) (n c m d : Nat) (W : World) : Prop where
  below : Below w.heap.size w W
  more : Below W0.heap.size W0 W
  c0 : W.cell? ⟨A, 0, none⟩ = some (.slice p n c)
  c1 : W.cell? ⟨A, 1, none⟩ = some (.slice q m d)
theorem valid_law (p q r : Option Addr) (c d f n m k : Nat) (s ix : List Int) (l : List (List UInt8)) (v : List UInt8) (w : World) (he : Env w) (hs : Hid (s.length = n)) (hl : Hid (l.length = m)) (hk : Hid (ix.length = k)) (hp : Rd w p s) (hq : RdS w q l) (hr : Rd w r ix) :
    Calls Tryz.prog 3 #[.agg #[.slice p n c, .slice q m d], .string ⟨List.toArray v⟩, .slice r k f] w fun e w' => Below w.heap.size w w' ∧ e = .returned (.bool true) := by
  have HP := Lib.hid hp
  have HQ := Lib.hid hq
  have HR := Lib.hid hr
  have HE := Lib.hid he
  clear hp hq hr he
  obtain ⟨A, HA⟩ : ∃ A, Hid (A = w.heap.size) := ⟨_, Lib.hid rfl⟩
  obtain ⟨W0, HW0⟩ : ∃ W0, Hid (w.alloc (.cells #[.slice p n c, .slice q m d] 25) = W0) := ⟨_, Lib.hid rfl⟩
  have HB0 : Hid (Below w.heap.size w W0) := Lib.hid (by rw [← HW0.out]; exact (Below.refl _ w).alloc (Nat.le_refl _) _)
  have HX0 : Hid (W0.heap[A]? = some (.cells #[.slice p n c, .slice q m d] 25 (0, 0))) := Lib.hid (by rw [← HW0.out, HA.out]; exact World.alloc_heap_new w _)
  have HBX : Hid (∀ W, Below W0.heap.size W0 W → Vx w W0 A p q n c m d W) := Lib.hid (fun W hW => by
    have h0 := (hW.block A (Array.getElem?_eq_some_iff.1 HX0.out).1).trans HX0.out
    exact ⟨HB0.out.trans (hW.mono HB0.out.size), hW, by simp [World.cell?, h0], by simp [World.cell?, h0]⟩)
  have H11 := Lib.hid (wide_any p q c d n m s l W0 hs hl (HQ.out.below HB0.out))
  have H12 : Hid (∀ W, Below W0.heap.size W0 W → Calls Tryz.prog 13 #[.slice p n c] W fun e w' => W = w' ∧ e = .returned (.bool (bigT s))) := Lib.hid (fun W hW => big_any p c n s W hs (HP.out.below (HBX.out W hW).below))
  have HSANE : Hid (∀ W, Below W0.heap.size W0 W → Calls Tryz.prog 14 #[] W fun e w' => Below W0.heap.size W0 w' ∧ e = .returned (.bool true)) := Lib.hid (fun W hW =>
    (sane_any W (HE.out.below (HBX.out W hW).below)).mono (fun e w' h => ⟨hW.trans (h.1.mono hW.size), h.2⟩))
  obtain ⟨b, HWB⟩ : ∃ b, Hid (b = wideT s l) := ⟨_, Lib.hid rfl⟩
  obtain ⟨g, HG⟩ : ∃ g, Hid (g = bigT s) := ⟨_, Lib.hid rfl⟩
  rw [← HWB.out] at H11
  rw [← HG.out] at H12
  by_cases hb : b = true
  · subst hb
    obtain ⟨-, -, b0, b1⟩ := HBX.out W0 (Below.refl _ _)
    go_enter Tryz.func3, Tryz.ntmps3
    go_wp2_with fail
    rw [HW0.out, ← HA.out]
    go_wp2_with fail
    refine (H11.out).mono ?_
    rintro e w1 ⟨hb1, rfl⟩
    have HB1 := Lib.hid hb1
    clear hb1
    obtain ⟨-, -, b0, b1⟩ := HBX.out w1 HB1.out
    go_wp2_with fail
    refine (HSANE.out _ HB1.out).mono ?_
    rintro e w2 ⟨hb2, rfl⟩
    have HB2 := Lib.hid (HBX.out w2 hb2).below
    clear hb2
    go_wp2_with fail
    go_ret
    exact ⟨HB2.out, rfl⟩
  obtain rfl : b = false := by simpa using hb
  by_cases hg : g = true
  · subst hg
    obtain ⟨-, -, b0, b1⟩ := HBX.out W0 (Below.refl _ _)
    go_enter Tryz.func3, Tryz.ntmps3
    go_wp2_with fail
    rw [HW0.out, ← HA.out]
    go_wp2_with fail
    refine (H11.out).mono ?_
    rintro e w1 ⟨hb1, rfl⟩
    have HB1 := Lib.hid hb1
    clear hb1
    obtain ⟨-, -, b0, b1⟩ := HBX.out w1 HB1.out
    go_wp2_with fail
    refine (H12.out _ HB1.out).mono ?_
    rintro e w1' ⟨rfl, rfl⟩
    go_wp2_with fail
    refine (HSANE.out _ HB1.out).mono ?_
    rintro e w2 ⟨hb2, rfl⟩
    have HB2 := Lib.hid (HBX.out w2 hb2).below
    clear hb2
    go_wp2_with fail
    go_ret
    exact ⟨HB2.out, rfl⟩
  obtain rfl : g = false := by simpa using hg
  by_cases hk10 : 10 < k
  · have ik : (10 : Int) < (k : Int) := by omega
    obtain ⟨-, -, b0, b1⟩ := HBX.out W0 (Below.refl _ _)
    go_enter Tryz.func3, Tryz.ntmps3
    go_wp2_with fail
    rw [HW0.out, ← HA.out]
    go_wp2_with fail
    refine (H11.out).mono ?_
    rintro e w1 ⟨hb1, rfl⟩
    have HB1 := Lib.hid hb1
    clear hb1
    obtain ⟨-, -, b0, b1⟩ := HBX.out w1 HB1.out
    go_wp2_with fail
    refine (H12.out _ HB1.out).mono ?_
    rintro e w1' ⟨rfl, rfl⟩
    go_wp2_with fail
    refine (HSANE.out _ HB1.out).mono ?_
    rintro e w2 ⟨hb2, rfl⟩
    have HB2 := Lib.hid (HBX.out w2 hb2).below
    clear hb2
    go_wp2_with fail
    go_ret
    exact ⟨HB2.out, rfl⟩
  have ik : ¬ (10 : Int) < (k : Int) := by omega
  by_cases hv200 : 200 < v.length
  · have iv : (200 : Int) < (v.length : Int) := by omega
    obtain ⟨-, -, b0, b1⟩ := HBX.out W0 (Below.refl _ _)
    go_enter Tryz.func3, Tryz.ntmps3
    go_wp2_with fail
    rw [HW0.out, ← HA.out]
    go_wp2_with fail
    refine (H11.out).mono ?_
    rintro e w1 ⟨hb1, rfl⟩
    have HB1 := Lib.hid hb1
    clear hb1
    obtain ⟨-, -, b0, b1⟩ := HBX.out w1 HB1.out
    go_wp2_with fail
    refine (H12.out _ HB1.out).mono ?_
    rintro e w1' ⟨rfl, rfl⟩
    go_wp2_with fail
    refine (HSANE.out _ HB1.out).mono ?_
    rintro e w2 ⟨hb2, rfl⟩
    have HB2 := Lib.hid (HBX.out w2 hb2).below
    clear hb2
    go_wp2_with fail
    go_ret
    exact ⟨HB2.out, rfl⟩
  have iv : ¬ (200 : Int) < (v.length : Int) := by omega
  have hm : m ≤ 5000 := by
    have h : wideT s l = false := HWB.out.symm
    unfold wideT at h
    rw [Bool.or_eq_false_iff, Bool.or_eq_false_iff, decide_eq_false_iff_not, decide_eq_false_iff_not, hl.out] at h
    omega
  obtain ⟨z1, HZ1⟩ : ∃ z, Hid (z = (fillV s v).1) := ⟨_, Lib.hid rfl⟩
  obtain ⟨s1, HS1⟩ : ∃ z, Hid (z = (fillV s v).2.1) := ⟨_, Lib.hid rfl⟩
  obtain ⟨l1, HL1⟩ : ∃ z, Hid (z = (fillV s v).2.2) := ⟨_, Lib.hid rfl⟩
  obtain ⟨t1, HT1⟩ : ∃ z, Hid (z = (atV s l ix).1) := ⟨_, Lib.hid rfl⟩
  obtain ⟨z2, HZ2⟩ : ∃ z, Hid (z = (atV s l ix).2) := ⟨_, Lib.hid rfl⟩
  have H14 : Hid (∀ W, Below W0.heap.size W0 W → Calls Tryz.prog 15 #[.slice p n c, .string ⟨List.toArray v⟩] W (ArrPost W z1 s1 l1)) := Lib.hid (fun W hW => by
    rw [HZ1.out, HS1.out, HL1.out]; exact fill_any p c n s v W (HE.out.below (HBX.out W hW).below) hs (HP.out.below (HBX.out W hW).below))
  have H15 : Hid (∀ W, Below W0.heap.size W0 W → Calls Tryz.prog 16 #[.slice p n c, .string ⟨List.toArray v⟩] W (ArrPost W z1 s1 l1)) := Lib.hid (fun W hW => by
    rw [HZ1.out, HS1.out, HL1.out]; exact rfill_any p c n s v W hs (HP.out.below (HBX.out W hW).below))
  have H16 : Hid (∀ W, Below W0.heap.size W0 W → Calls Tryz.prog 17 #[.agg #[.slice p n c, .slice q m d], .slice r k f] W fun e w' => Below W.heap.size W w' ∧ e = .returned (.tuple #[.string ⟨List.toArray t1⟩, .int .i64 z2])) := Lib.hid (fun W hW => by
    have h := (HBX.out W hW).below
    rw [HT1.out, HZ2.out]; exact at_any p q r c d f n m k s ix l W (HE.out.below h) hs hl hk hm (HP.out.below h) (HQ.out.below h) (HR.out.below h))
  have H17 : Hid (∀ W, Below W0.heap.size W0 W → Calls Tryz.prog 18 #[.agg #[.slice p n c, .slice q m d], .slice r k f] W fun e w' => Below W.heap.size W w' ∧ e = .returned (.tuple #[.string ⟨List.toArray t1⟩, .int .i64 z2])) := Lib.hid (fun W hW => by
    have h := (HBX.out W hW).below
    rw [HT1.out, HZ2.out]; exact rat_any p q r c d f n m k s ix l W hs hl hk hm (HP.out.below h) (HQ.out.below h) (HR.out.below h))
  obtain ⟨hle1, hle2⟩ := fillV_len s v
  rw [← HS1.out] at hle1
  rw [← HL1.out] at hle2
  have HLE := Lib.hid (And.intro hle1 hle2)
  clear hle1 hle2
  obtain ⟨uv, HUV⟩ : ∃ z, Hid (z = vs s) := ⟨_, Lib.hid rfl⟩
  obtain ⟨ua, HUA⟩ : ∃ z, Hid (z = validA s l) := ⟨_, Lib.hid rfl⟩
  have H18 : Hid (∀ W, Below W0.heap.size W0 W → Calls Tryz.prog 19 #[.slice p n c] W fun e w' => W = w' ∧ e = .returned (.bool uv)) := Lib.hid (fun W hW => by
    have := vshape_any p c s W (HP.out.below (HBX.out W hW).below)
    rw [HUV.out]; rwa [hs.out] at this)
  have H19 : Hid (∀ W, Below W0.heap.size W0 W → Calls Tryz.prog 20 #[.slice p n c] W fun e w' => W = w' ∧ e = .returned (.bool uv)) := Lib.hid (fun W hW => by
    have := rvshape_any p c s W (HP.out.below (HBX.out W hW).below)
    rw [HUV.out]; rwa [hs.out] at this)
  have H20 : Hid (∀ W, Below W0.heap.size W0 W → Calls Tryz.prog 21 #[.agg #[.slice p n c, .slice q m d]] W fun e w' => Below W.heap.size W w' ∧ e = .returned (.bool ua)) := Lib.hid (fun W hW => by
    have h := (HBX.out W hW).below
    rw [HUA.out]; exact valid_any p q c d n m s l W (HE.out.below h) hs hl hm (HP.out.below h) (HQ.out.below h))
  have H21 : Hid (∀ W, Below W0.heap.size W0 W → Calls Tryz.prog 22 #[.agg #[.slice p n c, .slice q m d]] W fun e w' => Below W.heap.size W w' ∧ e = .returned (.bool ua)) := Lib.hid (fun W hW => by
    have h := (HBX.out W hW).below
    rw [HUA.out]; exact rvalidA_any p q c d n m s l W hs hl hm (HP.out.below h) (HQ.out.below h))
  have HSAN2 : Hid (∀ W, Below W0.heap.size W0 W → Calls Tryz.prog 14 #[] W fun e w' => Below W.heap.size W w' ∧ e = .returned (.bool true)) := Lib.hid (fun W hW => sane_any W (HE.out.below (HBX.out W hW).below))
  obtain ⟨-, -, b0, b1⟩ := HBX.out W0 (Below.refl _ _)
  go_enter Tryz.func3, Tryz.ntmps3
  go_wp2_with fail
  rw [HW0.out, ← HA.out]
  go_wp2_with fail
  refine (H11.out).mono ?_
  rintro e w1 ⟨hb1, rfl⟩
  have HB1 := Lib.hid hb1
  clear hb1
  obtain ⟨-, -, b0, b1⟩ := HBX.out w1 HB1.out
  go_wp2_with fail
  refine (H12.out _ HB1.out).mono ?_
  rintro e w1' ⟨rfl, rfl⟩
  go_wp2_with fail
  refine (H14.out _ HB1.out).mono ?_
  rintro e w2 ⟨hb2, q1, q2, n1, d1, m1, d2, rfl, hn1, hm1, hr1, hr2⟩
  obtain ⟨E1, HE1⟩ : ∃ E, Hid (E = w2.heap.size) := ⟨_, Lib.hid rfl⟩
  obtain ⟨W2, HW2⟩ : ∃ W, Hid (w2.alloc (.cells #[.slice q1 n1 d1, .slice q2 m1 d2] 25) = W) := ⟨_, Lib.hid rfl⟩
  have hb22 : Below w2.heap.size w2 W2 := by rw [← HW2.out]; exact (Below.refl _ _).alloc (Nat.le_refl _) _
  have HB2 : Hid (Below W0.heap.size W0 W2) := Lib.hid ((HB1.out.trans (hb2.mono HB1.out.size)).trans (hb22.mono (Nat.le_trans HB1.out.size hb2.size)))
  have HX2 : Hid (W2.heap[E1]? = some (.cells #[.slice q1 n1 d1, .slice q2 m1 d2] 25 (0, 0))) := Lib.hid (by rw [← HW2.out, HE1.out]; exact World.alloc_heap_new _ _)
  have HR1 : Hid (RdN W2 q1 s1) := Lib.hid (hr1.below hb22)
  have HR2 : Hid (RdS W2 q2 l1) := Lib.hid (hr2.below hb22)
  have HN1 := Lib.hid hn1
  have HM1 := Lib.hid hm1
  clear hb2 hb22 hr1 hr2 hn1 hm1 b0 b1
  obtain ⟨-, -, b0, b1⟩ := HBX.out W2 HB2.out
  rw [← HW2.out] at b0 b1
  go_wp2_with fail
  rw [HW2.out, ← HE1.out]
  refine (H15.out _ HB2.out).mono ?_
  rintro e w3 ⟨hb3, q3, q4, n2, d3, m2, d4, rfl, hn2, hm2, hr3, hr4⟩
  obtain ⟨E2, HE2⟩ : ∃ E, Hid (E = w3.heap.size) := ⟨_, Lib.hid rfl⟩
  obtain ⟨W3, HW3⟩ : ∃ W, Hid (w3.alloc (.cells #[.slice q3 n2 d3, .slice q4 m2 d4] 25) = W) := ⟨_, Lib.hid rfl⟩
  have hb33 : Below w3.heap.size w3 W3 := by rw [← HW3.out]; exact (Below.refl _ _).alloc (Nat.le_refl _) _
  have HB23 : Hid (Below W2.heap.size W2 W3) := Lib.hid (hb3.trans (hb33.mono hb3.size))
  have HB3 : Hid (Below W0.heap.size W0 W3) := Lib.hid (HB2.out.trans (HB23.out.mono HB2.out.size))
  have HX3 : Hid (W3.heap[E2]? = some (.cells #[.slice q3 n2 d3, .slice q4 m2 d4] 25 (0, 0))) := Lib.hid (by rw [← HW3.out, HE2.out]; exact World.alloc_heap_new _ _)
  have HR3 : Hid (RdN W3 q3 s1) := Lib.hid (hr3.below hb33)
  have HR4 : Hid (RdS W3 q4 l1) := Lib.hid (hr4.below hb33)
  have HN2 := Lib.hid hn2
  have HM2 := Lib.hid hm2
  clear hb3 hb33 hr3 hr4 hn2 hm2 b0 b1
  obtain ⟨-, -, b0, b1⟩ := HBX.out W3 HB3.out
  rw [← HW3.out] at b0 b1
  go_wp2_with fail
  rw [HW3.out, ← HE2.out]
  refine (H16.out _ HB3.out).mono ?_
  rintro e w4 ⟨hb4, rfl⟩
  have HB34 := Lib.hid hb4
  have HB4 : Hid (Below W0.heap.size W0 w4) := Lib.hid (HB3.out.trans (hb4.mono HB3.out.size))
  clear hb4 b0 b1
  obtain ⟨-, -, b0, b1⟩ := HBX.out w4 HB4.out
  go_wp2_with fail
  refine (H17.out _ HB4.out).mono ?_
  rintro e W5 ⟨hb5, rfl⟩
  have HB35 : Hid (Below W3.heap.size W3 W5) := Lib.hid (HB34.out.trans (hb5.mono HB34.out.size))
  have HB5 : Hid (Below W0.heap.size W0 W5) := Lib.hid (HB4.out.trans (hb5.mono HB4.out.size))
  clear hb5 b0 b1
  have HALL : Hid (∀ W, Below W5.heap.size W5 W → (W.cell? ⟨A, 0, none⟩ = some (.slice p n c) ∧ W.cell? ⟨A, 1, none⟩ = some (.slice q m d) ∧ W.cell? ⟨E1, 0, none⟩ = some (.slice q1 n1 d1) ∧ W.cell? ⟨E1, 1, none⟩ = some (.slice q2 m1 d2) ∧ W.cell? ⟨E2, 0, none⟩ = some (.slice q3 n2 d3) ∧ W.cell? ⟨E2, 1, none⟩ = some (.slice q4 m2 d4)) ∧ Below W5.heap.size W5 W) := Lib.hid (fun W hW => by
    have h35 := HB35.out.trans (hW.mono HB35.out.size)
    have h25 := HB23.out.trans (h35.mono HB23.out.size)
    have x2 := (h25.block E1 (Array.getElem?_eq_some_iff.1 HX2.out).1).trans HX2.out
    have x3 := (h35.block E2 (Array.getElem?_eq_some_iff.1 HX3.out).1).trans HX3.out
    obtain ⟨-, -, c0, c1⟩ := HBX.out W (HB5.out.trans (hW.mono HB5.out.size))
    exact ⟨⟨c0, c1, by simp [World.cell?, x2], by simp [World.cell?, x2], by simp [World.cell?, x3], by simp [World.cell?, x3]⟩, hW⟩)
  have H22 : Hid (∀ W, Below W5.heap.size W5 W → Calls Tryz.prog 23 #[.agg #[.slice q1 n1 d1, .slice q2 m1 d2], .int .i64 z1, .agg #[.slice q3 n2 d3, .slice q4 m2 d4], .int .i64 z1] W fun e w' => Below W.heap.size W w' ∧ e = .returned (.bool true)) := Lib.hid (fun W hW => by
    have h35 := HB35.out.trans (hW.mono HB35.out.size)
    have h25 := HB23.out.trans (h35.mono HB23.out.size)
    have := agrees_any q1 q2 q3 q4 d1 d2 d3 d4 n1 m1 n2 m2 z1 z1 (s1.map Int.ofNat) (s1.map Int.ofNat) l1 l1 W (Lib.hid (by rw [List.length_map, HN1.out])) HM1 (Lib.hid (by rw [List.length_map, HN2.out])) HM2 (by rw [← HN1.out]; exact HLE.out.1) (by rw [← HM1.out]; exact HLE.out.2) (by rw [← HN2.out]; exact HLE.out.1) (by rw [← HM2.out]; exact HLE.out.2) (HR1.out.below h25) (HR2.out.below h25) (HR3.out.below h35) (HR4.out.below h35)
    simpa using this)
  have HW05 : Hid (∀ W, Below W5.heap.size W5 W → Below W0.heap.size W0 W) := Lib.hid (fun W hW => HB5.out.trans (hW.mono HB5.out.size))
  have HD5 : Hid (Below W5.heap.size W5 W5.drew) := Lib.hid ⟨rfl, rfl, rfl, Nat.le_refl _, fun _ _ => rfl⟩
  clear HX2 HX3
  go_wp2_with fail
  refine wp_region_noPanic ?_
  refine wp_region_held_drew (S := fun W => (W.cell? ⟨A, 0, none⟩ = some (.slice p n c) ∧ W.cell? ⟨A, 1, none⟩ = some (.slice q m d) ∧ W.cell? ⟨E1, 0, none⟩ = some (.slice q1 n1 d1) ∧ W.cell? ⟨E1, 1, none⟩ = some (.slice q2 m1 d2) ∧ W.cell? ⟨E2, 0, none⟩ = some (.slice q3 n2 d3) ∧ W.cell? ⟨E2, 1, none⟩ = some (.slice q4 m2 d4)) ∧ Below W5.heap.size W5 W) (by kernel_rfl) (HALL.out _ HD5.out) (fun hHeld => ?_)
  refine wpAnyH_take (i := 0) (v := ?v1) rfl (by kernel_rfl) (by kernel_rfl) (by kernel_rfl) (fun _ _ _ h => h) (Or.inl ⟨by rfl, ?hy1⟩) (by assumption) ?rest1
  case hy1 =>
    intro W' hSw
    obtain ⟨⟨e0, e1, e2, e3, e4, e5⟩, -⟩ := hSw
    go_simp
    with_reducible rfl
  simp only [List.getElem_toArray, List.getElem_cons_zero, Act.put, List.setIfInBounds_toArray, List.set_cons_zero, List.set_cons_succ]
  refine wpAnyH_take (i := 1) (v := ?v2) rfl (by kernel_rfl) (by kernel_rfl) (by kernel_rfl) (fun _ _ _ h => h) (Or.inl ⟨by rfl, ?hy2⟩) (by assumption) ?rest2
  case hy2 =>
    intro W' hSw
    obtain ⟨⟨e0, e1, e2, e3, e4, e5⟩, -⟩ := hSw
    go_simp
    with_reducible rfl
  simp only [List.getElem_toArray, List.getElem_cons_zero, List.getElem_cons_succ, Act.put, List.setIfInBounds_toArray, List.set_cons_zero, List.set_cons_succ]
  refine wpAnyH_take (i := 3) (v := ?v3) rfl (by kernel_rfl) (by kernel_rfl) (by kernel_rfl) (fun _ _ _ h => h) (Or.inl ⟨by rfl, ?hy3⟩) (by assumption) ?rest3
  case hy3 =>
    intro W' hSw
    obtain ⟨⟨e0, e1, e2, e3, e4, e5⟩, -⟩ := hSw
    go_simp
    with_reducible rfl
  simp only [List.getElem_toArray, List.getElem_cons_zero, List.getElem_cons_succ, Act.put, List.setIfInBounds_toArray, List.set_cons_zero, List.set_cons_succ]
  refine wpAnyH_take (i := 4) (v := ?v4) rfl (by kernel_rfl) (by kernel_rfl) (by kernel_rfl) (fun _ _ _ h => h) (Or.inl ⟨by rfl, ?hy4⟩) (by assumption) ?rest4
  case hy4 =>
    intro W' hSw
    obtain ⟨⟨e0, e1, e2, e3, e4, e5⟩, -⟩ := hSw
    go_simp
    with_reducible rfl
  simp only [List.getElem_toArray, List.getElem_cons_zero, List.getElem_cons_succ, Act.put, List.setIfInBounds_toArray, List.set_cons_zero, List.set_cons_succ]
  refine wpAnyH_ready (rs := [2]) (by kernel_rfl) (by simp) ?_
  refine AllReadyH.cons (i := 2) rfl (fun K hK => ?_) AllReadyH.nil
  go_simp
  refine (H18.out _ (HW05.out _ HD5.out)).mono ?_
  rintro e w6 ⟨rfl, rfl⟩
  refine hK.out _ _ (HALL.out _ HD5.out) (fun hHeld => ?_)
  clear hK K
  refine wpAnyH_ready (rs := [5]) (by kernel_rfl) (by simp) ?_
  refine AllReadyH.cons (i := 5) rfl (fun K hK => ?_) AllReadyH.nil
  go_simp
  refine (H19.out _ (HW05.out _ HD5.out)).mono ?_
  rintro e w6 ⟨rfl, rfl⟩
  refine hK.out _ _ (HALL.out _ HD5.out) (fun hHeld => ?_)
  clear hK K
  refine wpAnyH_take (i := 6) (v := ?v5) rfl (by kernel_rfl) (by kernel_rfl) (by kernel_rfl) (fun _ _ _ h => h) (Or.inl ⟨by rfl, ?hy5⟩) (by assumption) ?rest5
  case hy5 =>
    intro W' hSw
    obtain ⟨⟨e0, e1, e2, e3, e4, e5⟩, -⟩ := hSw
    go_simp
    with_reducible rfl
  simp only [List.getElem_toArray, List.getElem_cons_zero, List.getElem_cons_succ, Act.put, List.setIfInBounds_toArray, List.set_cons_zero, List.set_cons_succ]
  refine wpAnyH_take (i := 7) (v := ?v6) rfl (by kernel_rfl) (by kernel_rfl) (by kernel_rfl) (fun _ _ _ h => h) (Or.inl ⟨by rfl, ?hy6⟩) (by assumption) ?rest6
  case hy6 =>
    intro W' hSw
    obtain ⟨⟨e0, e1, e2, e3, e4, e5⟩, -⟩ := hSw
    go_simp
    with_reducible rfl
  simp only [List.getElem_toArray, List.getElem_cons_zero, List.getElem_cons_succ, Act.put, List.setIfInBounds_toArray, List.set_cons_zero, List.set_cons_succ]
  refine wpAnyH_take (i := 8) (v := ?v7) rfl (by kernel_rfl) (by kernel_rfl) (by kernel_rfl) (fun _ _ _ h => h) (Or.inl ⟨by rfl, ?hy7⟩) (by assumption) ?rest7
  case hy7 =>
    intro W' hSw
    obtain ⟨⟨e0, e1, e2, e3, e4, e5⟩, -⟩ := hSw
    go_simp
    with_reducible rfl
  simp only [List.getElem_toArray, List.getElem_cons_zero, List.getElem_cons_succ, Act.put, List.setIfInBounds_toArray, List.set_cons_zero, List.set_cons_succ]
  refine wpAnyH_take (i := 10) (v := ?v8) rfl (by kernel_rfl) (by kernel_rfl) (by kernel_rfl) (fun _ _ _ h => h) (Or.inl ⟨by rfl, ?hy8⟩) (by assumption) ?rest8
  case hy8 =>
    intro W' hSw
    obtain ⟨⟨e0, e1, e2, e3, e4, e5⟩, -⟩ := hSw
    go_simp
    with_reducible rfl
  simp only [List.getElem_toArray, List.getElem_cons_zero, List.getElem_cons_succ, Act.put, List.setIfInBounds_toArray, List.set_cons_zero, List.set_cons_succ]
  refine wpAnyH_ready (rs := [9]) (by kernel_rfl) (by simp) ?_
  refine AllReadyH.cons (i := 9) rfl (fun K hK => ?_) AllReadyH.nil
  go_simp
  refine (H20.out _ (HW05.out _ HD5.out)).mono ?_
  rintro e w6 ⟨hb6, rfl⟩
  have HC6 : Hid (Below W5.heap.size W5 w6) := Lib.hid (HD5.out.trans (hb6.mono HD5.out.size))
  clear hb6
  refine hK.out _ _ (HALL.out _ HC6.out) (fun hHeld => ?_)
  clear hK K
  refine wpAnyH_ready (rs := [11]) (by kernel_rfl) (by simp) ?_
  refine AllReadyH.cons (i := 11) rfl (fun K hK => ?_) AllReadyH.nil
  go_simp
  refine (H21.out _ (HW05.out _ HC6.out)).mono ?_
  rintro e w7 ⟨hb7, rfl⟩
  have HC7 : Hid (Below W5.heap.size W5 w7) := Lib.hid (HC6.out.trans (hb7.mono HC6.out.size))
  clear hb7
  refine hK.out _ _ (HALL.out _ HC7.out) (fun hHeld => ?_)
  clear hK K
  refine wpAnyH_take (i := 12) (v := ?v9) rfl (by kernel_rfl) (by kernel_rfl) (by kernel_rfl) (fun _ _ _ h => h) (Or.inl ⟨by rfl, ?hy9⟩) (by assumption) ?rest9
  case hy9 =>
    intro W' hSw
    obtain ⟨⟨e0, e1, e2, e3, e4, e5⟩, -⟩ := hSw
    go_simp
    with_reducible rfl
  simp only [List.getElem_toArray, List.getElem_cons_zero, List.getElem_cons_succ, Act.put, List.setIfInBounds_toArray, List.set_cons_zero, List.set_cons_succ]
  refine wpAnyH_take (i := 13) (v := ?v10) rfl (by kernel_rfl) (by kernel_rfl) (by kernel_rfl) (fun _ _ _ h => h) (Or.inl ⟨by rfl, ?hy10⟩) (by assumption) ?rest10
  case hy10 =>
    intro W' hSw
    obtain ⟨⟨e0, e1, e2, e3, e4, e5⟩, -⟩ := hSw
    go_simp
    with_reducible rfl
  simp only [List.getElem_toArray, List.getElem_cons_zero, List.getElem_cons_succ, Act.put, List.setIfInBounds_toArray, List.set_cons_zero, List.set_cons_succ]
  refine wpAnyH_take (i := 14) (v := ?v11) rfl (by kernel_rfl) (by kernel_rfl) (by kernel_rfl) (fun _ _ _ h => h) (Or.inl ⟨by rfl, ?hy11⟩) (by assumption) ?rest11
  case hy11 =>
    intro W' hSw
    obtain ⟨⟨e0, e1, e2, e3, e4, e5⟩, -⟩ := hSw
    go_simp
    with_reducible rfl
  simp only [List.getElem_toArray, List.getElem_cons_zero, List.getElem_cons_succ, Act.put, List.setIfInBounds_toArray, List.set_cons_zero, List.set_cons_succ]
  refine wpAnyH_take (i := 15) (v := ?v12) rfl (by kernel_rfl) (by kernel_rfl) (by kernel_rfl) (fun _ _ _ h => h) (Or.inl ⟨by rfl, ?hy12⟩) (by assumption) ?rest12
  case hy12 =>
    intro W' hSw
    obtain ⟨⟨e0, e1, e2, e3, e4, e5⟩, -⟩ := hSw
    go_simp
    with_reducible rfl
  simp only [List.getElem_toArray, List.getElem_cons_zero, List.getElem_cons_succ, Act.put, List.setIfInBounds_toArray, List.set_cons_zero, List.set_cons_succ]
  refine wpAnyH_take (i := 16) (v := ?v13) rfl (by kernel_rfl) (by kernel_rfl) (by kernel_rfl) (fun _ _ _ h => h) (Or.inl ⟨by rfl, ?hy13⟩) (by assumption) ?rest13
  case hy13 =>
    intro W' hSw
    obtain ⟨⟨e0, e1, e2, e3, e4, e5⟩, -⟩ := hSw
    go_simp
    with_reducible rfl
  simp only [List.getElem_toArray, List.getElem_cons_zero, List.getElem_cons_succ, Act.put, List.setIfInBounds_toArray, List.set_cons_zero, List.set_cons_succ]
  refine wpAnyH_take (i := 17) (v := ?v14) rfl (by kernel_rfl) (by kernel_rfl) (by kernel_rfl) (fun _ _ _ h => h) (Or.inl ⟨by rfl, ?hy14⟩) (by assumption) ?rest14
  case hy14 =>
    intro W' hSw
    obtain ⟨⟨e0, e1, e2, e3, e4, e5⟩, -⟩ := hSw
    go_simp
    with_reducible rfl
  simp only [List.getElem_toArray, List.getElem_cons_zero, List.getElem_cons_succ, Act.put, List.setIfInBounds_toArray, List.set_cons_zero, List.set_cons_succ]
  refine wpAnyH_take (i := 18) (v := ?v15) rfl (by kernel_rfl) (by kernel_rfl) (by kernel_rfl) (fun _ _ _ h => h) (Or.inl ⟨by rfl, ?hy15⟩) (by assumption) ?rest15
  case hy15 =>
    intro W' hSw
    obtain ⟨⟨e0, e1, e2, e3, e4, e5⟩, -⟩ := hSw
    go_simp
    with_reducible rfl
  simp only [List.getElem_toArray, List.getElem_cons_zero, List.getElem_cons_succ, Act.put, List.setIfInBounds_toArray, List.set_cons_zero, List.set_cons_succ]
  refine wpAnyH_ready (rs := [19]) (by kernel_rfl) (by simp) ?_
  refine AllReadyH.cons (i := 19) rfl (fun K hK => ?_) AllReadyH.nil
  go_simp
  refine (H22.out _ HC7.out).mono ?_
  rintro e w8 ⟨hb8, rfl⟩
  have HC8 : Hid (Below W5.heap.size W5 w8) := Lib.hid (HC7.out.trans (hb8.mono HC7.out.size))
  clear hb8
  refine hK.out _ _ (HALL.out _ HC8.out) (fun hHeld => ?_)
  clear hK K
  refine wpAnyH_take (i := 20) (v := ?v16) rfl (by kernel_rfl) (by kernel_rfl) (by kernel_rfl) (fun _ _ _ h => h) (Or.inl ⟨by rfl, ?hy16⟩) (by assumption) ?rest16
  case hy16 =>
    intro W' hSw
    obtain ⟨⟨e0, e1, e2, e3, e4, e5⟩, -⟩ := hSw
    go_simp
    with_reducible rfl
  simp only [List.getElem_toArray, List.getElem_cons_zero, List.getElem_cons_succ, Act.put, List.setIfInBounds_toArray, List.set_cons_zero, List.set_cons_succ]
  refine wpAnyH_take (i := 21) (v := ?v17) rfl (by kernel_rfl) (by kernel_rfl) (by kernel_rfl) (fun _ _ _ h => h) (Or.inl ⟨by rfl, ?hy17⟩) (by assumption) ?rest17
  case hy17 =>
    intro W' hSw
    obtain ⟨⟨e0, e1, e2, e3, e4, e5⟩, -⟩ := hSw
    go_simp
    with_reducible rfl
  simp only [List.getElem_toArray, List.getElem_cons_zero, List.getElem_cons_succ, Act.put, List.setIfInBounds_toArray, List.set_cons_zero, List.set_cons_succ]
  refine wpAnyH_take (i := 22) (v := ?v18) rfl (by kernel_rfl) (by kernel_rfl) (by kernel_rfl) (fun _ _ _ h => h) (Or.inl ⟨by rfl, ?hy18⟩) (by assumption) ?rest18
  case hy18 =>
    intro W' hSw
    obtain ⟨⟨e0, e1, e2, e3, e4, e5⟩, -⟩ := hSw
    go_simp
    with_reducible rfl
  simp only [List.getElem_toArray, List.getElem_cons_zero, List.getElem_cons_succ, Act.put, List.setIfInBounds_toArray, List.set_cons_zero, List.set_cons_succ]
  refine wpAnyH_take (i := 23) (v := ?v19) rfl (by kernel_rfl) (by kernel_rfl) (by kernel_rfl) (fun _ _ _ h => h) (Or.inl ⟨by rfl, ?hy19⟩) (by assumption) ?rest19
  case hy19 =>
    intro W' hSw
    obtain ⟨⟨e0, e1, e2, e3, e4, e5⟩, -⟩ := hSw
    go_simp
    with_reducible rfl
  simp only [List.getElem_toArray, List.getElem_cons_zero, List.getElem_cons_succ, Act.put, List.setIfInBounds_toArray, List.set_cons_zero, List.set_cons_succ]
  refine wpAnyH_take (i := 24) (v := ?v20) rfl (by kernel_rfl) (by kernel_rfl) (by kernel_rfl) (fun _ _ _ h => h) (Or.inl ⟨by rfl, ?hy20⟩) (by assumption) ?rest20
  case hy20 =>
    intro W' hSw
    obtain ⟨⟨e0, e1, e2, e3, e4, e5⟩, -⟩ := hSw
    go_simp
    with_reducible rfl
  simp only [List.getElem_toArray, List.getElem_cons_zero, List.getElem_cons_succ, Act.put, List.setIfInBounds_toArray, List.set_cons_zero, List.set_cons_succ]
  refine wpAnyH_take (i := 25) (v := ?v21) rfl (by kernel_rfl) (by kernel_rfl) (by kernel_rfl) (fun _ _ _ h => h) (Or.inl ⟨by rfl, ?hy21⟩) (by assumption) ?rest21
  case hy21 =>
    intro W' hSw
    obtain ⟨⟨e0, e1, e2, e3, e4, e5⟩, -⟩ := hSw
    go_simp
    with_reducible rfl
  simp only [List.getElem_toArray, List.getElem_cons_zero, List.getElem_cons_succ, Act.put, List.setIfInBounds_toArray, List.set_cons_zero, List.set_cons_succ]
  refine wpAnyH_take (i := 26) (v := ?v22) rfl (by kernel_rfl) (by kernel_rfl) (by kernel_rfl) (fun _ _ _ h => h) (Or.inl ⟨by rfl, ?hy22⟩) (by assumption) ?rest22
  case hy22 =>
    intro W' hSw
    obtain ⟨⟨e0, e1, e2, e3, e4, e5⟩, -⟩ := hSw
    go_simp
    with_reducible rfl
  simp only [List.getElem_toArray, List.getElem_cons_zero, List.getElem_cons_succ, Act.put, List.setIfInBounds_toArray, List.set_cons_zero, List.set_cons_succ]
  refine wpAnyH_take (i := 27) (v := ?v23) rfl (by kernel_rfl) (by kernel_rfl) (by kernel_rfl) (fun _ _ _ h => h) (Or.inl ⟨by rfl, ?hy23⟩) (by assumption) ?rest23
  case hy23 =>
    intro W' hSw
    obtain ⟨⟨e0, e1, e2, e3, e4, e5⟩, -⟩ := hSw
    go_simp
    with_reducible rfl
  simp only [List.getElem_toArray, List.getElem_cons_zero, List.getElem_cons_succ, Act.put, List.setIfInBounds_toArray, List.set_cons_zero, List.set_cons_succ]
  refine wpAnyH_take (i := 28) (v := ?v24) rfl (by kernel_rfl) (by kernel_rfl) (by kernel_rfl) (fun _ _ _ h => h) (Or.inl ⟨by rfl, ?hy24⟩) (by assumption) ?rest24
  case hy24 =>
    intro W' hSw
    obtain ⟨⟨e0, e1, e2, e3, e4, e5⟩, -⟩ := hSw
    go_simp
    with_reducible rfl
  simp only [List.getElem_toArray, List.getElem_cons_zero, List.getElem_cons_succ, Act.put, List.setIfInBounds_toArray, List.set_cons_zero, List.set_cons_succ]
  refine wpAnyH_take (i := 29) (v := ?v25) rfl (by kernel_rfl) (by kernel_rfl) (by kernel_rfl) (fun _ _ _ h => h) (Or.inl ⟨by rfl, ?hy25⟩) (by assumption) ?rest25
  case hy25 =>
    intro W' hSw
    obtain ⟨⟨e0, e1, e2, e3, e4, e5⟩, -⟩ := hSw
    go_simp
    with_reducible rfl
  simp only [List.getElem_toArray, List.getElem_cons_zero, List.getElem_cons_succ, Act.put, List.setIfInBounds_toArray, List.set_cons_zero, List.set_cons_succ]
  refine wpAnyH_take (i := 30) (v := ?v26) rfl (by kernel_rfl) (by kernel_rfl) (by kernel_rfl) (fun _ _ _ h => h) (Or.inl ⟨by rfl, ?hy26⟩) (by assumption) ?rest26
  case hy26 =>
    intro W' hSw
    obtain ⟨⟨e0, e1, e2, e3, e4, e5⟩, -⟩ := hSw
    go_simp
    with_reducible rfl
  simp only [List.getElem_toArray, List.getElem_cons_zero, List.getElem_cons_succ, Act.put, List.setIfInBounds_toArray, List.set_cons_zero, List.set_cons_succ]
  refine wpAnyH_take (i := 31) (v := ?v27) rfl (by kernel_rfl) (by kernel_rfl) (by kernel_rfl) (fun _ _ _ h => h) (Or.inl ⟨by rfl, ?hy27⟩) (by assumption) ?rest27
  case hy27 =>
    intro W' hSw
    obtain ⟨⟨e0, e1, e2, e3, e4, e5⟩, -⟩ := hSw
    go_simp
    with_reducible rfl
  simp only [List.getElem_toArray, List.getElem_cons_zero, List.getElem_cons_succ, Act.put, List.setIfInBounds_toArray, List.set_cons_zero, List.set_cons_succ]
  refine wpAnyH_ready (rs := [32]) (by kernel_rfl) (by simp) ?_
  refine AllReadyH.cons (i := 32) rfl (fun K hK => ?_) AllReadyH.nil
  go_simp
  refine (HSAN2.out _ (HW05.out _ HC8.out)).mono ?_
  rintro e w9 ⟨hb9, rfl⟩
  have HC10 : Hid (Below W5.heap.size W5 w9) := Lib.hid (HC8.out.trans (hb9.mono HC8.out.size))
  have HC9 : Hid (Below w.heap.size w w9) := Lib.hid (HBX.out _ (HW05.out _ HC10.out)).below
  clear hb9
  refine hK.out _ _ (HALL.out _ HC10.out) (fun hHeld => ?_)
  clear hK K
  refine wpAnyH_take (i := 33) (v := ?v28) rfl (by kernel_rfl) (by kernel_rfl) (by kernel_rfl) (fun _ _ _ h => h) (Or.inl ⟨by rfl, ?hy28⟩) (by assumption) ?rest28
  case hy28 =>
    intro W' hSw
    obtain ⟨⟨e0, e1, e2, e3, e4, e5⟩, -⟩ := hSw
    go_simp
    with_reducible rfl
  simp only [List.getElem_toArray, List.getElem_cons_zero, List.getElem_cons_succ, Act.put, List.setIfInBounds_toArray, List.set_cons_zero, List.set_cons_succ]
  refine wpAnyH_take (i := 34) (v := ?v29) rfl (by kernel_rfl) (by kernel_rfl) (by kernel_rfl) (fun _ _ _ h => h) (Or.inl ⟨by rfl, ?hy29⟩) (by assumption) ?rest29
  case hy29 =>
    intro W' hSw
    obtain ⟨⟨e0, e1, e2, e3, e4, e5⟩, -⟩ := hSw
    go_simp
    with_reducible rfl
  simp only [List.getElem_toArray, List.getElem_cons_zero, List.getElem_cons_succ, Act.put, List.setIfInBounds_toArray, List.set_cons_zero, List.set_cons_succ]
  refine wpAnyH_done (by kernel_rfl) ?_ _
  refine NoPanic.normal ?_
  clear hHeld
  go_wp2_with fail
  go_ret
  exact ⟨HC9.out, rfl⟩
end Go.Proofs.YtigidchicloleaaGreatDoor.Arr
