/- The law ArrayResizes. -/
import Derived.Test.YtigidchicloleaaGreatDoorHI
set_option maxHeartbeats 8000000
set_option maxRecDepth 100000
namespace Go.Proofs.YtigidchicloleaaGreatDoor.Arr
open Go.RowKit Go.Shelf
open Go.Lib
attribute [local go_sem] Oper.semAt_some
theorem resV_len (s t : List Int) (l : List (List UInt8)) (v : List UInt8) : (resV s t l v).2.1.length ≤ 1000 ∧ (resV s t l v).2.2.length ≤ 5000 := by
  unfold resV
  split
  · exact ⟨by simp, by simp⟩
  · split
    · exact ⟨by simp, by simp⟩
    · split
      · exact ⟨by simp, by simp⟩
      · split
        · exact ⟨by simp, by simp⟩
        · rename_i _ h1 _ _
          have h2 : vs t = true := by simpa using h1
          obtain ⟨m, rfl, hm⟩ := vs_yes h2
          rw [toNat_map]
          have h3 := hm.1
          have h4 := hm.2.2
          exact ⟨by show m.length ≤ 1000; omega, by show (List.map _ _).length ≤ 5000; rw [List.length_map, List.length_range]; omega⟩
structure Vz (w W0 : World) (A : Nat) (p q : Option Addr) (n c m d : Nat) (W : World) : Prop where
  below : Below w.heap.size w W
  more : Below W0.heap.size W0 W
  c0 : W.cell? ⟨A, 0, none⟩ = some (.slice p n c)
  c1 : W.cell? ⟨A, 1, none⟩ = some (.slice q m d)
theorem resizes_law (p q r : Option Addr) (c d f n m k : Nat) (s t : List Int) (l : List (List UInt8)) (v : List UInt8) (w : World) (he : Env w) (hs : Hid (s.length = n)) (hl : Hid (l.length = m)) (hk : Hid (t.length = k)) (hp : Rd w p s) (hq : RdS w q l) (hr : Rd w r t) :
    Calls Tryz.prog 5 #[.agg #[.slice p n c, .slice q m d], .slice r k f, .string ⟨List.toArray v⟩] w fun e w' => Below w.heap.size w w' ∧ e = .returned (.bool true) := by
  have HP := Lib.hid hp
  have HQ := Lib.hid hq
  have HR := Lib.hid hr
  have HE := Lib.hid he
  clear hp hq hr he
  obtain ⟨A, HA⟩ : ∃ A, Hid (A = w.heap.size) := ⟨_, Lib.hid rfl⟩
  obtain ⟨W0, HW0⟩ : ∃ W0, Hid (w.alloc (.cells #[.slice p n c, .slice q m d] 25) = W0) := ⟨_, Lib.hid rfl⟩
  have HB0 : Hid (Below w.heap.size w W0) := Lib.hid (by rw [← HW0.out]; exact (Below.refl _ w).alloc (Nat.le_refl _) _)
  have HX0 : Hid (W0.heap[A]? = some (.cells #[.slice p n c, .slice q m d] 25 (0, 0))) := Lib.hid (by rw [← HW0.out, HA.out]; exact World.alloc_heap_new w _)
  have HBX : Hid (∀ W, Below W0.heap.size W0 W → Vz w W0 A p q n c m d W) := Lib.hid (fun W hW => by
    have h0 := (hW.block A (Array.getElem?_eq_some_iff.1 HX0.out).1).trans HX0.out
    exact ⟨HB0.out.trans (hW.mono HB0.out.size), hW, by simp [World.cell?, h0], by simp [World.cell?, h0]⟩)
  have H11 := Lib.hid (wide_any p q c d n m s l W0 hs hl (HQ.out.below HB0.out))
  have H12 : Hid (∀ W, Below W0.heap.size W0 W → Calls Tryz.prog 13 #[.slice r k f] W fun e w' => W = w' ∧ e = .returned (.bool (bigT t))) := Lib.hid (fun W hW => big_any r f k t W hk (HR.out.below (HBX.out W hW).below))
  have HSANE : Hid (∀ W, Below W0.heap.size W0 W → Calls Tryz.prog 14 #[] W fun e w' => Below W0.heap.size W0 w' ∧ e = .returned (.bool true)) := Lib.hid (fun W hW =>
    (sane_any W (HE.out.below (HBX.out W hW).below)).mono (fun e w' h => ⟨hW.trans (h.1.mono hW.size), h.2⟩))
  obtain ⟨b, HWB⟩ : ∃ b, Hid (b = wideT s l) := ⟨_, Lib.hid rfl⟩
  obtain ⟨g, HG⟩ : ∃ g, Hid (g = bigT t) := ⟨_, Lib.hid rfl⟩
  rw [← HWB.out] at H11
  rw [← HG.out] at H12
  by_cases hb : b = true
  · subst hb
    obtain ⟨-, -, b0, b1⟩ := HBX.out W0 (Below.refl _ _)
    go_enter Tryz.func5, Tryz.ntmps5
    go_wp2_with fail
    rw [HW0.out, ← HA.out]
    go_wp2_with fail
    refine (H11.out).mono ?_
    rintro e w1 ⟨hb1, rfl⟩
    have HB1 := Lib.hid hb1
    clear hb1
    obtain ⟨-, -, b0, b1⟩ := HBX.out w1 HB1.out
    go_wp2_with fail
    refine (HSANE.out _ HB1.out).mono ?_
    rintro e w2 ⟨hb2, rfl⟩
    have HB2 := Lib.hid (HBX.out w2 hb2).below
    clear hb2
    go_wp2_with fail
    go_ret
    exact ⟨HB2.out, rfl⟩
  obtain rfl : b = false := by simpa using hb
  by_cases hg : g = true
  · subst hg
    obtain ⟨-, -, b0, b1⟩ := HBX.out W0 (Below.refl _ _)
    go_enter Tryz.func5, Tryz.ntmps5
    go_wp2_with fail
    rw [HW0.out, ← HA.out]
    go_wp2_with fail
    refine (H11.out).mono ?_
    rintro e w1 ⟨hb1, rfl⟩
    have HB1 := Lib.hid hb1
    clear hb1
    obtain ⟨-, -, b0, b1⟩ := HBX.out w1 HB1.out
    go_wp2_with fail
    refine (H12.out _ HB1.out).mono ?_
    rintro e w1' ⟨rfl, rfl⟩
    go_wp2_with fail
    refine (HSANE.out _ HB1.out).mono ?_
    rintro e w2 ⟨hb2, rfl⟩
    have HB2 := Lib.hid (HBX.out w2 hb2).below
    clear hb2
    go_wp2_with fail
    go_ret
    exact ⟨HB2.out, rfl⟩
  obtain rfl : g = false := by simpa using hg
  by_cases hv200 : 200 < v.length
  · have iv : (200 : Int) < (v.length : Int) := by omega
    obtain ⟨-, -, b0, b1⟩ := HBX.out W0 (Below.refl _ _)
    go_enter Tryz.func5, Tryz.ntmps5
    go_wp2_with fail
    rw [HW0.out, ← HA.out]
    go_wp2_with fail
    refine (H11.out).mono ?_
    rintro e w1 ⟨hb1, rfl⟩
    have HB1 := Lib.hid hb1
    clear hb1
    obtain ⟨-, -, b0, b1⟩ := HBX.out w1 HB1.out
    go_wp2_with fail
    refine (H12.out _ HB1.out).mono ?_
    rintro e w1' ⟨rfl, rfl⟩
    go_wp2_with fail
    refine (HSANE.out _ HB1.out).mono ?_
    rintro e w2 ⟨hb2, rfl⟩
    have HB2 := Lib.hid (HBX.out w2 hb2).below
    clear hb2
    go_wp2_with fail
    go_ret
    exact ⟨HB2.out, rfl⟩
  have iv : ¬ (200 : Int) < (v.length : Int) := by omega
  have hm : m ≤ 5000 := by
    have h : wideT s l = false := HWB.out.symm
    unfold wideT at h
    rw [Bool.or_eq_false_iff, Bool.or_eq_false_iff, decide_eq_false_iff_not, decide_eq_false_iff_not, hl.out] at h
    omega
  obtain ⟨z1, HZ1⟩ : ∃ z, Hid (z = (resV s t l v).1) := ⟨_, Lib.hid rfl⟩
  obtain ⟨s1, HS1⟩ : ∃ z, Hid (z = (resV s t l v).2.1) := ⟨_, Lib.hid rfl⟩
  obtain ⟨l1, HL1⟩ : ∃ z, Hid (z = (resV s t l v).2.2) := ⟨_, Lib.hid rfl⟩
  have H27 : Hid (∀ W, Below W0.heap.size W0 W → Calls Tryz.prog 28 #[.agg #[.slice p n c, .slice q m d], .slice r k f, .string ⟨List.toArray v⟩] W (ArrPost W z1 s1 l1)) := Lib.hid (fun W hW => by
    have h := (HBX.out W hW).below
    rw [HZ1.out, HS1.out, HL1.out]; exact resize_any p q r c d f n m k s t l v W (HE.out.below h) hs hl hk hm (HP.out.below h) (HQ.out.below h) (HR.out.below h))
  have H28 : Hid (∀ W, Below W0.heap.size W0 W → Calls Tryz.prog 29 #[.agg #[.slice p n c, .slice q m d], .slice r k f, .string ⟨List.toArray v⟩] W (ArrPost W z1 s1 l1)) := Lib.hid (fun W hW => by
    have h := (HBX.out W hW).below
    rw [HZ1.out, HS1.out, HL1.out]; exact rresize_any p q r c d f n m k s t l v W hs hl hk hm (HP.out.below h) (HQ.out.below h) (HR.out.below h))
  obtain ⟨hle1, hle2⟩ := resV_len s t l v
  rw [← HS1.out] at hle1
  rw [← HL1.out] at hle2
  have HLE := Lib.hid (And.intro hle1 hle2)
  clear hle1 hle2
  obtain ⟨-, -, b0, b1⟩ := HBX.out W0 (Below.refl _ _)
  go_enter Tryz.func5, Tryz.ntmps5
  go_wp2_with fail
  rw [HW0.out, ← HA.out]
  go_wp2_with fail
  refine (H11.out).mono ?_
  rintro e w1 ⟨hb1, rfl⟩
  have HB1 := Lib.hid hb1
  clear hb1
  obtain ⟨-, -, b0, b1⟩ := HBX.out w1 HB1.out
  go_wp2_with fail
  refine (H12.out _ HB1.out).mono ?_
  rintro e w1' ⟨rfl, rfl⟩
  go_wp2_with fail
  refine (H27.out _ HB1.out).mono ?_
  rintro e w2 ⟨hb2, q1, q2, n1, d1, m1, d2, rfl, hn1, hm1, hr1, hr2⟩
  obtain ⟨E1, HE1⟩ : ∃ E, Hid (E = w2.heap.size) := ⟨_, Lib.hid rfl⟩
  obtain ⟨W2, HW2⟩ : ∃ W, Hid (w2.alloc (.cells #[.slice q1 n1 d1, .slice q2 m1 d2] 25) = W) := ⟨_, Lib.hid rfl⟩
  have hb22 : Below w2.heap.size w2 W2 := by rw [← HW2.out]; exact (Below.refl _ _).alloc (Nat.le_refl _) _
  have HNW2 : Hid (Below w1.heap.size w1 W2) := Lib.hid (hb2.trans (hb22.mono hb2.size))
  have HB2 : Hid (Below W0.heap.size W0 W2) := Lib.hid (HB1.out.trans (HNW2.out.mono HB1.out.size))
  have HXW2 : Hid (W2.heap[E1]? = some (.cells #[.slice q1 n1 d1, .slice q2 m1 d2] 25 (0, 0))) := Lib.hid (by rw [← HW2.out, HE1.out]; exact World.alloc_heap_new _ _)
  have HRq1 : Hid (RdN W2 q1 s1) := Lib.hid (hr1.below hb22)
  have HRq2 : Hid (RdS W2 q2 l1) := Lib.hid (hr2.below hb22)
  have HNn1 := Lib.hid hn1
  have HMm1 := Lib.hid hm1
  clear hb2 hb22 hr1 hr2 hn1 hm1
  clear b0 b1
  obtain ⟨-, -, b0, b1⟩ := HBX.out W2 HB2.out
  rw [← HW2.out] at b0 b1
  go_wp2_with fail
  rw [HW2.out, ← HE1.out]
  refine (H28.out _ HB2.out).mono ?_
  rintro e w3 ⟨hb2, q3, q4, n2, d3, m2, d4, rfl, hn1, hm1, hr1, hr2⟩
  obtain ⟨E2, HE2⟩ : ∃ E, Hid (E = w3.heap.size) := ⟨_, Lib.hid rfl⟩
  obtain ⟨W3, HW3⟩ : ∃ W, Hid (w3.alloc (.cells #[.slice q3 n2 d3, .slice q4 m2 d4] 25) = W) := ⟨_, Lib.hid rfl⟩
  have hb22 : Below w3.heap.size w3 W3 := by rw [← HW3.out]; exact (Below.refl _ _).alloc (Nat.le_refl _) _
  have HNW3 : Hid (Below W2.heap.size W2 W3) := Lib.hid (hb2.trans (hb22.mono hb2.size))
  have HB3 : Hid (Below W0.heap.size W0 W3) := Lib.hid (HB2.out.trans (HNW3.out.mono HB2.out.size))
  have HXW3 : Hid (W3.heap[E2]? = some (.cells #[.slice q3 n2 d3, .slice q4 m2 d4] 25 (0, 0))) := Lib.hid (by rw [← HW3.out, HE2.out]; exact World.alloc_heap_new _ _)
  have HRq3 : Hid (RdN W3 q3 s1) := Lib.hid (hr1.below hb22)
  have HRq4 : Hid (RdS W3 q4 l1) := Lib.hid (hr2.below hb22)
  have HNn2 := Lib.hid hn1
  have HMm2 := Lib.hid hm1
  clear hb2 hb22 hr1 hr2 hn1 hm1
  clear b0 b1
  have e1 : W3.heap[E1]? = some (.cells #[.slice q1 n1 d1, .slice q2 m1 d2] 25 (0, 0)) := (HNW3.out.block E1 (Array.getElem?_eq_some_iff.1 HXW2.out).1).trans HXW2.out
  have a0 : W3.cell? ⟨E1, 0, none⟩ = some (.slice q1 n1 d1) := by simp [World.cell?, e1]
  have a1 : W3.cell? ⟨E1, 1, none⟩ = some (.slice q2 m1 d2) := by simp [World.cell?, e1]
  have a2 : W3.cell? ⟨E2, 0, none⟩ = some (.slice q3 n2 d3) := by simp [World.cell?, HXW3.out]
  have a3 : W3.cell? ⟨E2, 1, none⟩ = some (.slice q4 m2 d4) := by simp [World.cell?, HXW3.out]
  have H22 : Hid (Calls Tryz.prog 23 #[.agg #[.slice q1 n1 d1, .slice q2 m1 d2], .int .i64 z1, .agg #[.slice q3 n2 d3, .slice q4 m2 d4], .int .i64 z1] W3 fun e w' => Below W3.heap.size W3 w' ∧ e = .returned (.bool true)) := Lib.hid (by
    have := agrees_any q1 q2 q3 q4 d1 d2 d3 d4 n1 m1 n2 m2 z1 z1 (s1.map Int.ofNat) (s1.map Int.ofNat) l1 l1 W3 (Lib.hid (by rw [List.length_map, HNn1.out])) HMm1 (Lib.hid (by rw [List.length_map, HNn2.out])) HMm2 (by rw [← HNn1.out]; exact HLE.out.1) (by rw [← HMm1.out]; exact HLE.out.2) (by rw [← HNn2.out]; exact HLE.out.1) (by rw [← HMm2.out]; exact HLE.out.2) (HRq1.out.below HNW3.out) (HRq2.out.below HNW3.out) HRq3.out HRq4.out
    simpa using this)
  rw [← HW3.out] at a0 a1 a2 a3
  clear e1
  rw [HE2.out] at a2 a3
  go_wp2_with fail
  rw [HW3.out]
  refine (H22.out).mono ?_
  rintro e w4 ⟨hb4, rfl⟩
  have HB4 : Hid (Below W0.heap.size W0 w4) := Lib.hid (HB3.out.trans (hb4.mono HB3.out.size))
  clear hb4 a0 a1 a2 a3
  go_wp2_with fail
  refine (HSANE.out _ HB4.out).mono ?_
  rintro e w5 ⟨hb5, rfl⟩
  have HB5 := Lib.hid (HBX.out w5 hb5).below
  clear hb5
  go_wp2_with fail
  go_ret
  exact ⟨HB5.out, rfl⟩
end Go.Proofs.YtigidchicloleaaGreatDoor.Arr
