/- The law ArrayEaches. -/
import Derived.Test.YtigidchicloleaaGreatDoorKE
import Derived.Test.YtigidchicloleaaGreatDoorGU
import Derived.Test.YtigidchicloleaaGreatDoorCards
import Derived.Test.YtigidchicloleaaGreatDoorTie
import Derived.ProofKit
import Derived.OpenShut
import Derived.ShutString
import Derived.LaidMore
import Derived.ChangeMaps5
import Derived.ChangeSlices
import Derived.Carry
import Derived.Stop.LaidErr
import Derived.RowKitTokens
import Derived.Deep.DeepHandedRow
import Derived.Deep.Strs
import Derived.Lib.LaidTab
import Derived.SliceStrings
import Derived.Deep.Slices
import Derived.Lib.SmallJoins
set_option maxHeartbeats 8000000
set_option maxRecDepth 100000
namespace Go.Proofs.YtigidchicloleaaGreatDoor.Arr
open Go.RowKit Go.Shelf
open Go.Lib
attribute [local go_sem] Oper.semAt_some
theorem each_any (p q p2 q2 : Option Addr) (c d c2 d2 n m n2 m2 : Nat) (s t : List Int) (l bl : List (List UInt8)) (op : Int) (w : World) (he : Env w) (hs : Hid (s.length = n)) (hl : Hid (l.length = m)) (hm : m ≤ 5000) (ht : Hid (t.length = n2)) (hbl : Hid (bl.length = m2)) (hm2 : m2 ≤ 5000) (hp : Rd w p s) (hq : RdS w q l) (hp2 : Rd w p2 t) (hq2 : RdS w q2 bl) : Calls Tryz.prog 41 #[.agg #[.slice p n c, .slice q m d], .agg #[.slice p2 n2 c2, .slice q2 m2 d2], .int .i64 op] w (ArrPost w (eachV s t l bl op).1 (eachV s t l bl op).2.1 (eachV s t l bl op).2.2) := by
  by_cases h0 : (eachV s t l bl op).1 = 0
  · unfold eachV at h0
    by_cases hv : validA s l = false
    · rw [if_pos hv] at h0; cases h0
    rw [if_neg hv] at h0
    by_cases hw : validA t bl = false
    · rw [if_pos hw] at h0; cases h0
    rw [if_neg hw] at h0
    by_cases ho : op < 1 ∨ 10 < op
    · rw [if_pos ho] at h0; cases h0
    rw [if_neg ho] at h0
    by_cases hst : s = t
    · have e : eachV s t l bl op = (0, s.map Int.toNat, List.zipWith (eachT op) l bl) := by unfold eachV; rw [if_neg hv, if_neg hw, if_neg ho, if_pos hst]
      rw [e]
      exact each_yes p q p2 q2 c d c2 d2 n m n2 m2 s t l bl op w he hs hl hm ht hbl hm2 hp hq hp2 hq2 (by simpa using hv) (by simpa using hw) (by omega) (by omega) hst
    · rw [if_neg hst] at h0; cases h0
  · exact each_no p q p2 q2 c d c2 d2 n m n2 m2 s t l bl op w he hs hl hm ht hbl hm2 hp hq hp2 hq2 h0
theorem reach_any (p q p2 q2 : Option Addr) (c d c2 d2 n m n2 m2 : Nat) (s t : List Int) (l bl : List (List UInt8)) (op : Int) (w : World) (hs : Hid (s.length = n)) (hl : Hid (l.length = m)) (hm : m ≤ 5000) (ht : Hid (t.length = n2)) (hbl : Hid (bl.length = m2)) (hm2 : m2 ≤ 5000) (hp : Rd w p s) (hq : RdS w q l) (hp2 : Rd w p2 t) (hq2 : RdS w q2 bl) : Calls Tryz.prog 42 #[.agg #[.slice p n c, .slice q m d], .agg #[.slice p2 n2 c2, .slice q2 m2 d2], .int .i64 op] w (ArrPost w (eachV s t l bl op).1 (eachV s t l bl op).2.1 (eachV s t l bl op).2.2) := by
  by_cases h0 : (eachV s t l bl op).1 = 0
  · unfold eachV at h0
    by_cases hv : validA s l = false
    · rw [if_pos hv] at h0; cases h0
    rw [if_neg hv] at h0
    by_cases hw : validA t bl = false
    · rw [if_pos hw] at h0; cases h0
    rw [if_neg hw] at h0
    by_cases ho : op < 1 ∨ 10 < op
    · rw [if_pos ho] at h0; cases h0
    rw [if_neg ho] at h0
    by_cases hst : s = t
    · have e : eachV s t l bl op = (0, s.map Int.toNat, List.zipWith (eachT op) l bl) := by unfold eachV; rw [if_neg hv, if_neg hw, if_neg ho, if_pos hst]
      rw [e]
      exact reach_yes p q p2 q2 c d c2 d2 n m n2 m2 s t l bl op w hs hl hm ht hbl hm2 hp hq hp2 hq2 (by simpa using hv) (by simpa using hw) (by omega) (by omega) hst
    · rw [if_neg hst] at h0; cases h0
  · exact reach_no p q p2 q2 c d c2 d2 n m n2 m2 s t l bl op w hs hl hm ht hbl hm2 hp hq hp2 hq2 h0
theorem eachV_len (s t : List Int) (l bl : List (List UInt8)) (op : Int) (hl : l.length ≤ 5000) : (eachV s t l bl op).2.1.length ≤ 1000 ∧ (eachV s t l bl op).2.2.length ≤ 5000 := by
  unfold eachV
  split
  · exact ⟨by simp, by simp⟩
  · rename_i hv
    split
    · exact ⟨by simp, by simp⟩
    · split
      · exact ⟨by simp, by simp⟩
      · split
        · have hv2 : validA s l = true := by simpa using hv
          have hvs : vs s = true := by unfold validA at hv2; rw [Bool.and_eq_true] at hv2; exact hv2.1
          obtain ⟨s0, rfl, hsh⟩ := vs_yes hvs
          have := hsh.1
          refine ⟨by rw [toNat_map]; show s0.length ≤ 1000; omega, ?_⟩
          show (List.zipWith _ _ _).length ≤ 5000
          rw [List.length_zipWith]; omega
        · exact ⟨by simp, by simp⟩
theorem eaches_law (p q p2 q2 : Option Addr) (c d c2 d2 n m n2 m2 : Nat) (s t : List Int) (l bl : List (List UInt8)) (op : Int) (w : World) (he : Env w) (hs : Hid (s.length = n)) (hl : Hid (l.length = m)) (ht : Hid (t.length = n2)) (hbl : Hid (bl.length = m2)) (hp : Rd w p s) (hq : RdS w q l) (hp2 : Rd w p2 t) (hq2 : RdS w q2 bl) : Calls Tryz.prog 9 #[.agg #[.slice p n c, .slice q m d], .agg #[.slice p2 n2 c2, .slice q2 m2 d2], .int .i64 op] w fun e w' => Below w.heap.size w w' ∧ e = .returned (.bool true) := by
  have HP := Lib.hid hp
  have HQ := Lib.hid hq
  have HP2 := Lib.hid hp2
  have HQ2 := Lib.hid hq2
  have HE := Lib.hid he
  clear hp hq hp2 hq2 he
  obtain ⟨A, HA⟩ : ∃ A, Hid (A = w.heap.size) := ⟨_, Lib.hid rfl⟩
  obtain ⟨W0, HW0⟩ : ∃ W0, Hid ((w.alloc (.cells #[.slice p n c, .slice q m d] 25)).alloc (.cells #[.slice p2 n2 c2, .slice q2 m2 d2] 25) = W0) := ⟨_, Lib.hid rfl⟩
  have HB0 : Hid (Below w.heap.size w W0) := Lib.hid (by rw [← HW0.out]; exact ((Below.refl _ w).alloc (Nat.le_refl _) _).alloc (by simp) _)
  have HS0 : Hid (W0.heap.size = A + 1 + 1) := Lib.hid (by rw [← HW0.out, HA.out]; simp)
  have HA0 : Hid (W0.heap[A]? = some (.cells #[.slice p n c, .slice q m d] 25 (0, 0))) := Lib.hid (by
    rw [← HW0.out, HA.out]; simp only [World.alloc, Array.getElem?_push, Array.size_push]
    repeat' (first | rw [if_pos (by omega)] | rw [if_neg (by omega)] | rfl))
  have HA1 : Hid (W0.heap[A + 1]? = some (.cells #[.slice p2 n2 c2, .slice q2 m2 d2] 25 (0, 0))) := Lib.hid (by
    rw [← HW0.out, HA.out]; simp only [World.alloc, Array.getElem?_push, Array.size_push]
    repeat' (first | rw [if_pos (by omega)] | rw [if_neg (by omega)] | rfl))
  have HBX : Hid (∀ W, Below W0.heap.size W0 W → Below w.heap.size w W ∧ W.heap[A]? = some (.cells #[.slice p n c, .slice q m d] 25 (0, 0)) ∧ W.heap[A + 1]? = some (.cells #[.slice p2 n2 c2, .slice q2 m2 d2] 25 (0, 0))) := Lib.hid (fun W hW =>
    ⟨HB0.out.trans (hW.mono HB0.out.size), (hW.block A (by rw [HS0.out]; omega)).trans HA0.out, (hW.block (A + 1) (by rw [HS0.out]; omega)).trans HA1.out⟩)
  have H12 := Lib.hid (wide_any p q c d n m s l W0 hs hl (HQ.out.below HB0.out))
  have H12b : Hid (∀ W, Below W0.heap.size W0 W → Calls Tryz.prog 12 #[.agg #[.slice p2 n2 c2, .slice q2 m2 d2]] W fun e w' => Below W.heap.size W w' ∧ e = .returned (.bool (wideT t bl))) := Lib.hid (fun W hW => wide_any p2 q2 c2 d2 n2 m2 t bl W ht hbl (HQ2.out.below (HBX.out W hW).1))
  have HSANE : Hid (∀ W, Below W0.heap.size W0 W → Calls Tryz.prog 14 #[] W fun e w' => Below W0.heap.size W0 w' ∧ e = .returned (.bool true)) := Lib.hid (fun W hW =>
    (sane_any W (HE.out.below (HBX.out W hW).1)).mono (fun e w' h => ⟨hW.trans (h.1.mono hW.size), h.2⟩))
  obtain ⟨b, HWB⟩ : ∃ b, Hid (b = wideT s l) := ⟨_, Lib.hid rfl⟩
  obtain ⟨b', HWB2⟩ : ∃ b, Hid (b = wideT t bl) := ⟨_, Lib.hid rfl⟩
  rw [← HWB.out] at H12
  rw [← HWB2.out] at H12b
  by_cases hb : b = true
  · subst hb
    obtain ⟨-, b0, b1⟩ := HBX.out W0 (Below.refl _ _)
    have a00 : W0.cell? ⟨A, 0, none⟩ = some (.slice p n c) := by simp [World.cell?, b0]
    have a01 : W0.cell? ⟨A, 1, none⟩ = some (.slice q m d) := by simp [World.cell?, b0]
    have a10 : W0.cell? ⟨A + 1, 0, none⟩ = some (.slice p2 n2 c2) := by simp [World.cell?, b1]
    have a11 : W0.cell? ⟨A + 1, 1, none⟩ = some (.slice q2 m2 d2) := by simp [World.cell?, b1]
    clear b0 b1
    go_enter Tryz.func9, Tryz.ntmps9
    go_wp2_with fail
    rw [HW0.out, ← HA.out]
    go_wp2_with fail
    refine (H12.out).mono ?_
    rintro e w1 ⟨hb1, rfl⟩
    have HB1 := Lib.hid hb1
    clear hb1 a00 a01 a10 a11
    go_wp2_with fail
    refine (HSANE.out _ HB1.out).mono ?_
    rintro e wz ⟨hbz, rfl⟩
    have HBZ := Lib.hid (HBX.out wz hbz).1
    clear hbz
    go_wp2_with fail
    go_ret
    exact ⟨HBZ.out, rfl⟩
  obtain rfl : b = false := by simpa using hb
  by_cases hb2 : b' = true
  · subst hb2
    obtain ⟨-, b0, b1⟩ := HBX.out W0 (Below.refl _ _)
    have a00 : W0.cell? ⟨A, 0, none⟩ = some (.slice p n c) := by simp [World.cell?, b0]
    have a01 : W0.cell? ⟨A, 1, none⟩ = some (.slice q m d) := by simp [World.cell?, b0]
    have a10 : W0.cell? ⟨A + 1, 0, none⟩ = some (.slice p2 n2 c2) := by simp [World.cell?, b1]
    have a11 : W0.cell? ⟨A + 1, 1, none⟩ = some (.slice q2 m2 d2) := by simp [World.cell?, b1]
    clear b0 b1
    go_enter Tryz.func9, Tryz.ntmps9
    go_wp2_with fail
    rw [HW0.out, ← HA.out]
    go_wp2_with fail
    refine (H12.out).mono ?_
    rintro e w1 ⟨hb1, rfl⟩
    have HB1 := Lib.hid hb1
    clear hb1 a00 a01 a10 a11
    obtain ⟨-, b0, b1⟩ := HBX.out w1 HB1.out
    have a00 : w1.cell? ⟨A, 0, none⟩ = some (.slice p n c) := by simp [World.cell?, b0]
    have a01 : w1.cell? ⟨A, 1, none⟩ = some (.slice q m d) := by simp [World.cell?, b0]
    have a10 : w1.cell? ⟨A + 1, 0, none⟩ = some (.slice p2 n2 c2) := by simp [World.cell?, b1]
    have a11 : w1.cell? ⟨A + 1, 1, none⟩ = some (.slice q2 m2 d2) := by simp [World.cell?, b1]
    clear b0 b1
    go_wp2_with fail
    refine (H12b.out _ HB1.out).mono ?_
    rintro e w2 ⟨hb2, rfl⟩
    have HB2 : Hid (Below W0.heap.size W0 w2) := Lib.hid (HB1.out.trans (hb2.mono HB1.out.size))
    clear hb2 a00 a01 a10 a11
    go_wp2_with fail
    refine (HSANE.out _ HB2.out).mono ?_
    rintro e wz ⟨hbz, rfl⟩
    have HBZ := Lib.hid (HBX.out wz hbz).1
    clear hbz
    go_wp2_with fail
    go_ret
    exact ⟨HBZ.out, rfl⟩
  obtain rfl : b' = false := by simpa using hb2
  have hm : m ≤ 5000 := by
    have h : wideT s l = false := HWB.out.symm
    unfold wideT at h
    rw [Bool.or_eq_false_iff, Bool.or_eq_false_iff, decide_eq_false_iff_not, decide_eq_false_iff_not, hl.out] at h
    omega
  have hm2 : m2 ≤ 5000 := by
    have h : wideT t bl = false := HWB2.out.symm
    unfold wideT at h
    rw [Bool.or_eq_false_iff, Bool.or_eq_false_iff, decide_eq_false_iff_not, decide_eq_false_iff_not, hbl.out] at h
    omega
  obtain ⟨z1, HZ1⟩ : ∃ z, Hid (z = (eachV s t l bl op).1) := ⟨_, Lib.hid rfl⟩
  obtain ⟨s1, HS1⟩ : ∃ z, Hid (z = (eachV s t l bl op).2.1) := ⟨_, Lib.hid rfl⟩
  obtain ⟨l1, HL1⟩ : ∃ z, Hid (z = (eachV s t l bl op).2.2) := ⟨_, Lib.hid rfl⟩
  have H41 : Hid (∀ W, Below W0.heap.size W0 W → Calls Tryz.prog 41 #[.agg #[.slice p n c, .slice q m d], .agg #[.slice p2 n2 c2, .slice q2 m2 d2], .int .i64 op] W (ArrPost W z1 s1 l1)) := Lib.hid (fun W hW => by
    have h := (HBX.out W hW).1
    rw [HZ1.out, HS1.out, HL1.out]; exact each_any p q p2 q2 c d c2 d2 n m n2 m2 s t l bl op W (HE.out.below h) hs hl hm ht hbl hm2 (HP.out.below h) (HQ.out.below h) (HP2.out.below h) (HQ2.out.below h))
  have H42 : Hid (∀ W, Below W0.heap.size W0 W → Calls Tryz.prog 42 #[.agg #[.slice p n c, .slice q m d], .agg #[.slice p2 n2 c2, .slice q2 m2 d2], .int .i64 op] W (ArrPost W z1 s1 l1)) := Lib.hid (fun W hW => by
    have h := (HBX.out W hW).1
    rw [HZ1.out, HS1.out, HL1.out]; exact reach_any p q p2 q2 c d c2 d2 n m n2 m2 s t l bl op W hs hl hm ht hbl hm2 (HP.out.below h) (HQ.out.below h) (HP2.out.below h) (HQ2.out.below h))
  obtain ⟨hle1, hle2⟩ := eachV_len s t l bl op (by rw [hl.out]; exact hm)
  rw [← HS1.out] at hle1
  rw [← HL1.out] at hle2
  have HLE := Lib.hid (And.intro hle1 hle2)
  clear hle1 hle2 hm hm2
  obtain ⟨-, b0, b1⟩ := HBX.out W0 (Below.refl _ _)
  have a00 : W0.cell? ⟨A, 0, none⟩ = some (.slice p n c) := by simp [World.cell?, b0]
  have a01 : W0.cell? ⟨A, 1, none⟩ = some (.slice q m d) := by simp [World.cell?, b0]
  have a10 : W0.cell? ⟨A + 1, 0, none⟩ = some (.slice p2 n2 c2) := by simp [World.cell?, b1]
  have a11 : W0.cell? ⟨A + 1, 1, none⟩ = some (.slice q2 m2 d2) := by simp [World.cell?, b1]
  clear b0 b1
  go_enter Tryz.func9, Tryz.ntmps9
  go_wp2_with fail
  rw [HW0.out, ← HA.out]
  go_wp2_with fail
  refine (H12.out).mono ?_
  rintro e w1 ⟨hb1, rfl⟩
  have HB1 := Lib.hid hb1
  clear hb1 a00 a01 a10 a11
  obtain ⟨-, b0, b1⟩ := HBX.out w1 HB1.out
  have a00 : w1.cell? ⟨A, 0, none⟩ = some (.slice p n c) := by simp [World.cell?, b0]
  have a01 : w1.cell? ⟨A, 1, none⟩ = some (.slice q m d) := by simp [World.cell?, b0]
  have a10 : w1.cell? ⟨A + 1, 0, none⟩ = some (.slice p2 n2 c2) := by simp [World.cell?, b1]
  have a11 : w1.cell? ⟨A + 1, 1, none⟩ = some (.slice q2 m2 d2) := by simp [World.cell?, b1]
  clear b0 b1
  go_wp2_with fail
  refine (H12b.out _ HB1.out).mono ?_
  rintro e w2 ⟨hb2, rfl⟩
  have HB2 : Hid (Below W0.heap.size W0 w2) := Lib.hid (HB1.out.trans (hb2.mono HB1.out.size))
  clear hb2 a00 a01 a10 a11
  obtain ⟨-, b0, b1⟩ := HBX.out w2 HB2.out
  have a00 : w2.cell? ⟨A, 0, none⟩ = some (.slice p n c) := by simp [World.cell?, b0]
  have a01 : w2.cell? ⟨A, 1, none⟩ = some (.slice q m d) := by simp [World.cell?, b0]
  have a10 : w2.cell? ⟨A + 1, 0, none⟩ = some (.slice p2 n2 c2) := by simp [World.cell?, b1]
  have a11 : w2.cell? ⟨A + 1, 1, none⟩ = some (.slice q2 m2 d2) := by simp [World.cell?, b1]
  clear b0 b1
  go_wp2_with fail
  refine (H41.out _ HB2.out).mono ?_
  rintro e w3 ⟨hb3, q1, q3, n1, d1, m1, d3, rfl, hn1, hm1, hr1, hr2⟩
  obtain ⟨E1, HE1⟩ : ∃ E, Hid (E = w3.heap.size) := ⟨_, Lib.hid rfl⟩
  obtain ⟨W3, HW3⟩ : ∃ W, Hid (w3.alloc (.cells #[.slice q1 n1 d1, .slice q3 m1 d3] 25) = W) := ⟨_, Lib.hid rfl⟩
  have hb33 : Below w3.heap.size w3 W3 := by rw [← HW3.out]; exact (Below.refl _ _).alloc (Nat.le_refl _) _
  have HB3 : Hid (Below W0.heap.size W0 W3) := Lib.hid ((HB2.out.trans (hb3.mono HB2.out.size)).trans (hb33.mono (Nat.le_trans HB2.out.size hb3.size)))
  have HX3 : Hid (W3.heap[E1]? = some (.cells #[.slice q1 n1 d1, .slice q3 m1 d3] 25 (0, 0))) := Lib.hid (by rw [← HW3.out, HE1.out]; exact World.alloc_heap_new _ _)
  have HR1 : Hid (RdN W3 q1 s1) := Lib.hid (hr1.below hb33)
  have HR2 : Hid (RdS W3 q3 l1) := Lib.hid (hr2.below hb33)
  have HN1 := Lib.hid hn1
  have HM1 := Lib.hid hm1
  clear hb3 hb33 hr1 hr2 hn1 hm1 a00 a01 a10 a11
  obtain ⟨-, b0, b1⟩ := HBX.out W3 HB3.out
  have a00 : W3.cell? ⟨A, 0, none⟩ = some (.slice p n c) := by simp [World.cell?, b0]
  have a01 : W3.cell? ⟨A, 1, none⟩ = some (.slice q m d) := by simp [World.cell?, b0]
  have a10 : W3.cell? ⟨A + 1, 0, none⟩ = some (.slice p2 n2 c2) := by simp [World.cell?, b1]
  have a11 : W3.cell? ⟨A + 1, 1, none⟩ = some (.slice q2 m2 d2) := by simp [World.cell?, b1]
  clear b0 b1
  rw [← HW3.out] at a00 a01 a10 a11
  go_wp2_with fail
  rw [HW3.out, ← HE1.out]
  refine (H42.out _ HB3.out).mono ?_
  rintro e w4 ⟨hb4, q5, q6, n5, d5, m5, d6, rfl, hn5, hm5, hr5, hr6⟩
  obtain ⟨E2, HE2⟩ : ∃ E, Hid (E = w4.heap.size) := ⟨_, Lib.hid rfl⟩
  obtain ⟨W4, HW4⟩ : ∃ W, Hid (w4.alloc (.cells #[.slice q5 n5 d5, .slice q6 m5 d6] 25) = W) := ⟨_, Lib.hid rfl⟩
  have hb44 : Below w4.heap.size w4 W4 := by rw [← HW4.out]; exact (Below.refl _ _).alloc (Nat.le_refl _) _
  have HB34 : Hid (Below W3.heap.size W3 W4) := Lib.hid (hb4.trans (hb44.mono hb4.size))
  have HB4 : Hid (Below W0.heap.size W0 W4) := Lib.hid (HB3.out.trans (HB34.out.mono HB3.out.size))
  have HX4 : Hid (W4.heap[E2]? = some (.cells #[.slice q5 n5 d5, .slice q6 m5 d6] 25 (0, 0))) := Lib.hid (by rw [← HW4.out, HE2.out]; exact World.alloc_heap_new _ _)
  have x3 := (HB34.out.block E1 (Array.getElem?_eq_some_iff.1 HX3.out).1).trans HX3.out
  have x4 := HX4.out
  have y0 : W4.cell? ⟨E1, 0, none⟩ = some (.slice q1 n1 d1) := by simp [World.cell?, x3]
  have y1 : W4.cell? ⟨E1, 1, none⟩ = some (.slice q3 m1 d3) := by simp [World.cell?, x3]
  have y2 : W4.cell? ⟨E2, 0, none⟩ = some (.slice q5 n5 d5) := by simp [World.cell?, x4]
  have y3 : W4.cell? ⟨E2, 1, none⟩ = some (.slice q6 m5 d6) := by simp [World.cell?, x4]
  have H23 : Hid (Calls Tryz.prog 23 #[.agg #[.slice q1 n1 d1, .slice q3 m1 d3], .int .i64 z1, .agg #[.slice q5 n5 d5, .slice q6 m5 d6], .int .i64 z1] W4 fun e w' => Below W4.heap.size W4 w' ∧ e = .returned (.bool true)) := Lib.hid (by
    have := agrees_any q1 q3 q5 q6 d1 d3 d5 d6 n1 m1 n5 m5 z1 z1 (s1.map Int.ofNat) (s1.map Int.ofNat) l1 l1 W4 (Lib.hid (by rw [List.length_map, HN1.out])) HM1 (Lib.hid (by rw [List.length_map, hn5])) (Lib.hid hm5) (by rw [← HN1.out]; exact HLE.out.1) (by rw [← HM1.out]; exact HLE.out.2) (by rw [← hn5]; exact HLE.out.1) (by rw [← hm5]; exact HLE.out.2) (HR1.out.below HB34.out) (HR2.out.below HB34.out) (hr5.below hb44) (hr6.below hb44)
    simpa using this)
  rw [← HW4.out] at y0 y1 y2 y3
  clear hb4 hb44 hr5 hr6 hn5 hm5 a00 a01 a10 a11 x3 x4
  rw [HE2.out] at y2 y3
  go_wp2_with fail
  rw [HW4.out]
  refine (H23.out).mono ?_
  rintro e w5 ⟨hb5, rfl⟩
  have HB5 : Hid (Below W0.heap.size W0 w5) := Lib.hid (HB4.out.trans (hb5.mono HB4.out.size))
  clear hb5 y0 y1 y2 y3
  go_wp2_with fail
  refine (HSANE.out _ HB5.out).mono ?_
  rintro e wz ⟨hbz, rfl⟩
  have HBZ := Lib.hid (HBX.out wz hbz).1
  clear hbz
  go_wp2_with fail
  go_ret
  exact ⟨HBZ.out, rfl⟩
end Go.Proofs.YtigidchicloleaaGreatDoor.Arr
set_option maxRecDepth 100000
namespace Go.Proofs.YtigidchicloleaaGreatDoor
open Go.ChangeMaps Go.ChangeShapes Go.WideShapes Go.ChangeAt Go.RowKit
namespace Arr
theorem ownK : ownKnob Tryz.prog.godebug = none := by kernel_rfl
section
variable {H : Type} {enc : TypeId × Value → H} {P : Program}
theorem post_of_below {f : Func} {s : ChangeSpec} {apart fresh handsOn again : Bool} {W W' : World} {args : Array Value} {v : Value} {ds gs : List (DataW H)} {before pa pv : List MemPlace}
    (hW : DataW.Whole enc P f.params.toList s.vars apart W args.toList ds gs before)
    (hres : ∀ (b : Nat) (sp : Nat → Bool) (hd : Bool), DataW.TrodAll enc P W' b sp hd f.resultTypes.toList (v.resultList f.resultTypes.size) (s.fn H (ds ++ gs)).results [])
    (hargs : ∀ sp : Nat → Bool, (∀ p ∈ before, sp p.block = true) → DataW.TrodAll enc P W' 0 sp true f.params.toList args.toList (s.fn H (ds ++ gs)).args pa)
    (hvars : ∀ sp : Nat → Bool, (∀ p ∈ before, sp p.block = true) → DataW.TrodVars enc P W' sp s.vars (s.fn H (ds ++ gs)).vars pv)
    (hps : before = pa ++ pv) (hb : Below W.heap.size W W')
    (hok : ∀ (j : Nat) (t : TypeId) (r : Value), f.resultTypes[j]? = some t → (v.resultList f.resultTypes.size)[j]? = some r → Value.okWide P W' .any 0 t r) :
    s.post enc P f apart fresh handsOn again W args v W' := by
  have hlt : ∀ p ∈ before, p.block < W.heap.size := fun p hp => hW.lt p hp
  have hold : ∀ p ∈ before, (fun b => decide (b < W.heap.size)) p.block = true := fun p hp => by simpa using hlt p hp
  refine ⟨ds, gs, before, [], pa, pv, hW, hres _ _ _, hargs _ hold, hvars _ hold, World.keptBut_mono (fun p hp => ⟨hp, ?_⟩) (hb.frame (· ∈ before)), fun _ => ?_⟩
  · rw [hps, List.mem_append] at hp
    exact Or.inr hp
  · obtain ⟨_, _, _, _, _, hz, hn⟩ := hW
    refine ⟨hok, _, _, ([] ++ pa) ++ pv, ⟨[] ++ pa, pv, trodAll_append (hargs _ (fun _ _ => rfl)) (hres _ _ _), hvars _ (fun _ _ => rfl), rfl, ?_, ?_⟩, ?_⟩
    · intro b off hp
      have hin : MemPlace.cell b off ∈ before := by rw [hps]; simpa using hp
      rw [hb.frozen (hlt _ hin)]
      exact hz b off hin
    · intro ha
      have := hn ha
      rw [hps] at this
      simpa using this
    · intro p hp _
      rw [hps]
      simpa using hp
end
section
variable {H : Type} {enc : TypeId × Value → H} {P : Program}
theorem trodAll_stays (hl : laidOutB P = true) {W W' : World} (hb : Below W.heap.size W W') (sp : Nat → Bool) :
    ∀ (ts : List TypeId) (vs : List Value) (ds : List (DataW H)) (ps : List MemPlace), (∀ t ∈ ts, P.readableRec t = true) → (∀ t ∈ ts, t < P.types.size) →
      DataW.TrodAll enc P W 0 (fun _ => true) true ts vs ds ps → (∀ x ∈ ps, x.block < W.heap.size) → (∀ x ∈ ps, sp x.block = true) → DataW.TrodAll enc P W' 0 sp true ts vs ds ps := by
  intro ts
  induction ts with
  | nil =>
    intro vs ds ps _ _ h _ _
    obtain ⟨rfl, rfl, rfl⟩ := trodAll_nil h
    exact trodAll_mk0
  | cons t ts ih =>
    intro vs ds ps hr hrow h hlt hsp
    obtain ⟨v, vs', d, ds', p, q, rfl, rfl, rfl, h0, h1⟩ := trodAll_cons h
    exact trodAll_cons_mk (WideElems.Trod_stays hl (hr t (by simp)) (hrow t (by simp)) h0 (fun x hx => hb.same (hlt x (by simp [hx]))) (fun x hx => hsp x (by simp [hx])))
      (ih vs' ds' q (fun t ht => hr t (by simp [ht])) (fun t ht => hrow t (by simp [ht])) h1 (fun x hx => hlt x (by simp [hx])) (fun x hx => hsp x (by simp [hx])))
end
theorem gPow : Tryz.prog.globalNamed "internal/strconv.uint64pow10" = some 5 := by kernel_rfl
theorem gPowType : (Tryz.prog.globals[5]?).map (·.type) = some 237 := by kernel_rfl
theorem cells215 : Tryz.prog.cellsOf 237 = 20 := by kernel_rfl
theorem cells125 : Tryz.prog.cellsOf 151 = 1 := by kernel_rfl
theorem gSyn : Tryz.prog.globalNamed "strconv.ErrSyntax" = some 0 := by kernel_rfl
theorem gSynType : (Tryz.prog.globals[0]?).map (·.type) = some 131 := by kernel_rfl
theorem gRng : Tryz.prog.globalNamed "strconv.ErrRange" = some 1 := by kernel_rfl
theorem gRngType : (Tryz.prog.globals[1]?).map (·.type) = some 131 := by kernel_rfl
theorem starErr : "*" ++ "errors.errorString" = "*errors.errorString" := by decide
theorem rowErr (u : TypeId) (h : Tryz.prog.typeName? 3 u = some "*errors.errorString") : u = 217 :=
  typeName_ptr_named (nm := "errors.errorString") (by rw [starErr]; kernel_rfl) (by kernel_rfl) (by decide) u (by rw [starErr]; exact h)
theorem env_met {W : World} (h : laidMet Tryz.prog Rows.arrayTwiceRow.laid W) : Env W := by
  have h3 := laidMet.tail (laidMet.tail h)
  have h4 := laidMet.tail h3
  have h5 := laidMet.tail h4
  refine ⟨Lib.tabIs_of_head gPow gPowType Tryz.underlying237 Tryz.underlying151 cells125 cells215 h3, ?_, ?_⟩
  · obtain ⟨a, s, hv, -, -, -⟩ := laid_sentinel h5 gSyn gSynType Tryz.underlying131 rowErr Tryz.underlying217 Tryz.underlying219 rfl rfl Tryz.underlying9 (by kernel_rfl) (by kernel_rfl)
    exact ⟨_, by simpa using World.var?_cell gSyn hv 0, .inr ⟨_, _, rfl⟩⟩
  · obtain ⟨a, s, hv, -, -, -⟩ := laid_sentinel h4 gRng gRngType Tryz.underlying131 rowErr Tryz.underlying217 Tryz.underlying219 rfl rfl Tryz.underlying9 (by kernel_rfl) (by kernel_rfl)
    exact ⟨_, by simpa using World.var?_cell gRng hv 0, .inr ⟨_, _, rfl⟩⟩
theorem env_laid {W : World} (h : laidMetH Tryz.prog Rows.arrayTwiceRow.laid W) : Env W := by
  rw [MakeChecks.laidMetH_plain _ _ _ (by kernel_rfl)] at h
  exact env_met h
theorem laidAll : laidOutB Tryz.prog = true := by kernel_rfl
end Arr
end Go.Proofs.YtigidchicloleaaGreatDoor
set_option maxRecDepth 100000
namespace Go.Proofs.YtigidchicloleaaGreatDoor
open Go.ChangeMaps Go.ChangeShapes Go.WideShapes Go.ChangeAt Go.RowKit Go.Deep
namespace Arr
theorem cells3' : Tryz.prog.cellsOf 3 = 1 := by kernel_rfl
theorem cells9' : Tryz.prog.cellsOf 9 = 1 := by kernel_rfl
theorem cells25' : Tryz.prog.cellsOf 25 = 2 := by kernel_rfl
theorem cells22' : Tryz.prog.cellsOf 22 = 1 := by kernel_rfl
theorem cells23' : Tryz.prog.cellsOf 23 = 1 := by kernel_rfl
theorem at_addr {w : World} {a : Addr} {x : Value} (h : w.cell? a = some x) : ∃ b off, a = ⟨b, off, none⟩ ∧ b < w.heap.size := by
  have hs := World.cell?_spot h
  obtain ⟨b, off, sp⟩ := a
  simp only at hs
  subst hs
  refine ⟨b, off, rfl, Classical.byContradiction fun hx => ?_⟩
  simp [World.cell?, hx] at h
section
variable {H : Type} {enc : TypeId × Value → H} {w : World} {base : Nat} {spare : Nat → Bool} {held : Bool} {v : Value} {y : DataW H × List MemPlace} {n : Nat}
theorem in_ints (h : DataW.trod enc Tryz.prog w base spare held n 22 [v] = some y) : ∃ (q : Option Addr) (c : Nat) (l : List Int), v = .slice q l.length c ∧ Rd w q l := by
  rcases open_ints Tryz.underlying22 Tryz.underlying3 cells3' h with ⟨e, -⟩ | ⟨a, len, cap, zs, e, hb, hl, hm, hlen, -, hc, hwf⟩
  · simp at e
    exact ⟨none, 0, [], e, fun z hz => (by cases hz), .inl rfl⟩
  · simp at e
    have hz : len ≤ zs.length := by rw [hlen]; split <;> omega
    have hll : (zs.take len).length = len := by simp [hz]
    refine ⟨some a, cap, zs.take len, by rw [hll]; exact e, fun z hz2 => bounds_i64 (hwf z (List.mem_of_mem_take hz2)), ?_⟩
    by_cases h0 : len = 0
    · exact .inl (by rw [hll]; exact h0)
    · have h1 := hc 0 (by omega)
      rw [Addr.add_zero'] at h1
      obtain ⟨b, off, rfl, hlt⟩ := at_addr h1
      refine .inr ⟨b, off, rfl, hlt, fun j hj => ?_⟩
      rw [hll] at hj
      have h2 := hc j (by omega)
      rw [Addr.add_lit] at h2
      rw [h2, List.getD_eq_getElem?_getD, List.getD_eq_getElem?_getD, List.getElem?_take_of_lt hj]
theorem in_strs (h : DataW.trod enc Tryz.prog w base spare held n 23 [v] = some y) : ∃ (q : Option Addr) (c : Nat) (l : List (List UInt8)), v = .slice q l.length c ∧ RdS w q l := by
  rcases open_strings Tryz.underlying23 Tryz.underlying9 cells9' h with ⟨e, -⟩ | ⟨a, len, cap, ss, e, hb, hl, hm, hlen, -, hc, -⟩
  · simp at e
    exact ⟨none, 0, [], e, .inl rfl⟩
  · simp at e
    have hz : len ≤ ss.length := by rw [hlen]; split <;> omega
    have hll : ((ss.take len).map (·.data.toList)).length = len := by simp [hz]
    refine ⟨some a, cap, (ss.take len).map (·.data.toList), by rw [hll]; exact e, ?_⟩
    by_cases h0 : len = 0
    · exact .inl (by rw [hll]; exact h0)
    · have h1 := hc 0 (by omega)
      rw [Addr.add_zero'] at h1
      obtain ⟨b, off, rfl, hlt⟩ := at_addr h1
      refine .inr ⟨b, off, rfl, hlt, fun j hj => ?_⟩
      rw [hll] at hj
      have h2 := hc j (by omega)
      rw [Addr.add_lit] at h2
      have hj2 : j < ss.length := by omega
      rw [h2]
      simp [List.getD_eq_getElem?_getD, hj, hj2]
end
end Arr
end Go.Proofs.YtigidchicloleaaGreatDoor
set_option maxRecDepth 100000
namespace Go.Proofs.YtigidchicloleaaGreatDoor
open Go.ChangeMaps Go.ChangeShapes Go.WideShapes Go.ChangeAt Go.RowKit Go.Deep
namespace Arr
section
variable {H : Type} {enc : TypeId × Value → H} {w : World} {base b0 : Nat} {spare : Nat → Bool} {held : Bool} {r : Reach} {v : Value} {d : DataW H} {p : List MemPlace}
theorem in_array (hv : Value.okWide Tryz.prog w r b0 25 v) (h : DataW.Trod enc Tryz.prog w base spare held 25 v d p) :
    ∃ (pa qa : Option Addr) (c c' : Nat) (s : List Int) (l : List (List UInt8)), v = .agg #[.slice pa s.length c, .slice qa l.length c'] ∧ Rd w pa s ∧ RdS w qa l := by
  obtain ⟨cs, rfl, hsz⟩ := okWide_struct Tryz.underlying25 hv
  obtain ⟨x0, x1, rfl⟩ := Go.Joins.array2 (hsz.trans cells25')
  obtain ⟨fuel, hf⟩ := h
  obtain ⟨y3, y4, n2, -, -, g0, g1⟩ := trod_struct2 Tryz.underlying25 hf
  simp [Value.cells, cells22', cells23'] at g0 g1
  obtain ⟨pa, c, s, rfl, hr0⟩ := in_ints g0
  obtain ⟨qa, c', l, rfl, hr1⟩ := in_strs g1
  exact ⟨pa, qa, c, c', s, l, rfl, hr0, hr1⟩
end
theorem readable25 : Tryz.prog.readableRec 25 = true := by kernel_rfl
theorem inTypes25 : 25 < Tryz.prog.types.size := of_decide_eq_true (by kernel_rfl)
end Arr
end Go.Proofs.YtigidchicloleaaGreatDoor
