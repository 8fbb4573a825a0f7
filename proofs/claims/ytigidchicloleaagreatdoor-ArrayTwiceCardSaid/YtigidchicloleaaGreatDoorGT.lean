/- agrees, and the widths of arrays. -/
import Derived.Test.YtigidchicloleaaGreatDoorGS
set_option maxHeartbeats 4000000
set_option maxRecDepth 100000
namespace Go.Proofs.YtigidchicloleaaGreatDoor.Arr
open Go.RowKit Go.Shelf
open Go.Lib
attribute [local go_sem] Oper.semAt_some
theorem agrees_any (p1 q1 p2 q2 : Option Addr) (c1 d1 c2 d2 n1 m1 n2 m2 : Nat) (z1 z2 : Int) (s1 s2 : List Int) (l1 l2 : List (List UInt8)) (w : World) (hs1 : Hid (s1.length = n1)) (hl1 : Hid (l1.length = m1)) (hs2 : Hid (s2.length = n2)) (hl2 : Hid (l2.length = m2)) (hn : n1 ≤ 1000) (hm : m1 ≤ 5000) (hn2 : n2 ≤ 1000) (hm2 : m2 ≤ 5000) (hp1 : Rd w p1 s1) (hq1 : RdS w q1 l1) (hp2 : Rd w p2 s2) (hq2 : RdS w q2 l2) :
    Calls Tryz.prog 23 #[.agg #[.slice p1 n1 c1, .slice q1 m1 d1], .int .i64 z1, .agg #[.slice p2 n2 c2, .slice q2 m2 d2], .int .i64 z2] w fun e w' => Below w.heap.size w w' ∧ e = .returned (.bool (decide (z1 = z2) && (decide (s1 = s2) && decide (l1 = l2)))) := by
  have HP1 := Lib.hid hp1
  have HQ1 := Lib.hid hq1
  have HP2 := Lib.hid hp2
  have HQ2 := Lib.hid hq2
  obtain ⟨A, HA⟩ : ∃ A, Hid (A = w.heap.size) := ⟨_, Lib.hid rfl⟩
  obtain ⟨W0, HW0⟩ : ∃ W0, Hid ((w.alloc (.cells #[.slice p1 n1 c1, .slice q1 m1 d1] 25)).alloc (.cells #[.slice p2 n2 c2, .slice q2 m2 d2] 25) = W0) := ⟨_, Lib.hid rfl⟩
  have HB0 : Hid (Below w.heap.size w W0) := Lib.hid (by rw [← HW0.out]; exact ((Below.refl _ w).alloc (Nat.le_refl _) _).alloc (by simp) _)
  have hs0 : W0.heap.size = A + 1 + 1 := by rw [← HW0.out, HA.out]; simp
  have hA0 : W0.heap[A]? = some (.cells #[.slice p1 n1 c1, .slice q1 m1 d1] 25 (0, 0)) := by
    rw [← HW0.out, HA.out, (Below.alloc (Below.refl (w.alloc (.cells #[.slice p1 n1 c1, .slice q1 m1 d1] 25)).heap.size _) (Nat.le_refl _) _).block w.heap.size (by simp)]
    exact World.alloc_heap_new w _
  have hA1 : W0.heap[A + 1]? = some (.cells #[.slice p2 n2 c2, .slice q2 m2 d2] 25 (0, 0)) := by
    rw [← HW0.out, HA.out, show w.heap.size + 1 = (w.alloc (.cells #[.slice p1 n1 c1, .slice q1 m1 d1] 25)).heap.size by simp]
    exact World.alloc_heap_new _ _
  have HBX : Hid (∀ W, Below W0.heap.size W0 W → W.cell? ⟨A, 0, none⟩ = some (.slice p1 n1 c1) ∧ W.cell? ⟨A, 1, none⟩ = some (.slice q1 m1 d1) ∧ W.cell? ⟨A + 1, 0, none⟩ = some (.slice p2 n2 c2) ∧ W.cell? ⟨A + 1, 1, none⟩ = some (.slice q2 m2 d2) ∧ Rd W p1 s1 ∧ RdS W q1 l1 ∧ Rd W p2 s2 ∧ RdS W q2 l2) := Lib.hid (fun W hW => by
    have h0 := (hW.block A (by omega)).trans hA0
    have h1 := (hW.block (A + 1) (by omega)).trans hA1
    have hb := HB0.out.trans (hW.mono HB0.out.size)
    exact ⟨by simp [World.cell?, h0], by simp [World.cell?, h0], by simp [World.cell?, h1], by simp [World.cell?, h1], HP1.out.below hb, HQ1.out.below hb, HP2.out.below hb, HQ2.out.below hb⟩)
  obtain ⟨b1, b2, b3, b4, -⟩ := HBX.out W0 (Below.refl _ _)
  clear hp1 hq1 hp2 hq2 hs0 hA0 hA1
  obtain ⟨v, HV⟩ : ∃ v, Hid (v = (decide (s1 = s2) && decide (l1 = l2))) := ⟨_, Lib.hid rfl⟩
  rw [← HV.out]
  have H37 : Hid (∀ W, Below W0.heap.size W0 W → Calls Tryz.prog 38 #[.agg #[.slice p1 n1 c1, .slice q1 m1 d1], .agg #[.slice p2 n2 c2, .slice q2 m2 d2]] W fun e w' => Below W.heap.size W w' ∧ e = .returned (.bool v)) := Lib.hid (fun W hW => by
    obtain ⟨-, -, -, -, r1, r2, r3, r4⟩ := HBX.out W hW
    rw [HV.out]
    exact same_any p1 q1 p2 q2 c1 d1 c2 d2 n1 m1 n2 m2 s1 s2 l1 l2 W hs1 hl1 hs2 hl2 hn hm hn2 hm2 r1 r2 r3 r4)
  clear b1 b2 b3 b4
  by_cases hz : z1 = z2
  · subst hz
    rw [decide_eq_true rfl, Bool.true_and]
    go_enter Tryz.func23, Tryz.ntmps23
    go_wp2_with fail
    rw [HW0.out]
    refine (H37.out _ (Below.refl _ _)).mono ?_
    rintro e w1 ⟨hb, rfl⟩
    have HB1 : Hid (Below w.heap.size w w1) := Lib.hid (HB0.out.trans (hb.mono HB0.out.size))
    clear hb
    go_wp2_with fail
    go_ret
    exact ⟨HB1.out, rfl⟩
  · rw [decide_eq_false hz, Bool.false_and]
    go_enter Tryz.func23, Tryz.ntmps23
    go_wp2_with fail
    rw [HW0.out]
    go_ret
    exact ⟨HB0.out, rfl⟩
def wideT (s : List Int) (l : List (List UInt8)) : Bool := decide (10 < s.length) || (decide (100 < l.length) || l.any (fun x => decide (200 < x.length)))
theorem wide_any (p q : Option Addr) (c d n m : Nat) (s : List Int) (l : List (List UInt8)) (w : World) (hs : Hid (s.length = n)) (hl : Hid (l.length = m)) (hq : RdS w q l) :
    Calls Tryz.prog 12 #[.agg #[.slice p n c, .slice q m d]] w fun e w' => Below w.heap.size w w' ∧ e = .returned (.bool (wideT s l)) := by
  have HQ := Lib.hid hq
  obtain ⟨A, HA⟩ : ∃ A, Hid (A = w.heap.size) := ⟨_, Lib.hid rfl⟩
  obtain ⟨W0, HW0⟩ : ∃ W0, Hid (w.alloc (.cells #[.slice p n c, .slice q m d] 25) = W0) := ⟨_, Lib.hid rfl⟩
  have HB0 : Hid (Below w.heap.size w W0) := Lib.hid (by rw [← HW0.out]; exact (Below.refl _ w).alloc (Nat.le_refl _) _)
  have HX0 : Hid (W0.heap[A]? = some (.cells #[.slice p n c, .slice q m d] 25 (0, 0))) := Lib.hid (by rw [← HW0.out, HA.out]; exact World.alloc_heap_new w _)
  have HBX : Hid (∀ W, Below W0.heap.size W0 W → W.cell? ⟨A, 0, none⟩ = some (.slice p n c) ∧ W.cell? ⟨A, 1, none⟩ = some (.slice q m d) ∧ RdS W q l ∧ Below w.heap.size w W) := Lib.hid (fun W hW => by
    have h0 := (hW.block A (Array.getElem?_eq_some_iff.1 HX0.out).1).trans HX0.out
    have hb := HB0.out.trans (hW.mono HB0.out.size)
    exact ⟨by simp [World.cell?, h0], by simp [World.cell?, h0], HQ.out.below hb, hb⟩)
  obtain ⟨v, HV⟩ : ∃ v, Hid (v = wideT s l) := ⟨_, Lib.hid rfl⟩
  rw [← HV.out]
  have HN1 : Hid (10 < n → v = true) := Lib.hid (fun h => by rw [HV.out]; unfold wideT; rw [decide_eq_true (by rw [hs.out]; exact h), Bool.true_or])
  have HN2 : Hid (100 < m → v = true) := Lib.hid (fun h => by rw [HV.out]; unfold wideT; rw [decide_eq_true (p := 100 < l.length) (by rw [hl.out]; exact h), Bool.true_or, Bool.or_true])
  have HN3 : Hid (∀ k, k < m → 200 < (l.getD k []).length → v = true) := Lib.hid (fun k hk h => by
    have : l.any (fun x => decide (200 < x.length)) = true := List.any_eq_true.2 ⟨l.getD k [], by rw [List.getD_eq_getElem?_getD, List.getElem?_eq_getElem (by rw [hl.out]; exact hk)]; exact List.getElem_mem _, decide_eq_true h⟩
    rw [HV.out]; unfold wideT; rw [this, Bool.or_true, Bool.or_true])
  have HN4 : Hid (¬ 10 < n → ¬ 100 < m → (∀ k, k < m → ¬ 200 < (l.getD k []).length) → v = false) := Lib.hid (fun h1 h2 h3 => by
    have : l.any (fun x => decide (200 < x.length)) = false := List.any_eq_false.2 (fun x hx => by
      obtain ⟨k, hk, e⟩ := List.getElem_of_mem hx
      have := h3 k (by rw [← hl.out]; exact hk)
      rw [List.getD_eq_getElem?_getD, List.getElem?_eq_getElem hk, Option.getD_some, e] at this
      simpa using this)
    rw [HV.out]; unfold wideT; rw [this, decide_eq_false (by rw [hs.out]; exact h1), decide_eq_false (p := 100 < l.length) (by rw [hl.out]; exact h2)]; rfl)
  obtain ⟨b1, b2, -, hb⟩ := HBX.out W0 (Below.refl _ _)
  clear hq hb
  by_cases h10 : 10 < n
  · have i10 : (10 : Int) < (n : Int) := by omega
    obtain rfl : v = true := HN1.out h10
    go_enter Tryz.func12, Tryz.ntmps12
    go_wp2_with fail
    rw [HW0.out, ← HA.out]
    go_wp2_with fail
    go_ret
    exact ⟨by first | exact HB0.out | (rw [HA.out]; exact HB0.out), rfl⟩
  have i10 : ¬ (10 : Int) < (n : Int) := by omega
  by_cases h100 : 100 < m
  · have i100 : (100 : Int) < (m : Int) := by omega
    obtain rfl : v = true := HN2.out h100
    go_enter Tryz.func12, Tryz.ntmps12
    go_wp2_with fail
    rw [HW0.out, ← HA.out]
    go_wp2_with fail
    go_ret
    exact ⟨by first | exact HB0.out | (rw [HA.out]; exact HB0.out), rfl⟩
  have i100 : ¬ (100 : Int) < (m : Int) := by omega
  have mi : (m : Int) ≤ 100 := by omega
  go_enter Tryz.func12, Tryz.ntmps12
  go_wp2_with fail
  rw [HW0.out, ← HA.out]
  go_wp2_with fail
  clear b1 b2 i10 i100
  go_loopw [3] (fun iv wr => ∃ i : Nat, i ≤ m ∧ iv = .int .i64 i ∧ Hid (∀ k, k < i → ¬ 200 < (l.getD k []).length) ∧ Hid (Below W0.heap.size W0 wr)) (fun iv _ => m - (Go.RowKit.intOf iv).toNat)
  case atStart => exact ⟨0, Nat.zero_le _, rfl, Lib.hid (fun k hk => by omega), Lib.hid (Below.refl _ _)⟩
  case round =>
    obtain ⟨i, hi, rfl, HA2, HB⟩ := hrel
    have ii : (i : Int) ≤ (m : Int) := by omega
    obtain ⟨b1, b2, r1, hb⟩ := HBX.out _ HB.out
    have HBF := Lib.hid hb
    clear hb
    by_cases hlt : i < m
    · have ilt : (i : Int) < (m : Int) := by omega
      obtain ⟨a1, o1, x, e1, ha1, hx, HX⟩ := r1.at (k := i) (by rw [hl.out]; exact hlt)
      clear r1
      subst e1
      by_cases hw : 200 < x.length
      · have ixw : (200 : Int) < (x.length : Int) := by omega
        obtain rfl : v = true := HN3.out i hlt (by rw [← HX.out]; exact hw)
        go_wp2_with fail
        go_ret
        exact ⟨HBF.out, rfl⟩
      · have ixw : ¬ (200 : Int) < (x.length : Int) := by omega
        have hst : Hid (∀ k, k < i + 1 → ¬ 200 < (l.getD k []).length) := Lib.hid (fun k hk => by
          by_cases e : k = i
          · rw [e, ← HX.out]; exact hw
          · exact HA2.out k (by omega))
        go_wp2_with fail
        go_roundw
        case rel => exact ⟨i + 1, by omega, by go_num, hst, HB⟩
        case measure => simp [Go.RowKit.intOf]; omega
    · obtain rfl : i = m := by omega
      have ilt : ¬ (i : Int) < (i : Int) := by omega
      obtain rfl : v = false := HN4.out h10 h100 HA2.out
      clear r1
      go_wp2_with fail
      go_ret
      exact ⟨HBF.out, rfl⟩
end Go.Proofs.YtigidchicloleaaGreatDoor.Arr
