/- Arrays that are the same: the reference's Same, the laws' agrees. -/
import Derived.Test.YtigidchicloleaaGreatDoorGR
set_option maxHeartbeats 4000000
set_option maxRecDepth 100000
namespace Go.Proofs.YtigidchicloleaaGreatDoor.Arr
open Go.RowKit Go.Shelf
open Go.Lib
attribute [local go_sem] Oper.semAt_some
theorem same_any (p1 q1 p2 q2 : Option Addr) (c1 d1 c2 d2 n1 m1 n2 m2 : Nat) (s1 s2 : List Int) (l1 l2 : List (List UInt8)) (w : World) (hs1 : Hid (s1.length = n1)) (hl1 : Hid (l1.length = m1)) (hs2 : Hid (s2.length = n2)) (hl2 : Hid (l2.length = m2)) (hn : n1 ≤ 1000) (hm : m1 ≤ 5000) (hn2 : n2 ≤ 1000) (hm2 : m2 ≤ 5000) (hp1 : Rd w p1 s1) (hq1 : RdS w q1 l1) (hp2 : Rd w p2 s2) (hq2 : RdS w q2 l2) :
    Calls Tryz.prog 38 #[.agg #[.slice p1 n1 c1, .slice q1 m1 d1], .agg #[.slice p2 n2 c2, .slice q2 m2 d2]] w fun e w' => Below w.heap.size w w' ∧ e = .returned (.bool (decide (s1 = s2) && decide (l1 = l2))) := by
  have HP1 := Lib.hid hp1
  have HQ1 := Lib.hid hq1
  have HP2 := Lib.hid hp2
  have HQ2 := Lib.hid hq2
  have i1 : (n1 : Int) ≤ 1000 := by omega
  have i2 : (n2 : Int) ≤ 1000 := by omega
  have i3 : (m1 : Int) ≤ 5000 := by omega
  have i4 : (m2 : Int) ≤ 5000 := by omega
  obtain ⟨v, HV⟩ : ∃ v, Hid (v = (decide (s1 = s2) && decide (l1 = l2))) := ⟨_, rfl⟩
  rw [← HV.out]
  have HNN : Hid (n1 ≠ n2 → v = false) := Lib.hid (fun h => by rw [HV.out, decide_eq_false (fun e => h (by rw [← hs1.out, ← hs2.out, e])), Bool.false_and])
  have HNM : Hid (m1 ≠ m2 → v = false) := Lib.hid (fun h => by rw [HV.out, decide_eq_false (p := l1 = l2) (fun e => h (by rw [← hl1.out, ← hl2.out, e])), Bool.and_false])
  have HNS : Hid (∀ k, s1.getD k 0 ≠ s2.getD k 0 → v = false) := Lib.hid (fun k h => by rw [HV.out, decide_eq_false (fun e => h (by rw [e])), Bool.false_and])
  have HNL : Hid (∀ k, l1.getD k [] ≠ l2.getD k [] → v = false) := Lib.hid (fun k h => by rw [HV.out, decide_eq_false (p := l1 = l2) (fun e => h (by rw [e])), Bool.and_false])
  obtain ⟨A, HA⟩ : ∃ A, Hid (A = w.heap.size) := ⟨_, Lib.hid rfl⟩
  obtain ⟨W0, HW0⟩ : ∃ W0, Hid ((w.alloc (.cells #[.slice p1 n1 c1, .slice q1 m1 d1] 25)).alloc (.cells #[.slice p2 n2 c2, .slice q2 m2 d2] 25) = W0) := ⟨_, Lib.hid rfl⟩
  have HB0 : Hid (Below w.heap.size w W0) := Lib.hid (by rw [← HW0.out]; exact ((Below.refl _ w).alloc (Nat.le_refl _) _).alloc (by simp) _)
  have hs0 : W0.heap.size = A + 1 + 1 := by rw [← HW0.out, HA.out]; simp
  have hA0 : W0.heap[A]? = some (.cells #[.slice p1 n1 c1, .slice q1 m1 d1] 25 (0, 0)) := by
    rw [← HW0.out, HA.out, (Below.alloc (Below.refl (w.alloc (.cells #[.slice p1 n1 c1, .slice q1 m1 d1] 25)).heap.size _) (Nat.le_refl _) _).block w.heap.size (by simp)]
    exact World.alloc_heap_new w _
  have hA1 : W0.heap[A + 1]? = some (.cells #[.slice p2 n2 c2, .slice q2 m2 d2] 25 (0, 0)) := by
    rw [← HW0.out, HA.out, show w.heap.size + 1 = (w.alloc (.cells #[.slice p1 n1 c1, .slice q1 m1 d1] 25)).heap.size by simp]
    exact World.alloc_heap_new _ _
  have HBX : Hid (∀ W, Below W0.heap.size W0 W → W.cell? ⟨A, 0, none⟩ = some (.slice p1 n1 c1) ∧ W.cell? ⟨A, 1, none⟩ = some (.slice q1 m1 d1) ∧ W.cell? ⟨A + 1, 0, none⟩ = some (.slice p2 n2 c2) ∧ W.cell? ⟨A + 1, 1, none⟩ = some (.slice q2 m2 d2) ∧ Rd W p1 s1 ∧ RdS W q1 l1 ∧ Rd W p2 s2 ∧ RdS W q2 l2) := Lib.hid (fun W hW => by
    have h0 := (hW.block A (by omega)).trans hA0
    have h1 := (hW.block (A + 1) (by omega)).trans hA1
    have hb := HB0.out.trans (hW.mono HB0.out.size)
    exact ⟨by simp [World.cell?, h0], by simp [World.cell?, h0], by simp [World.cell?, h1], by simp [World.cell?, h1], HP1.out.below hb, HQ1.out.below hb, HP2.out.below hb, HQ2.out.below hb⟩)
  obtain ⟨b1, b2, b3, b4, -⟩ := HBX.out W0 (Below.refl _ _)
  clear hp1 hq1 hp2 hq2 hs0 hA0 hA1
  have HBA : Hid (∀ W, Below W0.heap.size W0 W → Below A w W) := Lib.hid (fun W hW => by rw [HA.out]; exact HB0.out.trans (hW.mono HB0.out.size))
  by_cases hnn : n1 ≠ n2
  · have ine : ¬ (n1 : Int) = (n2 : Int) := by omega
    obtain rfl : v = false := HNN.out hnn
    go_enter Tryz.func38, Tryz.ntmps38
    go_wp2_with fail
    rw [HW0.out, ← HA.out]
    go_wp2_with fail
    go_ret
    exact ⟨HBA.out _ (Below.refl _ _), rfl⟩
  obtain rfl : n1 = n2 := by omega
  by_cases hmm : m1 ≠ m2
  · have ine : ¬ (m1 : Int) = (m2 : Int) := by omega
    obtain rfl : v = false := HNM.out hmm
    go_enter Tryz.func38, Tryz.ntmps38
    go_wp2_with fail
    rw [HW0.out, ← HA.out]
    go_wp2_with fail
    go_ret
    exact ⟨HBA.out _ (Below.refl _ _), rfl⟩
  obtain rfl : m1 = m2 := by omega
  go_enter Tryz.func38, Tryz.ntmps38
  go_wp2_with fail
  rw [HW0.out, ← HA.out]
  go_wp2_with fail
  clear b1 b2 b3 b4
  go_loopw [5] (fun iv wr => ∃ i : Nat, i ≤ n1 ∧ iv = .int .i64 i ∧ Hid (∀ k, k < i → s1.getD k 0 = s2.getD k 0) ∧ Hid (Below W0.heap.size W0 wr)) (fun iv _ => n1 - (Go.RowKit.intOf iv).toNat)
  case atStart => exact ⟨0, Nat.zero_le _, rfl, Lib.hid (fun k hk => by omega), Lib.hid (Below.refl _ _)⟩
  case round =>
    obtain ⟨i, hi, rfl, HQ, HB⟩ := hrel
    have ii : (i : Int) ≤ (n1 : Int) := by omega
    obtain ⟨b1, b2, b3, b4, r1, r2, r3, r4⟩ := HBX.out _ HB.out
    have HBQ : Hid (∀ q, Below W0.heap.size W0 (wr.drewN q)) := Lib.hid (fun q => HB.out.trans ⟨rfl, rfl, rfl, Nat.le_refl _, fun _ _ => rfl⟩)
    have HR2 := Lib.hid r2
    have HR4 := Lib.hid r4
    by_cases hlt : i < n1
    · have ilt : (i : Int) < (n1 : Int) := by omega
      obtain ⟨a1, o1, x, e1, ha1, hx, HX, -, -⟩ := r1.at (k := i) (by rw [hs1.out]; exact hlt)
      obtain ⟨a2, o2, y, e2, ha2, hy, HY, -, -⟩ := r3.at (k := i) (by rw [hs2.out]; exact hlt)
      clear r1 r2 r3 r4
      subst e1 e2
      by_cases hxy : x = y
      · subst hxy
        have hst : Hid (∀ k, k < i + 1 → s1.getD k 0 = s2.getD k 0) := Lib.hid (fun k hk => by
          by_cases e : k = i
          · rw [e, ← HX.out, ← HY.out]
          · exact HQ.out k (by omega))
        go_wp2_with fail
        go_quiet (fail)
        go_wp2_with fail
        go_roundw
        case rel => exact ⟨i + 1, by omega, by go_num, hst, Lib.hid (HBQ.out _)⟩
        case measure => simp [Go.RowKit.intOf]; omega
      · obtain rfl : v = false := HNS.out i (by rw [← HX.out, ← HY.out]; exact hxy)
        have dxy : (x != y) = true := by simpa using hxy
        go_wp2_with fail
        go_quiet (fail)
        go_wp2_with fail
        go_ret
        first | exact ⟨HBA.out _ (HBQ.out _), rfl⟩ | exact ⟨by rw [← HA.out]; exact HBA.out _ (HBQ.out _), rfl⟩
    · obtain rfl : i = n1 := by omega
      have ilt : ¬ (i : Int) < (i : Int) := by omega
      clear r1 r2 r3 r4
      go_wp2_with fail
      have HSS : Hid (s1 = s2) := Lib.hid (List.ext_getElem (by rw [hs1.out, hs2.out]) (fun k h1 h2 => by
        have := HQ.out k (by rw [← hs1.out]; exact h1)
        rwa [List.getD_eq_getElem?_getD, List.getElem?_eq_getElem h1, List.getD_eq_getElem?_getD, List.getElem?_eq_getElem h2] at this))
      go_loopw [6] (fun iv wr2 => ∃ j : Nat, j ≤ m1 ∧ iv = .int .i64 j ∧ Hid (∀ k, k < j → l1.getD k [] = l2.getD k []) ∧ Hid (Below W0.heap.size W0 wr2)) (fun iv _ => m1 - (Go.RowKit.intOf iv).toNat)
      case atStart => exact ⟨0, Nat.zero_le _, rfl, Lib.hid (fun k hk => by omega), HB⟩
      case round =>
        clear b1 b2 b3 b4 HB HBQ HR2 HR4 HQ
        obtain ⟨j, hj, rfl, HQ, HB⟩ := hrel
        have ij : (j : Int) ≤ (m1 : Int) := by omega
        obtain ⟨b1, b2, b3, b4, r1, r2, r3, r4⟩ := HBX.out _ HB.out
        have HBQ : Hid (∀ q, Below W0.heap.size W0 (wr.drewN q)) := Lib.hid (fun q => HB.out.trans ⟨rfl, rfl, rfl, Nat.le_refl _, fun _ _ => rfl⟩)
        by_cases hlt : j < m1
        · have jlt : (j : Int) < (m1 : Int) := by omega
          obtain ⟨a1, o1, x, e1, ha1, hx, HX⟩ := r2.at (k := j) (by rw [hl1.out]; exact hlt)
          obtain ⟨a2, o2, y, e2, ha2, hy, HY⟩ := r4.at (k := j) (by rw [hl2.out]; exact hlt)
          clear r1 r2 r3 r4
          subst e1 e2
          by_cases hxy : x = y
          · subst hxy
            have hst : Hid (∀ k, k < j + 1 → l1.getD k [] = l2.getD k []) := Lib.hid (fun k hk => by
              by_cases e : k = j
              · rw [e, ← HX.out, ← HY.out]
              · exact HQ.out k (by omega))
            go_wp2_with fail
            go_quiet (fail)
            go_wp2_with fail
            go_roundw
            case rel => exact ⟨j + 1, by omega, by go_num, hst, Lib.hid (HBQ.out _)⟩
            case measure => simp [Go.RowKit.intOf]; omega
          · obtain rfl : v = false := HNL.out j (by rw [← HX.out, ← HY.out]; exact hxy)
            have dxy : (x == y) = false := by simpa using hxy
            go_wp2_with fail
            go_quiet (fail)
            go_wp2_with fail
            go_ret
            first | exact ⟨HBA.out _ (HBQ.out _), rfl⟩ | exact ⟨by rw [← HA.out]; exact HBA.out _ (HBQ.out _), rfl⟩
        · obtain rfl : j = m1 := by omega
          have jlt : ¬ (j : Int) < (j : Int) := by omega
          have HLL : Hid (l1 = l2) := Lib.hid (List.ext_getElem (by rw [hl1.out, hl2.out]) (fun k h1 h2 => by
            have := HQ.out k (by rw [← hl1.out]; exact h1)
            rwa [List.getD_eq_getElem?_getD, List.getElem?_eq_getElem h1, List.getD_eq_getElem?_getD, List.getElem?_eq_getElem h2] at this))
          obtain rfl : v = true := by rw [HV.out, HSS.out, HLL.out]; simp
          clear r1 r2 r3 r4
          go_wp2_with fail
          go_ret
          first | exact ⟨HBA.out _ HB.out, rfl⟩ | exact ⟨by rw [← HA.out]; exact HBA.out _ HB.out, rfl⟩
end Go.Proofs.YtigidchicloleaaGreatDoor.Arr
