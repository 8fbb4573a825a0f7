/- Values that lie near each other: the law of a list. -/
import Derived.Test.YtpnofkefcoaojaaGreatDoorYQa
import Derived.Deep.RegionHeld3
set_option maxHeartbeats 8000000
set_option maxRecDepth 100000
namespace Go.Proofs.YtpnofkefcoaojaaGreatDoor
open Go.RowKit
open Go.Lib
theorem near_yes (p q : Option Addr) (c d n : Nat) (xs ys : List (List UInt8)) (st : List UInt8) (s : Rat) (w : World) (hx : Hid (xs.length = n)) (hy : Hid (ys.length = n)) (hn : n ≤ 100) (hp : Ss w p xs) (hq : Ss w q ys) (hst : num st = some s)
    (hvx : Hid (∀ j, j < n → xs.getD j [] = [] ∨ (num (xs.getD j [])).isSome = true)) (hvy : Hid (∀ j, j < n → ys.getD j [] = [] ∨ (num (ys.getD j [])).isSome = true)) (hnear : Hid (∀ j, j < n → NearAt s (xs.getD j []) (ys.getD j []))) :
    Calls Tryz.prog 21 #[.slice p n c, .slice q n d, .string ⟨st.toArray⟩] w fun e w' => e = .returned (.bool true) ∧ Below w.heap.size w w' := by
  have HP := Lib.hid hp
  have HQ := Lib.hid hq
  have HGS : Hid (∀ W, Calls Tryz.prog 31 #[.string ⟨st.toArray⟩] W (GvPost s true W)) := Lib.hid (fun W => by
    have h := getv st W (.inr (by rw [hst]; rfl))
    unfold qv at h
    rw [hst] at h
    exact h)
  have HSL : Hid (QLt 5 s) := Lib.hid (num_lt9 hst)
  obtain ⟨SZ, HSZ⟩ : ∃ SZ : ByteArray, Hid (⟨st.toArray⟩ = SZ) := ⟨_, rfl⟩
  rw [HSZ.out] at HGS ⊢
  have hni : (n : Int) ≤ 100 := by omega
  have hnn : ((n : Int) != (n : Int)) = false := by simp
  clear hp hq hst
  go_enter Tryz.func21, Tryz.ntmps21
  go_wp2_with fail
  refine (HGS.out _).mono ?_
  rintro e w1 ⟨bS, pS, nS, cS, qS, mS, dS, rfl, hb1, hqs⟩
  obtain ⟨GS, HGSx⟩ : ∃ GS, Hid (w1.heap.size = GS) := ⟨_, rfl⟩
  obtain ⟨W2, HW2⟩ : ∃ W2, Hid (w1.alloc (.cells #[.bool bS, .slice pS nS cS, .slice qS mS dS] 59) = W2) := ⟨_, Lib.hid rfl⟩
  have hb12 : Below w1.heap.size w1 W2 := by rw [← HW2.out]; exact (Below.refl _ _).alloc (Nat.le_refl _) _
  have HB2 : Hid (Below w.heap.size w W2) := Lib.hid (hb1.trans (hb12.mono hb1.size))
  have HBOX : Hid (W2.heap[GS]? = some (.cells #[.bool bS, .slice pS nS cS, .slice qS mS dS] 59 (0, 0))) := Lib.hid (by rw [← HW2.out, ← HGSx.out]; exact World.alloc_heap_new w1 _)
  have HQS : Hid (QAt W2 (.agg #[.bool bS, .slice pS nS cS, .slice qS mS dS]) s) := Lib.hid (hqs.below hb12)
  clear hb1 hb12 hqs
  go_wp2_with fail
  rw [HW2.out, HGSx.out]
  go_loopw [9] (fun iv wr => ∃ i : Nat, i ≤ n ∧ iv = .int .i64 i ∧ Hid (Below W2.heap.size W2 wr)) (fun iv _ => n - (intOf iv).toNat)
  case atStart => exact ⟨0, Nat.zero_le _, rfl, Lib.hid (Below.refl _ _)⟩
  case round =>
    obtain ⟨i, hi, rfl, HB⟩ := hrel
    have ii : (i : Int) ≤ (n : Int) := by omega
    have HBW : Hid (Below w.heap.size w wr) := Lib.hid (HB2.out.trans (HB.out.mono HB2.out.size))
    by_cases hlt : i < n
    · have ilt : (i : Int) < (n : Int) := by omega
      obtain ⟨b1, o1, x, e1, hl1, hc1, hxx⟩ := (HP.out.below HBW.out).at (k := i) (by rw [hx.out]; exact hlt)
      obtain ⟨b2, o2, y, e2, hl2, hc2, hyy⟩ := (HQ.out.below HBW.out).at (k := i) (by rw [hy.out]; exact hlt)
      subst e1
      subst e2
      have HNE := Lib.hid (hnear.out i hlt)
      have HVX := Lib.hid (hvx.out i hlt)
      have HVY := Lib.hid (hvy.out i hlt)
      rw [hxx.out] at HVX HNE
      rw [hyy.out] at HVY HNE
      obtain ⟨f, HF⟩ : ∃ f, Hid ((num x).isSome = f) := ⟨_, rfl⟩
      have HF2 : Hid ((num y).isSome = f) := Lib.hid (by rw [← HNE.out.1]; exact HF.out)
      obtain ⟨a, HA⟩ : ∃ a, Hid (qv x = a) := ⟨_, rfl⟩
      obtain ⟨b, HBQ⟩ : ∃ b, Hid (qv y = b) := ⟨_, rfl⟩
      obtain ⟨X, HX⟩ : ∃ X : ByteArray, Hid (⟨x.toArray⟩ = X) := ⟨_, rfl⟩
      obtain ⟨Y, HY⟩ : ∃ Y : ByteArray, Hid (⟨y.toArray⟩ = Y) := ⟨_, rfl⟩
      rw [HX.out] at hc1
      rw [HY.out] at hc2
      have HGX : Hid (∀ W, Calls Tryz.prog 31 #[.string X] W (GvPost a f W)) := Lib.hid (fun W => by
        have h := getv x W HVX.out
        rwa [HX.out, HA.out, HF.out] at h)
      have HGY : Hid (∀ W, Calls Tryz.prog 31 #[.string Y] W (GvPost b f W)) := Lib.hid (fun W => by
        have h := getv y W HVY.out
        rwa [HY.out, HBQ.out, HF2.out] at h)
      have HLA : Hid (QLt 5 a) := Lib.hid (by rw [← HA.out]; exact qv_lt x)
      have HLB : Hid (QLt 5 b) := Lib.hid (by rw [← HBQ.out]; exact qv_lt y)
      have HL2 := Lib.hid hl2
      have HC2 := Lib.hid hc2
      clear hl1 hl2 hc2
      go_wp2_with fail
      refine (HGX.out _).mono ?_
      rintro e w3 ⟨bX, pX, nX, cX, qX, mX, dX, rfl, hb3, hqx⟩
      obtain ⟨GX, HGXx⟩ : ∃ G, Hid (w3.heap.size = G) := ⟨_, rfl⟩
      obtain ⟨W4, HW4⟩ : ∃ W4, Hid (w3.alloc (.cells #[.bool bX, .slice pX nX cX, .slice qX mX dX] 59) = W4) := ⟨_, Lib.hid rfl⟩
      have hb34 : Below w3.heap.size w3 W4 := by rw [← HW4.out]; exact (Below.refl _ _).alloc (Nat.le_refl _) _
      have HR4 : Hid (Below wr.heap.size wr W4) := Lib.hid (hb3.trans (hb34.mono hb3.size))
      have HBX : Hid (W4.heap[GX]? = some (.cells #[.bool bX, .slice pX nX cX, .slice qX mX dX] 59 (0, 0))) := Lib.hid (by rw [← HW4.out, ← HGXx.out]; exact World.alloc_heap_new w3 _)
      have HQX : Hid (QAt W4 (.agg #[.bool bX, .slice pX nX cX, .slice qX mX dX]) a) := Lib.hid (hqx.below hb34)
      have hd2 := (HR4.out.cell (p := ⟨b2, o2 + i, none⟩) HL2.out).trans HC2.out
      rw [← HW4.out] at hd2
      clear hb3 hb34 hqx hc1
      go_wp2_with fail
      rw [HW4.out, HGXx.out]
      refine (HGY.out _).mono ?_
      rintro e w5 ⟨bY, pY, nY, cY, qY, mY, dY, rfl, hb5, hqy⟩
      obtain ⟨W6, HW6⟩ : ∃ W6, Hid (w5.alloc (.cells #[.bool bY, .slice pY nY cY, .slice qY mY dY] 59) = W6) := ⟨_, Lib.hid rfl⟩
      have hb56 : Below w5.heap.size w5 W6 := by rw [← HW6.out]; exact (Below.refl _ _).alloc (Nat.le_refl _) _
      have HR6 : Hid (Below W4.heap.size W4 W6) := Lib.hid (hb5.trans (hb56.mono hb5.size))
      have hbX6 : W6.heap[GX]? = some (.cells #[.bool bX, .slice pX nX cX, .slice qX mX dX] 59 (0, 0)) := (HR6.out.block GX (Array.getElem?_eq_some_iff.1 HBX.out).1).trans HBX.out
      have hx0 : W6.cell? ⟨GX, 0, none⟩ = some (.bool bX) := by simp [World.cell?, hbX6]
      have hx1 : W6.cell? ⟨GX, 1, none⟩ = some (.slice pX nX cX) := by simp [World.cell?, hbX6]
      have hx2 : W6.cell? ⟨GX, 2, none⟩ = some (.slice qX mX dX) := by simp [World.cell?, hbX6]
      rw [← HW6.out] at hx0 hx1 hx2
      have HMI : Hid (Calls Tryz.prog 51 #[.agg #[.bool bX, .slice pX nX cX, .slice qX mX dX], .agg #[.bool bY, .slice pY nY cY, .slice qY mY dY]] W6 (QPostC (a - b) W6)) := Lib.hid ((minus_any _ _ a b 5 5 W6 (by omega) HLA.out HLB.out (HQX.out.below HR6.out) (hqy.below hb56)).mono fun _ _ h => h.c)
      have hff : (f != f) = false := by simp
      clear hb5 hb56 hqy hbX6 hd2
      go_wp2_with fail
      rw [HW6.out]
      refine (HMI.out).mono ?_
      rintro e w7 ⟨bD, pD, nD, cD, qD, mD, dD, rfl, hqd, hb7⟩
      obtain ⟨GD, HGDx⟩ : ∃ G, Hid (w7.heap.size = G) := ⟨_, rfl⟩
      obtain ⟨W8, HW8⟩ : ∃ W8, Hid (w7.alloc (.cells #[.bool bD, .slice pD nD cD, .slice qD mD dD] 59) = W8) := ⟨_, Lib.hid rfl⟩
      have hb78 : Below w7.heap.size w7 W8 := by rw [← HW8.out]; exact (Below.refl _ _).alloc (Nat.le_refl _) _
      have HR8 : Hid (Below wr.heap.size wr W8) := Lib.hid (HR4.out.trans ((HR6.out.trans ((hb7.trans (hb78.mono hb7.size)).mono HR6.out.size)).mono HR4.out.size))
      have HBD : Hid (W8.heap[GD]? = some (.cells #[.bool bD, .slice pD nD cD, .slice qD mD dD] 59 (0, 0))) := Lib.hid (by rw [← HW8.out, ← HGDx.out]; exact World.alloc_heap_new w7 _)
      have HQD : Hid (QAt W8 (.agg #[.bool bD, .slice pD nD cD, .slice qD mD dD]) (a - b)) := Lib.hid (hqd.below hb78)
      have HB28 : Hid (Below W2.heap.size W2 W8) := Lib.hid (HB.out.trans (HR8.out.mono HB.out.size))
      have HALL : Hid (∀ W, Below W8.heap.size W8 W → Below W8.heap.size W8 W ∧ W.cell? ⟨GD, 0, none⟩ = some (.bool bD) ∧ W.cell? ⟨GD, 1, none⟩ = some (.slice pD nD cD) ∧ W.cell? ⟨GD, 2, none⟩ = some (.slice qD mD dD) ∧ W.cell? ⟨GS, 0, none⟩ = some (.bool bS) ∧ W.cell? ⟨GS, 1, none⟩ = some (.slice pS nS cS) ∧ W.cell? ⟨GS, 2, none⟩ = some (.slice qS mS dS)) := Lib.hid (fun W hW => by
        have h1 := (hW.block GD (Array.getElem?_eq_some_iff.1 HBD.out).1).trans HBD.out
        have h2 : W.heap[GS]? = _ := ((HB28.out.trans (hW.mono HB28.out.size)).block GS (Array.getElem?_eq_some_iff.1 HBOX.out).1).trans HBOX.out
        exact ⟨hW, by simp [World.cell?, h1], by simp [World.cell?, h1], by simp [World.cell?, h1], by simp [World.cell?, h2], by simp [World.cell?, h2], by simp [World.cell?, h2]⟩)
      obtain ⟨K1, hK1, hld⟩ := minus_bound HLA.out HLB.out
      have HLD := Lib.hid hld
      clear hld
      have HPL : Hid (∀ W, Below W8.heap.size W8 W → Calls Tryz.prog 32 #[.agg #[.bool bD, .slice pD nD cD, .slice qD mD dD], .agg #[.bool bD, .slice pD nD cD, .slice qD mD dD]] W (QPostC (a - b + (a - b)) W)) := Lib.hid (fun W hW => (plus_any _ _ _ _ K1 K1 W (by omega) HLD.out HLD.out (HQD.out.below hW) (HQD.out.below hW)).mono fun _ _ h => h.c)
      have HOP : Hid (∀ W, Below W8.heap.size W8 W → Calls Tryz.prog 53 #[.agg #[.bool bS, .slice pS nS cS, .slice qS mS dS]] W (QPostC (-s) W)) := Lib.hid (fun W hW => (opp_any _ s W (HQS.out.below (HB28.out.trans (hW.mono HB28.out.size)))).mono fun _ _ h => h.c)
      obtain ⟨z1, HZ1⟩ : ∃ z, Hid (sgnQ (a - b + (a - b) - s) = z) := ⟨_, rfl⟩
      obtain ⟨z2, HZ2⟩ : ∃ z, Hid (sgnQ (a - b + (a - b) - -s) = z) := ⟨_, rfl⟩
      have HCM1 : Hid (∀ W v, Below W8.heap.size W8 W → QAt W v (a - b + (a - b)) → Calls Tryz.prog 52 #[v, .agg #[.bool bS, .slice pS nS cS, .slice qS mS dS]] W fun e w' => e = .returned (.int .i64 z1) ∧ Below W.heap.size W w') := Lib.hid (fun W v hW hv => by
        have h := cmp_any v _ _ s (K1 + K1 + 1) 5 W (by omega) (HLD.out.add HLD.out) HSL.out hv (HQS.out.below (HB28.out.trans (hW.mono HB28.out.size)))
        rwa [HZ1.out] at h)
      have HCM2 : Hid (∀ W v u, Below W8.heap.size W8 W → QAt W v (a - b + (a - b)) → QAt W u (-s) → Calls Tryz.prog 52 #[v, u] W fun e w' => e = .returned (.int .i64 z2) ∧ Below W.heap.size W w') := Lib.hid (fun W v u hW hv hu => by
        have h := cmp_any v u _ (-s) (K1 + K1 + 1) 5 W (by omega) (HLD.out.add HLD.out) HSL.out.neg hv hu
        rwa [HZ2.out] at h)
      clear hb7 hb78 hqd hx0 hx1 hx2
      cases f with
      | false =>
        go_wp2_with fail
        rw [HW8.out, HGDx.out]
        go_quiet ((fail))
        have HBF : Hid (Below W2.heap.size W2 (W8.drewN nq)) := Lib.hid (HB28.out.trans (below_drewN _ _ nq))
        go_wp2_with fail
        go_roundw
        case rel => exact ⟨i + 1, by omega, by go_num, HBF⟩
        case measure => simp [intOf]; omega
      | true =>
        have hz1 : z1 ≤ 0 := by
          have h := (HNE.out.2 HF.out).1
          rw [HA.out, HBQ.out] at h
          rw [← HZ1.out]; exact sgn_le (by grind)
        have hz2 : 0 ≤ z2 := by
          have h := (HNE.out.2 HF.out).2
          rw [HA.out, HBQ.out] at h
          rw [← HZ2.out]; exact sgn_ge (by grind)
        have hz1d : decide ((0 : Int) < z1) = false := decide_eq_false (by omega)
        have hz2d : decide (z2 < (0 : Int)) = false := decide_eq_false (by omega)
        have hz1n : ¬ (0 : Int) < z1 := by omega
        have hz2n : ¬ z2 < (0 : Int) := by omega
        go_wp2_with fail
        rw [HW8.out, HGDx.out]
        go_region_held3 (fun W => Below W8.heap.size W8 W ∧ W.cell? ⟨GD, 0, none⟩ = some (.bool bD) ∧ W.cell? ⟨GD, 1, none⟩ = some (.slice pD nD cD) ∧ W.cell? ⟨GD, 2, none⟩ = some (.slice qD mD dD) ∧ W.cell? ⟨GS, 0, none⟩ = some (.bool bS) ∧ W.cell? ⟨GS, 1, none⟩ = some (.slice pS nS cS) ∧ W.cell? ⟨GS, 2, none⟩ = some (.slice qS mS dS))
          (first | exact HALL.out _ (Below.refl _ _) | exact HALL.out _ (Below.refl _ _).drew | (go_split_ands; exact HALL.out _ hA.out) | (go_split_ands; exact HALL.out _ hB.out) | (go_split_ands; exact HALL.out _ hC.out) | (go_split_ands; exact HALL.out _ hE.out) | (go_split_ands; exact HALL.out _ hF.out))
          (first | (go_at_call 53; go_split_ands; refine (HOP.out _ (by assumption)).mono ?_; rintro e wE ⟨sE, pE, nE, cE, qE, mE, dE, rfl, hqE, hbE⟩; have hE : Hid (Below W8.heap.size W8 wE) := Lib.hid (Below.trans (by assumption) (hbE.mono (Below.size (by assumption))))) | (go_at_call 32; go_split_ands; have hx := hbB; refine (HPL.out _ (by assumption)).mono ?_; rintro e wC ⟨sC, pC, nC, cC, qC, mC, dC, rfl, hqC, hbC⟩; have hC : Hid (Below W8.heap.size W8 wC) := Lib.hid (Below.trans (by assumption) (hbC.mono (Below.size (by assumption))))) | (go_at_call 32; go_split_ands; refine (HPL.out _ (by assumption)).mono ?_; rintro e wA ⟨sA, pA, nA, cA, qA, mA, dA, rfl, hqA, hbA⟩; have hA : Hid (Below W8.heap.size W8 wA) := Lib.hid (Below.trans (by assumption) (hbA.mono (Below.size (by assumption))))) | (go_at_call 52; go_split_ands; have hx := hbB; refine (HCM2.out _ _ _ (by assumption) (by first | exact hqC | exact hqC.below hbE | exact hqC.dr | exact (hqC.below hbE).dr) (by first | exact hqE | exact hqE.below hbC | exact hqE.dr | exact (hqE.below hbC).dr)).mono ?_; rintro e wF ⟨rfl, hbF⟩; have hF : Hid (Below W8.heap.size W8 wF) := Lib.hid (Below.trans (by assumption) (hbF.mono (Below.size (by assumption))))) | (go_at_call 52; go_split_ands; refine (HCM1.out _ _ (by assumption) (by first | exact hqA | exact hqA.dr)).mono ?_; rintro e wB ⟨rfl, hbB⟩; have hB : Hid (Below W8.heap.size W8 wB) := Lib.hid (Below.trans (by assumption) (hbB.mono (Below.size (by assumption))))))
        all_goals
          have HBF : Hid (Below W2.heap.size W2 wF) := Lib.hid (HB28.out.trans (hF.out.mono HB28.out.size))
          go_wp2_with fail
          go_roundw
          case rel => exact ⟨i + 1, by omega, by go_num, HBF⟩
          case measure => simp [intOf]; omega
    · obtain rfl : i = n := by omega
      have ilt : ¬ (i : Int) < (i : Int) := by omega
      go_wp2_with fail
      go_ret
      exact ⟨rfl, HBW.out⟩
end Go.Proofs.YtpnofkefcoaojaaGreatDoor
