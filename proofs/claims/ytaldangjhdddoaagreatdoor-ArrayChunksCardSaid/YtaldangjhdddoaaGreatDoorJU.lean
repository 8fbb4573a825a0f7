/- The law ArrayChunks. -/
import Derived.Test.YtaldangjhdddoaaGreatDoorJO
import Derived.Test.YtaldangjhdddoaaGreatDoorJT
import Derived.Test.YtaldangjhdddoaaGreatDoorJQ
set_option maxHeartbeats 8000000
set_option maxRecDepth 100000
namespace Go.Proofs.YtaldangjhdddoaaGreatDoor.Arr
open Go.RowKit Go.Shelf
open Go.Lib
attribute [local go_sem] Oper.semAt_some
theorem chunksR_ok (s z : List Int) : (chunksR s z).2.length ≤ 4096 ∧ ∀ x ∈ (chunksR s z).2, x.length ≤ 1000 := by
  unfold chunksR
  by_cases h : chkV s z ≠ 0
  · rw [if_pos h]; exact ⟨by simp, fun x hx => by cases hx⟩
  · rw [if_neg h]
    obtain ⟨s0, z0, rfl, rfl, hsh, hzl, hzb⟩ := chk_zero (Classical.not_not.1 h)
    rw [toNat_map, toNat_map]
    unfold chunksL
    refine ⟨by rw [List.length_map, List.length_range]; exact (nums_shp hsh hzl hzb).2.2, fun x hx => ?_⟩
    obtain ⟨j, -, rfl⟩ := List.mem_map.1 hx
    have := hsh.1
    rw [ixOf_len, nums_len]; omega
theorem touR_ok (s z : List Int) (cuts : List (Int × Int × Int)) : (touR s z cuts).2.length ≤ 4096 ∧ ∀ x ∈ (touR s z cuts).2, x.length ≤ 1000 := by
  by_cases h : (touR s z cuts).1 = 0
  · obtain ⟨s0, z0, -, -, -, -, -, -, h1, h2⟩ := tou_good h
    have h3 := chunksR_ok s z
    rw [h2] at h3
    rw [h1]
    exact ⟨Nat.le_trans (List.length_filter_le _ _) h3.1, fun x hx => h3.2 x (List.mem_filter.1 hx).1⟩
  · rw [tou_bad h]; exact ⟨by simp, fun x hx => by cases hx⟩
theorem boxR_ok (s z ix : List Int) : (boxR s z ix).2.length ≤ 1000 := by
  unfold boxR
  by_cases h : chkV s z ≠ 0
  · rw [if_pos h]; simp
  · rw [if_neg h]
    obtain ⟨s0, z0, rfl, rfl, hsh, hzl, hzb⟩ := chk_zero (Classical.not_not.1 h)
    rw [toNat_map, toNat_map]
    by_cases h2 : ixOk (nums s0 z0) ix = false
    · rw [if_pos h2]; simp
    · rw [if_neg h2]
      have := hsh.1
      show (boxL s0 z0 _).length ≤ 1000
      rw [boxL_len]; omega
theorem chunks_law (p q r sq : Option Addr) (c d f g n k m u : Nat) (s z ix0 : List Int) (cuts : List (Int × Int × Int)) (w : World) (he : Env w) (hs : Hid (s.length = n)) (hk : Hid (z.length = k)) (hm : Hid (ix0.length = m)) (hu : Hid (cuts.length = u)) (hp : Rd w p s) (hq : Rd w q z) (hr : Rd w r ix0) (hsq : RdC w sq cuts) :
    Calls Tryz.prog 6 #[.agg #[.slice p n c, .slice q k d, .slice r m f, .slice sq u g]] w fun e w' => Below w.heap.size w w' ∧ e = .returned (.bool true) := by
  have HP := Lib.hid hp
  have HQ := Lib.hid hq
  have HR := Lib.hid hr
  have HSQ := Lib.hid hsq
  have HE := Lib.hid he
  clear hp hq hr hsq he
  obtain ⟨A, HA⟩ : ∃ A, Hid (A = w.heap.size) := ⟨_, Lib.hid rfl⟩
  obtain ⟨W0, HW0⟩ : ∃ W0, Hid (w.alloc (.cells #[.slice p n c, .slice q k d, .slice r m f, .slice sq u g] 45) = W0) := ⟨_, Lib.hid rfl⟩
  have HBW : Hid (Below w.heap.size w W0) := Lib.hid (by rw [← HW0.out]; exact (Below.refl _ w).alloc (Nat.le_refl _) _)
  have HX0 : Hid (W0.heap[A]? = some (.cells #[.slice p n c, .slice q k d, .slice r m f, .slice sq u g] 45 (0, 0))) := Lib.hid (by rw [← HW0.out, HA.out]; exact World.alloc_heap_new w _)
  have HBX : Hid (∀ W, Below W0.heap.size W0 W → Vc w W0 A p q r sq n c k d m f u g W) := Lib.hid (fun W hW => by
    have h0 := (hW.block A (Array.getElem?_eq_some_iff.1 HX0.out).1).trans HX0.out
    exact ⟨HBW.out.trans (hW.mono HBW.out.size), hW, by simp [World.cell?, h0], by simp [World.cell?, h0], by simp [World.cell?, h0], by simp [World.cell?, h0]⟩)
  have HSANE : Hid (∀ W, Below W0.heap.size W0 W → Calls Tryz.prog 13 #[] W fun e w' => Below W.heap.size W w' ∧ e = .returned (.bool true)) := Lib.hid (fun W hW => sane_any W (HE.out.below (HBX.out W hW).below))
  obtain ⟨b, HBG⟩ : ∃ b, Hid (b = bigT s) := ⟨_, Lib.hid rfl⟩
  have H12 : Hid (Calls Tryz.prog 12 #[.slice p n c] W0 fun e w' => W0 = w' ∧ e = .returned (.bool b)) := Lib.hid (by rw [HBG.out]; exact big_any p c n s W0 hs (HP.out.below HBW.out))
  have HR0 := Lib.hid (Below.refl W0.heap.size W0)
  by_cases hb : b = true
  · subst hb
    obtain ⟨-, -, b0, b1, b2, b3⟩ := HBX.out W0 HR0.out
    go_enter Tryz.func6, Tryz.ntmps6
    go_wp2_with fail
    rw [HW0.out, ← HA.out]
    go_wp2_with fail
    refine (H12.out).mono ?_
    rintro e w1 ⟨rfl, rfl⟩
    go_wp2_with fail
    refine (HSANE.out _ HR0.out).mono ?_
    rintro e w9 ⟨hb9, rfl⟩
    have HB9 := Lib.hid (HBX.out w9 (HR0.out.trans (hb9.mono HR0.out.size))).below
    clear hb9
    go_wp2_with fail
    go_ret
    exact ⟨HB9.out, rfl⟩
  obtain rfl : b = false := by simpa using hb
  by_cases hk10 : 10 < k
  · have ik : (10 : Int) < (k : Int) := by omega
    obtain ⟨-, -, b0, b1, b2, b3⟩ := HBX.out W0 HR0.out
    go_enter Tryz.func6, Tryz.ntmps6
    go_wp2_with fail
    rw [HW0.out, ← HA.out]
    go_wp2_with fail
    refine (H12.out).mono ?_
    rintro e w1 ⟨rfl, rfl⟩
    go_wp2_with fail
    refine (HSANE.out _ HR0.out).mono ?_
    rintro e w9 ⟨hb9, rfl⟩
    have HB9 := Lib.hid (HBX.out w9 (HR0.out.trans (hb9.mono HR0.out.size))).below
    clear hb9
    go_wp2_with fail
    go_ret
    exact ⟨HB9.out, rfl⟩
  have ik : ¬ (10 : Int) < (k : Int) := by omega
  by_cases hm10 : 10 < m
  · have im : (10 : Int) < (m : Int) := by omega
    obtain ⟨-, -, b0, b1, b2, b3⟩ := HBX.out W0 HR0.out
    go_enter Tryz.func6, Tryz.ntmps6
    go_wp2_with fail
    rw [HW0.out, ← HA.out]
    go_wp2_with fail
    refine (H12.out).mono ?_
    rintro e w1 ⟨rfl, rfl⟩
    go_wp2_with fail
    refine (HSANE.out _ HR0.out).mono ?_
    rintro e w9 ⟨hb9, rfl⟩
    have HB9 := Lib.hid (HBX.out w9 (HR0.out.trans (hb9.mono HR0.out.size))).below
    clear hb9
    go_wp2_with fail
    go_ret
    exact ⟨HB9.out, rfl⟩
  have im : ¬ (10 : Int) < (m : Int) := by omega
  by_cases hu10 : 10 < u
  · have iu : (10 : Int) < (u : Int) := by omega
    obtain ⟨-, -, b0, b1, b2, b3⟩ := HBX.out W0 HR0.out
    go_enter Tryz.func6, Tryz.ntmps6
    go_wp2_with fail
    rw [HW0.out, ← HA.out]
    go_wp2_with fail
    refine (H12.out).mono ?_
    rintro e w1 ⟨rfl, rfl⟩
    go_wp2_with fail
    refine (HSANE.out _ HR0.out).mono ?_
    rintro e w9 ⟨hb9, rfl⟩
    have HB9 := Lib.hid (HBX.out w9 (HR0.out.trans (hb9.mono HR0.out.size))).below
    clear hb9
    go_wp2_with fail
    go_ret
    exact ⟨HB9.out, rfl⟩
  have iu : ¬ (10 : Int) < (u : Int) := by omega
  obtain ⟨zC, HZC⟩ : ∃ x, Hid (x = (chunksR s z).1) := ⟨_, Lib.hid rfl⟩
  obtain ⟨LC, HLC⟩ : ∃ x, Hid (x = (chunksR s z).2) := ⟨_, Lib.hid rfl⟩
  obtain ⟨zB, HZB⟩ : ∃ x, Hid (x = (boxR s z ix0).1) := ⟨_, Lib.hid rfl⟩
  obtain ⟨LB, HLB⟩ : ∃ x, Hid (x = (boxR s z ix0).2) := ⟨_, Lib.hid rfl⟩
  obtain ⟨zT, HZT⟩ : ∃ x, Hid (x = (touR s z cuts).1) := ⟨_, Lib.hid rfl⟩
  obtain ⟨LT, HLT⟩ : ∃ x, Hid (x = (touR s z cuts).2) := ⟨_, Lib.hid rfl⟩
  have H29 : Hid (∀ W, Below W0.heap.size W0 W → Calls Tryz.prog 29 #[.slice p n c, .slice q k d] W (LstPost W zC LC)) := Lib.hid (fun W hW => by
    have h := (HBX.out W hW).below
    rw [HZC.out, HLC.out]; exact chunks_any p q c d n k s z W hs hk (HP.out.below h) (HQ.out.below h))
  have H30 : Hid (∀ W, Below W0.heap.size W0 W → Calls Tryz.prog 30 #[.slice p n c, .slice q k d] W (LstPost W zC LC)) := Lib.hid (fun W hW => by
    have h := (HBX.out W hW).below
    rw [HZC.out, HLC.out]; exact rchunks_any p q c d n k s z W hs hk (HP.out.below h) (HQ.out.below h))
  have H31 : Hid (∀ W, Below W0.heap.size W0 W → Calls Tryz.prog 31 #[.slice p n c, .slice q k d, .slice r m f] W (CutsPost W zB LB)) := Lib.hid (fun W hW => by
    have h := (HBX.out W hW).below
    rw [HZB.out, HLB.out]; exact box_all p q r c d f n k m s z ix0 W hs hk hm (HP.out.below h) (HQ.out.below h) (HR.out.below h))
  have H32 : Hid (∀ W, Below W0.heap.size W0 W → Calls Tryz.prog 32 #[.slice p n c, .slice q k d, .slice r m f] W (CutsPost W zB LB)) := Lib.hid (fun W hW => by
    have h := (HBX.out W hW).below
    rw [HZB.out, HLB.out]; exact rboxw_any p q r c d f n k m s z ix0 W hs hk hm (HP.out.below h) (HQ.out.below h) (HR.out.below h))
  have H33 : Hid (∀ W, Below W0.heap.size W0 W → Calls Tryz.prog 33 #[.slice p n c, .slice q k d, .slice sq u g] W (LstPost W zT LT)) := Lib.hid (fun W hW => by
    have h := (HBX.out W hW).below
    rw [HZT.out, HLT.out]; exact touched_any p q sq c d g n k u s z cuts W hs hk hu (HP.out.below h) (HQ.out.below h) (HSQ.out.below h))
  have H34 : Hid (∀ W, Below W0.heap.size W0 W → Calls Tryz.prog 34 #[.slice p n c, .slice q k d, .slice sq u g] W (LstPost W zT LT)) := Lib.hid (fun W hW => by
    have h := (HBX.out W hW).below
    rw [HZT.out, HLT.out]; exact rtouched_any p q sq c d g n k u s z cuts W hs hk hu (HP.out.below h) (HQ.out.below h) (HSQ.out.below h))
  have HOC : Hid (LC.length ≤ 4096 ∧ ∀ x ∈ LC, x.length ≤ 1000) := Lib.hid (by rw [HLC.out]; exact chunksR_ok s z)
  have HOT : Hid (LT.length ≤ 4096 ∧ ∀ x ∈ LT, x.length ≤ 1000) := Lib.hid (by rw [HLT.out]; exact touR_ok s z cuts)
  have HOB : Hid (LB.length ≤ 1000) := Lib.hid (by rw [HLB.out]; exact boxR_ok s z ix0)
  obtain ⟨-, -, b0, b1, b2, b3⟩ := HBX.out W0 HR0.out
  go_enter Tryz.func6, Tryz.ntmps6
  go_wp2_with fail
  rw [HW0.out, ← HA.out]
  go_wp2_with fail
  refine (H12.out).mono ?_
  rintro e v0 ⟨rfl, rfl⟩
  obtain ⟨v0, rfl⟩ : ∃ v0, v0 = W0 := ⟨_, rfl⟩
  have HB0 := HR0
  clear b0 b1 b2 b3
  obtain ⟨-, -, b0, b1, b2, b3⟩ := HBX.out v0 HB0.out
  go_wp2_with fail
  refine (H29.out _ HB0.out).mono ?_
  rintro e v1 ⟨hb1, q1, n1, c1, rfl, hn1, hr1⟩
  have HD1 : Hid (Below v0.heap.size v0 v1) := Lib.hid hb1
  have HB1 : Hid (Below v0.heap.size v0 v1) := Lib.hid (HB0.out.trans (hb1.mono HB0.out.size))
  have HN1 := Lib.hid hn1
  have HRR1 := Lib.hid hr1
  clear hb1 hn1 hr1 b0 b1 b2 b3
  obtain ⟨-, -, b0, b1, b2, b3⟩ := HBX.out v1 HB1.out
  go_wp2_with fail
  refine (H30.out _ HB1.out).mono ?_
  rintro e v2 ⟨hb1, q2, n2, c2, rfl, hn2, hr2⟩
  have HD2 : Hid (Below v1.heap.size v1 v2) := Lib.hid hb1
  have HB2 : Hid (Below v0.heap.size v0 v2) := Lib.hid (HB1.out.trans (hb1.mono HB1.out.size))
  have HN2 := Lib.hid hn2
  have HRR2 := Lib.hid hr2
  clear hb1 hn2 hr2 b0 b1 b2 b3
  obtain ⟨-, -, b0, b1, b2, b3⟩ := HBX.out v2 HB2.out
  go_wp2_with fail
  refine (H31.out _ HB2.out).mono ?_
  rintro e v3 ⟨hb1, q3, n3, c3, rfl, hn3, hr3⟩
  have HD3 : Hid (Below v2.heap.size v2 v3) := Lib.hid hb1
  have HB3 : Hid (Below v0.heap.size v0 v3) := Lib.hid (HB2.out.trans (hb1.mono HB2.out.size))
  have HN3 := Lib.hid hn3
  have HRR3 := Lib.hid hr3
  clear hb1 hn3 hr3 b0 b1 b2 b3
  obtain ⟨-, -, b0, b1, b2, b3⟩ := HBX.out v3 HB3.out
  go_wp2_with fail
  refine (H32.out _ HB3.out).mono ?_
  rintro e v4 ⟨hb1, q4, n4, c4, rfl, hn4, hr4⟩
  have HD4 : Hid (Below v3.heap.size v3 v4) := Lib.hid hb1
  have HB4 : Hid (Below v0.heap.size v0 v4) := Lib.hid (HB3.out.trans (hb1.mono HB3.out.size))
  have HN4 := Lib.hid hn4
  have HRR4 := Lib.hid hr4
  clear hb1 hn4 hr4 b0 b1 b2 b3
  obtain ⟨-, -, b0, b1, b2, b3⟩ := HBX.out v4 HB4.out
  go_wp2_with fail
  refine (H33.out _ HB4.out).mono ?_
  rintro e v5 ⟨hb1, q5, n5, c5, rfl, hn5, hr5⟩
  have HD5 : Hid (Below v4.heap.size v4 v5) := Lib.hid hb1
  have HB5 : Hid (Below v0.heap.size v0 v5) := Lib.hid (HB4.out.trans (hb1.mono HB4.out.size))
  have HN5 := Lib.hid hn5
  have HRR5 := Lib.hid hr5
  clear hb1 hn5 hr5 b0 b1 b2 b3
  obtain ⟨-, -, b0, b1, b2, b3⟩ := HBX.out v5 HB5.out
  go_wp2_with fail
  refine (H34.out _ HB5.out).mono ?_
  rintro e v6 ⟨hb1, q6, n6, c6, rfl, hn6, hr6⟩
  have HD6 : Hid (Below v5.heap.size v5 v6) := Lib.hid hb1
  have HB6 : Hid (Below v0.heap.size v0 v6) := Lib.hid (HB5.out.trans (hb1.mono HB5.out.size))
  have HN6 := Lib.hid hn6
  have HRR6 := Lib.hid hr6
  clear hb1 hn6 hr6 b0 b1 b2 b3
  obtain rfl : n2 = n1 := by rw [← HN2.out, HN1.out]
  obtain rfl : n4 = n3 := by rw [← HN4.out, HN3.out]
  obtain rfl : n6 = n5 := by rw [← HN6.out, HN5.out]
  have H35 : Hid (Calls Tryz.prog 35 #[.slice q1 n2 c1, .slice q2 n2 c2] v6 fun e w' => Below v6.heap.size v6 w' ∧ e = .returned (.bool true)) := Lib.hid
    (indexes_any q1 q2 c1 c2 n2 LC v6 HN1 (by rw [← HN1.out]; exact HOC.out.1) (Lib.hid HOC.out.2) (((((HRR1.out.below HD2.out).below HD3.out).below HD4.out).below HD5.out).below HD6.out) ((((HRR2.out.below HD3.out).below HD4.out).below HD5.out).below HD6.out))
  have H36 : Hid (∀ W, Below v6.heap.size v6 W → Calls Tryz.prog 36 #[.slice q3 n4 c3, .slice q4 n4 c4] W fun e w' => Below W.heap.size W w' ∧ e = .returned (.bool true)) := Lib.hid (fun W hW =>
    sameslab_any q3 q4 c3 c4 n4 LB W HN3 (by rw [← HN3.out]; exact HOB.out) ((((HRR3.out.below HD4.out).below HD5.out).below HD6.out).below hW) (((HRR4.out.below HD5.out).below HD6.out).below hW))
  have H35b : Hid (∀ W, Below v6.heap.size v6 W → Calls Tryz.prog 35 #[.slice q5 n6 c5, .slice q6 n6 c6] W fun e w' => Below W.heap.size W w' ∧ e = .returned (.bool true)) := Lib.hid (fun W hW =>
    indexes_any q5 q6 c5 c6 n6 LT W HN5 (by rw [← HN5.out]; exact HOT.out.1) (Lib.hid HOT.out.2) ((HRR5.out.below HD6.out).below hW) (HRR6.out.below hW))
  have eC : (zC == zC) = true := by simp
  have eB : (zB == zB) = true := by simp
  have eT : (zT == zT) = true := by simp
  go_wp2_with fail
  refine (H35.out).mono ?_
  rintro e y1 ⟨hb1, rfl⟩
  have HY1 := Lib.hid hb1
  clear hb1
  go_wp2_with fail
  refine (H36.out _ HY1.out).mono ?_
  rintro e y2 ⟨hb1, rfl⟩
  have HY2 : Hid (Below v6.heap.size v6 y2) := Lib.hid (HY1.out.trans (hb1.mono HY1.out.size))
  clear hb1
  go_wp2_with fail
  refine (H35b.out _ HY2.out).mono ?_
  rintro e y3 ⟨hb1, rfl⟩
  have HY3 : Hid (Below v0.heap.size v0 y3) := Lib.hid (HB6.out.trans ((HY2.out.trans (hb1.mono HY2.out.size)).mono HB6.out.size))
  clear hb1
  go_wp2_with fail
  refine (HSANE.out _ HY3.out).mono ?_
  rintro e w9 ⟨hb9, rfl⟩
  have HB9 := Lib.hid (HBX.out w9 (HY3.out.trans (hb9.mono HY3.out.size))).below
  clear hb9
  go_wp2_with fail
  go_ret
  exact ⟨HB9.out, rfl⟩
end Go.Proofs.YtaldangjhdddoaaGreatDoor.Arr
