/- The law ArrayChunks. -/
import Derived.Test.YtigidchicloleaaGreatDoorJO
import Derived.Test.YtigidchicloleaaGreatDoorJT
import Derived.Test.YtigidchicloleaaGreatDoorJR
import Derived.Test.YtigidchicloleaaGreatDoorHA
import Derived.Test.YtigidchicloleaaGreatDoorCards
import Derived.Test.YtigidchicloleaaGreatDoorTie
import Derived.ProofKit
import Derived.OpenShut
import Derived.ShutString
import Derived.LaidMore
import Derived.ChangeMaps5
import Derived.ChangeSlices
import Derived.Carry
import Derived.Stop.LaidErr
import Derived.RowKitTokens
import Derived.Deep.DeepHandedRow
import Derived.Deep.Strs
import Derived.Lib.LaidTab
import Derived.SliceStrings
import Derived.Deep.Slices
import Derived.Lib.SmallJoins
set_option maxHeartbeats 8000000
set_option maxRecDepth 100000
namespace Go.Proofs.YtigidchicloleaaGreatDoor.Arr
open Go.RowKit Go.Shelf
open Go.Lib
attribute [local go_sem] Oper.semAt_some
theorem chunksR_ok (s z : List Int) : (chunksR s z).2.length ≤ 4096 ∧ ∀ x ∈ (chunksR s z).2, x.length ≤ 1000 := by
  unfold chunksR
  by_cases h : chkV s z ≠ 0
  · rw [if_pos h]; exact ⟨by simp, fun x hx => by cases hx⟩
  · rw [if_neg h]
    obtain ⟨s0, z0, rfl, rfl, hsh, hzl, hzb⟩ := chk_zero (Classical.not_not.1 h)
    rw [toNat_map, toNat_map]
    unfold chunksL
    refine ⟨by rw [List.length_map, List.length_range]; exact (nums_shp hsh hzl hzb).2.2, fun x hx => ?_⟩
    obtain ⟨j, -, rfl⟩ := List.mem_map.1 hx
    have := hsh.1
    rw [ixOf_len, nums_len]; omega
theorem touR_ok (s z : List Int) (cuts : List (Int × Int × Int)) : (touR s z cuts).2.length ≤ 4096 ∧ ∀ x ∈ (touR s z cuts).2, x.length ≤ 1000 := by
  by_cases h : (touR s z cuts).1 = 0
  · obtain ⟨s0, z0, -, -, -, -, -, -, h1, h2⟩ := tou_good h
    have h3 := chunksR_ok s z
    rw [h2] at h3
    rw [h1]
    exact ⟨Nat.le_trans (List.length_filter_le _ _) h3.1, fun x hx => h3.2 x (List.mem_filter.1 hx).1⟩
  · rw [tou_bad h]; exact ⟨by simp, fun x hx => by cases hx⟩
theorem boxR_ok (s z ix : List Int) : (boxR s z ix).2.length ≤ 1000 := by
  unfold boxR
  by_cases h : chkV s z ≠ 0
  · rw [if_pos h]; simp
  · rw [if_neg h]
    obtain ⟨s0, z0, rfl, rfl, hsh, hzl, hzb⟩ := chk_zero (Classical.not_not.1 h)
    rw [toNat_map, toNat_map]
    by_cases h2 : ixOk (nums s0 z0) ix = false
    · rw [if_pos h2]; simp
    · rw [if_neg h2]
      have := hsh.1
      show (boxL s0 z0 _).length ≤ 1000
      rw [boxL_len]; omega
theorem chunks_law (p q r sq : Option Addr) (c d f g n k m u : Nat) (s z ix0 : List Int) (cuts : List (Int × Int × Int)) (w : World) (he : Env w) (hs : Hid (s.length = n)) (hk : Hid (z.length = k)) (hm : Hid (ix0.length = m)) (hu : Hid (cuts.length = u)) (hp : Rd w p s) (hq : Rd w q z) (hr : Rd w r ix0) (hsq : RdC w sq cuts) :
    Calls Tryz.prog 6 #[.agg #[.slice p n c, .slice q k d, .slice r m f, .slice sq u g]] w fun e w' => Below w.heap.size w w' ∧ e = .returned (.bool true) := by
  have HP := Lib.hid hp
  have HQ := Lib.hid hq
  have HR := Lib.hid hr
  have HSQ := Lib.hid hsq
  have HE := Lib.hid he
  clear hp hq hr hsq he
  obtain ⟨A, HA⟩ : ∃ A, Hid (A = w.heap.size) := ⟨_, Lib.hid rfl⟩
  obtain ⟨W0, HW0⟩ : ∃ W0, Hid (w.alloc (.cells #[.slice p n c, .slice q k d, .slice r m f, .slice sq u g] 45) = W0) := ⟨_, Lib.hid rfl⟩
  have HBW : Hid (Below w.heap.size w W0) := Lib.hid (by rw [← HW0.out]; exact (Below.refl _ w).alloc (Nat.le_refl _) _)
  have HX0 : Hid (W0.heap[A]? = some (.cells #[.slice p n c, .slice q k d, .slice r m f, .slice sq u g] 45 (0, 0))) := Lib.hid (by rw [← HW0.out, HA.out]; exact World.alloc_heap_new w _)
  have HBX : Hid (∀ W, Below W0.heap.size W0 W → Vc w W0 A p q r sq n c k d m f u g W) := Lib.hid (fun W hW => by
    have h0 := (hW.block A (Array.getElem?_eq_some_iff.1 HX0.out).1).trans HX0.out
    exact ⟨HBW.out.trans (hW.mono HBW.out.size), hW, by simp [World.cell?, h0], by simp [World.cell?, h0], by simp [World.cell?, h0], by simp [World.cell?, h0]⟩)
  have HSANE : Hid (∀ W, Below W0.heap.size W0 W → Calls Tryz.prog 14 #[] W fun e w' => Below W.heap.size W w' ∧ e = .returned (.bool true)) := Lib.hid (fun W hW => sane_any W (HE.out.below (HBX.out W hW).below))
  obtain ⟨b, HBG⟩ : ∃ b, Hid (b = bigT s) := ⟨_, Lib.hid rfl⟩
  have H12 : Hid (Calls Tryz.prog 13 #[.slice p n c] W0 fun e w' => W0 = w' ∧ e = .returned (.bool b)) := Lib.hid (by rw [HBG.out]; exact big_any p c n s W0 hs (HP.out.below HBW.out))
  have HR0 := Lib.hid (Below.refl W0.heap.size W0)
  by_cases hb : b = true
  · subst hb
    obtain ⟨-, -, b0, b1, b2, b3⟩ := HBX.out W0 HR0.out
    go_enter Tryz.func6, Tryz.ntmps6
    go_wp2_with fail
    rw [HW0.out, ← HA.out]
    go_wp2_with fail
    refine (H12.out).mono ?_
    rintro e w1 ⟨rfl, rfl⟩
    go_wp2_with fail
    refine (HSANE.out _ HR0.out).mono ?_
    rintro e w9 ⟨hb9, rfl⟩
    have HB9 := Lib.hid (HBX.out w9 (HR0.out.trans (hb9.mono HR0.out.size))).below
    clear hb9
    go_wp2_with fail
    go_ret
    exact ⟨HB9.out, rfl⟩
  obtain rfl : b = false := by simpa using hb
  by_cases hk10 : 10 < k
  · have ik : (10 : Int) < (k : Int) := by omega
    obtain ⟨-, -, b0, b1, b2, b3⟩ := HBX.out W0 HR0.out
    go_enter Tryz.func6, Tryz.ntmps6
    go_wp2_with fail
    rw [HW0.out, ← HA.out]
    go_wp2_with fail
    refine (H12.out).mono ?_
    rintro e w1 ⟨rfl, rfl⟩
    go_wp2_with fail
    refine (HSANE.out _ HR0.out).mono ?_
    rintro e w9 ⟨hb9, rfl⟩
    have HB9 := Lib.hid (HBX.out w9 (HR0.out.trans (hb9.mono HR0.out.size))).below
    clear hb9
    go_wp2_with fail
    go_ret
    exact ⟨HB9.out, rfl⟩
  have ik : ¬ (10 : Int) < (k : Int) := by omega
  by_cases hm10 : 10 < m
  · have im : (10 : Int) < (m : Int) := by omega
    obtain ⟨-, -, b0, b1, b2, b3⟩ := HBX.out W0 HR0.out
    go_enter Tryz.func6, Tryz.ntmps6
    go_wp2_with fail
    rw [HW0.out, ← HA.out]
    go_wp2_with fail
    refine (H12.out).mono ?_
    rintro e w1 ⟨rfl, rfl⟩
    go_wp2_with fail
    refine (HSANE.out _ HR0.out).mono ?_
    rintro e w9 ⟨hb9, rfl⟩
    have HB9 := Lib.hid (HBX.out w9 (HR0.out.trans (hb9.mono HR0.out.size))).below
    clear hb9
    go_wp2_with fail
    go_ret
    exact ⟨HB9.out, rfl⟩
  have im : ¬ (10 : Int) < (m : Int) := by omega
  by_cases hu10 : 10 < u
  · have iu : (10 : Int) < (u : Int) := by omega
    obtain ⟨-, -, b0, b1, b2, b3⟩ := HBX.out W0 HR0.out
    go_enter Tryz.func6, Tryz.ntmps6
    go_wp2_with fail
    rw [HW0.out, ← HA.out]
    go_wp2_with fail
    refine (H12.out).mono ?_
    rintro e w1 ⟨rfl, rfl⟩
    go_wp2_with fail
    refine (HSANE.out _ HR0.out).mono ?_
    rintro e w9 ⟨hb9, rfl⟩
    have HB9 := Lib.hid (HBX.out w9 (HR0.out.trans (hb9.mono HR0.out.size))).below
    clear hb9
    go_wp2_with fail
    go_ret
    exact ⟨HB9.out, rfl⟩
  have iu : ¬ (10 : Int) < (u : Int) := by omega
  obtain ⟨zC, HZC⟩ : ∃ x, Hid (x = (chunksR s z).1) := ⟨_, Lib.hid rfl⟩
  obtain ⟨LC, HLC⟩ : ∃ x, Hid (x = (chunksR s z).2) := ⟨_, Lib.hid rfl⟩
  obtain ⟨zB, HZB⟩ : ∃ x, Hid (x = (boxR s z ix0).1) := ⟨_, Lib.hid rfl⟩
  obtain ⟨LB, HLB⟩ : ∃ x, Hid (x = (boxR s z ix0).2) := ⟨_, Lib.hid rfl⟩
  obtain ⟨zT, HZT⟩ : ∃ x, Hid (x = (touR s z cuts).1) := ⟨_, Lib.hid rfl⟩
  obtain ⟨LT, HLT⟩ : ∃ x, Hid (x = (touR s z cuts).2) := ⟨_, Lib.hid rfl⟩
  have H29 : Hid (∀ W, Below W0.heap.size W0 W → Calls Tryz.prog 30 #[.slice p n c, .slice q k d] W (LstPost W zC LC)) := Lib.hid (fun W hW => by
    have h := (HBX.out W hW).below
    rw [HZC.out, HLC.out]; exact chunks_any p q c d n k s z W hs hk (HP.out.below h) (HQ.out.below h))
  have H30 : Hid (∀ W, Below W0.heap.size W0 W → Calls Tryz.prog 31 #[.slice p n c, .slice q k d] W (LstPost W zC LC)) := Lib.hid (fun W hW => by
    have h := (HBX.out W hW).below
    rw [HZC.out, HLC.out]; exact rchunks_any p q c d n k s z W hs hk (HP.out.below h) (HQ.out.below h))
  have H31 : Hid (∀ W, Below W0.heap.size W0 W → Calls Tryz.prog 32 #[.slice p n c, .slice q k d, .slice r m f] W (CutsPost W zB LB)) := Lib.hid (fun W hW => by
    have h := (HBX.out W hW).below
    rw [HZB.out, HLB.out]; exact box_all p q r c d f n k m s z ix0 W hs hk hm (HP.out.below h) (HQ.out.below h) (HR.out.below h))
  have H32 : Hid (∀ W, Below W0.heap.size W0 W → Calls Tryz.prog 33 #[.slice p n c, .slice q k d, .slice r m f] W (CutsPost W zB LB)) := Lib.hid (fun W hW => by
    have h := (HBX.out W hW).below
    rw [HZB.out, HLB.out]; exact rboxw_any p q r c d f n k m s z ix0 W hs hk hm (HP.out.below h) (HQ.out.below h) (HR.out.below h))
  have H33 : Hid (∀ W, Below W0.heap.size W0 W → Calls Tryz.prog 34 #[.slice p n c, .slice q k d, .slice sq u g] W (LstPost W zT LT)) := Lib.hid (fun W hW => by
    have h := (HBX.out W hW).below
    rw [HZT.out, HLT.out]; exact touched_any p q sq c d g n k u s z cuts W hs hk hu (HP.out.below h) (HQ.out.below h) (HSQ.out.below h))
  have H34 : Hid (∀ W, Below W0.heap.size W0 W → Calls Tryz.prog 35 #[.slice p n c, .slice q k d, .slice sq u g] W (LstPost W zT LT)) := Lib.hid (fun W hW => by
    have h := (HBX.out W hW).below
    rw [HZT.out, HLT.out]; exact rtouched_any p q sq c d g n k u s z cuts W hs hk hu (HP.out.below h) (HQ.out.below h) (HSQ.out.below h))
  have HOC : Hid (LC.length ≤ 4096 ∧ ∀ x ∈ LC, x.length ≤ 1000) := Lib.hid (by rw [HLC.out]; exact chunksR_ok s z)
  have HOT : Hid (LT.length ≤ 4096 ∧ ∀ x ∈ LT, x.length ≤ 1000) := Lib.hid (by rw [HLT.out]; exact touR_ok s z cuts)
  have HOB : Hid (LB.length ≤ 1000) := Lib.hid (by rw [HLB.out]; exact boxR_ok s z ix0)
  obtain ⟨-, -, b0, b1, b2, b3⟩ := HBX.out W0 HR0.out
  go_enter Tryz.func6, Tryz.ntmps6
  go_wp2_with fail
  rw [HW0.out, ← HA.out]
  go_wp2_with fail
  refine (H12.out).mono ?_
  rintro e v0 ⟨rfl, rfl⟩
  obtain ⟨v0, rfl⟩ : ∃ v0, v0 = W0 := ⟨_, rfl⟩
  have HB0 := HR0
  clear b0 b1 b2 b3
  obtain ⟨-, -, b0, b1, b2, b3⟩ := HBX.out v0 HB0.out
  go_wp2_with fail
  refine (H29.out _ HB0.out).mono ?_
  rintro e v1 ⟨hb1, q1, n1, c1, rfl, hn1, hr1⟩
  have HD1 : Hid (Below v0.heap.size v0 v1) := Lib.hid hb1
  have HB1 : Hid (Below v0.heap.size v0 v1) := Lib.hid (HB0.out.trans (hb1.mono HB0.out.size))
  have HN1 := Lib.hid hn1
  have HRR1 := Lib.hid hr1
  clear hb1 hn1 hr1 b0 b1 b2 b3
  obtain ⟨-, -, b0, b1, b2, b3⟩ := HBX.out v1 HB1.out
  go_wp2_with fail
  refine (H30.out _ HB1.out).mono ?_
  rintro e v2 ⟨hb1, q2, n2, c2, rfl, hn2, hr2⟩
  have HD2 : Hid (Below v1.heap.size v1 v2) := Lib.hid hb1
  have HB2 : Hid (Below v0.heap.size v0 v2) := Lib.hid (HB1.out.trans (hb1.mono HB1.out.size))
  have HN2 := Lib.hid hn2
  have HRR2 := Lib.hid hr2
  clear hb1 hn2 hr2 b0 b1 b2 b3
  obtain ⟨-, -, b0, b1, b2, b3⟩ := HBX.out v2 HB2.out
  go_wp2_with fail
  refine (H31.out _ HB2.out).mono ?_
  rintro e v3 ⟨hb1, q3, n3, c3, rfl, hn3, hr3⟩
  have HD3 : Hid (Below v2.heap.size v2 v3) := Lib.hid hb1
  have HB3 : Hid (Below v0.heap.size v0 v3) := Lib.hid (HB2.out.trans (hb1.mono HB2.out.size))
  have HN3 := Lib.hid hn3
  have HRR3 := Lib.hid hr3
  clear hb1 hn3 hr3 b0 b1 b2 b3
  obtain ⟨-, -, b0, b1, b2, b3⟩ := HBX.out v3 HB3.out
  go_wp2_with fail
  refine (H32.out _ HB3.out).mono ?_
  rintro e v4 ⟨hb1, q4, n4, c4, rfl, hn4, hr4⟩
  have HD4 : Hid (Below v3.heap.size v3 v4) := Lib.hid hb1
  have HB4 : Hid (Below v0.heap.size v0 v4) := Lib.hid (HB3.out.trans (hb1.mono HB3.out.size))
  have HN4 := Lib.hid hn4
  have HRR4 := Lib.hid hr4
  clear hb1 hn4 hr4 b0 b1 b2 b3
  obtain ⟨-, -, b0, b1, b2, b3⟩ := HBX.out v4 HB4.out
  go_wp2_with fail
  refine (H33.out _ HB4.out).mono ?_
  rintro e v5 ⟨hb1, q5, n5, c5, rfl, hn5, hr5⟩
  have HD5 : Hid (Below v4.heap.size v4 v5) := Lib.hid hb1
  have HB5 : Hid (Below v0.heap.size v0 v5) := Lib.hid (HB4.out.trans (hb1.mono HB4.out.size))
  have HN5 := Lib.hid hn5
  have HRR5 := Lib.hid hr5
  clear hb1 hn5 hr5 b0 b1 b2 b3
  obtain ⟨-, -, b0, b1, b2, b3⟩ := HBX.out v5 HB5.out
  go_wp2_with fail
  refine (H34.out _ HB5.out).mono ?_
  rintro e v6 ⟨hb1, q6, n6, c6, rfl, hn6, hr6⟩
  have HD6 : Hid (Below v5.heap.size v5 v6) := Lib.hid hb1
  have HB6 : Hid (Below v0.heap.size v0 v6) := Lib.hid (HB5.out.trans (hb1.mono HB5.out.size))
  have HN6 := Lib.hid hn6
  have HRR6 := Lib.hid hr6
  clear hb1 hn6 hr6 b0 b1 b2 b3
  obtain rfl : n2 = n1 := by rw [← HN2.out, HN1.out]
  obtain rfl : n4 = n3 := by rw [← HN4.out, HN3.out]
  obtain rfl : n6 = n5 := by rw [← HN6.out, HN5.out]
  have H35 : Hid (Calls Tryz.prog 36 #[.slice q1 n2 c1, .slice q2 n2 c2] v6 fun e w' => Below v6.heap.size v6 w' ∧ e = .returned (.bool true)) := Lib.hid
    (indexes_any q1 q2 c1 c2 n2 LC v6 HN1 (by rw [← HN1.out]; exact HOC.out.1) (Lib.hid HOC.out.2) (((((HRR1.out.below HD2.out).below HD3.out).below HD4.out).below HD5.out).below HD6.out) ((((HRR2.out.below HD3.out).below HD4.out).below HD5.out).below HD6.out))
  have H36 : Hid (∀ W, Below v6.heap.size v6 W → Calls Tryz.prog 37 #[.slice q3 n4 c3, .slice q4 n4 c4] W fun e w' => Below W.heap.size W w' ∧ e = .returned (.bool true)) := Lib.hid (fun W hW =>
    sameslab_any q3 q4 c3 c4 n4 LB W HN3 (by rw [← HN3.out]; exact HOB.out) ((((HRR3.out.below HD4.out).below HD5.out).below HD6.out).below hW) (((HRR4.out.below HD5.out).below HD6.out).below hW))
  have H35b : Hid (∀ W, Below v6.heap.size v6 W → Calls Tryz.prog 36 #[.slice q5 n6 c5, .slice q6 n6 c6] W fun e w' => Below W.heap.size W w' ∧ e = .returned (.bool true)) := Lib.hid (fun W hW =>
    indexes_any q5 q6 c5 c6 n6 LT W HN5 (by rw [← HN5.out]; exact HOT.out.1) (Lib.hid HOT.out.2) ((HRR5.out.below HD6.out).below hW) (HRR6.out.below hW))
  have eC : (zC == zC) = true := by simp
  have eB : (zB == zB) = true := by simp
  have eT : (zT == zT) = true := by simp
  go_wp2_with fail
  refine (H35.out).mono ?_
  rintro e y1 ⟨hb1, rfl⟩
  have HY1 := Lib.hid hb1
  clear hb1
  go_wp2_with fail
  refine (H36.out _ HY1.out).mono ?_
  rintro e y2 ⟨hb1, rfl⟩
  have HY2 : Hid (Below v6.heap.size v6 y2) := Lib.hid (HY1.out.trans (hb1.mono HY1.out.size))
  clear hb1
  go_wp2_with fail
  refine (H35b.out _ HY2.out).mono ?_
  rintro e y3 ⟨hb1, rfl⟩
  have HY3 : Hid (Below v0.heap.size v0 y3) := Lib.hid (HB6.out.trans ((HY2.out.trans (hb1.mono HY2.out.size)).mono HB6.out.size))
  clear hb1
  go_wp2_with fail
  refine (HSANE.out _ HY3.out).mono ?_
  rintro e w9 ⟨hb9, rfl⟩
  have HB9 := Lib.hid (HBX.out w9 (HY3.out.trans (hb9.mono HY3.out.size))).below
  clear hb9
  go_wp2_with fail
  go_ret
  exact ⟨HB9.out, rfl⟩
end Go.Proofs.YtigidchicloleaaGreatDoor.Arr
set_option maxRecDepth 100000
namespace Go.Proofs.YtigidchicloleaaGreatDoor
open Go.ChangeMaps Go.ChangeShapes Go.WideShapes Go.ChangeAt Go.RowKit
namespace Arr
theorem ownK : ownKnob Tryz.prog.godebug = none := by kernel_rfl
section
variable {H : Type} {enc : TypeId × Value → H} {P : Program}
theorem post_of_below {f : Func} {s : ChangeSpec} {apart fresh handsOn again : Bool} {W W' : World} {args : Array Value} {v : Value} {ds gs : List (DataW H)} {before pa pv : List MemPlace}
    (hW : DataW.Whole enc P f.params.toList s.vars apart W args.toList ds gs before)
    (hres : ∀ (b : Nat) (sp : Nat → Bool) (hd : Bool), DataW.TrodAll enc P W' b sp hd f.resultTypes.toList (v.resultList f.resultTypes.size) (s.fn H (ds ++ gs)).results [])
    (hargs : ∀ sp : Nat → Bool, (∀ p ∈ before, sp p.block = true) → DataW.TrodAll enc P W' 0 sp true f.params.toList args.toList (s.fn H (ds ++ gs)).args pa)
    (hvars : ∀ sp : Nat → Bool, (∀ p ∈ before, sp p.block = true) → DataW.TrodVars enc P W' sp s.vars (s.fn H (ds ++ gs)).vars pv)
    (hps : before = pa ++ pv) (hb : Below W.heap.size W W')
    (hok : ∀ (j : Nat) (t : TypeId) (r : Value), f.resultTypes[j]? = some t → (v.resultList f.resultTypes.size)[j]? = some r → Value.okWide P W' .any 0 t r) :
    s.post enc P f apart fresh handsOn again W args v W' := by
  have hlt : ∀ p ∈ before, p.block < W.heap.size := fun p hp => hW.lt p hp
  have hold : ∀ p ∈ before, (fun b => decide (b < W.heap.size)) p.block = true := fun p hp => by simpa using hlt p hp
  refine ⟨ds, gs, before, [], pa, pv, hW, hres _ _ _, hargs _ hold, hvars _ hold, World.keptBut_mono (fun p hp => ⟨hp, ?_⟩) (hb.frame (· ∈ before)), fun _ => ?_⟩
  · rw [hps, List.mem_append] at hp
    exact Or.inr hp
  · obtain ⟨_, _, _, _, _, hz, hn⟩ := hW
    refine ⟨hok, _, _, ([] ++ pa) ++ pv, ⟨[] ++ pa, pv, trodAll_append (hargs _ (fun _ _ => rfl)) (hres _ _ _), hvars _ (fun _ _ => rfl), rfl, ?_, ?_⟩, ?_⟩
    · intro b off hp
      have hin : MemPlace.cell b off ∈ before := by rw [hps]; simpa using hp
      rw [hb.frozen (hlt _ hin)]
      exact hz b off hin
    · intro ha
      have := hn ha
      rw [hps] at this
      simpa using this
    · intro p hp _
      rw [hps]
      simpa using hp
end
section
variable {H : Type} {enc : TypeId × Value → H} {P : Program}
theorem trodAll_stays (hl : laidOutB P = true) {W W' : World} (hb : Below W.heap.size W W') (sp : Nat → Bool) :
    ∀ (ts : List TypeId) (vs : List Value) (ds : List (DataW H)) (ps : List MemPlace), (∀ t ∈ ts, P.readableRec t = true) → (∀ t ∈ ts, t < P.types.size) →
      DataW.TrodAll enc P W 0 (fun _ => true) true ts vs ds ps → (∀ x ∈ ps, x.block < W.heap.size) → (∀ x ∈ ps, sp x.block = true) → DataW.TrodAll enc P W' 0 sp true ts vs ds ps := by
  intro ts
  induction ts with
  | nil =>
    intro vs ds ps _ _ h _ _
    obtain ⟨rfl, rfl, rfl⟩ := trodAll_nil h
    exact trodAll_mk0
  | cons t ts ih =>
    intro vs ds ps hr hrow h hlt hsp
    obtain ⟨v, vs', d, ds', p, q, rfl, rfl, rfl, h0, h1⟩ := trodAll_cons h
    exact trodAll_cons_mk (WideElems.Trod_stays hl (hr t (by simp)) (hrow t (by simp)) h0 (fun x hx => hb.same (hlt x (by simp [hx]))) (fun x hx => hsp x (by simp [hx])))
      (ih vs' ds' q (fun t ht => hr t (by simp [ht])) (fun t ht => hrow t (by simp [ht])) h1 (fun x hx => hlt x (by simp [hx])) (fun x hx => hsp x (by simp [hx])))
end
theorem gPow : Tryz.prog.globalNamed "internal/strconv.uint64pow10" = some 5 := by kernel_rfl
theorem gPowType : (Tryz.prog.globals[5]?).map (·.type) = some 237 := by kernel_rfl
theorem cells215 : Tryz.prog.cellsOf 237 = 20 := by kernel_rfl
theorem cells125 : Tryz.prog.cellsOf 151 = 1 := by kernel_rfl
theorem gSyn : Tryz.prog.globalNamed "strconv.ErrSyntax" = some 0 := by kernel_rfl
theorem gSynType : (Tryz.prog.globals[0]?).map (·.type) = some 131 := by kernel_rfl
theorem gRng : Tryz.prog.globalNamed "strconv.ErrRange" = some 1 := by kernel_rfl
theorem gRngType : (Tryz.prog.globals[1]?).map (·.type) = some 131 := by kernel_rfl
theorem starErr : "*" ++ "errors.errorString" = "*errors.errorString" := by decide
theorem rowErr (u : TypeId) (h : Tryz.prog.typeName? 3 u = some "*errors.errorString") : u = 217 :=
  typeName_ptr_named (nm := "errors.errorString") (by rw [starErr]; kernel_rfl) (by kernel_rfl) (by decide) u (by rw [starErr]; exact h)
theorem env_met {W : World} (h : laidMet Tryz.prog Rows.arrayTwiceRow.laid W) : Env W := by
  have h3 := laidMet.tail (laidMet.tail h)
  have h4 := laidMet.tail h3
  have h5 := laidMet.tail h4
  refine ⟨Lib.tabIs_of_head gPow gPowType Tryz.underlying237 Tryz.underlying151 cells125 cells215 h3, ?_, ?_⟩
  · obtain ⟨a, s, hv, -, -, -⟩ := laid_sentinel h5 gSyn gSynType Tryz.underlying131 rowErr Tryz.underlying217 Tryz.underlying219 rfl rfl Tryz.underlying9 (by kernel_rfl) (by kernel_rfl)
    exact ⟨_, by simpa using World.var?_cell gSyn hv 0, .inr ⟨_, _, rfl⟩⟩
  · obtain ⟨a, s, hv, -, -, -⟩ := laid_sentinel h4 gRng gRngType Tryz.underlying131 rowErr Tryz.underlying217 Tryz.underlying219 rfl rfl Tryz.underlying9 (by kernel_rfl) (by kernel_rfl)
    exact ⟨_, by simpa using World.var?_cell gRng hv 0, .inr ⟨_, _, rfl⟩⟩
theorem env_laid {W : World} (h : laidMetH Tryz.prog Rows.arrayTwiceRow.laid W) : Env W := by
  rw [MakeChecks.laidMetH_plain _ _ _ (by kernel_rfl)] at h
  exact env_met h
theorem laidAll : laidOutB Tryz.prog = true := by kernel_rfl
end Arr
end Go.Proofs.YtigidchicloleaaGreatDoor
set_option maxRecDepth 100000
namespace Go.Proofs.YtigidchicloleaaGreatDoor
open Go.ChangeMaps Go.ChangeShapes Go.WideShapes Go.ChangeAt Go.RowKit Go.Deep
namespace Arr
theorem cells3' : Tryz.prog.cellsOf 3 = 1 := by kernel_rfl
theorem cells64' : Tryz.prog.cellsOf 66 = 3 := by kernel_rfl
theorem cells22' : Tryz.prog.cellsOf 22 = 1 := by kernel_rfl
theorem cells36' : Tryz.prog.cellsOf 36 = 1 := by kernel_rfl
theorem at_addr {w : World} {a : Addr} {x : Value} (h : w.cell? a = some x) : ∃ b off, a = ⟨b, off, none⟩ ∧ b < w.heap.size := by
  have hs := World.cell?_spot h
  obtain ⟨b, off, sp⟩ := a
  simp only at hs
  subst hs
  refine ⟨b, off, rfl, Classical.byContradiction fun hx => ?_⟩
  simp [World.cell?, hx] at h
section
variable {H : Type} {enc : TypeId × Value → H} {w : World} {base : Nat} {spare : Nat → Bool} {held : Bool} {v : Value} {y : DataW H × List MemPlace} {n : Nat}
theorem in_ints (h : DataW.trod enc Tryz.prog w base spare held n 22 [v] = some y) : ∃ (q : Option Addr) (c : Nat) (l : List Int), v = .slice q l.length c ∧ Rd w q l := by
  rcases open_ints Tryz.underlying22 Tryz.underlying3 cells3' h with ⟨e, -⟩ | ⟨a, len, cap, zs, e, hb, hl, hm, hlen, -, hc, hwf⟩
  · simp at e
    exact ⟨none, 0, [], e, fun z hz => (by cases hz), .inl rfl⟩
  · simp at e
    have hz : len ≤ zs.length := by rw [hlen]; split <;> omega
    have hll : (zs.take len).length = len := by simp [hz]
    refine ⟨some a, cap, zs.take len, by rw [hll]; exact e, fun z hz2 => bounds_i64 (hwf z (List.mem_of_mem_take hz2)), ?_⟩
    by_cases h0 : len = 0
    · exact .inl (by rw [hll]; exact h0)
    · have h1 := hc 0 (by omega)
      rw [Addr.add_zero'] at h1
      obtain ⟨b, off, rfl, hlt⟩ := at_addr h1
      refine .inr ⟨b, off, rfl, hlt, fun j hj => ?_⟩
      rw [hll] at hj
      have h2 := hc j (by omega)
      rw [Addr.add_lit] at h2
      rw [h2, List.getD_eq_getElem?_getD, List.getD_eq_getElem?_getD, List.getElem?_take_of_lt hj]
theorem in_cuts (h : DataW.trod enc Tryz.prog w base spare held n 36 [v] = some y) : ∃ (q : Option Addr) (c : Nat) (l : List (Int × Int × Int)), v = .slice q l.length c ∧ RdC w q l := by
  rcases open_slice Tryz.underlying36 h with ⟨e, -⟩ | ⟨a, len, cap, m, n2, D, Pl, e, hb, hl, hm, hmm, -, hi⟩
  · simp at e
    exact ⟨none, 0, [], e, fun z hz => (by cases hz), .inl rfl⟩
  · simp at e
    have hlm : len ≤ m := by rw [hmm]; split <;> omega
    rw [cells64'] at hi
    have each : ∀ i, i < len → ∃ z : Int × Int × Int, (w.cell? (a.add (i * 3)) = some (.int .i64 z.1) ∧ w.cell? (a.add (i * 3 + 1)) = some (.int .i64 z.2.1) ∧ w.cell? (a.add (i * 3 + 2)) = some (.int .i64 z.2.2)) ∧ -9223372036854775808 ≤ z.2.1 ∧ z.2.1 ≤ 9223372036854775807 := fun i hil => by
      obtain ⟨cs, hcs, ht⟩ := hi i (by omega)
      obtain ⟨-, hlen, hat⟩ := World.cells?_some hcs
      obtain ⟨y0, y1, y2, n3, -, -, g0, g1, g2⟩ := trod_struct3 Tryz.underlying66 ht
      obtain ⟨z0, e0, -, -⟩ := DataW.trod_int Tryz.underlying3 g0
      obtain ⟨z1, e1, -, w1⟩ := DataW.trod_int Tryz.underlying3 g1
      obtain ⟨z2, e2, -, -⟩ := DataW.trod_int Tryz.underlying3 g2
      have c0 := hat 0 (by omega)
      have c1 := hat 1 (by omega)
      have c2 := hat 2 (by omega)
      match cs, hlen with
      | [x0, x1, x2], _ =>
        simp [cells3'] at e0 e1 e2
        subst e0 e1 e2
        refine ⟨(z0, z1, z2), ⟨?_, ?_, ?_⟩, bounds_i64 w1⟩
        · simpa [Addr.add] using c0
        · rw [← Go.Deep.add_add]; exact c1
        · rw [← Go.Deep.add_add]; exact c2
    refine ⟨some a, cap, (List.range len).map (fun i => if hil : i < len then (each i hil).choose else (0, 0, 0)), by simpa using e, fun z hz => ?_, ?_⟩
    · obtain ⟨i, hi2, rfl⟩ := List.mem_map.1 hz
      have hil := List.mem_range.1 hi2
      rw [dif_pos hil]
      exact (each i hil).choose_spec.2
    · by_cases h0 : len = 0
      · exact .inl (by simpa using h0)
      · obtain ⟨zz, ⟨h1, -⟩, -⟩ := each 0 (by omega)
        rw [Nat.zero_mul, Addr.add_zero'] at h1
        obtain ⟨b, off, rfl, hlt⟩ := at_addr h1
        refine .inr ⟨b, off, rfl, hlt, fun j hj => ?_⟩
        have hjl : j < len := by simpa using hj
        have h2 := (each j hjl).choose_spec.1
        have e3 : ((List.range len).map (fun i => if hil : i < len then (each i hil).choose else (0, 0, 0))).getD j (0, 0, 0) = (each j hjl).choose := by
          rw [List.getD_eq_getElem?_getD, List.getElem?_map, List.getElem?_range hjl]
          show (if hil : j < len then (each j hil).choose else (0, 0, 0)) = _
          rw [dif_pos hjl]
        rw [e3]
        revert h2
        generalize (each j hjl).choose = zc
        intro h2
        rw [Addr.add_lit, Addr.add_lit, Addr.add_lit] at h2
        simpa [Nat.add_assoc] using h2
end
end Arr
end Go.Proofs.YtigidchicloleaaGreatDoor
set_option maxRecDepth 100000
namespace Go.Proofs.YtigidchicloleaaGreatDoor
open Go.ChangeMaps Go.ChangeShapes Go.WideShapes Go.ChangeAt Go.RowKit Go.Deep
namespace Arr
theorem cells45' : Tryz.prog.cellsOf 45 = 4 := by kernel_rfl
theorem array4 {α : Type} {cs : Array α} (h : cs.size = 4) : ∃ c0 c1 c2 c3, cs = #[c0, c1, c2, c3] := by
  obtain ⟨l⟩ := cs
  match l, h with
  | [a, b, c, d], _ => exact ⟨a, b, c, d, rfl⟩
section
variable {H : Type} {enc : TypeId × Value → H} {w : World} {base b0 : Nat} {spare : Nat → Bool} {held : Bool} {r : Reach} {v : Value} {d : DataW H} {p : List MemPlace}
theorem in_cutting (hv : Value.okWide Tryz.prog w r b0 45 v) (h : DataW.Trod enc Tryz.prog w base spare held 45 v d p) :
    ∃ (pa pb pc pd : Option Addr) (c e f g : Nat) (s t u : List Int) (k : List (Int × Int × Int)), v = .agg #[.slice pa s.length c, .slice pb t.length e, .slice pc u.length f, .slice pd k.length g] ∧ Rd w pa s ∧ Rd w pb t ∧ Rd w pc u ∧ RdC w pd k := by
  obtain ⟨cs, rfl, hsz⟩ := okWide_struct Tryz.underlying45 hv
  obtain ⟨x0, x1, x2, x3, rfl⟩ := array4 (hsz.trans cells45')
  obtain ⟨fuel, hf⟩ := h
  obtain ⟨y0, y1, y2, y3, n, -, -, h0, h1, h2, h3⟩ := Go.Joins.trod_struct4 Tryz.underlying45 hf
  simp [Value.cells, cells22', cells36'] at h0 h1 h2 h3
  obtain ⟨pa, c, s, rfl, hr0⟩ := in_ints h0
  obtain ⟨pb, e, t, rfl, hr1⟩ := in_ints h1
  obtain ⟨pc, f, u, rfl, hr2⟩ := in_ints h2
  obtain ⟨pd, g, k, rfl, hr3⟩ := in_cuts h3
  exact ⟨pa, pb, pc, pd, c, e, f, g, s, t, u, k, rfl, hr0, hr1, hr2, hr3⟩
end
theorem readable45 : Tryz.prog.readableRec 45 = true := by kernel_rfl
theorem inTypes45 : 45 < Tryz.prog.types.size := of_decide_eq_true (by kernel_rfl)
end Arr
end Go.Proofs.YtigidchicloleaaGreatDoor
