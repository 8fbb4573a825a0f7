/- The document's Box. -/
import Derived.Test.YtigidchicloleaaGreatDoorJD
import Derived.Deep.QuietTactic
import Derived.BigQuiet
set_option maxHeartbeats 2000000
set_option maxRecDepth 100000
namespace Go.Proofs.YtigidchicloleaaGreatDoor.Arr
open Go.RowKit Go.Shelf
open Go.Lib
attribute [local go_sem] Oper.semAt_some
theorem rbox_any (p q r : Option Addr) (c d f m : Nat) (s0 z0 i0 : List Nat) (w : World) (hm4 : m ≤ 4) (HSN : Hid (s0.length = m)) (HZL : Hid (z0.length = s0.length)) (HSB : Hid (∀ x ∈ s0, x ≤ 1024)) (HZB : Hid (∀ x ∈ z0, 1 ≤ x ∧ x ≤ 1024)) (HIX : Hid (IsIx (nums s0 z0) i0)) (hp : RdN w p s0) (hq : RdN w q z0) (hr : RdN w r i0) :
    Calls Tryz.prog 78 #[.slice p m c, .slice q m d, .slice r m f] w fun e w' => Below w.heap.size w w' ∧ ∃ g, e = .returned (.slice (some ⟨g, 0, none⟩) m m) ∧ RdC w' (some ⟨g, 0, none⟩) (boxL s0 z0 i0) := by
  have HP := Lib.hid hp
  have HQ := Lib.hid hq
  have HR := Lib.hid hr
  clear hp hq hr
  have HZN : Hid (z0.length = m) := Lib.hid (by rw [HZL.out, HSN.out])
  have HIL : Hid (i0.length = m) := Lib.hid (by rw [HIX.out.1, nums_len, HSN.out])
  have hni : (m : Int) ≤ 4 := by omega
  obtain ⟨Z, hZ, hmk⟩ := make_cuts m (by omega)
  have HZS := Lib.hid hZ
  clear hZ
  obtain ⟨G, HG⟩ : ∃ G, Hid (G = w.heap.size) := ⟨_, Lib.hid rfl⟩
  obtain ⟨W2, HW2⟩ : ∃ W2, Hid (w.alloc (.cells Z 66) = W2) := ⟨_, Lib.hid rfl⟩
  have HB2 : Hid (Below w.heap.size w W2) := Lib.hid (by rw [← HW2.out]; exact (Below.refl _ w).alloc (Nat.le_refl _) _)
  have HC2 : Hid (CutRow W2 G m 0 (boxL s0 z0 i0)) := Lib.hid ⟨_, by rw [← HW2.out, HG.out]; exact World.alloc_heap_new _ _, HZS.out, fun j hj => by omega⟩
  have HGW : Hid (w.heap.size ≤ G) := Lib.hid (by rw [HG.out]; exact Nat.le_refl _)
  go_enter Tryz.func78, Tryz.ntmps78
  go_wp2_with fail
  rw [HW2.out, ← HG.out]
  clear hmk
  go_loopw [8] (fun iv wr => ∃ i : Nat, i ≤ m ∧ iv = .int .i64 i ∧ Hid (Below w.heap.size w wr) ∧ Hid (CutRow wr G m i (boxL s0 z0 i0))) (fun iv _ => m - (Go.RowKit.intOf iv).toNat)
  case atStart => exact ⟨0, Nat.zero_le _, rfl, HB2, HC2⟩
  case round =>
    obtain ⟨i, hi9, rfl, HB, HC⟩ := hrel
    have ii : (i : Int) ≤ (m : Int) := by omega
    by_cases hlt : i < m
    · have ilt : (i : Int) < (m : Int) := by omega
      have his : i < s0.length := by rw [HSN.out]; exact hlt
      have hiz : i < z0.length := by rw [HZN.out]; exact hlt
      have hii : i < i0.length := by rw [HIL.out]; exact hlt
      obtain ⟨b1, o1, x, e1, hb1, hc1, HX⟩ := HP.out.at his
      obtain ⟨b2, o2, y, e2, hb2, hc2, HY⟩ := HQ.out.at hiz
      obtain ⟨b3, o3, a, e3, hb3, hc3, HA⟩ := HR.out.at hii
      subst e1 e2 e3
      have hx1 : x ≤ 1024 := by rw [HX.out]; exact getD_bound HSB.out
      have hy1 : y ≤ 1024 := by rw [HY.out]; exact getD_bound (fun x hx => (HZB.out x hx).2)
      have hlt2 : a * y < x := by rw [HA.out, HY.out, HX.out]; exact chunk_lt HZL.out HZB.out HIX.out his
      obtain ⟨t, HT⟩ : ∃ t, Hid (t = a * y) := ⟨_, rfl⟩
      have hmul : (a : Int) * (y : Int) = (t : Int) := by rw [HT.out]; exact (Int.natCast_mul a y).symm
      rw [← HT.out] at hlt2
      obtain ⟨j, HJ⟩ : ∃ j, Hid (j = x - t) := ⟨_, rfl⟩
      have hsub : (x : Int) - (t : Int) = (j : Int) := by rw [HJ.out]; omega
      obtain ⟨o, HO⟩ : ∃ o, Hid (o = min y j) := ⟨_, rfl⟩
      have hmin1 : min (y : Int) (j : Int) = (o : Int) := by rw [HO.out]; omega
      have hmin2 : min (j : Int) (y : Int) = (o : Int) := by rw [HO.out]; omega
      have it : (t : Int) ≤ 1024 := by omega
      have ij : (j : Int) ≤ 1024 := by rw [HJ.out]; omega
      have io : (o : Int) ≤ 1024 := by rw [HO.out]; omega
      have ix : (x : Int) ≤ 1024 := by omega
      have iy : (y : Int) ≤ 1024 := by omega
      have HEQ : Hid ((boxL s0 z0 i0).getD i (0, 0, 0) = ((t : Int), (o : Int), 1)) := Lib.hid (by
        rw [boxL_at his]; unfold boxAt
        rw [← HX.out, ← HY.out, ← HA.out, ← HT.out, ← HJ.out, ← HO.out])
      have d1 : wr.cell? ⟨b1, o1 + i, none⟩ = some (.int .i64 (x : Int)) := (HB.out.cell (p := ⟨b1, o1 + i, none⟩) hb1).trans hc1
      have d2 : wr.cell? ⟨b2, o2 + i, none⟩ = some (.int .i64 (y : Int)) := (HB.out.cell (p := ⟨b2, o2 + i, none⟩) hb2).trans hc2
      have d3 : wr.cell? ⟨b3, o3 + i, none⟩ = some (.int .i64 (a : Int)) := (HB.out.cell (p := ⟨b3, o3 + i, none⟩) hb3).trans hc3
      have HALL : Hid (∀ X, Below w.heap.size w X → X.cell? ⟨b1, o1 + i, none⟩ = some (.int .i64 (x : Int)) ∧ X.cell? ⟨b2, o2 + i, none⟩ = some (.int .i64 (y : Int))) := Lib.hid (fun X hX =>
        ⟨(hX.cell (p := ⟨b1, o1 + i, none⟩) hb1).trans hc1, (hX.cell (p := ⟨b2, o2 + i, none⟩) hb2).trans hc2⟩)
      clear hb1 hb2 hb3 hc1 hc2 hc3 hx1 hy1 hlt2 his hiz hii
      go_wp2_with fail
      go_quiet (fail)
      clear d1 d2 d3
      obtain ⟨w1, HWQ⟩ : ∃ w1, Hid (wr.drewN nq = w1) := ⟨_, Lib.hid rfl⟩
      rw [HWQ.out]
      have HBD : Hid (Below w.heap.size w w1.drew) := Lib.hid (HB.out.trans (by rw [← HWQ.out]; exact ⟨rfl, rfl, rfl, Nat.le_refl _, fun _ _ => rfl⟩))
      have HBQ : Hid (Below w.heap.size w w1) := Lib.hid (HB.out.trans (by rw [← HWQ.out]; exact ⟨rfl, rfl, rfl, Nat.le_refl _, fun _ _ => rfl⟩))
      have HCD : Hid (CutRow w1.drew G m i (boxL s0 z0 i0)) := Lib.hid (by obtain ⟨cs, h1, h2⟩ := HC.out; exact ⟨cs, by rw [← HWQ.out]; exact h1, h2⟩)
      have hwj : IntKind.i64.wrap (j : Int) = (j : Int) := IntWalk.i64_in _ (by omega)
      have HCQ : Hid (CutRow w1 G m i (boxL s0 z0 i0)) := Lib.hid (by obtain ⟨cs, h1, h2⟩ := HC.out; exact ⟨cs, by rw [← HWQ.out]; exact h1, h2⟩)
      obtain ⟨u0, u1, u2, r0, r1, r2, f0, f1, f2⟩ := HCQ.out.old hlt
      obtain ⟨W5, HW5⟩ : ∃ W5, Hid ((((w1.setCell ⟨G, i * 3, none⟩ (.int .i64 (t : Int))).setCell ⟨G, i * 3 + 1, none⟩ (.int .i64 (o : Int))).setCell ⟨G, i * 3 + 2, none⟩ (.int .i64 1)).drew = W5) := ⟨_, Lib.hid rfl⟩
      have HC5 : Hid (CutRow W5 G m (i + 1) (boxL s0 z0 i0)) := Lib.hid (by rw [← HW5.out]; obtain ⟨cs, h1, h2⟩ := HCQ.out.step hlt HEQ.out; exact ⟨cs, h1, h2⟩)
      have HB5 : Hid (Below w.heap.size w W5) := Lib.hid (by
        rw [← HW5.out]
        exact (((HBQ.out.setCell (p := ⟨G, i * 3, none⟩) HGW.out _).setCell (p := ⟨G, i * 3 + 1, none⟩) HGW.out _).setCell (p := ⟨G, i * 3 + 2, none⟩) HGW.out _).trans ⟨rfl, rfl, rfl, Nat.le_refl _, fun _ _ => rfl⟩)
      go_wp2_with fail
      refine wp_region_noPanic ?_
      refine wp_region_held_drew (S := fun W => W.cell? ⟨b1, o1 + i, none⟩ = some (.int .i64 (x : Int)) ∧ W.cell? ⟨b2, o2 + i, none⟩ = some (.int .i64 (y : Int))) (by kernel_rfl) (HALL.out _ HBD.out) (fun hHeld => ?_)
      refine wpAnyH_take (i := 0) (v := ?v1) rfl (by kernel_rfl) (by kernel_rfl) (by kernel_rfl) (fun _ _ _ h => h) (Or.inl ⟨by rfl, ?hy1⟩) (by assumption) ?rest1
      case hy1 =>
        intro W' hSw
        obtain ⟨e0, e1⟩ := hSw
        go_simp
        with_reducible rfl
      simp only [List.getElem_toArray, List.getElem_cons_zero, Act.put, List.setIfInBounds_toArray, List.set_cons_zero, List.set_cons_succ]
      refine wpAnyH_take (i := 1) (v := ?v2) rfl (by kernel_rfl) (by kernel_rfl) (by kernel_rfl) (fun _ _ _ h => h) (Or.inl ⟨by rfl, ?hy2⟩) (by assumption) ?rest2
      case hy2 =>
        intro W' hSw
        obtain ⟨e0, e1⟩ := hSw
        go_simp
        with_reducible rfl
      simp only [List.getElem_toArray, List.getElem_cons_zero, List.getElem_cons_succ, Act.put, List.setIfInBounds_toArray, List.set_cons_zero, List.set_cons_succ]
      refine wpAnyH_take (i := 2) (v := ?v3) rfl (by kernel_rfl) (by kernel_rfl) (by kernel_rfl) (fun _ _ _ h => h) (Or.inl ⟨by rfl, ?hy3⟩) (by assumption) ?rest3
      case hy3 =>
        intro W' hSw
        obtain ⟨e0, e1⟩ := hSw
        go_simp
        with_reducible rfl
      simp only [List.getElem_toArray, List.getElem_cons_zero, List.getElem_cons_succ, Act.put, List.setIfInBounds_toArray, List.set_cons_zero, List.set_cons_succ]
      refine wpAnyH_take (i := 3) (v := ?v4) rfl (by kernel_rfl) (by kernel_rfl) (by kernel_rfl) (fun _ _ _ h => h) (Or.inl ⟨by rfl, ?hy4⟩) (by assumption) ?rest4
      case hy4 =>
        intro W' hSw
        obtain ⟨e0, e1⟩ := hSw
        go_simp
        with_reducible rfl
      simp only [List.getElem_toArray, List.getElem_cons_zero, List.getElem_cons_succ, Act.put, List.setIfInBounds_toArray, List.set_cons_zero, List.set_cons_succ]
      refine wpAnyH_take (i := 4) (v := ?v5) rfl (by kernel_rfl) (by kernel_rfl) (by kernel_rfl) (fun _ _ _ h => h) (Or.inl ⟨by rfl, ?hy5⟩) (by assumption) ?rest5
      case hy5 =>
        intro W' hSw
        obtain ⟨e0, e1⟩ := hSw
        go_simp
        with_reducible rfl
      simp only [List.getElem_toArray, List.getElem_cons_zero, List.getElem_cons_succ, Act.put, List.setIfInBounds_toArray, List.set_cons_zero, List.set_cons_succ]
      refine wpAnyH_take (i := 5) (v := ?v6) rfl (by kernel_rfl) (by kernel_rfl) (by kernel_rfl) (fun _ _ _ h => h) (Or.inl ⟨by rfl, ?hy6⟩) (by assumption) ?rest6
      case hy6 =>
        intro W' hSw
        obtain ⟨e0, e1⟩ := hSw
        go_simp
        with_reducible rfl
      simp only [List.getElem_toArray, List.getElem_cons_zero, List.getElem_cons_succ, Act.put, List.setIfInBounds_toArray, List.set_cons_zero, List.set_cons_succ]
      refine wpAnyH_take (i := 6) (v := ?v7) rfl (by kernel_rfl) (by kernel_rfl) (by kernel_rfl) (fun _ _ _ h => h) (Or.inl ⟨by rfl, ?hy7⟩) (by assumption) ?rest7
      case hy7 =>
        intro W' hSw
        obtain ⟨e0, e1⟩ := hSw
        go_simp
        with_reducible rfl
      simp only [List.getElem_toArray, List.getElem_cons_zero, List.getElem_cons_succ, Act.put, List.setIfInBounds_toArray, List.set_cons_zero, List.set_cons_succ]
      refine wpAnyH_take (i := 7) (v := ?v8) rfl (by kernel_rfl) (by kernel_rfl) (by kernel_rfl) (fun _ _ _ h => h) (Or.inl ⟨by rfl, ?hy8⟩) (by assumption) ?rest8
      case hy8 =>
        intro W' hSw
        obtain ⟨e0, e1⟩ := hSw
        go_simp
        with_reducible rfl
      simp only [List.getElem_toArray, List.getElem_cons_zero, List.getElem_cons_succ, Act.put, List.setIfInBounds_toArray, List.set_cons_zero, List.set_cons_succ]
      refine wpAnyH_take (i := 8) (v := ?v9) rfl (by kernel_rfl) (by kernel_rfl) (by kernel_rfl) (fun _ _ _ h => h) (Or.inl ⟨by rfl, ?hy9⟩) (by assumption) ?rest9
      case hy9 =>
        intro W' hSw
        obtain ⟨e0, e1⟩ := hSw
        go_simp
        with_reducible rfl
      simp only [List.getElem_toArray, List.getElem_cons_zero, List.getElem_cons_succ, Act.put, List.setIfInBounds_toArray, List.set_cons_zero, List.set_cons_succ]
      refine wpAnyH_take (i := 9) (v := ?v10) rfl (by kernel_rfl) (by kernel_rfl) (by kernel_rfl) (fun _ _ _ h => h) (Or.inl ⟨by rfl, ?hy10⟩) (by assumption) ?rest10
      case hy10 =>
        intro W' hSw
        obtain ⟨e0, e1⟩ := hSw
        go_simp
        with_reducible rfl
      simp only [List.getElem_toArray, List.getElem_cons_zero, List.getElem_cons_succ, Act.put, List.setIfInBounds_toArray, List.set_cons_zero, List.set_cons_succ]
      refine wpAnyH_take (i := 10) (v := ?v11) rfl (by kernel_rfl) (by kernel_rfl) (by kernel_rfl) (fun _ _ _ h => h) (Or.inl ⟨by rfl, ?hy11⟩) (by assumption) ?rest11
      case hy11 =>
        intro W' hSw
        obtain ⟨e0, e1⟩ := hSw
        go_simp
        with_reducible rfl
      simp only [List.getElem_toArray, List.getElem_cons_zero, List.getElem_cons_succ, Act.put, List.setIfInBounds_toArray, List.set_cons_zero, List.set_cons_succ]
      refine wpAnyH_take (i := 11) (v := ?v12) rfl (by kernel_rfl) (by kernel_rfl) (by kernel_rfl) (fun _ _ _ h => h) (Or.inl ⟨by rfl, ?hy12⟩) (by assumption) ?rest12
      case hy12 =>
        intro W' hSw
        obtain ⟨e0, e1⟩ := hSw
        go_simp
        with_reducible rfl
      simp only [List.getElem_toArray, List.getElem_cons_zero, List.getElem_cons_succ, Act.put, List.setIfInBounds_toArray, List.set_cons_zero, List.set_cons_succ]
      refine wpAnyH_take (i := 12) (v := ?v13) rfl (by kernel_rfl) (by kernel_rfl) (by kernel_rfl) (fun _ _ _ h => h) (Or.inl ⟨by rfl, ?hy13⟩) (by assumption) ?rest13
      case hy13 =>
        intro W' hSw
        obtain ⟨e0, e1⟩ := hSw
        go_simp
        with_reducible rfl
      simp only [List.getElem_toArray, List.getElem_cons_zero, List.getElem_cons_succ, Act.put, List.setIfInBounds_toArray, List.set_cons_zero, List.set_cons_succ]
      refine wpAnyH_ready (rs := [13]) (by kernel_rfl) (by simp) ?_
      refine AllReadyH.cons (i := 13) rfl (fun K hK => ?_) AllReadyH.nil
      go_simp
      try rw [hwj, hmin1]
      refine hK.out _ _ (HALL.out _ HBD.out) (fun hHeld3 => ?_)
      clear hK K
      refine wpAnyH_take (i := 14) (v := ?v14) rfl (by kernel_rfl) (by kernel_rfl) (by kernel_rfl) (fun _ _ _ h => h) (Or.inl ⟨by rfl, ?hy14⟩) (by assumption) ?rest14
      case hy14 =>
        intro W' hSw
        obtain ⟨e0, e1⟩ := hSw
        go_simp
        with_reducible rfl
      simp only [List.getElem_toArray, List.getElem_cons_zero, List.getElem_cons_succ, Act.put, List.setIfInBounds_toArray, List.set_cons_zero, List.set_cons_succ]
      refine wpAnyH_take (i := 15) (v := ?v15) rfl (by kernel_rfl) (by kernel_rfl) (by kernel_rfl) (fun _ _ _ h => h) (Or.inl ⟨by rfl, ?hy15⟩) (by assumption) ?rest15
      case hy15 =>
        intro W' hSw
        obtain ⟨e0, e1⟩ := hSw
        go_simp
        with_reducible rfl
      simp only [List.getElem_toArray, List.getElem_cons_zero, List.getElem_cons_succ, Act.put, List.setIfInBounds_toArray, List.set_cons_zero, List.set_cons_succ]
      refine wpAnyH_ready (rs := [16]) (by kernel_rfl) (by simp) ?_
      refine AllReadyH.cons (i := 16) rfl (fun K hK => ?_) AllReadyH.nil
      go_simp
      try rw [HW5.out]
      refine hK.out _ _ (HALL.out _ HB5.out) (fun hHeld4 => ?_)
      clear hK K
      refine wpAnyH_done (by kernel_rfl) ?_ _
      refine NoPanic.normal ?_
      clear hHeld hHeld3 hHeld4
      go_wp2_with fail
      go_roundw
      case rel => exact ⟨i + 1, by omega, by go_num, HB5, HC5⟩
      case measure => simp [Go.RowKit.intOf]; omega
    · obtain rfl : i = m := by omega
      have ilt : ¬ (i : Int) < (i : Int) := by omega
      have hfin : Hid (RdC wr (some ⟨G, 0, none⟩) (boxL s0 z0 i0)) := Lib.hid (HC.out.reads (by rw [boxL_len, HSN.out]) (boxL_wf HZB.out))
      go_wp2_with fail
      go_ret
      exact ⟨HB.out, G, rfl, hfin.out⟩
end Go.Proofs.YtigidchicloleaaGreatDoor.Arr
