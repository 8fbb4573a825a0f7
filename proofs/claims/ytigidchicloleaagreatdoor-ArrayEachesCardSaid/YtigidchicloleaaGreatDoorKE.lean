/- The document's Each. -/
import Derived.Test.YtigidchicloleaaGreatDoorKD
import Derived.Test.YtigidchicloleaaGreatDoorHM
import Derived.Deep.RegionHeld3
set_option maxHeartbeats 16000000
set_option maxRecDepth 100000
namespace Go.Proofs.YtigidchicloleaaGreatDoor.Arr
open Go.RowKit Go.Shelf
open Go.Lib
attribute [local go_sem] Oper.semAt_some
theorem range_zip {l bl : List (List UInt8)} {m : Nat} (op : Int) (hl : l.length = m) (hb : bl.length = m) : (List.range m).map (fun i => eachT op (l.getD i []) (bl.getD i [])) = List.zipWith (eachT op) l bl := by
  apply List.ext_getElem?
  intro k
  have hz : (List.zipWith (eachT op) l bl).length = m := by rw [List.length_zipWith]; omega
  by_cases hk : k < m
  · have g1 : l[k]? = some (l.getD k []) := by rw [List.getD_eq_getElem?_getD, List.getElem?_eq_getElem (by omega)]; rfl
    have g2 : bl[k]? = some (bl.getD k []) := by rw [List.getD_eq_getElem?_getD, List.getElem?_eq_getElem (by omega)]; rfl
    rw [List.getElem?_zipWith, g1, g2, List.getElem?_map, List.getElem?_range hk]
    rfl
  · rw [List.getElem?_eq_none (by simpa using hk), List.getElem?_eq_none (by omega)]
theorem reach_no (p q p2 q2 : Option Addr) (c d c2 d2 n m n2 m2 : Nat) (s t : List Int) (l bl : List (List UInt8)) (op : Int) (w : World) (hs : Hid (s.length = n)) (hl : Hid (l.length = m)) (hm : m ≤ 5000) (ht : Hid (t.length = n2)) (hbl : Hid (bl.length = m2)) (hm2 : m2 ≤ 5000) (hp : Rd w p s) (hq : RdS w q l) (hp2 : Rd w p2 t) (hq2 : RdS w q2 bl) (hno : (eachV s t l bl op).1 ≠ 0) : Calls Tryz.prog 42 #[.agg #[.slice p n c, .slice q m d], .agg #[.slice p2 n2 c2, .slice q2 m2 d2], .int .i64 op] w (ArrPost w (eachV s t l bl op).1 (eachV s t l bl op).2.1 (eachV s t l bl op).2.2) := by
  have HP := Lib.hid hp
  have HQ := Lib.hid hq
  have HP2 := Lib.hid hp2
  have HQ2 := Lib.hid hq2
  obtain ⟨A, HA⟩ : ∃ A, Hid (A = w.heap.size) := ⟨_, Lib.hid rfl⟩
  obtain ⟨W0, HW0⟩ : ∃ W0, Hid (((w.alloc (.cells #[.slice p n c, .slice q m d] 25)).alloc (.cells #[.slice p2 n2 c2, .slice q2 m2 d2] 25)).alloc (.cells #[.slice none 0 0, .slice none 0 0] 25) = W0) := ⟨_, Lib.hid rfl⟩
  have HB0 : Hid (Below w.heap.size w W0) := Lib.hid (by rw [← HW0.out]; exact (((Below.refl _ w).alloc (Nat.le_refl _) _).alloc (by simp) _).alloc (by simp; omega) _)
  have HRB : Hid (w.heap.size ≤ A + 1 + 1) := Lib.hid (by rw [HA.out]; omega)
  have HS0 : Hid (W0.heap.size = A + 1 + 1 + 1) := Lib.hid (by rw [← HW0.out, HA.out]; simp)
  have HA0 : Hid (W0.heap[A]? = some (.cells #[.slice p n c, .slice q m d] 25 (0, 0))) := Lib.hid (by
    rw [← HW0.out, HA.out]; simp only [World.alloc, Array.getElem?_push, Array.size_push]
    repeat' (first | rw [if_pos (by omega)] | rw [if_neg (by omega)] | rfl))
  have HA1 : Hid (W0.heap[A + 1]? = some (.cells #[.slice p2 n2 c2, .slice q2 m2 d2] 25 (0, 0))) := Lib.hid (by
    rw [← HW0.out, HA.out]; simp only [World.alloc, Array.getElem?_push, Array.size_push]
    repeat' (first | rw [if_pos (by omega)] | rw [if_neg (by omega)] | rfl))
  have HA2 : Hid (W0.heap[A + 1 + 1]? = some (.cells #[.slice none 0 0, .slice none 0 0] 25 (0, 0))) := Lib.hid (by
    rw [← HW0.out, HA.out]; simp only [World.alloc, Array.getElem?_push, Array.size_push]
    repeat' (first | rw [if_pos (by omega)] | rw [if_neg (by omega)] | rfl))
  have HBX : Hid (∀ W, Below W0.heap.size W0 W → Below w.heap.size w W ∧ W.heap[A]? = some (.cells #[.slice p n c, .slice q m d] 25 (0, 0)) ∧ W.heap[A + 1]? = some (.cells #[.slice p2 n2 c2, .slice q2 m2 d2] 25 (0, 0)) ∧ W.heap[A + 1 + 1]? = some (.cells #[.slice none 0 0, .slice none 0 0] 25 (0, 0))) := Lib.hid (fun W hW =>
    ⟨HB0.out.trans (hW.mono HB0.out.size), (hW.block A (by rw [HS0.out]; omega)).trans HA0.out, (hW.block (A + 1) (by rw [HS0.out]; omega)).trans HA1.out, (hW.block (A + 1 + 1) (by rw [HS0.out]; omega)).trans HA2.out⟩)
  have HVA : Hid (Calls Tryz.prog 22 #[.agg #[.slice p n c, .slice q m d]] W0 fun e w' => Below W0.heap.size W0 w' ∧ e = .returned (.bool (validA s l))) := Lib.hid (rvalidA_any p q c d n m s l W0 hs hl hm (HP.out.below HB0.out) (HQ.out.below HB0.out))
  have HVB : Hid (∀ W, Below W0.heap.size W0 W → Calls Tryz.prog 22 #[.agg #[.slice p2 n2 c2, .slice q2 m2 d2]] W fun e w' => Below W.heap.size W w' ∧ e = .returned (.bool (validA t bl))) := Lib.hid (fun W hW => rvalidA_any p2 q2 c2 d2 n2 m2 t bl W ht hbl hm2 (HP2.out.below (HBX.out W hW).1) (HQ2.out.below (HBX.out W hW).1))
  clear hp hq hp2 hq2
  by_cases hv : validA s l = false
  · have e0 : eachV s t l bl op = (60, [], []) := by unfold eachV; rw [if_pos hv]
    rw [e0]
    rw [hv] at HVA
    clear hv e0 hno
    go_enter Tryz.func42, Tryz.ntmps42
    go_wp2_with fail
    rw [HW0.out, ← HA.out]
    refine (HVA.out).mono ?_
    rintro e w1 ⟨hb1, rfl⟩
    have HB1 := Lib.hid hb1
    clear hb1
    obtain ⟨hbw, -, -, y1⟩ := HBX.out w1 HB1.out
    have HBk := Lib.hid hbw
    have r0 : w1.cell? ⟨A + 1 + 1, 0, none⟩ = some (.slice none 0 0) := by simp [World.cell?, y1]
    have r1 : w1.cell? ⟨A + 1 + 1, 1, none⟩ = some (.slice none 0 0) := by simp [World.cell?, y1]
    have z0 : w1.frozen? ⟨A + 1 + 1, 0, none⟩ = false := by simp [World.frozen?, y1]
    have z1 : w1.frozen? ⟨A + 1 + 1, 1, none⟩ = false := by simp [World.frozen?, y1]
    have hE1 := heap_set w1 (A + 1 + 1) 0 (.slice none 0 0) _ _ y1
    have hE2 := heap_set _ (A + 1 + 1) 1 (.slice none 0 0) _ _ hE1
    obtain ⟨W7, hW7⟩ : ∃ W7, (w1.setCell ⟨A + 1 + 1, 0, none⟩ (.slice none 0 0)).setCell ⟨A + 1 + 1, 1, none⟩ (.slice none 0 0) = W7 := ⟨_, rfl⟩
    rw [hW7] at hE2
    have k0 : W7.cell? ⟨A + 1 + 1, 0, none⟩ = some (.slice none 0 0) := by simp [World.cell?, hE2]
    have k1 : W7.cell? ⟨A + 1 + 1, 1, none⟩ = some (.slice none 0 0) := by simp [World.cell?, hE2]
    have HFIN : Hid (ArrPost w 60 [] [] (.returned (.tuple #[.agg #[.slice none 0 0, .slice none 0 0], .int .i64 60])) W7) := Lib.hid (arr_no (by
      rw [← hW7]
      exact (HBk.out.setCell (p := ⟨A + 1 + 1, 0, none⟩) HRB.out _).setCell (p := ⟨A + 1 + 1, 1, none⟩) HRB.out _))
    clear hE1 hE2 y1 hbw
    go_wp2_with fail
    (try simp only [Exit.inBlock, Exit.then])
    refine bodyPost_ret (v := .tuple #[.agg #[.slice none 0 0, .slice none 0 0], .int .i64 60]) ?_ rfl HFIN.out
    rw [results_cell_tmp rfl]
    go_simp
  have hv2 : validA s l = true := by simpa using hv
  rw [hv2] at HVA
  by_cases hw : validA t bl = false
  · have e0 : eachV s t l bl op = (60, [], []) := by unfold eachV; rw [if_neg hv, if_pos hw]
    rw [e0]
    rw [hw] at HVB
    clear hv hw e0 hno hv2
    go_enter Tryz.func42, Tryz.ntmps42
    go_wp2_with fail
    rw [HW0.out, ← HA.out]
    refine (HVA.out).mono ?_
    rintro e w1 ⟨hb1, rfl⟩
    have HB1 := Lib.hid hb1
    clear hb1
    obtain ⟨-, -, x1, -⟩ := HBX.out w1 HB1.out
    have a10 : w1.cell? ⟨A + 1, 0, none⟩ = some (.slice p2 n2 c2) := by simp [World.cell?, x1]
    have a11 : w1.cell? ⟨A + 1, 1, none⟩ = some (.slice q2 m2 d2) := by simp [World.cell?, x1]
    clear x1
    go_wp2_with fail
    refine (HVB.out _ HB1.out).mono ?_
    rintro e w2 ⟨hb2, rfl⟩
    have HB2 := Lib.hid (HB1.out.trans (hb2.mono HB1.out.size))
    clear hb2 a10 a11
    obtain ⟨hbw, -, -, y1⟩ := HBX.out w2 HB2.out
    have HBk := Lib.hid hbw
    have r0 : w2.cell? ⟨A + 1 + 1, 0, none⟩ = some (.slice none 0 0) := by simp [World.cell?, y1]
    have r1 : w2.cell? ⟨A + 1 + 1, 1, none⟩ = some (.slice none 0 0) := by simp [World.cell?, y1]
    have z0 : w2.frozen? ⟨A + 1 + 1, 0, none⟩ = false := by simp [World.frozen?, y1]
    have z1 : w2.frozen? ⟨A + 1 + 1, 1, none⟩ = false := by simp [World.frozen?, y1]
    have hE1 := heap_set w2 (A + 1 + 1) 0 (.slice none 0 0) _ _ y1
    have hE2 := heap_set _ (A + 1 + 1) 1 (.slice none 0 0) _ _ hE1
    obtain ⟨W7, hW7⟩ : ∃ W7, (w2.setCell ⟨A + 1 + 1, 0, none⟩ (.slice none 0 0)).setCell ⟨A + 1 + 1, 1, none⟩ (.slice none 0 0) = W7 := ⟨_, rfl⟩
    rw [hW7] at hE2
    have k0 : W7.cell? ⟨A + 1 + 1, 0, none⟩ = some (.slice none 0 0) := by simp [World.cell?, hE2]
    have k1 : W7.cell? ⟨A + 1 + 1, 1, none⟩ = some (.slice none 0 0) := by simp [World.cell?, hE2]
    have HFIN : Hid (ArrPost w 60 [] [] (.returned (.tuple #[.agg #[.slice none 0 0, .slice none 0 0], .int .i64 60])) W7) := Lib.hid (arr_no (by
      rw [← hW7]
      exact (HBk.out.setCell (p := ⟨A + 1 + 1, 0, none⟩) HRB.out _).setCell (p := ⟨A + 1 + 1, 1, none⟩) HRB.out _))
    clear hE1 hE2 y1 hbw
    go_wp2_with fail
    (try simp only [Exit.inBlock, Exit.then])
    refine bodyPost_ret (v := .tuple #[.agg #[.slice none 0 0, .slice none 0 0], .int .i64 60]) ?_ rfl HFIN.out
    rw [results_cell_tmp rfl]
    go_simp
  have hw2 : validA t bl = true := by simpa using hw
  rw [hw2] at HVB
  by_cases ho1 : op < 1
  · have e0 : eachV s t l bl op = (2, [], []) := by unfold eachV; rw [if_neg hv, if_neg hw, if_pos (.inl ho1)]
    rw [e0]
    have hd1 : decide (op < 1) = true := by simpa using ho1
    clear hv hw e0 hno hv2 hw2
    go_enter Tryz.func42, Tryz.ntmps42
    go_wp2_with fail
    rw [HW0.out, ← HA.out]
    refine (HVA.out).mono ?_
    rintro e w1 ⟨hb1, rfl⟩
    have HB1 := Lib.hid hb1
    clear hb1
    obtain ⟨-, -, x1, -⟩ := HBX.out w1 HB1.out
    have a10 : w1.cell? ⟨A + 1, 0, none⟩ = some (.slice p2 n2 c2) := by simp [World.cell?, x1]
    have a11 : w1.cell? ⟨A + 1, 1, none⟩ = some (.slice q2 m2 d2) := by simp [World.cell?, x1]
    clear x1
    go_wp2_with fail
    refine (HVB.out _ HB1.out).mono ?_
    rintro e w2 ⟨hb2, rfl⟩
    have HB2 := Lib.hid (HB1.out.trans (hb2.mono HB1.out.size))
    clear hb2 a10 a11
    obtain ⟨hbw, -, -, y1⟩ := HBX.out w2 HB2.out
    have HBk := Lib.hid hbw
    have r0 : w2.cell? ⟨A + 1 + 1, 0, none⟩ = some (.slice none 0 0) := by simp [World.cell?, y1]
    have r1 : w2.cell? ⟨A + 1 + 1, 1, none⟩ = some (.slice none 0 0) := by simp [World.cell?, y1]
    have z0 : w2.frozen? ⟨A + 1 + 1, 0, none⟩ = false := by simp [World.frozen?, y1]
    have z1 : w2.frozen? ⟨A + 1 + 1, 1, none⟩ = false := by simp [World.frozen?, y1]
    have hE1 := heap_set w2 (A + 1 + 1) 0 (.slice none 0 0) _ _ y1
    have hE2 := heap_set _ (A + 1 + 1) 1 (.slice none 0 0) _ _ hE1
    obtain ⟨W7, hW7⟩ : ∃ W7, (w2.setCell ⟨A + 1 + 1, 0, none⟩ (.slice none 0 0)).setCell ⟨A + 1 + 1, 1, none⟩ (.slice none 0 0) = W7 := ⟨_, rfl⟩
    rw [hW7] at hE2
    have k0 : W7.cell? ⟨A + 1 + 1, 0, none⟩ = some (.slice none 0 0) := by simp [World.cell?, hE2]
    have k1 : W7.cell? ⟨A + 1 + 1, 1, none⟩ = some (.slice none 0 0) := by simp [World.cell?, hE2]
    have HFIN : Hid (ArrPost w 2 [] [] (.returned (.tuple #[.agg #[.slice none 0 0, .slice none 0 0], .int .i64 2])) W7) := Lib.hid (arr_no (by
      rw [← hW7]
      exact (HBk.out.setCell (p := ⟨A + 1 + 1, 0, none⟩) HRB.out _).setCell (p := ⟨A + 1 + 1, 1, none⟩) HRB.out _))
    clear hE1 hE2 y1 hbw
    go_wp2_with fail
    (try simp only [Exit.inBlock, Exit.then])
    refine bodyPost_ret (v := .tuple #[.agg #[.slice none 0 0, .slice none 0 0], .int .i64 2]) ?_ rfl HFIN.out
    rw [results_cell_tmp rfl]
    go_simp
  by_cases ho2 : 10 < op
  · have e0 : eachV s t l bl op = (2, [], []) := by unfold eachV; rw [if_neg hv, if_neg hw, if_pos (.inr ho2)]
    rw [e0]
    have hd1 : decide (op < 1) = false := by simpa using ho1
    have hd2 : decide (10 < op) = true := by simpa using ho2
    clear hv hw e0 hno hv2 hw2
    go_enter Tryz.func42, Tryz.ntmps42
    go_wp2_with fail
    rw [HW0.out, ← HA.out]
    refine (HVA.out).mono ?_
    rintro e w1 ⟨hb1, rfl⟩
    have HB1 := Lib.hid hb1
    clear hb1
    obtain ⟨-, -, x1, -⟩ := HBX.out w1 HB1.out
    have a10 : w1.cell? ⟨A + 1, 0, none⟩ = some (.slice p2 n2 c2) := by simp [World.cell?, x1]
    have a11 : w1.cell? ⟨A + 1, 1, none⟩ = some (.slice q2 m2 d2) := by simp [World.cell?, x1]
    clear x1
    go_wp2_with fail
    refine (HVB.out _ HB1.out).mono ?_
    rintro e w2 ⟨hb2, rfl⟩
    have HB2 := Lib.hid (HB1.out.trans (hb2.mono HB1.out.size))
    clear hb2 a10 a11
    obtain ⟨hbw, -, -, y1⟩ := HBX.out w2 HB2.out
    have HBk := Lib.hid hbw
    have r0 : w2.cell? ⟨A + 1 + 1, 0, none⟩ = some (.slice none 0 0) := by simp [World.cell?, y1]
    have r1 : w2.cell? ⟨A + 1 + 1, 1, none⟩ = some (.slice none 0 0) := by simp [World.cell?, y1]
    have z0 : w2.frozen? ⟨A + 1 + 1, 0, none⟩ = false := by simp [World.frozen?, y1]
    have z1 : w2.frozen? ⟨A + 1 + 1, 1, none⟩ = false := by simp [World.frozen?, y1]
    have hE1 := heap_set w2 (A + 1 + 1) 0 (.slice none 0 0) _ _ y1
    have hE2 := heap_set _ (A + 1 + 1) 1 (.slice none 0 0) _ _ hE1
    obtain ⟨W7, hW7⟩ : ∃ W7, (w2.setCell ⟨A + 1 + 1, 0, none⟩ (.slice none 0 0)).setCell ⟨A + 1 + 1, 1, none⟩ (.slice none 0 0) = W7 := ⟨_, rfl⟩
    rw [hW7] at hE2
    have k0 : W7.cell? ⟨A + 1 + 1, 0, none⟩ = some (.slice none 0 0) := by simp [World.cell?, hE2]
    have k1 : W7.cell? ⟨A + 1 + 1, 1, none⟩ = some (.slice none 0 0) := by simp [World.cell?, hE2]
    have HFIN : Hid (ArrPost w 2 [] [] (.returned (.tuple #[.agg #[.slice none 0 0, .slice none 0 0], .int .i64 2])) W7) := Lib.hid (arr_no (by
      rw [← hW7]
      exact (HBk.out.setCell (p := ⟨A + 1 + 1, 0, none⟩) HRB.out _).setCell (p := ⟨A + 1 + 1, 1, none⟩) HRB.out _))
    clear hE1 hE2 y1 hbw
    go_wp2_with fail
    (try simp only [Exit.inBlock, Exit.then])
    refine bodyPost_ret (v := .tuple #[.agg #[.slice none 0 0, .slice none 0 0], .int .i64 2]) ?_ rfl HFIN.out
    rw [results_cell_tmp rfl]
    go_simp
  have ho : ¬ (op < 1 ∨ 10 < op) := by omega
  have hd1 : decide (op < 1) = false := by simpa using ho1
  have hd2 : decide (10 < op) = false := by simpa using ho2
  by_cases hst : s = t
  · exact absurd (by unfold eachV; rw [if_neg hv, if_neg hw, if_neg ho, if_pos hst]) hno
  have e0 : eachV s t l bl op = (60, [], []) := by unfold eachV; rw [if_neg hv, if_neg hw, if_neg ho, if_neg hst]
  rw [e0]
  have hvs : vs s = true := by unfold validA at hv2; rw [Bool.and_eq_true] at hv2; exact hv2.1
  have hvt : vs t = true := by unfold validA at hw2; rw [Bool.and_eq_true] at hw2; exact hw2.1
  have HN1 : Hid (n ≤ 1000) := Lib.hid (by
    obtain ⟨t0, rfl, ht0⟩ := vs_yes hvs
    have := ht0.1
    rw [← hs.out, List.length_map]; omega)
  have HN2 : Hid (n2 ≤ 1000) := Lib.hid (by
    obtain ⟨t0, rfl, ht0⟩ := vs_yes hvt
    have := ht0.1
    rw [← ht.out, List.length_map]; omega)
  have HEQ : Hid (∀ W, Below W0.heap.size W0 W → Calls Tryz.prog 71 #[.slice p n c, .slice p2 n2 c2] W fun e w' => Below W.heap.size W w' ∧ e = .returned (.bool false)) := Lib.hid (fun W hW => by
    have := samesh_any p p2 c c2 n n2 s t W hs ht HN1.out HN2.out (HP.out.below (HBX.out W hW).1) (HP2.out.below (HBX.out W hW).1)
    rwa [decide_eq_false hst] at this)
  clear hv hw e0 hno hv2 hw2 ho hst hvs hvt
  go_enter Tryz.func42, Tryz.ntmps42
  go_wp2_with fail
  rw [HW0.out, ← HA.out]
  refine (HVA.out).mono ?_
  rintro e w1 ⟨hb1, rfl⟩
  have HB1 := Lib.hid hb1
  clear hb1
  obtain ⟨-, -, x1, -⟩ := HBX.out w1 HB1.out
  have a10 : w1.cell? ⟨A + 1, 0, none⟩ = some (.slice p2 n2 c2) := by simp [World.cell?, x1]
  have a11 : w1.cell? ⟨A + 1, 1, none⟩ = some (.slice q2 m2 d2) := by simp [World.cell?, x1]
  clear x1
  go_wp2_with fail
  refine (HVB.out _ HB1.out).mono ?_
  rintro e w2 ⟨hb2, rfl⟩
  have HB2 := Lib.hid (HB1.out.trans (hb2.mono HB1.out.size))
  clear hb2 a10 a11
  obtain ⟨-, x0, x1, -⟩ := HBX.out w2 HB2.out
  have a00 : w2.cell? ⟨A, 0, none⟩ = some (.slice p n c) := by simp [World.cell?, x0]
  have a10 : w2.cell? ⟨A + 1, 0, none⟩ = some (.slice p2 n2 c2) := by simp [World.cell?, x1]
  clear x0 x1
  go_wp2_with fail
  refine (HEQ.out _ HB2.out).mono ?_
  rintro e w4 ⟨hb4, rfl⟩
  have HB4 : Hid (Below W0.heap.size W0 w4) := Lib.hid (HB2.out.trans (hb4.mono HB2.out.size))
  clear hb4 a00 a10
  obtain ⟨hbw, -, -, y1⟩ := HBX.out w4 HB4.out
  have HBk := Lib.hid hbw
  have r0 : w4.cell? ⟨A + 1 + 1, 0, none⟩ = some (.slice none 0 0) := by simp [World.cell?, y1]
  have r1 : w4.cell? ⟨A + 1 + 1, 1, none⟩ = some (.slice none 0 0) := by simp [World.cell?, y1]
  have z0 : w4.frozen? ⟨A + 1 + 1, 0, none⟩ = false := by simp [World.frozen?, y1]
  have z1 : w4.frozen? ⟨A + 1 + 1, 1, none⟩ = false := by simp [World.frozen?, y1]
  have hE1 := heap_set w4 (A + 1 + 1) 0 (.slice none 0 0) _ _ y1
  have hE2 := heap_set _ (A + 1 + 1) 1 (.slice none 0 0) _ _ hE1
  obtain ⟨W7, hW7⟩ : ∃ W7, (w4.setCell ⟨A + 1 + 1, 0, none⟩ (.slice none 0 0)).setCell ⟨A + 1 + 1, 1, none⟩ (.slice none 0 0) = W7 := ⟨_, rfl⟩
  rw [hW7] at hE2
  have k0 : W7.cell? ⟨A + 1 + 1, 0, none⟩ = some (.slice none 0 0) := by simp [World.cell?, hE2]
  have k1 : W7.cell? ⟨A + 1 + 1, 1, none⟩ = some (.slice none 0 0) := by simp [World.cell?, hE2]
  have HFIN : Hid (ArrPost w 60 [] [] (.returned (.tuple #[.agg #[.slice none 0 0, .slice none 0 0], .int .i64 60])) W7) := Lib.hid (arr_no (by
    rw [← hW7]
    exact (HBk.out.setCell (p := ⟨A + 1 + 1, 0, none⟩) HRB.out _).setCell (p := ⟨A + 1 + 1, 1, none⟩) HRB.out _))
  clear hE1 hE2 y1 hbw
  go_wp2_with fail
  (try simp only [Exit.inBlock, Exit.then])
  refine bodyPost_ret (v := .tuple #[.agg #[.slice none 0 0, .slice none 0 0], .int .i64 60]) ?_ rfl HFIN.out
  rw [results_cell_tmp rfl]
  go_simp
theorem reach_yes (p q p2 q2 : Option Addr) (c d c2 d2 n m n2 m2 : Nat) (s t : List Int) (l bl : List (List UInt8)) (op : Int) (w : World) (hs : Hid (s.length = n)) (hl : Hid (l.length = m)) (hm : m ≤ 5000) (ht : Hid (t.length = n2)) (hbl : Hid (bl.length = m2)) (hm2 : m2 ≤ 5000) (hp : Rd w p s) (hq : RdS w q l) (hp2 : Rd w p2 t) (hq2 : RdS w q2 bl) (hv2 : validA s l = true) (hw2 : validA t bl = true) (ho1 : 1 ≤ op) (ho2 : op ≤ 10) (hst : s = t) : Calls Tryz.prog 42 #[.agg #[.slice p n c, .slice q m d], .agg #[.slice p2 n2 c2, .slice q2 m2 d2], .int .i64 op] w (ArrPost w 0 (s.map Int.toNat) (List.zipWith (eachT op) l bl)) := by
  have HP := Lib.hid hp
  have HQ := Lib.hid hq
  have HP2 := Lib.hid hp2
  have HQ2 := Lib.hid hq2
  obtain ⟨A, HA⟩ : ∃ A, Hid (A = w.heap.size) := ⟨_, Lib.hid rfl⟩
  obtain ⟨W0, HW0⟩ : ∃ W0, Hid (((w.alloc (.cells #[.slice p n c, .slice q m d] 25)).alloc (.cells #[.slice p2 n2 c2, .slice q2 m2 d2] 25)).alloc (.cells #[.slice none 0 0, .slice none 0 0] 25) = W0) := ⟨_, Lib.hid rfl⟩
  have HB0 : Hid (Below w.heap.size w W0) := Lib.hid (by rw [← HW0.out]; exact (((Below.refl _ w).alloc (Nat.le_refl _) _).alloc (by simp) _).alloc (by simp; omega) _)
  have HRB : Hid (w.heap.size ≤ A + 1 + 1) := Lib.hid (by rw [HA.out]; omega)
  have HS0 : Hid (W0.heap.size = A + 1 + 1 + 1) := Lib.hid (by rw [← HW0.out, HA.out]; simp)
  have HA0 : Hid (W0.heap[A]? = some (.cells #[.slice p n c, .slice q m d] 25 (0, 0))) := Lib.hid (by
    rw [← HW0.out, HA.out]; simp only [World.alloc, Array.getElem?_push, Array.size_push]
    repeat' (first | rw [if_pos (by omega)] | rw [if_neg (by omega)] | rfl))
  have HA1 : Hid (W0.heap[A + 1]? = some (.cells #[.slice p2 n2 c2, .slice q2 m2 d2] 25 (0, 0))) := Lib.hid (by
    rw [← HW0.out, HA.out]; simp only [World.alloc, Array.getElem?_push, Array.size_push]
    repeat' (first | rw [if_pos (by omega)] | rw [if_neg (by omega)] | rfl))
  have HA2 : Hid (W0.heap[A + 1 + 1]? = some (.cells #[.slice none 0 0, .slice none 0 0] 25 (0, 0))) := Lib.hid (by
    rw [← HW0.out, HA.out]; simp only [World.alloc, Array.getElem?_push, Array.size_push]
    repeat' (first | rw [if_pos (by omega)] | rw [if_neg (by omega)] | rfl))
  have HBX : Hid (∀ W, Below W0.heap.size W0 W → Below w.heap.size w W ∧ W.heap[A]? = some (.cells #[.slice p n c, .slice q m d] 25 (0, 0)) ∧ W.heap[A + 1]? = some (.cells #[.slice p2 n2 c2, .slice q2 m2 d2] 25 (0, 0)) ∧ W.heap[A + 1 + 1]? = some (.cells #[.slice none 0 0, .slice none 0 0] 25 (0, 0))) := Lib.hid (fun W hW =>
    ⟨HB0.out.trans (hW.mono HB0.out.size), (hW.block A (by rw [HS0.out]; omega)).trans HA0.out, (hW.block (A + 1) (by rw [HS0.out]; omega)).trans HA1.out, (hW.block (A + 1 + 1) (by rw [HS0.out]; omega)).trans HA2.out⟩)
  have HVA : Hid (Calls Tryz.prog 22 #[.agg #[.slice p n c, .slice q m d]] W0 fun e w' => Below W0.heap.size W0 w' ∧ e = .returned (.bool (validA s l))) := Lib.hid (rvalidA_any p q c d n m s l W0 hs hl hm (HP.out.below HB0.out) (HQ.out.below HB0.out))
  have HVB : Hid (∀ W, Below W0.heap.size W0 W → Calls Tryz.prog 22 #[.agg #[.slice p2 n2 c2, .slice q2 m2 d2]] W fun e w' => Below W.heap.size W w' ∧ e = .returned (.bool (validA t bl))) := Lib.hid (fun W hW => rvalidA_any p2 q2 c2 d2 n2 m2 t bl W ht hbl hm2 (HP2.out.below (HBX.out W hW).1) (HQ2.out.below (HBX.out W hW).1))
  clear hp hq hp2 hq2
  rw [hv2] at HVA
  rw [hw2] at HVB
  have hvs : vs s = true := by unfold validA at hv2; rw [Bool.and_eq_true] at hv2; exact hv2.1
  obtain ⟨s0, e0, hsh⟩ := vs_yes hvs
  have HMM : Hid (m = m2) := Lib.hid (by
    unfold validA at hv2 hw2
    rw [Bool.and_eq_true, Bool.and_eq_true, decide_eq_true_eq] at hv2 hw2
    rw [← hl.out, ← hbl.out, hv2.2.1, hw2.2.1, hst])
  have hst2 := hst
  subst hst
  have HN2 : Hid (n2 ≤ 1000) := Lib.hid (by
    have := hsh.1
    rw [← ht.out, e0, List.length_map]; omega)
  have HN1 : Hid (n ≤ 1000) := Lib.hid (by
    have := hsh.1
    rw [← hs.out, e0, List.length_map]; omega)
  subst e0
  rw [toNat_map]
  have HSN : Hid (s0.length = n) := Lib.hid (by rw [← hs.out, List.length_map])
  have HN4 : Hid (n ≤ 4) := Lib.hid (by rw [← HSN.out]; exact hsh.1)
  have HSH := Lib.hid hsh
  have HO1 := Lib.hid ho1
  have HO2 := Lib.hid ho2
  have hd1 : decide (op < 1) = false := by simp; omega
  have hd2 : decide (10 < op) = false := by simp; omega
  have hn1 : ¬ op < 1 := by omega
  have hn2 : ¬ 10 < op := by omega
  obtain ⟨F, HF⟩ : ∃ F : Nat → List UInt8, Hid (F = fun i => eachT op (l.getD i []) (bl.getD i [])) := ⟨_, Lib.hid rfl⟩
  have hz := range_zip op hl.out (show bl.length = m by rw [hbl.out, HMM.out])
  rw [← HF.out] at hz
  rw [← hz]
  have HEQ : Hid (∀ W, Below W0.heap.size W0 W → Calls Tryz.prog 71 #[.slice p n c, .slice p2 n2 c2] W fun e w' => Below W.heap.size W w' ∧ e = .returned (.bool true)) := Lib.hid (fun W hW => by
    have := samesh_any p p2 c c2 n n2 _ _ W hs ht HN1.out HN2.out (HP.out.below (HBX.out W hW).1) (HP2.out.below (HBX.out W hW).1)
    rwa [decide_eq_true rfl] at this)
  clear hv2 hw2 ho1 ho2 hst2 hvs hsh hz
  go_enter Tryz.func42, Tryz.ntmps42
  go_wp2_with fail
  rw [HW0.out, ← HA.out]
  refine (HVA.out).mono ?_
  rintro e w1 ⟨hb1, rfl⟩
  have HB1 := Lib.hid hb1
  clear hb1
  obtain ⟨-, -, x1, -⟩ := HBX.out w1 HB1.out
  have a10 : w1.cell? ⟨A + 1, 0, none⟩ = some (.slice p2 n2 c2) := by simp [World.cell?, x1]
  have a11 : w1.cell? ⟨A + 1, 1, none⟩ = some (.slice q2 m2 d2) := by simp [World.cell?, x1]
  clear x1
  go_wp2_with fail
  refine (HVB.out _ HB1.out).mono ?_
  rintro e w2 ⟨hb2, rfl⟩
  have HB2 := Lib.hid (HB1.out.trans (hb2.mono HB1.out.size))
  clear hb2 a10 a11
  obtain ⟨-, x0, x1, -⟩ := HBX.out w2 HB2.out
  have a00 : w2.cell? ⟨A, 0, none⟩ = some (.slice p n c) := by simp [World.cell?, x0]
  have a10 : w2.cell? ⟨A + 1, 0, none⟩ = some (.slice p2 n2 c2) := by simp [World.cell?, x1]
  clear x0 x1
  go_wp2_with fail
  refine (HEQ.out _ HB2.out).mono ?_
  rintro e w4 ⟨hb4, rfl⟩
  have HB4 : Hid (Below W0.heap.size W0 w4) := Lib.hid (HB2.out.trans (hb4.mono HB2.out.size))
  clear hb4 a00 a10
  obtain ⟨hbw, x0, x1, y1⟩ := HBX.out w4 HB4.out
  have HX4 := Lib.hid x0
  have HX41 := Lib.hid x1
  have HY4 := Lib.hid y1
  have HBk := Lib.hid hbw
  have a00 : w4.cell? ⟨A, 0, none⟩ = some (.slice p n c) := by simp [World.cell?, x0]
  have HA4 : Hid (A + 1 + 1 + 1 ≤ w4.heap.size) := Lib.hid (by rw [← HS0.out]; exact HB4.out.size)
  have H52 := Lib.hid (copied_any p n c s0 w4 HSN HN4.out (Lib.hid HSH.out.2.1) (HP.out.below hbw))
  clear hbw x0 x1 y1
  go_wp2_with fail
  refine (H52.out).mono ?_
  rintro e w5 ⟨hb5, qs, ds, rfl, hrs, -, -, hrsn⟩
  obtain ⟨G, HG⟩ : ∃ G, Hid (G = w5.heap.size) := ⟨_, Lib.hid rfl⟩
  obtain ⟨W5, HW5⟩ : ∃ W5, Hid (w5.alloc (.cells #[.slice qs n ds, .slice none 0 0] 25) = W5) := ⟨_, Lib.hid rfl⟩
  have hb25 : Below w5.heap.size w5 W5 := by rw [← HW5.out]; exact (Below.refl _ _).alloc (Nat.le_refl _) _
  have HX5 : Hid (W5.heap[G]? = some (.cells #[.slice qs n ds, .slice none 0 0] 25 (0, 0))) := Lib.hid (by rw [← HW5.out, HG.out]; exact World.alloc_heap_new _ _)
  have HAG : Hid (A + 1 + 1 < G ∧ w.heap.size ≤ G ∧ w4.heap.size ≤ G) := Lib.hid (by
    have h1 := HA4.out
    have h2 := hb5.size
    rw [HG.out]; have := HA.out; omega)
  have HB45 : Hid (Below w4.heap.size w4 W5) := Lib.hid (hb5.trans (hb25.mono hb5.size))
  have HX50 : Hid (W5.heap[A]? = some (.cells #[.slice p n c, .slice q m d] 25 (0, 0))) := Lib.hid ((HB45.out.block A (by have := HA4.out; omega)).trans HX4.out)
  have HX51 : Hid (W5.heap[A + 1]? = some (.cells #[.slice p2 n2 c2, .slice q2 m2 d2] 25 (0, 0))) := Lib.hid ((HB45.out.block (A + 1) (by have := HA4.out; omega)).trans HX41.out)
  have HY5 : Hid (W5.heap[A + 1 + 1]? = some (.cells #[.slice none 0 0, .slice none 0 0] 25 (0, 0))) := Lib.hid ((HB45.out.block (A + 1 + 1) (by have := HA4.out; omega)).trans HY4.out)
  have HB5 : Hid (Below w.heap.size w W5) := Lib.hid (HBk.out.trans (HB45.out.mono HBk.out.size))
  have HRS5 : Hid (RdN W5 qs s0) := Lib.hid (hrs.below hb25)
  have HRSG : Hid (∀ b off, qs = some ⟨b, off, none⟩ → 0 < s0.length → b < G ∧ w4.heap.size ≤ b) := Lib.hid (fun b off e h0 => by
    obtain ⟨b', off', x, e', hb', -⟩ := hrs.at h0
    rw [e] at e'; cases e'; rw [HG.out]; exact ⟨hb', hrsn b off e⟩)
  have HXA : Hid (∀ W, W5.grownBy W (some G) → W.heap[A]? = some (.cells #[.slice p n c, .slice q m d] 25 (0, 0)) ∧ W.heap[A + 1]? = some (.cells #[.slice p2 n2 c2, .slice q2 m2 d2] 25 (0, 0)) ∧ Below w.heap.size w W) := Lib.hid (fun W hW => by
    have hag := HAG.out
    exact ⟨(hW.block A (Array.getElem?_eq_some_iff.1 HX50.out).1 (by intro e; injection e with e; omega)).trans HX50.out, (hW.block (A + 1) (Array.getElem?_eq_some_iff.1 HX51.out).1 (by intro e; injection e with e; omega)).trans HX51.out, ⟨hW.os.trans HB5.out.os, hW.tape.trans HB5.out.tape, hW.output.trans HB5.out.output, Nat.le_trans HB5.out.size hW.size, fun j hj => (hW.block j (Nat.lt_of_lt_of_le hj HB5.out.size) (by intro e; injection e with e; omega)).trans (HB5.out.block j hj)⟩⟩)
  clear hb5 hrs hrsn hb25 a00
  go_wp2_with fail
  rw [HW5.out, ← HG.out]
  go_loopw [9] (fun iv wr => ∃ i : Nat, i ≤ m ∧ iv = .int .i64 i ∧ Hid (OutI W5 G (.slice qs n ds) ((List.range i).map F) wr)) (fun iv _ => m - (Go.RowKit.intOf iv).toNat)
  case atStart => exact ⟨0, Nat.zero_le _, rfl, Lib.hid (OutI.start HX5.out)⟩
  case round =>
    obtain ⟨i, hi, rfl, HO⟩ := hrel
    have ii : (i : Int) ≤ (m : Int) := by omega
    obtain ⟨hA0, hA1, hbr⟩ := HXA.out wr HO.out.old
    have HBR := Lib.hid hbr
    have qv1 : wr.cell? ⟨A, 1, none⟩ = some (.slice q m d) := by simp [World.cell?, hA0]
    clear hA0 hA1 hbr
    obtain ⟨pv, cv, hx, hown, hge⟩ := HO.out.row
    rw [List.length_map, List.length_range] at hx hown hge
    have HXR := Lib.hid hx
    have HGE := Lib.hid hge
    have g0 : wr.cell? ⟨G, 0, none⟩ = some (.slice qs n ds) := by simp [World.cell?, hx]
    by_cases hlt : i < m
    · have ilt : (i : Int) < (m : Int) := by omega
      have ilt2 : (i : Int) < (m2 : Int) := by have := HMM.out; omega
      have hi0 : (0 : Int) ≤ i := by omega
      obtain ⟨bq, oq, xs, eq1, hbq, hxc, HXS⟩ := HQ.out.at (k := i) (by rw [hl.out]; exact hlt)
      obtain ⟨br, ob, ys, eq2, hbr, hyc, HYS⟩ := HQ2.out.at (k := i) (by rw [hbl.out, ← HMM.out]; exact hlt)
      subst eq1
      subst eq2
      obtain ⟨tx, HTX⟩ : ∃ tx, Hid (eachT op xs ys = tx) := ⟨_, Lib.hid rfl⟩
      have HYE : Hid (F i = tx) := Lib.hid (by rw [HF.out, ← HTX.out, HXS.out, HYS.out])
      have H81 : Hid (∀ W, Below wr.heap.size wr W → Calls Tryz.prog 81 #[.int .i64 op, .string ⟨List.toArray xs⟩, .string ⟨List.toArray ys⟩] W (TxtPost tx W)) := Lib.hid (fun W hW => by
        rw [← HTX.out]; exact rop_any op HO1.out HO2.out xs ys W)
      have HSO : Hid (∀ W, W5.grownBy W (some G) → W.cell? ⟨G, 0, none⟩ = some (.slice qs n ds) → (fun W => W.cell? ⟨A, 1, none⟩ = some (.slice (some ⟨bq, oq, none⟩) m d) ∧ W.cell? ⟨A + 1, 1, none⟩ = some (.slice (some ⟨br, ob, none⟩) m2 d2) ∧ W.cell? ⟨bq, oq + i, none⟩ = some (.string ⟨List.toArray xs⟩) ∧ W.cell? ⟨br, ob + i, none⟩ = some (.string ⟨List.toArray ys⟩)) W) := Lib.hid (fun W hW _ => by
        obtain ⟨h0, h1, h2⟩ := HXA.out W hW
        exact ⟨by simp [World.cell?, h0], by simp [World.cell?, h1], (h2.cell (p := ⟨bq, oq + i, none⟩) hbq).trans hxc, (h2.cell (p := ⟨br, ob + i, none⟩) hbr).trans hyc⟩)
      have HSB : ∀ {W}, Below wr.heap.size wr W → (fun W => W.cell? ⟨A, 1, none⟩ = some (.slice (some ⟨bq, oq, none⟩) m d) ∧ W.cell? ⟨A + 1, 1, none⟩ = some (.slice (some ⟨br, ob, none⟩) m2 d2) ∧ W.cell? ⟨bq, oq + i, none⟩ = some (.string ⟨List.toArray xs⟩) ∧ W.cell? ⟨br, ob + i, none⟩ = some (.string ⟨List.toArray ys⟩)) W := fun {W} hW => HSO.out W (HO.out.old.trans (gb_of_below hW _)) ((HO.out.next hW).box0)
      have HG1 : Hid (∀ W, Below wr.heap.size wr W → W.cell? ⟨G, 1, none⟩ = some (.slice pv i cv)) := Lib.hid (fun W hW => by
        have := (hW.block G (Array.getElem?_eq_some_iff.1 HXR.out).1).trans HXR.out
        simp [World.cell?, this])
      have HOWN : Hid (∀ W, Below wr.heap.size wr W → W.ownsRow W5.heap.size 9 1 (.slice pv i cv) i (strs ((List.range i).map F))) := Lib.hid (fun W hW => by
        have := hown.kept (gb_of_below hW none) (by cases pv <;> simp [Value.ownBlock])
        obtain ⟨h1, ⟨e, e2⟩ | ⟨g, cap, cur, e, h3, h4⟩⟩ := this
        · exact ⟨h1, .inl ⟨e, e2⟩⟩
        · exact ⟨h1, .inr ⟨g, cap, cur, e, HGE.out g (by rw [e]; rfl), h4⟩⟩)
      have HU5 : Hid (∀ W, Below wr.heap.size wr W → W5.heap.size ≤ W.heap.size) := Lib.hid (fun W hW => Nat.le_trans HO.out.old.size hW.size)
      have hi2 : i ≤ 100000 := by have := hm; omega
      have HBwd : Hid (Below wr.heap.size wr wr.drew) := Lib.hid ⟨rfl, rfl, rfl, Nat.le_refl _, fun _ _ => rfl⟩
      obtain ⟨wd, hwd⟩ : ∃ wd, wr.drew = wd := ⟨_, rfl⟩
      rw [hwd] at HBwd
      clear hx hown hge hbq hbr hxc hyc
      go_wp2_with fail
      refine wp_region_noPanic ?_
      refine wp_region_held_drew (S := fun W => W.cell? ⟨A, 1, none⟩ = some (.slice (some ⟨bq, oq, none⟩) m d) ∧ W.cell? ⟨A + 1, 1, none⟩ = some (.slice (some ⟨br, ob, none⟩) m2 d2) ∧ W.cell? ⟨bq, oq + i, none⟩ = some (.string ⟨List.toArray xs⟩) ∧ W.cell? ⟨br, ob + i, none⟩ = some (.string ⟨List.toArray ys⟩)) (by kernel_rfl) (HSB (by rw [hwd]; exact HBwd.out)) (fun hHeld => ?_)
      rw [hwd] at hHeld ⊢
      refine wpAnyH_take (i := 0) (v := ?v1) rfl (by kernel_rfl) (by kernel_rfl) (by kernel_rfl) (fun _ _ _ h => h) (Or.inl ⟨by rfl, ?hy1⟩) (by assumption) ?rest1
      case hy1 =>
        intro W' hSw
        obtain ⟨e0, e1, e2, e3⟩ := hSw
        go_simp
        with_reducible rfl
      simp only [List.getElem_toArray, List.getElem_cons_zero, Act.put, List.setIfInBounds_toArray, List.set_cons_zero, List.set_cons_succ]
      refine wpAnyH_take (i := 2) (v := ?v2) rfl (by kernel_rfl) (by kernel_rfl) (by kernel_rfl) (fun _ _ _ h => h) (Or.inl ⟨by rfl, ?hy2⟩) (by assumption) ?rest2
      case hy2 =>
        intro W' hSw
        obtain ⟨e0, e1, e2, e3⟩ := hSw
        go_simp
        with_reducible rfl
      simp only [List.getElem_toArray, List.getElem_cons_zero, List.getElem_cons_succ, Act.put, List.setIfInBounds_toArray, List.set_cons_zero, List.set_cons_succ]
      refine wpAnyH_take (i := 3) (v := ?v3) rfl (by kernel_rfl) (by kernel_rfl) (by kernel_rfl) (fun _ _ _ h => h) (Or.inl ⟨by rfl, ?hy3⟩) (by assumption) ?rest3
      case hy3 =>
        intro W' hSw
        obtain ⟨e0, e1, e2, e3⟩ := hSw
        go_simp
        with_reducible rfl
      simp only [List.getElem_toArray, List.getElem_cons_zero, List.getElem_cons_succ, Act.put, List.setIfInBounds_toArray, List.set_cons_zero, List.set_cons_succ]
      refine wpAnyH_take (i := 4) (v := ?v4) rfl (by kernel_rfl) (by kernel_rfl) (by kernel_rfl) (fun _ _ _ h => h) (Or.inl ⟨by rfl, ?hy4⟩) (by assumption) ?rest4
      case hy4 =>
        intro W' hSw
        obtain ⟨e0, e1, e2, e3⟩ := hSw
        go_simp
        with_reducible rfl
      simp only [List.getElem_toArray, List.getElem_cons_zero, List.getElem_cons_succ, Act.put, List.setIfInBounds_toArray, List.set_cons_zero, List.set_cons_succ]
      refine wpAnyH_take (i := 5) (v := ?v5) rfl (by kernel_rfl) (by kernel_rfl) (by kernel_rfl) (fun _ _ _ h => h) (Or.inl ⟨by rfl, ?hy5⟩) (by assumption) ?rest5
      case hy5 =>
        intro W' hSw
        obtain ⟨e0, e1, e2, e3⟩ := hSw
        go_simp
        with_reducible rfl
      simp only [List.getElem_toArray, List.getElem_cons_zero, List.getElem_cons_succ, Act.put, List.setIfInBounds_toArray, List.set_cons_zero, List.set_cons_succ]
      refine wpAnyH_take (i := 6) (v := ?v6) rfl (by kernel_rfl) (by kernel_rfl) (by kernel_rfl) (fun _ _ _ h => h) (Or.inl ⟨by rfl, ?hy6⟩) (by assumption) ?rest6
      case hy6 =>
        intro W' hSw
        obtain ⟨e0, e1, e2, e3⟩ := hSw
        go_simp
        with_reducible rfl
      simp only [List.getElem_toArray, List.getElem_cons_zero, List.getElem_cons_succ, Act.put, List.setIfInBounds_toArray, List.set_cons_zero, List.set_cons_succ]
      refine wpAnyH_take (i := 7) (v := ?v7) rfl (by kernel_rfl) (by kernel_rfl) (by kernel_rfl) (fun _ _ _ h => h) (Or.inl ⟨by rfl, ?hy7⟩) (by assumption) ?rest7
      case hy7 =>
        intro W' hSw
        obtain ⟨e0, e1, e2, e3⟩ := hSw
        go_simp
        with_reducible rfl
      simp only [List.getElem_toArray, List.getElem_cons_zero, List.getElem_cons_succ, Act.put, List.setIfInBounds_toArray, List.set_cons_zero, List.set_cons_succ]
      refine wpAnyH_take (i := 8) (v := ?v8) rfl (by kernel_rfl) (by kernel_rfl) (by kernel_rfl) (fun _ _ _ h => h) (Or.inl ⟨by rfl, ?hy8⟩) (by assumption) ?rest8
      case hy8 =>
        intro W' hSw
        obtain ⟨e0, e1, e2, e3⟩ := hSw
        go_simp
        with_reducible rfl
      simp only [List.getElem_toArray, List.getElem_cons_zero, List.getElem_cons_succ, Act.put, List.setIfInBounds_toArray, List.set_cons_zero, List.set_cons_succ]
      refine wpAnyH_take (i := 9) (v := ?v9) rfl (by kernel_rfl) (by kernel_rfl) (by kernel_rfl) (fun _ _ _ h => h) (Or.inl ⟨by rfl, ?hy9⟩) (by assumption) ?rest9
      case hy9 =>
        intro W' hSw
        obtain ⟨e0, e1, e2, e3⟩ := hSw
        go_simp
        with_reducible rfl
      simp only [List.getElem_toArray, List.getElem_cons_zero, List.getElem_cons_succ, Act.put, List.setIfInBounds_toArray, List.set_cons_zero, List.set_cons_succ]
      refine wpAnyH_take (i := 10) (v := ?v10) rfl (by kernel_rfl) (by kernel_rfl) (by kernel_rfl) (fun _ _ _ h => h) (Or.inl ⟨by rfl, ?hy10⟩) (by assumption) ?rest10
      case hy10 =>
        intro W' hSw
        obtain ⟨e0, e1, e2, e3⟩ := hSw
        go_simp
        with_reducible rfl
      simp only [List.getElem_toArray, List.getElem_cons_zero, List.getElem_cons_succ, Act.put, List.setIfInBounds_toArray, List.set_cons_zero, List.set_cons_succ]
      refine wpAnyH_take (i := 11) (v := ?v11) rfl (by kernel_rfl) (by kernel_rfl) (by kernel_rfl) (fun _ _ _ h => h) (Or.inl ⟨by rfl, ?hy11⟩) (by assumption) ?rest11
      case hy11 =>
        intro W' hSw
        obtain ⟨e0, e1, e2, e3⟩ := hSw
        go_simp
        with_reducible rfl
      simp only [List.getElem_toArray, List.getElem_cons_zero, List.getElem_cons_succ, Act.put, List.setIfInBounds_toArray, List.set_cons_zero, List.set_cons_succ]
      refine wpAnyH_take (i := 12) (v := ?v12) rfl (by kernel_rfl) (by kernel_rfl) (by kernel_rfl) (fun _ _ _ h => h) (Or.inl ⟨by rfl, ?hy12⟩) (by assumption) ?rest12
      case hy12 =>
        intro W' hSw
        obtain ⟨e0, e1, e2, e3⟩ := hSw
        go_simp
        with_reducible rfl
      simp only [List.getElem_toArray, List.getElem_cons_zero, List.getElem_cons_succ, Act.put, List.setIfInBounds_toArray, List.set_cons_zero, List.set_cons_succ]
      refine wpAnyH_ready (rs := [1, 13]) (by kernel_rfl) (by simp) ?_
      refine AllReadyH.cons (i := 1) rfl (fun K hK => ?_) (AllReadyH.cons (i := 13) rfl (fun K hK => ?_) AllReadyH.nil)
      · have g1 : (wd).cell? ⟨G, 1, none⟩ = some (.slice pv i cv) := HG1.out _ HBwd.out
        go_simp
        refine hK.out _ _ (HSB HBwd.out) (fun hHeld => ?_)
        clear hK K
        refine wpAnyH_ready (rs := [13]) (by kernel_rfl) (by simp) ?_
        refine AllReadyH.cons (i := 13) rfl (fun K hK => ?_) AllReadyH.nil
        go_simp
        refine (H81.out _ HBwd.out).mono ?_
        rintro e v2 ⟨rfl, hb⟩
        have HBv2 : Hid (Below wr.heap.size wr v2) := Lib.hid (HBwd.out.trans (hb.mono HBwd.out.size))
        clear hb
        refine hK.out _ _ (HSB HBv2.out) (fun hHeld => ?_)
        clear hK K
        refine wpAnyH_ready (rs := [14]) (by kernel_rfl) (by simp) ?_
        refine AllReadyH.cons (i := 14) rfl (fun K hK => ?_) AllReadyH.nil
        obtain ⟨v3, HUv3⟩ : ∃ U, Hid ((v2).alloc (.cells #[.string ⟨List.toArray tx⟩] 9) = U) := ⟨_, Lib.hid rfl⟩
        obtain ⟨gU, HgU⟩ : ∃ g, Hid (g = (v2).heap.size) := ⟨_, Lib.hid rfl⟩
        have HBv3 : Hid (Below wr.heap.size wr v3) := Lib.hid (by rw [← HUv3.out]; exact HBv2.out.alloc HBv2.out.size _)
        have HUC : Hid (v3.cell? ⟨gU, 0, none⟩ = some (.string ⟨List.toArray tx⟩)) := Lib.hid (by
          rw [← HUv3.out, HgU.out]; have := World.alloc_heap_new (v2) (.cells #[.string ⟨List.toArray tx⟩] 9); unfold World.cell?; simp only [this]; rfl)
        go_simp
        try rw [HUv3.out]
        try rw [← HgU.out]
        refine hK.out _ _ (HSB HBv3.out) (fun hHeld => ?_)
        clear hK K
        refine wpAnyH_ready (rs := [15]) (by kernel_rfl) (by simp) ?_
        refine AllReadyH.cons (i := 15) rfl (fun K hK => ?_) AllReadyH.nil
        rw [if_pos (by rfl)]
        have HOU := Lib.hid (HOWN.out _ HBv3.out)
        refine op_append_1s (.tmp 45) (.tmp 58) rfl W5.heap.size pv cv i ((List.range i).map F) rfl HOU.out gU tx rfl HUC.out hi2 (HU5.out _ HBv3.out) ?_
        intro gv cv' w9 hown9 hg9
        obtain ⟨hst, hG9⟩ := HO.out.step (by simp) HXR.out HGE.out HBv3.out hown9 hg9
        have hold9 := hst.of_set
        have hstep : (List.range i).map F ++ [tx] = (List.range (i + 1)).map F := by rw [List.range_succ, List.map_append, List.map_singleton, HYE.out]
        rw [hstep] at hst
        have HST := Lib.hid hst
        have k1 : w9.cell? ⟨G, 1, none⟩ = some (.slice pv i cv) := by simp [World.cell?, hG9]
        have z1 : w9.frozen? ⟨G, 1, none⟩ = false := by simp [World.frozen?, hG9]
        have HS9 := Lib.hid (HSO.out _ hold9 (by simp [World.cell?, hG9]))
        have HS10 := Lib.hid (HSO.out _ HST.out.old (HST.out.box0))
        clear hst hG9 hown9 hg9 hstep hold9
        refine hK.out _ _ HS9.out (fun hHeld => ?_)
        clear hK K
        refine wpAnyH_take (i := 16) (v := ?v13) rfl (by kernel_rfl) (by kernel_rfl) (by kernel_rfl) (fun _ _ _ h => h) (Or.inl ⟨by rfl, ?hy13⟩) (by assumption) ?rest13
        case hy13 =>
          intro W' hSw
          obtain ⟨e0, e1, e2, e3⟩ := hSw
          go_simp
          with_reducible rfl
        simp only [List.getElem_toArray, List.getElem_cons_zero, List.getElem_cons_succ, Act.put, List.setIfInBounds_toArray, List.set_cons_zero, List.set_cons_succ]
        refine wpAnyH_ready (rs := [17]) (by kernel_rfl) (by simp) ?_
        refine AllReadyH.cons (i := 17) rfl (fun K hK => ?_) AllReadyH.nil
        go_simp
        refine hK.out _ _ HS10.out (fun hHeld => ?_)
        clear hK K
        refine wpAnyH_done (by kernel_rfl) ?_ _
        refine NoPanic.normal ?_
        clear hHeld
        go_wp2_with fail
        go_roundw
        case rel => exact ⟨i + 1, by omega, by go_num, HST⟩
        case measure => simp [Go.RowKit.intOf]; omega
      · go_simp
        refine (H81.out _ HBwd.out).mono ?_
        rintro e v1 ⟨rfl, hb⟩
        have HBv1 : Hid (Below wr.heap.size wr v1) := Lib.hid (HBwd.out.trans (hb.mono HBwd.out.size))
        clear hb
        refine hK.out _ _ (HSB HBv1.out) (fun hHeld => ?_)
        clear hK K
        refine wpAnyH_ready (rs := [1, 14]) (by kernel_rfl) (by simp) ?_
        refine AllReadyH.cons (i := 1) rfl (fun K hK => ?_) (AllReadyH.cons (i := 14) rfl (fun K hK => ?_) AllReadyH.nil)
        · have g1 : (v1).cell? ⟨G, 1, none⟩ = some (.slice pv i cv) := HG1.out _ HBv1.out
          go_simp
          refine hK.out _ _ (HSB HBv1.out) (fun hHeld => ?_)
          clear hK K
          refine wpAnyH_ready (rs := [14]) (by kernel_rfl) (by simp) ?_
          refine AllReadyH.cons (i := 14) rfl (fun K hK => ?_) AllReadyH.nil
          obtain ⟨v5, HUv5⟩ : ∃ U, Hid ((v1).alloc (.cells #[.string ⟨List.toArray tx⟩] 9) = U) := ⟨_, Lib.hid rfl⟩
          obtain ⟨gU, HgU⟩ : ∃ g, Hid (g = (v1).heap.size) := ⟨_, Lib.hid rfl⟩
          have HBv5 : Hid (Below wr.heap.size wr v5) := Lib.hid (by rw [← HUv5.out]; exact HBv1.out.alloc HBv1.out.size _)
          have HUC : Hid (v5.cell? ⟨gU, 0, none⟩ = some (.string ⟨List.toArray tx⟩)) := Lib.hid (by
            rw [← HUv5.out, HgU.out]; have := World.alloc_heap_new (v1) (.cells #[.string ⟨List.toArray tx⟩] 9); unfold World.cell?; simp only [this]; rfl)
          go_simp
          try rw [HUv5.out]
          try rw [← HgU.out]
          refine hK.out _ _ (HSB HBv5.out) (fun hHeld => ?_)
          clear hK K
          refine wpAnyH_ready (rs := [15]) (by kernel_rfl) (by simp) ?_
          refine AllReadyH.cons (i := 15) rfl (fun K hK => ?_) AllReadyH.nil
          rw [if_pos (by rfl)]
          have HOU := Lib.hid (HOWN.out _ HBv5.out)
          refine op_append_1s (.tmp 45) (.tmp 58) rfl W5.heap.size pv cv i ((List.range i).map F) rfl HOU.out gU tx rfl HUC.out hi2 (HU5.out _ HBv5.out) ?_
          intro gv cv' w9 hown9 hg9
          obtain ⟨hst, hG9⟩ := HO.out.step (by simp) HXR.out HGE.out HBv5.out hown9 hg9
          have hold9 := hst.of_set
          have hstep : (List.range i).map F ++ [tx] = (List.range (i + 1)).map F := by rw [List.range_succ, List.map_append, List.map_singleton, HYE.out]
          rw [hstep] at hst
          have HST := Lib.hid hst
          have k1 : w9.cell? ⟨G, 1, none⟩ = some (.slice pv i cv) := by simp [World.cell?, hG9]
          have z1 : w9.frozen? ⟨G, 1, none⟩ = false := by simp [World.frozen?, hG9]
          have HS9 := Lib.hid (HSO.out _ hold9 (by simp [World.cell?, hG9]))
          have HS10 := Lib.hid (HSO.out _ HST.out.old (HST.out.box0))
          clear hst hG9 hown9 hg9 hstep hold9
          refine hK.out _ _ HS9.out (fun hHeld => ?_)
          clear hK K
          refine wpAnyH_take (i := 16) (v := ?v14) rfl (by kernel_rfl) (by kernel_rfl) (by kernel_rfl) (fun _ _ _ h => h) (Or.inl ⟨by rfl, ?hy14⟩) (by assumption) ?rest14
          case hy14 =>
            intro W' hSw
            obtain ⟨e0, e1, e2, e3⟩ := hSw
            go_simp
            with_reducible rfl
          simp only [List.getElem_toArray, List.getElem_cons_zero, List.getElem_cons_succ, Act.put, List.setIfInBounds_toArray, List.set_cons_zero, List.set_cons_succ]
          refine wpAnyH_ready (rs := [17]) (by kernel_rfl) (by simp) ?_
          refine AllReadyH.cons (i := 17) rfl (fun K hK => ?_) AllReadyH.nil
          go_simp
          refine hK.out _ _ HS10.out (fun hHeld => ?_)
          clear hK K
          refine wpAnyH_done (by kernel_rfl) ?_ _
          refine NoPanic.normal ?_
          clear hHeld
          go_wp2_with fail
          go_roundw
          case rel => exact ⟨i + 1, by omega, by go_num, HST⟩
          case measure => simp [Go.RowKit.intOf]; omega
        · obtain ⟨v4, HUv4⟩ : ∃ U, Hid ((v1).alloc (.cells #[.string ⟨List.toArray tx⟩] 9) = U) := ⟨_, Lib.hid rfl⟩
          obtain ⟨gU, HgU⟩ : ∃ g, Hid (g = (v1).heap.size) := ⟨_, Lib.hid rfl⟩
          have HBv4 : Hid (Below wr.heap.size wr v4) := Lib.hid (by rw [← HUv4.out]; exact HBv1.out.alloc HBv1.out.size _)
          have HUC : Hid (v4.cell? ⟨gU, 0, none⟩ = some (.string ⟨List.toArray tx⟩)) := Lib.hid (by
            rw [← HUv4.out, HgU.out]; have := World.alloc_heap_new (v1) (.cells #[.string ⟨List.toArray tx⟩] 9); unfold World.cell?; simp only [this]; rfl)
          go_simp
          try rw [HUv4.out]
          try rw [← HgU.out]
          refine hK.out _ _ (HSB HBv4.out) (fun hHeld => ?_)
          clear hK K
          refine wpAnyH_ready (rs := [1]) (by kernel_rfl) (by simp) ?_
          refine AllReadyH.cons (i := 1) rfl (fun K hK => ?_) AllReadyH.nil
          have g1 : (v4).cell? ⟨G, 1, none⟩ = some (.slice pv i cv) := HG1.out _ HBv4.out
          go_simp
          refine hK.out _ _ (HSB HBv4.out) (fun hHeld => ?_)
          clear hK K
          refine wpAnyH_ready (rs := [15]) (by kernel_rfl) (by simp) ?_
          refine AllReadyH.cons (i := 15) rfl (fun K hK => ?_) AllReadyH.nil
          rw [if_pos (by rfl)]
          have HOU := Lib.hid (HOWN.out _ HBv4.out)
          refine op_append_1s (.tmp 45) (.tmp 58) rfl W5.heap.size pv cv i ((List.range i).map F) rfl HOU.out gU tx rfl HUC.out hi2 (HU5.out _ HBv4.out) ?_
          intro gv cv' w9 hown9 hg9
          obtain ⟨hst, hG9⟩ := HO.out.step (by simp) HXR.out HGE.out HBv4.out hown9 hg9
          have hold9 := hst.of_set
          have hstep : (List.range i).map F ++ [tx] = (List.range (i + 1)).map F := by rw [List.range_succ, List.map_append, List.map_singleton, HYE.out]
          rw [hstep] at hst
          have HST := Lib.hid hst
          have k1 : w9.cell? ⟨G, 1, none⟩ = some (.slice pv i cv) := by simp [World.cell?, hG9]
          have z1 : w9.frozen? ⟨G, 1, none⟩ = false := by simp [World.frozen?, hG9]
          have HS9 := Lib.hid (HSO.out _ hold9 (by simp [World.cell?, hG9]))
          have HS10 := Lib.hid (HSO.out _ HST.out.old (HST.out.box0))
          clear hst hG9 hown9 hg9 hstep hold9
          refine hK.out _ _ HS9.out (fun hHeld => ?_)
          clear hK K
          refine wpAnyH_take (i := 16) (v := ?v15) rfl (by kernel_rfl) (by kernel_rfl) (by kernel_rfl) (fun _ _ _ h => h) (Or.inl ⟨by rfl, ?hy15⟩) (by assumption) ?rest15
          case hy15 =>
            intro W' hSw
            obtain ⟨e0, e1, e2, e3⟩ := hSw
            go_simp
            with_reducible rfl
          simp only [List.getElem_toArray, List.getElem_cons_zero, List.getElem_cons_succ, Act.put, List.setIfInBounds_toArray, List.set_cons_zero, List.set_cons_succ]
          refine wpAnyH_ready (rs := [17]) (by kernel_rfl) (by simp) ?_
          refine AllReadyH.cons (i := 17) rfl (fun K hK => ?_) AllReadyH.nil
          go_simp
          refine hK.out _ _ HS10.out (fun hHeld => ?_)
          clear hK K
          refine wpAnyH_done (by kernel_rfl) ?_ _
          refine NoPanic.normal ?_
          clear hHeld
          go_wp2_with fail
          go_roundw
          case rel => exact ⟨i + 1, by omega, by go_num, HST⟩
          case measure => simp [Go.RowKit.intOf]; omega
    · obtain rfl : i = m := by omega
      have ilt : ¬ (i : Int) < (i : Int) := by omega
      have g1 : wr.cell? ⟨G, 1, none⟩ = some (.slice pv i cv) := by simp [World.cell?, hx]
      obtain ⟨hrd, hrb⟩ := HO.out.reads (by simp) hx
      have y6 : wr.heap[A + 1 + 1]? = some (.cells #[.slice none 0 0, .slice none 0 0] 25 (0, 0)) := (HO.out.old.block (A + 1 + 1) (Array.getElem?_eq_some_iff.1 HY5.out).1 (by intro e; injection e with e; have := HAG.out.1; omega)).trans HY5.out
      have r0 : wr.cell? ⟨A + 1 + 1, 0, none⟩ = some (.slice none 0 0) := by simp [World.cell?, y6]
      have r1 : wr.cell? ⟨A + 1 + 1, 1, none⟩ = some (.slice none 0 0) := by simp [World.cell?, y6]
      have z0 : wr.frozen? ⟨A + 1 + 1, 0, none⟩ = false := by simp [World.frozen?, y6]
      have z1 : wr.frozen? ⟨A + 1 + 1, 1, none⟩ = false := by simp [World.frozen?, y6]
      have hE1 := heap_set wr (A + 1 + 1) 0 (.slice qs n ds) _ _ y6
      have hE2 := heap_set _ (A + 1 + 1) 1 (.slice pv i cv) _ _ hE1
      obtain ⟨W7, hW7⟩ : ∃ W7, (wr.setCell ⟨A + 1 + 1, 0, none⟩ (.slice qs n ds)).setCell ⟨A + 1 + 1, 1, none⟩ (.slice pv i cv) = W7 := ⟨_, rfl⟩
      rw [hW7] at hE2
      have k0 : W7.cell? ⟨A + 1 + 1, 0, none⟩ = some (.slice qs n ds) := by simp [World.cell?, hE2]
      have k1 : W7.cell? ⟨A + 1 + 1, 1, none⟩ = some (.slice pv i cv) := by simp [World.cell?, hE2]
      have hg67 : wr.grownBy W7 (some (A + 1 + 1)) := by rw [← hW7]; exact (gb_set _ _ _ _).trans (gb_set _ _ _ _)
      have HFIN : Hid (ArrPost w 0 s0 ((List.range i).map F) (.returned (.tuple #[.agg #[.slice qs n ds, .slice pv i cv], .int .i64 0])) W7) := Lib.hid (by
        have hag := HAG.out
        have hA4 := HA4.out
        refine ⟨?_, qs, pv, n, ds, i, cv, rfl, HSN.out, by simp, ?_, ?_⟩
        · rw [← hW7]
          exact (HBR.out.setCell (p := ⟨A + 1 + 1, 0, none⟩) HRB.out _).setCell (p := ⟨A + 1 + 1, 1, none⟩) HRB.out _
        · refine HRS5.out.keep (Nat.le_trans HO.out.old.size hg67.size) (fun b off e h0 => ?_)
          obtain ⟨h1, h2⟩ := HRSG.out b off e h0
          have hb5 : b < W5.heap.size := by
            obtain ⟨b', off', x, e', hb', -⟩ := HRS5.out.at h0
            rw [e] at e'; cases e'; exact hb'
          exact (hg67.block b (Nat.lt_of_lt_of_le hb5 HO.out.old.size) (by intro e2; injection e2 with e2; omega)).trans (HO.out.old.block b hb5 (by intro e2; injection e2 with e2; omega))
        · refine hrd.keep hg67.size (fun b off e h0 => ?_)
          obtain ⟨b', off', x, e', hb', -⟩ := hrd.at h0
          rw [e] at e'; cases e'
          exact hg67.block b hb' (by intro e2; injection e2 with e2; have := hrb b off e h0; omega))
      clear hrd hrb hg67 hE1 hE2 y6 hx hown hge hi hlt
      go_wp2_with fail
      (try simp only [Exit.inBlock, Exit.then])
      refine bodyPost_ret (v := .tuple #[.agg #[.slice qs n ds, .slice pv i cv], .int .i64 0]) ?_ rfl HFIN.out
      rw [results_cell_tmp rfl]
      go_simp
end Go.Proofs.YtigidchicloleaaGreatDoor.Arr
