/- The document's Resize. -/
import Derived.Test.YtigidchicloleaaGreatDoorHH
set_option maxHeartbeats 8000000
set_option maxRecDepth 100000
namespace Go.Proofs.YtigidchicloleaaGreatDoor.Arr
open Go.RowKit Go.Shelf
open Go.Lib
attribute [local go_sem] Oper.semAt_some
theorem rresize_any (p q r : Option Addr) (c d f n m k : Nat) (s t : List Int) (l : List (List UInt8)) (v : List UInt8) (w : World) (hs : Hid (s.length = n)) (hl : Hid (l.length = m)) (hk : Hid (t.length = k)) (hm : m ≤ 5000) (hp : Rd w p s) (hq : RdS w q l) (hr : Rd w r t) :
    Calls Tryz.prog 29 #[.agg #[.slice p n c, .slice q m d], .slice r k f, .string ⟨List.toArray v⟩] w (ArrPost w (resV s t l v).1 (resV s t l v).2.1 (resV s t l v).2.2) := by
  have HP := Lib.hid hp
  have HQ := Lib.hid hq
  have HR := Lib.hid hr
  have hmi : (m : Int) ≤ 5000 := by omega
  obtain ⟨A, HA⟩ : ∃ A, Hid (A = w.heap.size) := ⟨_, Lib.hid rfl⟩
  obtain ⟨W0, HW0⟩ : ∃ W0, Hid ((w.alloc (.cells #[.slice p n c, .slice q m d] 25)).alloc (.cells #[.slice none 0 0, .slice none 0 0] 25) = W0) := ⟨_, Lib.hid rfl⟩
  have HB0 : Hid (Below w.heap.size w W0) := Lib.hid (by rw [← HW0.out]; exact ((Below.refl _ w).alloc (Nat.le_refl _) _).alloc (by simp) _)
  have HRB : Hid (w.heap.size ≤ A + 1) := Lib.hid (by rw [HA.out]; omega)
  have HS0 : Hid (W0.heap.size = A + 1 + 1) := Lib.hid (by rw [← HW0.out, HA.out]; simp)
  have HA0 : Hid (W0.heap[A]? = some (.cells #[.slice p n c, .slice q m d] 25 (0, 0))) := Lib.hid (by
    rw [← HW0.out, HA.out]; simp only [World.alloc, Array.getElem?_push, Array.size_push]
    repeat' (first | rw [if_pos (by omega)] | rw [if_neg (by omega)] | rfl))
  have HA1 : Hid (W0.heap[A + 1]? = some (.cells #[.slice none 0 0, .slice none 0 0] 25 (0, 0))) := Lib.hid (by
    rw [← HW0.out, HA.out]; simp only [World.alloc, Array.getElem?_push, Array.size_push]
    repeat' (first | rw [if_pos (by omega)] | rw [if_neg (by omega)] | rfl))
  have HBX : Hid (∀ W, Below W0.heap.size W0 W → Below w.heap.size w W ∧ W.heap[A]? = some (.cells #[.slice p n c, .slice q m d] 25 (0, 0)) ∧ W.heap[A + 1]? = some (.cells #[.slice none 0 0, .slice none 0 0] 25 (0, 0))) := Lib.hid (fun W hW =>
    ⟨HB0.out.trans (hW.mono HB0.out.size), (hW.block A (by rw [HS0.out]; omega)).trans HA0.out, (hW.block (A + 1) (by rw [HS0.out]; omega)).trans HA1.out⟩)
  have H21 : Hid (Calls Tryz.prog 22 #[.agg #[.slice p n c, .slice q m d]] W0 fun e w' => Below W0.heap.size W0 w' ∧ e = .returned (.bool (validA s l))) := Lib.hid (rvalidA_any p q c d n m s l W0 hs hl hm (HP.out.below HB0.out) (HQ.out.below HB0.out))
  have H19 : Hid (∀ W, Below W0.heap.size W0 W → Calls Tryz.prog 20 #[.slice r k f] W fun e w' => W = w' ∧ e = .returned (.bool (vs t))) := Lib.hid (fun W hW => by
    have := rvshape_any r f t W (HR.out.below (HBX.out W hW).1)
    rwa [hk.out] at this)
  clear hp hq hr
  by_cases hv : validA s l = false
  · have e0 : resV s t l v = (60, [], []) := by unfold resV; rw [if_pos hv]
    rw [e0]
    rw [hv] at H21
    clear hv e0
    go_enter Tryz.func29, Tryz.ntmps29
    go_wp2_with fail
    rw [HW0.out, ← HA.out]
    refine (H21.out).mono ?_
    rintro e w1 ⟨hb1, rfl⟩
    have HB1 := Lib.hid hb1
    obtain ⟨hbw, x0, y1⟩ := HBX.out w1 hb1
    have HBk := Lib.hid hbw
    clear hb1 hbw
    clear x0
    have r0 : w1.cell? ⟨A + 1, 0, none⟩ = some (.slice none 0 0) := by simp [World.cell?, y1]
    have r1 : w1.cell? ⟨A + 1, 1, none⟩ = some (.slice none 0 0) := by simp [World.cell?, y1]
    have z0 : w1.frozen? ⟨A + 1, 0, none⟩ = false := by simp [World.frozen?, y1]
    have z1 : w1.frozen? ⟨A + 1, 1, none⟩ = false := by simp [World.frozen?, y1]
    have hE1 := heap_set w1 (A + 1) 0 (.slice none 0 0) _ _ y1
    have hE2 := heap_set _ (A + 1) 1 (.slice none 0 0) _ _ hE1
    obtain ⟨W7, hW7⟩ : ∃ W7, (w1.setCell ⟨A + 1, 0, none⟩ (.slice none 0 0)).setCell ⟨A + 1, 1, none⟩ (.slice none 0 0) = W7 := ⟨_, rfl⟩
    rw [hW7] at hE2
    have k0 : W7.cell? ⟨A + 1, 0, none⟩ = some (.slice none 0 0) := by simp [World.cell?, hE2]
    have k1 : W7.cell? ⟨A + 1, 1, none⟩ = some (.slice none 0 0) := by simp [World.cell?, hE2]
    have HFIN : Hid (ArrPost w 60 [] [] (.returned (.tuple #[.agg #[.slice none 0 0, .slice none 0 0], .int .i64 60])) W7) := Lib.hid (arr_no (by
      rw [← hW7]
      exact (HBk.out.setCell (p := ⟨A + 1, 0, none⟩) HRB.out _).setCell (p := ⟨A + 1, 1, none⟩) HRB.out _))
    clear hE1 hE2 y1
    go_wp2_with fail
    (try simp only [Exit.inBlock, Exit.then])
    refine bodyPost_ret (v := .tuple #[.agg #[.slice none 0 0, .slice none 0 0], .int .i64 60]) ?_ rfl HFIN.out
    rw [results_cell_tmp rfl]
    go_simp
  have hv2 : validA s l = true := by simpa using hv
  rw [hv2] at H21
  by_cases ht : vs t = false
  · have e0 : resV s t l v = (60, [], []) := by unfold resV; rw [if_neg hv, if_pos ht]
    rw [e0]
    rw [ht] at H19
    clear hv ht e0
    go_enter Tryz.func29, Tryz.ntmps29
    go_wp2_with fail
    rw [HW0.out, ← HA.out]
    refine (H21.out).mono ?_
    rintro e w1 ⟨hb1, rfl⟩
    have HB1 := Lib.hid hb1
    obtain ⟨hbw, x0, y1⟩ := HBX.out w1 hb1
    have HBk := Lib.hid hbw
    clear hb1 hbw
    clear x0
    go_wp2_with fail
    refine (H19.out _ HB1.out).mono ?_
    rintro e w1' ⟨rfl, rfl⟩
    have r0 : w1.cell? ⟨A + 1, 0, none⟩ = some (.slice none 0 0) := by simp [World.cell?, y1]
    have r1 : w1.cell? ⟨A + 1, 1, none⟩ = some (.slice none 0 0) := by simp [World.cell?, y1]
    have z0 : w1.frozen? ⟨A + 1, 0, none⟩ = false := by simp [World.frozen?, y1]
    have z1 : w1.frozen? ⟨A + 1, 1, none⟩ = false := by simp [World.frozen?, y1]
    have hE1 := heap_set w1 (A + 1) 0 (.slice none 0 0) _ _ y1
    have hE2 := heap_set _ (A + 1) 1 (.slice none 0 0) _ _ hE1
    obtain ⟨W7, hW7⟩ : ∃ W7, (w1.setCell ⟨A + 1, 0, none⟩ (.slice none 0 0)).setCell ⟨A + 1, 1, none⟩ (.slice none 0 0) = W7 := ⟨_, rfl⟩
    rw [hW7] at hE2
    have k0 : W7.cell? ⟨A + 1, 0, none⟩ = some (.slice none 0 0) := by simp [World.cell?, hE2]
    have k1 : W7.cell? ⟨A + 1, 1, none⟩ = some (.slice none 0 0) := by simp [World.cell?, hE2]
    have HFIN : Hid (ArrPost w 60 [] [] (.returned (.tuple #[.agg #[.slice none 0 0, .slice none 0 0], .int .i64 60])) W7) := Lib.hid (arr_no (by
      rw [← hW7]
      exact (HBk.out.setCell (p := ⟨A + 1, 0, none⟩) HRB.out _).setCell (p := ⟨A + 1, 1, none⟩) HRB.out _))
    clear hE1 hE2 y1
    go_wp2_with fail
    (try simp only [Exit.inBlock, Exit.then])
    refine bodyPost_ret (v := .tuple #[.agg #[.slice none 0 0, .slice none 0 0], .int .i64 60]) ?_ rfl HFIN.out
    rw [results_cell_tmp rfl]
    go_simp
  have ht2 : vs t = true := by simpa using ht
  rw [ht2] at H19
  obtain ⟨u, HU⟩ : ∃ u, Hid (u = isV v) := ⟨_, rfl⟩
  have H48 : Hid (∀ W, Calls Tryz.prog 51 #[.string ⟨List.toArray v⟩] W fun e w' => Below W.heap.size W w' ∧ e = .returned (.bool u)) := Lib.hid (fun W => by rw [HU.out]; exact risvalue_any v W)
  by_cases hu : u = false
  · subst hu
    have e0 : resV s t l v = (2, [], []) := by unfold resV; rw [if_neg hv, if_neg ht, if_pos HU.out.symm]
    rw [e0]
    clear hv hv2 ht ht2 e0
    go_enter Tryz.func29, Tryz.ntmps29
    go_wp2_with fail
    rw [HW0.out, ← HA.out]
    refine (H21.out).mono ?_
    rintro e w1 ⟨hb1, rfl⟩
    have HB1 := Lib.hid hb1
    obtain ⟨hbw, x0, y1⟩ := HBX.out w1 hb1
    have HBk := Lib.hid hbw
    clear hb1 hbw
    clear x0
    go_wp2_with fail
    refine (H19.out _ HB1.out).mono ?_
    rintro e w1' ⟨rfl, rfl⟩
    clear y1
    go_wp2_with fail
    refine (H48.out _).mono ?_
    rintro e w2 ⟨hb2, rfl⟩
    have HB2 := Lib.hid (HB1.out.trans (hb2.mono HB1.out.size))
    clear hb2 HBk
    obtain ⟨hbw, x0, y1⟩ := HBX.out w2 HB2.out
    have HBk := Lib.hid hbw
    clear hbw
    clear x0
    have r0 : w2.cell? ⟨A + 1, 0, none⟩ = some (.slice none 0 0) := by simp [World.cell?, y1]
    have r1 : w2.cell? ⟨A + 1, 1, none⟩ = some (.slice none 0 0) := by simp [World.cell?, y1]
    have z0 : w2.frozen? ⟨A + 1, 0, none⟩ = false := by simp [World.frozen?, y1]
    have z1 : w2.frozen? ⟨A + 1, 1, none⟩ = false := by simp [World.frozen?, y1]
    have hE1 := heap_set w2 (A + 1) 0 (.slice none 0 0) _ _ y1
    have hE2 := heap_set _ (A + 1) 1 (.slice none 0 0) _ _ hE1
    obtain ⟨W7, hW7⟩ : ∃ W7, (w2.setCell ⟨A + 1, 0, none⟩ (.slice none 0 0)).setCell ⟨A + 1, 1, none⟩ (.slice none 0 0) = W7 := ⟨_, rfl⟩
    rw [hW7] at hE2
    have k0 : W7.cell? ⟨A + 1, 0, none⟩ = some (.slice none 0 0) := by simp [World.cell?, hE2]
    have k1 : W7.cell? ⟨A + 1, 1, none⟩ = some (.slice none 0 0) := by simp [World.cell?, hE2]
    have HFIN : Hid (ArrPost w 2 [] [] (.returned (.tuple #[.agg #[.slice none 0 0, .slice none 0 0], .int .i64 2])) W7) := Lib.hid (arr_no (by
      rw [← hW7]
      exact (HBk.out.setCell (p := ⟨A + 1, 0, none⟩) HRB.out _).setCell (p := ⟨A + 1, 1, none⟩) HRB.out _))
    clear hE1 hE2 y1
    go_wp2_with fail
    (try simp only [Exit.inBlock, Exit.then])
    refine bodyPost_ret (v := .tuple #[.agg #[.slice none 0 0, .slice none 0 0], .int .i64 2]) ?_ rfl HFIN.out
    rw [results_cell_tmp rfl]
    go_simp
  obtain rfl : u = true := by simpa using hu
  have hvs : vs s = true := by unfold validA at hv2; rw [Bool.and_eq_true] at hv2; exact hv2.1
  obtain ⟨s0, rfl, hsh⟩ := vs_yes hvs
  obtain ⟨t0, rfl, hth⟩ := vs_yes ht2
  have hsn : s0.length = n := by rw [← hs.out, List.length_map]
  have htk : t0.length = k := by rw [← hk.out, List.length_map]
  have hn4 : n ≤ 4 := by rw [← hsn]; exact hsh.1
  have hk4 : k ≤ 4 := by rw [← htk]; exact hth.1
  by_cases hkn : k = n
  case neg =>
    have ikn : ¬ (k : Int) = (n : Int) := by omega
    have e0 : resV (s0.map Int.ofNat) (t0.map Int.ofNat) l v = (60, [], []) := by unfold resV; rw [if_neg hv, if_neg ht, if_neg (by rw [← HU.out]; simp), if_pos (by rw [List.length_map, List.length_map, hsn, htk]; exact hkn)]
    rw [e0]
    clear hv hv2 ht ht2 e0
    go_enter Tryz.func29, Tryz.ntmps29
    go_wp2_with fail
    rw [HW0.out, ← HA.out]
    refine (H21.out).mono ?_
    rintro e w1 ⟨hb1, rfl⟩
    have HB1 := Lib.hid hb1
    obtain ⟨hbw, x0, y1⟩ := HBX.out w1 hb1
    have HBk := Lib.hid hbw
    clear hb1 hbw
    clear x0
    go_wp2_with fail
    refine (H19.out _ HB1.out).mono ?_
    rintro e w1' ⟨rfl, rfl⟩
    clear y1
    go_wp2_with fail
    refine (H48.out _).mono ?_
    rintro e w2 ⟨hb2, rfl⟩
    have HB2 := Lib.hid (HB1.out.trans (hb2.mono HB1.out.size))
    clear hb2 HBk
    obtain ⟨hbw, x0, y1⟩ := HBX.out w2 HB2.out
    have HBk := Lib.hid hbw
    clear hbw
    have c0 : w2.cell? ⟨A, 0, none⟩ = some (.slice p n c) := by simp [World.cell?, x0]
    clear x0
    have r0 : w2.cell? ⟨A + 1, 0, none⟩ = some (.slice none 0 0) := by simp [World.cell?, y1]
    have r1 : w2.cell? ⟨A + 1, 1, none⟩ = some (.slice none 0 0) := by simp [World.cell?, y1]
    have z0 : w2.frozen? ⟨A + 1, 0, none⟩ = false := by simp [World.frozen?, y1]
    have z1 : w2.frozen? ⟨A + 1, 1, none⟩ = false := by simp [World.frozen?, y1]
    have hE1 := heap_set w2 (A + 1) 0 (.slice none 0 0) _ _ y1
    have hE2 := heap_set _ (A + 1) 1 (.slice none 0 0) _ _ hE1
    obtain ⟨W7, hW7⟩ : ∃ W7, (w2.setCell ⟨A + 1, 0, none⟩ (.slice none 0 0)).setCell ⟨A + 1, 1, none⟩ (.slice none 0 0) = W7 := ⟨_, rfl⟩
    rw [hW7] at hE2
    have k0 : W7.cell? ⟨A + 1, 0, none⟩ = some (.slice none 0 0) := by simp [World.cell?, hE2]
    have k1 : W7.cell? ⟨A + 1, 1, none⟩ = some (.slice none 0 0) := by simp [World.cell?, hE2]
    have HFIN : Hid (ArrPost w 60 [] [] (.returned (.tuple #[.agg #[.slice none 0 0, .slice none 0 0], .int .i64 60])) W7) := Lib.hid (arr_no (by
      rw [← hW7]
      exact (HBk.out.setCell (p := ⟨A + 1, 0, none⟩) HRB.out _).setCell (p := ⟨A + 1, 1, none⟩) HRB.out _))
    clear hE1 hE2 y1
    go_wp2_with fail
    (try simp only [Exit.inBlock, Exit.then])
    refine bodyPost_ret (v := .tuple #[.agg #[.slice none 0 0, .slice none 0 0], .int .i64 60]) ?_ rfl HFIN.out
    rw [results_cell_tmp rfl]
    go_simp
  subst hkn
  obtain ⟨N, HN⟩ : ∃ N, Hid (N = prod t0) := ⟨_, rfl⟩
  obtain ⟨F, HF⟩ : ∃ F, Hid (F = resT s0 t0 l v) := ⟨_, Lib.hid rfl⟩
  have e0 : resV (s0.map Int.ofNat) (t0.map Int.ofNat) l v = (0, t0, (List.range N).map F) := by unfold resV; rw [if_neg hv, if_neg ht, if_neg (by rw [← HU.out]; simp), if_neg (by rw [List.length_map, List.length_map, hsn, htk]; simp), toNat_map, toNat_map, HN.out, HF.out]
  rw [e0]
  have hml : m = prod s0 := by
    unfold validA at hv2
    rw [Bool.and_eq_true, Bool.and_eq_true, decide_eq_true_eq, toNat_map, hl.out] at hv2
    exact hv2.2.1
  have HSN := Lib.hid hsn
  have HTN := Lib.hid htk
  have HSH := Lib.hid hsh
  have HTH := Lib.hid hth
  have HTB : Hid (∀ x ∈ t0, x ≤ 1024) := Lib.hid hth.2.1
  have HML := Lib.hid hml
  have hN4 : N ≤ 4096 := by rw [HN.out]; exact hth.2.2
  have iN : (N : Int) ≤ 4096 := by omega
  have HCNT : Hid (∀ W, Below w.heap.size w W → Calls Tryz.prog 47 #[.slice r k f] W fun e w' => W = w' ∧ e = .returned (.int .i64 (N : Int))) := Lib.hid (fun W hW => by
    have := count_any r f t0 W (by rw [HTN.out]; exact hk4) HTB.out (HR.out.below hW)
    rwa [HTN.out, ← HN.out] at this)
  clear hv hv2 ht ht2 e0 hsh hth hsn htk hml hN4
  go_enter Tryz.func29, Tryz.ntmps29
  go_wp2_with fail
  rw [HW0.out, ← HA.out]
  refine (H21.out).mono ?_
  rintro e w1 ⟨hb1, rfl⟩
  have HB1 := Lib.hid hb1
  obtain ⟨hbw, x0, y1⟩ := HBX.out w1 hb1
  have HBk := Lib.hid hbw
  clear hb1 hbw
  clear x0
  go_wp2_with fail
  refine (H19.out _ HB1.out).mono ?_
  rintro e w1' ⟨rfl, rfl⟩
  clear y1
  go_wp2_with fail
  refine (H48.out _).mono ?_
  rintro e w2 ⟨hb2, rfl⟩
  have HB2 := Lib.hid (HB1.out.trans (hb2.mono HB1.out.size))
  clear hb2 HBk
  obtain ⟨hbw, x0, y1⟩ := HBX.out w2 HB2.out
  have HBk := Lib.hid hbw
  clear hbw
  have c0 : w2.cell? ⟨A, 0, none⟩ = some (.slice p k c) := by simp [World.cell?, x0]
  have HX2 := Lib.hid x0
  have HY2 := Lib.hid y1
  have HS2 : Hid (A + 1 + 1 ≤ w2.heap.size) := Lib.hid (by rw [← HS0.out]; exact HB2.out.size)
  clear x0 y1
  have H49 : Hid (Calls Tryz.prog 52 #[.slice r k f] w2 (ClonePost k t0 w2)) := Lib.hid (copied_any r k f t0 w2 HTN hk4 HTB (HR.out.below HBk.out))
  go_wp2_with fail
  refine (H49.out).mono ?_
  rintro e w3 ⟨hb3, qc, dc, rfl, hq1, hq2, hq3, hq4⟩
  clear c0
  obtain ⟨G, HG⟩ : ∃ G, Hid (G = w3.heap.size) := ⟨_, Lib.hid rfl⟩
  obtain ⟨W5, HW5⟩ : ∃ W5, Hid (w3.alloc (.cells #[.slice qc k dc, .slice none 0 0] 25) = W5) := ⟨_, Lib.hid rfl⟩
  have hb25 : Below w3.heap.size w3 W5 := by rw [← HW5.out]; exact (Below.refl _ _).alloc (Nat.le_refl _) _
  have HX5 : Hid (W5.heap[G]? = some (.cells #[.slice qc k dc, .slice none 0 0] 25 (0, 0))) := Lib.hid (by rw [← HW5.out, HG.out]; exact World.alloc_heap_new _ _)
  have HAG : Hid (A + 1 < G ∧ w.heap.size ≤ G) := Lib.hid (by
    have h1 := HS2.out
    have h2 := hb3.size
    rw [HG.out]; have := HA.out; omega)
  have HB35 : Hid (Below w2.heap.size w2 W5) := Lib.hid (hb3.trans (hb25.mono hb3.size))
  have HX50 : Hid (W5.heap[A]? = some (.cells #[.slice p k c, .slice q m d] 25 (0, 0))) := Lib.hid ((HB35.out.block A (by have := HS2.out; omega)).trans HX2.out)
  have HY5 : Hid (W5.heap[A + 1]? = some (.cells #[.slice none 0 0, .slice none 0 0] 25 (0, 0))) := Lib.hid ((HB35.out.block (A + 1) (by have := HS2.out; omega)).trans HY2.out)
  have HB5 : Hid (Below w.heap.size w W5) := Lib.hid (HBk.out.trans (HB35.out.mono HBk.out.size))
  have HQ5 : Hid (RdN W5 qc t0) := Lib.hid (hq1.below hb25)
  have HQB : Hid (∀ b off, qc = some ⟨b, off, none⟩ → 0 < k → A + 1 < b ∧ b < G) := Lib.hid (fun b off e h0 => by
    have h1 := HS2.out
    have h2 := hq4 b off e
    obtain ⟨b', off', x, e', hb', -⟩ := hq1.at (k := 0) (by rw [HTN.out]; exact h0)
    rw [e] at e'; cases e'
    rw [HG.out]; omega)
  have HXA : Hid (∀ W, W5.grownBy W (some G) → (W.cell? ⟨A, 0, none⟩ = some (.slice p k c) ∧ W.cell? ⟨A, 1, none⟩ = some (.slice q m d)) ∧ Below w.heap.size w W) := Lib.hid (fun W hW => by
    have hag := HAG.out
    have h0 := (hW.block A (Array.getElem?_eq_some_iff.1 HX50.out).1 (by intro e; injection e with e; omega)).trans HX50.out
    exact ⟨⟨by simp [World.cell?, h0], by simp [World.cell?, h0]⟩, ⟨hW.os.trans HB5.out.os, hW.tape.trans HB5.out.tape, hW.output.trans HB5.out.output, Nat.le_trans HB5.out.size hW.size, fun j hj => (hW.block j (Nat.lt_of_lt_of_le hj HB5.out.size) (by intro e; injection e with e; omega)).trans (HB5.out.block j hj)⟩⟩)
  clear hb3 hq1 hq2 hq3 hq4 hb25
  go_wp2_with fail
  rw [HW5.out, ← HG.out]
  go_loopw [9] (fun iv wr => ∃ i : Nat, i ≤ N ∧ iv = .int .i64 i ∧ Hid (OutI W5 G (.slice qc k dc) ((List.range i).map F) wr)) (fun iv _ => N - (Go.RowKit.intOf iv).toNat)
  case atStart => exact ⟨0, Nat.zero_le _, rfl, Lib.hid (OutI.start HX5.out)⟩
  case round =>
    obtain ⟨i, hi, rfl, HO⟩ := hrel
    have ii : (i : Int) ≤ (N : Int) := by omega
    have HBR := Lib.hid (HXA.out wr HO.out.old).2
    have HCN := Lib.hid (HCNT.out wr HBR.out)
    by_cases hlt : i < N
    · have ilt : (i : Int) < (N : Int) := by omega
      have HIP : Hid (i < prod t0) := Lib.hid (by rw [← HN.out]; exact hlt)
      have HRI := Lib.hid (rindex_any r f k i t0 wr hk4 HTN HTB HIP HTH.out.2.2 (HR.out.below HBR.out))
      go_wp2_with fail
      refine (HCN.out).mono ?_
      rintro e w3' ⟨rfl, rfl⟩
      go_wp2_with fail
      refine (HRI.out).mono ?_
      rintro e w4 ⟨rfl, hrow, hb4⟩
      obtain ⟨g, HGG⟩ : ∃ g, Hid (g = wr.heap.size) := ⟨_, Lib.hid rfl⟩
      rw [← HGG.out] at hrow ⊢
      obtain ⟨ix, HIX⟩ : ∃ ix, Hid (ixOf t0 i = ix) := ⟨_, Lib.hid rfl⟩
      have HIXL : Hid (ix.length = k) := Lib.hid (by rw [← HIX.out, ixOf_len, HTN.out])
      have HB4 := Lib.hid hb4
      have HRD : Hid (RdN w4 (some ⟨g, 0, none⟩) ix) := Lib.hid (by
        rw [← HIX.out]; exact rdn_row hrow (fun x hx => by have := ixOf_small HIP.out HTB.out x hx; omega))
      have HOL4 : Hid (W5.grownBy w4 (some G)) := Lib.hid (HO.out.old.trans (gb_of_below hb4 _))
      obtain ⟨u, HU2⟩ : ∃ u, Hid (u = ixOk s0 (ix.map Int.ofNat)) := ⟨_, rfl⟩
      obtain ⟨⟨c0, c1⟩, hbw4⟩ := HXA.out w4 HOL4.out
      have H52 : Hid (Calls Tryz.prog 55 #[.slice p k c, .slice (some ⟨g, 0, none⟩) k k] w4 fun e w' => (∃ j, w4.drewN j = w') ∧ e = .returned (.bool u)) := Lib.hid (by
        rw [HU2.out]
        exact risix_any p (some ⟨g, 0, none⟩) c k k k s0 (ix.map Int.ofNat) w4 HSN (Lib.hid (by rw [List.length_map, HIXL.out])) hk4 (HP.out.below hbw4) HRD.out)
      clear hrow hb4 hbw4
      go_wp2_with fail
      refine (H52.out).mono ?_
      rintro e w5 ⟨⟨j5, hj5⟩, rfl⟩
      have HD5 : Hid (Below w4.heap.size w4 w5) := Lib.hid (by rw [← hj5]; exact ⟨rfl, rfl, rfl, Nat.le_refl _, fun _ _ => rfl⟩)
      have HB5r : Hid (Below wr.heap.size wr w5) := Lib.hid (HB4.out.trans (HD5.out.mono HB4.out.size))
      have HOL5 : Hid (W5.grownBy w5 (some G)) := Lib.hid (HO.out.old.trans (gb_of_below HB5r.out _))
      clear hj5 c0 c1
      by_cases hu2 : u = true
      · subst hu2
        obtain ⟨m0, em, hix⟩ := ixOk_nat HU2.out.symm
        obtain rfl : ix = m0 := by
          have := congrArg (List.map Int.toNat) em
          rwa [toNat_map, toNat_map] at this
        obtain ⟨y, HY⟩ : ∃ y, Hid (y = plc s0 ix 0) := ⟨_, rfl⟩
        have hym : y < m := by
          have := (plc_lt s0 ix 0 hix).1
          rw [HY.out, HML.out]; simpa using this
        have hyi : (y : Int) < (m : Int) := by omega
        have HYM := Lib.hid hym
        have HIS := Lib.hid hix
        obtain ⟨bq, oq, xs, eq1, hbq, -, HXS⟩ := HQ.out.at (k := y) (by rw [hl.out]; exact hym)
        have HYE : Hid (F i = xs) := Lib.hid (by rw [HF.out]; unfold resT; rw [HIX.out, if_pos HU2.out.symm, ← HY.out, HXS.out])
        have HXC : Hid (∀ W, Below w5.heap.size w5 W → (W.cell? ⟨A, 0, none⟩ = some (.slice p k c) ∧ W.cell? ⟨A, 1, none⟩ = some (.slice q m d) ∧ W.cell? ⟨bq, oq + y, none⟩ = some (.string ⟨List.toArray xs⟩)) ∧ Below w5.heap.size w5 W) := Lib.hid (fun W hW => by
          obtain ⟨⟨h0, h1⟩, h2⟩ := HXA.out W (HOL5.out.trans (gb_of_below hW _))
          obtain ⟨b', o', x', e', -, hc, hx'⟩ := (HQ.out.below h2).at (k := y) (by rw [hl.out]; exact HYM.out)
          rw [eq1] at e'; cases e'
          rw [hx'.out, ← HXS.out] at hc
          exact ⟨⟨h0, h1, hc⟩, hW⟩)
        have HPL : Hid (∀ W, Below w5.heap.size w5 W → Calls Tryz.prog 56 #[.slice p k c, .slice (some ⟨g, 0, none⟩) k k] W fun e w' => Below w5.heap.size w5 w' ∧ e = .returned (.int .i64 (y : Int))) := Lib.hid (fun W hW => by
          have h2 := (HXA.out W (HOL5.out.trans (gb_of_below hW _))).2
          refine (rplace_any p (some ⟨g, 0, none⟩) c k k s0 ix W hk4 HSN (Lib.hid (by rw [HIS.out.1, HSN.out])) HIS.out HSH.out.2.2 (HP.out.below h2) (HRD.out.below (HD5.out.trans (hW.mono HD5.out.size)))).mono (fun e w' h => ⟨?_, by rw [h.2, ← HY.out]⟩)
          obtain ⟨j, rfl⟩ := h.1
          exact hW.trans ⟨rfl, rfl, rfl, Nat.le_refl _, fun _ _ => rfl⟩)
        have HDD : Hid (Below w5.heap.size w5 w5.drew) := Lib.hid ⟨rfl, rfl, rfl, Nat.le_refl _, fun _ _ => rfl⟩
        subst eq1
        clear hym hix em hbq
        go_wp2_with fail
        refine wp_region_noPanic ?_
        refine wp_region_held_drew (S := fun W => (W.cell? ⟨A, 0, none⟩ = some (.slice p k c) ∧ W.cell? ⟨A, 1, none⟩ = some (.slice (some ⟨bq, oq, none⟩) m d) ∧ W.cell? ⟨bq, oq + y, none⟩ = some (.string ⟨List.toArray xs⟩)) ∧ Below w5.heap.size w5 W) (by kernel_rfl) (HXC.out _ HDD.out) (fun hHeld => ?_)
        refine wpAnyH_take (i := 0) (v := ?v1) rfl (by kernel_rfl) (by kernel_rfl) (by kernel_rfl) (fun _ _ _ h => h) (Or.inl ⟨by rfl, ?hy1⟩) (by assumption) ?rest1
        case hy1 =>
          intro W' hSw
          obtain ⟨⟨e0, e1, e2⟩, -⟩ := hSw
          go_simp
          with_reducible rfl
        simp only [List.getElem_toArray, List.getElem_cons_zero, Act.put, List.setIfInBounds_toArray, List.set_cons_zero, List.set_cons_succ]
        refine wpAnyH_take (i := 1) (v := ?v2) rfl (by kernel_rfl) (by kernel_rfl) (by kernel_rfl) (fun _ _ _ h => h) (Or.inl ⟨by rfl, ?hy2⟩) (by assumption) ?rest2
        case hy2 =>
          intro W' hSw
          obtain ⟨⟨e0, e1, e2⟩, -⟩ := hSw
          go_simp
          with_reducible rfl
        simp only [List.getElem_toArray, List.getElem_cons_zero, List.getElem_cons_succ, Act.put, List.setIfInBounds_toArray, List.set_cons_zero, List.set_cons_succ]
        refine wpAnyH_take (i := 2) (v := ?v3) rfl (by kernel_rfl) (by kernel_rfl) (by kernel_rfl) (fun _ _ _ h => h) (Or.inl ⟨by rfl, ?hy3⟩) (by assumption) ?rest3
        case hy3 =>
          intro W' hSw
          obtain ⟨⟨e0, e1, e2⟩, -⟩ := hSw
          go_simp
          with_reducible rfl
        simp only [List.getElem_toArray, List.getElem_cons_zero, List.getElem_cons_succ, Act.put, List.setIfInBounds_toArray, List.set_cons_zero, List.set_cons_succ]
        refine wpAnyH_take (i := 3) (v := ?v4) rfl (by kernel_rfl) (by kernel_rfl) (by kernel_rfl) (fun _ _ _ h => h) (Or.inl ⟨by rfl, ?hy4⟩) (by assumption) ?rest4
        case hy4 =>
          intro W' hSw
          obtain ⟨⟨e0, e1, e2⟩, -⟩ := hSw
          go_simp
          with_reducible rfl
        simp only [List.getElem_toArray, List.getElem_cons_zero, List.getElem_cons_succ, Act.put, List.setIfInBounds_toArray, List.set_cons_zero, List.set_cons_succ]
        refine wpAnyH_take (i := 4) (v := ?v5) rfl (by kernel_rfl) (by kernel_rfl) (by kernel_rfl) (fun _ _ _ h => h) (Or.inl ⟨by rfl, ?hy5⟩) (by assumption) ?rest5
        case hy5 =>
          intro W' hSw
          obtain ⟨⟨e0, e1, e2⟩, -⟩ := hSw
          go_simp
          with_reducible rfl
        simp only [List.getElem_toArray, List.getElem_cons_zero, List.getElem_cons_succ, Act.put, List.setIfInBounds_toArray, List.set_cons_zero, List.set_cons_succ]
        refine wpAnyH_ready (rs := [5]) (by kernel_rfl) (by simp) ?_
        refine AllReadyH.cons (i := 5) rfl (fun K hK => ?_) AllReadyH.nil
        go_simp
        refine (HPL.out _ HDD.out).mono ?_
        rintro e w7 ⟨hb7, rfl⟩
        have HB7 := Lib.hid hb7
        clear hb7
        refine hK.out _ _ (HXC.out _ HB7.out) (fun hHeld => ?_)
        clear hK K
        refine wpAnyH_take (i := 6) (v := ?v6) rfl (by kernel_rfl) (by kernel_rfl) (by kernel_rfl) (fun _ _ _ h => h) (Or.inl ⟨by rfl, ?hy6⟩) (by assumption) ?rest6
        case hy6 =>
          intro W' hSw
          obtain ⟨⟨e0, e1, e2⟩, -⟩ := hSw
          go_simp
          with_reducible rfl
        simp only [List.getElem_toArray, List.getElem_cons_zero, List.getElem_cons_succ, Act.put, List.setIfInBounds_toArray, List.set_cons_zero, List.set_cons_succ]
        refine wpAnyH_take (i := 7) (v := ?v7) rfl (by kernel_rfl) (by kernel_rfl) (by kernel_rfl) (fun _ _ _ h => h) (Or.inl ⟨by rfl, ?hy7⟩) (by assumption) ?rest7
        case hy7 =>
          intro W' hSw
          obtain ⟨⟨e0, e1, e2⟩, -⟩ := hSw
          go_simp
          with_reducible rfl
        simp only [List.getElem_toArray, List.getElem_cons_zero, List.getElem_cons_succ, Act.put, List.setIfInBounds_toArray, List.set_cons_zero, List.set_cons_succ]
        refine wpAnyH_take (i := 8) (v := ?v8) rfl (by kernel_rfl) (by kernel_rfl) (by kernel_rfl) (fun _ _ _ h => h) (Or.inl ⟨by rfl, ?hy8⟩) (by assumption) ?rest8
        case hy8 =>
          intro W' hSw
          obtain ⟨⟨e0, e1, e2⟩, -⟩ := hSw
          go_simp
          with_reducible rfl
        simp only [List.getElem_toArray, List.getElem_cons_zero, List.getElem_cons_succ, Act.put, List.setIfInBounds_toArray, List.set_cons_zero, List.set_cons_succ]
        refine wpAnyH_done (by kernel_rfl) ?_ _
        refine NoPanic.normal ?_
        clear hHeld
        have HBZ : Hid (Below wr.heap.size wr w7) := Lib.hid (HB5r.out.trans (HB7.out.mono HB5r.out.size))
        have HOZ := Lib.hid (HO.out.next HBZ.out)
        obtain ⟨pv, cv, hx, hown, hge⟩ := HOZ.out.row
        rw [List.length_map, List.length_range] at hx hown hge
        have HXR := Lib.hid hx
        have HGE := Lib.hid hge
        have g1 : w7.cell? ⟨G, 1, none⟩ = some (.slice pv i cv) := by simp [World.cell?, hx]
        obtain ⟨U, HUA⟩ : ∃ U, Hid (w7.alloc (.cells #[.string ⟨List.toArray (xs)⟩] 9) = U) := ⟨_, Lib.hid rfl⟩
        have hbU : Below w7.heap.size w7 U := by rw [← HUA.out]; exact (Below.refl _ _).alloc (Nat.le_refl _) _
        have HBU := Lib.hid hbU
        have HOU : Hid (U.ownsRow W5.heap.size 9 1 (.slice pv i cv) i (strs ((List.range i).map F))) := Lib.hid (by
          have := hown.kept (gb_of_below hbU none) (by cases pv <;> simp [Value.ownBlock])
          obtain ⟨h1, ⟨e, e2⟩ | ⟨g, cap, cur, e, h3, h4⟩⟩ := this
          · exact ⟨h1, .inl ⟨e, e2⟩⟩
          · exact ⟨h1, .inr ⟨g, cap, cur, e, HGE.out g (by rw [e]; rfl), h4⟩⟩)
        have HUC : Hid (U.cell? ⟨w7.heap.size, 0, none⟩ = some (.string ⟨List.toArray (xs)⟩)) := Lib.hid (by
          rw [← HUA.out]; have := World.alloc_heap_new w7 (.cells #[.string ⟨List.toArray (xs)⟩] 9); unfold World.cell?; simp only [this]; rfl)
        have HU5 : Hid (W5.heap.size ≤ U.heap.size) := Lib.hid (Nat.le_trans HOZ.out.old.size hbU.size)
        have hi2 : i ≤ 100000 := by omega
        clear hx hown hge hbU
        go_wp2_with (first | (rw [HUA.out]; at_builtin; refine wpList_append_1s rfl (.tmp 58) (.tmp 60) rfl W5.heap.size pv cv i ((List.range i).map F) rfl HOU.out w7.heap.size (xs) rfl HUC.out hi2 HU5.out ?_))
        intro gv cv' w9 hown9 hg9
        obtain ⟨hst, hG9⟩ := HOZ.out.step (by simp) HXR.out HGE.out HBU.out hown9 hg9
        have hstep : (List.range i).map F ++ [xs] = (List.range (i + 1)).map F := by rw [List.range_succ, List.map_append, List.map_singleton, HYE.out]
        rw [hstep] at hst
        have HST := Lib.hid hst
        have k1 : w9.cell? ⟨G, 1, none⟩ = some (.slice pv i cv) := by simp [World.cell?, hG9]
        have z1 : w9.frozen? ⟨G, 1, none⟩ = false := by simp [World.frozen?, hG9]
        clear hst hG9 hown9 hg9 hstep
        go_wp2_with fail
        go_roundw
        case rel => exact ⟨i + 1, by omega, by go_num, HST⟩
        case measure => simp [Go.RowKit.intOf]; omega
      · obtain rfl : u = false := by simpa using hu2
        have HYE : Hid (F i = v) := Lib.hid (by rw [HF.out]; unfold resT; rw [HIX.out, if_neg (by rw [← HU2.out]; simp)])
        have HBZ := HB5r
        have HOZ := Lib.hid (HO.out.next HBZ.out)
        obtain ⟨pv, cv, hx, hown, hge⟩ := HOZ.out.row
        rw [List.length_map, List.length_range] at hx hown hge
        have HXR := Lib.hid hx
        have HGE := Lib.hid hge
        have g1 : w5.cell? ⟨G, 1, none⟩ = some (.slice pv i cv) := by simp [World.cell?, hx]
        obtain ⟨U, HUA⟩ : ∃ U, Hid (w5.alloc (.cells #[.string ⟨List.toArray (v)⟩] 9) = U) := ⟨_, Lib.hid rfl⟩
        have hbU : Below w5.heap.size w5 U := by rw [← HUA.out]; exact (Below.refl _ _).alloc (Nat.le_refl _) _
        have HBU := Lib.hid hbU
        have HOU : Hid (U.ownsRow W5.heap.size 9 1 (.slice pv i cv) i (strs ((List.range i).map F))) := Lib.hid (by
          have := hown.kept (gb_of_below hbU none) (by cases pv <;> simp [Value.ownBlock])
          obtain ⟨h1, ⟨e, e2⟩ | ⟨g, cap, cur, e, h3, h4⟩⟩ := this
          · exact ⟨h1, .inl ⟨e, e2⟩⟩
          · exact ⟨h1, .inr ⟨g, cap, cur, e, HGE.out g (by rw [e]; rfl), h4⟩⟩)
        have HUC : Hid (U.cell? ⟨w5.heap.size, 0, none⟩ = some (.string ⟨List.toArray (v)⟩)) := Lib.hid (by
          rw [← HUA.out]; have := World.alloc_heap_new w5 (.cells #[.string ⟨List.toArray (v)⟩] 9); unfold World.cell?; simp only [this]; rfl)
        have HU5 : Hid (W5.heap.size ≤ U.heap.size) := Lib.hid (Nat.le_trans HOZ.out.old.size hbU.size)
        have hi2 : i ≤ 100000 := by omega
        clear hx hown hge hbU
        go_wp2_with (first | (rw [HUA.out]; at_builtin; refine wpList_append_1s rfl (.tmp 58) (.tmp 60) rfl W5.heap.size pv cv i ((List.range i).map F) rfl HOU.out w5.heap.size (v) rfl HUC.out hi2 HU5.out ?_))
        intro gv cv' w9 hown9 hg9
        obtain ⟨hst, hG9⟩ := HOZ.out.step (by simp) HXR.out HGE.out HBU.out hown9 hg9
        have hstep : (List.range i).map F ++ [v] = (List.range (i + 1)).map F := by rw [List.range_succ, List.map_append, List.map_singleton, HYE.out]
        rw [hstep] at hst
        have HST := Lib.hid hst
        have k1 : w9.cell? ⟨G, 1, none⟩ = some (.slice pv i cv) := by simp [World.cell?, hG9]
        have z1 : w9.frozen? ⟨G, 1, none⟩ = false := by simp [World.frozen?, hG9]
        clear hst hG9 hown9 hg9 hstep
        go_wp2_with fail
        go_roundw
        case rel => exact ⟨i + 1, by omega, by go_num, HST⟩
        case measure => simp [Go.RowKit.intOf]; omega
    · obtain rfl : i = N := by omega
      have ilt : ¬ (i : Int) < (i : Int) := by omega
      obtain ⟨pv, cv, hx, hown, hge⟩ := HO.out.row
      rw [List.length_map, List.length_range] at hx hown hge
      have g0 : wr.cell? ⟨G, 0, none⟩ = some (.slice qc k dc) := by simp [World.cell?, hx]
      have g1 : wr.cell? ⟨G, 1, none⟩ = some (.slice pv i cv) := by simp [World.cell?, hx]
      obtain ⟨hrd, hrb⟩ := HO.out.reads (by simp) hx
      have y6 : wr.heap[A + 1]? = some (.cells #[.slice none 0 0, .slice none 0 0] 25 (0, 0)) := (HO.out.old.block (A + 1) (Array.getElem?_eq_some_iff.1 HY5.out).1 (by intro e; injection e with e; have := HAG.out.1; omega)).trans HY5.out
      have hq6 : RdN wr qc t0 := HQ5.out.keep HO.out.old.size (fun b off e h0 => HO.out.old.block b (by
        obtain ⟨b', off', x, e', hb', -⟩ := HQ5.out.at (k := 0) h0
        rw [e] at e'; cases e'; exact hb') (by intro e2; injection e2 with e2; have := (HQB.out b off e (by rw [← HTN.out]; exact h0)).2; omega))
      clear hown hge
      have r0 : wr.cell? ⟨A + 1, 0, none⟩ = some (.slice none 0 0) := by simp [World.cell?, y6]
      have r1 : wr.cell? ⟨A + 1, 1, none⟩ = some (.slice none 0 0) := by simp [World.cell?, y6]
      have z0 : wr.frozen? ⟨A + 1, 0, none⟩ = false := by simp [World.frozen?, y6]
      have z1 : wr.frozen? ⟨A + 1, 1, none⟩ = false := by simp [World.frozen?, y6]
      have hE1 := heap_set wr (A + 1) 0 (.slice qc k dc) _ _ y6
      have hE2 := heap_set _ (A + 1) 1 (.slice pv i cv) _ _ hE1
      obtain ⟨W7, hW7⟩ : ∃ W7, (wr.setCell ⟨A + 1, 0, none⟩ (.slice qc k dc)).setCell ⟨A + 1, 1, none⟩ (.slice pv i cv) = W7 := ⟨_, rfl⟩
      rw [hW7] at hE2
      have k0 : W7.cell? ⟨A + 1, 0, none⟩ = some (.slice qc k dc) := by simp [World.cell?, hE2]
      have k1 : W7.cell? ⟨A + 1, 1, none⟩ = some (.slice pv i cv) := by simp [World.cell?, hE2]
      have hg67 : wr.grownBy W7 (some (A + 1)) := by rw [← hW7]; exact (gb_set _ _ _ _).trans (gb_set _ _ _ _)
      have HFIN : Hid (ArrPost w 0 t0 ((List.range i).map F) (.returned (.tuple #[.agg #[.slice qc k dc, .slice pv i cv], .int .i64 0])) W7) := Lib.hid (by
          refine ⟨?_, qc, pv, k, dc, i, cv, rfl, HTN.out, by simp, ?_, ?_⟩
          · have o2 : w.grownBy W7 none := gb_trans_new (gb_of_below HBR.out none) hg67 HRB.out
            exact ⟨o2.os, o2.tape, o2.output, o2.size, fun k hk => o2.block k hk (by intro e; cases e)⟩
          · refine hq6.keep hg67.size (fun b off e h0 => ?_)
            obtain ⟨b', off', x, e', hb', -⟩ := hq6.at h0
            rw [e] at e'; cases e'
            exact hg67.block b hb' (by intro e2; injection e2 with e2; have := (HQB.out b off e (by rw [← HTN.out]; exact h0)).1; omega)
          · refine hrd.keep hg67.size (fun b off e h0 => ?_)
            obtain ⟨b', off', x, e', hb', -⟩ := hrd.at h0
            rw [e] at e'; cases e'
            exact hg67.block b hb' (by intro e2; injection e2 with e2; have := hrb b off e h0; have := HAG.out.1; omega))
      clear hrd hrb hq6 hg67 hE1 hE2 y6 hx
      go_wp2_with fail
      refine (HCN.out).mono ?_
      rintro e w3' ⟨rfl, rfl⟩
      go_wp2_with fail
      (try simp only [Exit.inBlock, Exit.then])
      refine bodyPost_ret (v := .tuple #[.agg #[.slice qc k dc, .slice pv i cv], .int .i64 0]) ?_ rfl HFIN.out
      rw [results_cell_tmp rfl]
      go_simp
end Go.Proofs.YtigidchicloleaaGreatDoor.Arr
