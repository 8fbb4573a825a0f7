/- The program's Spread. -/
import Derived.Test.YtigidchicloleaaGreatDoorID
set_option maxHeartbeats 4000000
set_option maxRecDepth 100000
namespace Go.Proofs.YtigidchicloleaaGreatDoor.Arr
open Go.RowKit Go.Shelf
open Go.Lib
attribute [local go_sem] Oper.semAt_some
theorem ext_getD {a b : List Nat} (h : a.length = b.length) (hk : ∀ k, k < a.length → a.getD k 0 = b.getD k 0) : a = b := by
  refine List.ext_getElem h (fun k h1 h2 => ?_)
  have := hk k h1
  rw [List.getD_eq_getElem?_getD, List.getElem?_eq_getElem h1, List.getD_eq_getElem?_getD, List.getElem?_eq_getElem h2] at this
  exact this
theorem axOk_nat {l : List Int} {cnt rank : Nat} (h : axOk l cnt rank = true) : ∃ m : List Nat, l = m.map Int.ofNat ∧ m.length = cnt ∧ (∀ x ∈ m, x < rank) ∧ m.Nodup := by
  unfold axOk at h
  rw [Bool.and_eq_true, decide_eq_true_eq, List.all_eq_true] at h
  obtain ⟨hlen, hall⟩ := h
  have hk : ∀ k, k < l.length → 0 ≤ l.getD k 0 ∧ l.getD k 0 < (rank : Int) ∧ hasZ (l.take k) (l.getD k 0) = false := fun k hk => by
    have := hall k (List.mem_range.2 hk)
    rw [Bool.and_eq_true, Bool.and_eq_true, decide_eq_true_eq, decide_eq_true_eq, Bool.not_eq_true'] at this
    exact ⟨this.1.1, this.1.2, this.2⟩
  have hg : ∀ k (hk : k < l.length), l.getD k 0 = l[k] := fun k hk => by rw [List.getD_eq_getElem?_getD, List.getElem?_eq_getElem hk]; rfl
  have e : l = (l.map Int.toNat).map Int.ofNat := by
    rw [List.map_map]
    refine ((List.map_congr_left fun z hz => ?_).trans (List.map_id l)).symm
    obtain ⟨k, hk1, e⟩ := List.getElem_of_mem hz
    have := (hk k hk1).1
    rw [hg k hk1, e] at this
    exact Int.toNat_of_nonneg this
  refine ⟨l.map Int.toNat, e, by rw [List.length_map, hlen], fun x hx => ?_, ?_⟩
  · obtain ⟨z, hz, rfl⟩ := List.mem_map.1 hx
    obtain ⟨k, hk1, e⟩ := List.getElem_of_mem hz
    have := hk k hk1
    rw [hg k hk1, e] at this
    omega
  · rw [List.nodup_iff_pairwise_ne, List.pairwise_iff_getElem]
    intro i j hi hj hij
    rw [List.length_map] at hi hj
    rw [List.getElem_map, List.getElem_map]
    intro e2
    have h1 := hk i hi
    have h2 := hk j hj
    rw [hg i hi] at h1
    rw [hg j hj] at h2
    have h3 := hasZ_yes (l := l.take j) (z := l[j]) (j := i) (by rw [List.length_take]; omega) (by rw [getD_take hij, hg i hi]; omega)
    rw [h2.2.2] at h3
    cases h3
theorem axOk_of {m : List Nat} {cnt rank : Nat} (hl : m.length = cnt) (hb : ∀ x ∈ m, x < rank) (hnd : m.Nodup) : axOk (m.map Int.ofNat) cnt rank = true := by
  have hg : ∀ k (hk : k < m.length), (m.map Int.ofNat).getD k 0 = (m[k] : Int) := fun k hk => by rw [List.getD_eq_getElem?_getD, List.getElem?_map, List.getElem?_eq_getElem hk]; rfl
  refine axOk_yes (by rw [List.length_map, hl]) (fun k hk => ?_)
  rw [List.length_map] at hk
  rw [hg k hk]
  refine ⟨by omega, by have := hb _ (List.getElem_mem hk); omega, hasZ_no (fun j hj => ?_)⟩
  rw [List.length_take, List.length_map] at hj
  rw [getD_take (by omega), hg j (by omega)]
  intro e
  rw [List.nodup_iff_pairwise_ne, List.pairwise_iff_getElem] at hnd
  exact hnd j k (by omega) hk (by omega) (by omega)
def sprR (s t axes : List Int) (l : List (List UInt8)) : Int × List Nat × List (List UInt8) :=
  if validA s l = false then (60, [], []) else if vs t = false then (60, [], []) else if axOk axes s.length t.length = false then (2, [], []) else if pk (t.map Int.toNat) (axes.map Int.toNat) ≠ s.map Int.toNat then (60, [], []) else (0, t.map Int.toNat, sprV (s.map Int.toNat) (t.map Int.toNat) (axes.map Int.toNat) l)
theorem spread_all (p q xq r : Option Addr) (c d f n m k x cx : Nat) (s t axes : List Int) (l : List (List UInt8)) (w : World) (he : Env w) (hs : Hid (s.length = n)) (hl : Hid (l.length = m)) (hk : Hid (t.length = k)) (hx : Hid (axes.length = x)) (hm : m ≤ 5000) (hx10 : x ≤ 10) (hxc : x ≤ cx) (hp : Rd w p s) (hq : RdS w q l) (hr : Rd w r t) (hxq : Rd w xq axes) :
    Calls Tryz.prog 43 #[.agg #[.slice p n c, .slice q m d], .slice xq x cx, .slice r k f] w (ArrPost w (sprR s t axes l).1 (sprR s t axes l).2.1 (sprR s t axes l).2.2) := by
  have HP := Lib.hid hp
  have HQ := Lib.hid hq
  have HR := Lib.hid hr
  have HXQ := Lib.hid hxq
  have HE := Lib.hid he
  obtain ⟨A, HA⟩ : ∃ A, Hid (A = w.heap.size) := ⟨_, Lib.hid rfl⟩
  obtain ⟨W0, HW0⟩ : ∃ W0, Hid ((w.alloc (.cells #[.slice p n c, .slice q m d] 25)).alloc (.cells #[.slice none 0 0, .slice none 0 0] 25) = W0) := ⟨_, Lib.hid rfl⟩
  have HB0 : Hid (Below w.heap.size w W0) := Lib.hid (by rw [← HW0.out]; exact ((Below.refl _ w).alloc (Nat.le_refl _) _).alloc (by simp) _)
  have HRB : Hid (w.heap.size ≤ A + 1) := Lib.hid (by rw [HA.out]; omega)
  have HS0 : Hid (W0.heap.size = A + 1 + 1) := Lib.hid (by rw [← HW0.out, HA.out]; simp)
  have HA0 : Hid (W0.heap[A]? = some (.cells #[.slice p n c, .slice q m d] 25 (0, 0))) := Lib.hid (by
    rw [← HW0.out, HA.out]; simp only [World.alloc, Array.getElem?_push, Array.size_push]
    repeat' (first | rw [if_pos (by omega)] | rw [if_neg (by omega)] | rfl))
  have HA1 : Hid (W0.heap[A + 1]? = some (.cells #[.slice none 0 0, .slice none 0 0] 25 (0, 0))) := Lib.hid (by
    rw [← HW0.out, HA.out]; simp only [World.alloc, Array.getElem?_push, Array.size_push]
    repeat' (first | rw [if_pos (by omega)] | rw [if_neg (by omega)] | rfl))
  have HBX : Hid (∀ W, Below W0.heap.size W0 W → Below w.heap.size w W ∧ W.heap[A]? = some (.cells #[.slice p n c, .slice q m d] 25 (0, 0)) ∧ W.heap[A + 1]? = some (.cells #[.slice none 0 0, .slice none 0 0] 25 (0, 0))) := Lib.hid (fun W hW =>
    ⟨HB0.out.trans (hW.mono HB0.out.size), (hW.block A (by rw [HS0.out]; omega)).trans HA0.out, (hW.block (A + 1) (by rw [HS0.out]; omega)).trans HA1.out⟩)
  have H20 : Hid (Calls Tryz.prog 21 #[.agg #[.slice p n c, .slice q m d]] W0 fun e w' => Below W0.heap.size W0 w' ∧ e = .returned (.bool (validA s l))) := Lib.hid (valid_any p q c d n m s l W0 (HE.out.below HB0.out) hs hl hm (HP.out.below HB0.out) (HQ.out.below HB0.out))
  have H18 : Hid (∀ W, Below W0.heap.size W0 W → Calls Tryz.prog 19 #[.slice r k f] W fun e w' => W = w' ∧ e = .returned (.bool (vs t))) := Lib.hid (fun W hW => by
    have := vshape_any r f t W (HR.out.below (HBX.out W hW).1)
    rwa [hk.out] at this)
  obtain ⟨u, HU⟩ : ∃ u, Hid (u = axOk axes n k) := ⟨_, rfl⟩
  have H77 : Hid (∀ W, Below W0.heap.size W0 W → Calls Tryz.prog 82 #[.slice xq x cx, .int .i64 (n : Int), .int .i64 (k : Int)] W fun e w' => W = w' ∧ e = .returned (.bool u)) := Lib.hid (fun W hW => by
    rw [HU.out]; exact areaxes_any xq cx x axes n k W hx hx10 hxc (HXQ.out.below (HBX.out W hW).1))
  clear hp hq hr hxq he
  by_cases hv : validA s l = false
  · have e0 : sprR s t axes l = (60, [], []) := by unfold sprR; rw [if_pos hv]
    rw [e0]
    rw [hv] at H20
    clear hv e0
    go_enter Tryz.func43, Tryz.ntmps43
    go_wp2_with fail
    rw [HW0.out, ← HA.out]
    refine (H20.out).mono ?_
    rintro e w1 ⟨hb1, rfl⟩
    have HB1 := Lib.hid hb1
    obtain ⟨hbw, x0, y1⟩ := HBX.out w1 hb1
    have HBk := Lib.hid hbw
    clear hb1 hbw
    clear x0
    have r0 : w1.cell? ⟨A + 1, 0, none⟩ = some (.slice none 0 0) := by simp [World.cell?, y1]
    have r1 : w1.cell? ⟨A + 1, 1, none⟩ = some (.slice none 0 0) := by simp [World.cell?, y1]
    have z0 : w1.frozen? ⟨A + 1, 0, none⟩ = false := by simp [World.frozen?, y1]
    have z1 : w1.frozen? ⟨A + 1, 1, none⟩ = false := by simp [World.frozen?, y1]
    have hE1 := heap_set w1 (A + 1) 0 (.slice none 0 0) _ _ y1
    have hE2 := heap_set _ (A + 1) 1 (.slice none 0 0) _ _ hE1
    obtain ⟨W7, hW7⟩ : ∃ W7, (w1.setCell ⟨A + 1, 0, none⟩ (.slice none 0 0)).setCell ⟨A + 1, 1, none⟩ (.slice none 0 0) = W7 := ⟨_, rfl⟩
    rw [hW7] at hE2
    have k0 : W7.cell? ⟨A + 1, 0, none⟩ = some (.slice none 0 0) := by simp [World.cell?, hE2]
    have k1 : W7.cell? ⟨A + 1, 1, none⟩ = some (.slice none 0 0) := by simp [World.cell?, hE2]
    have HFIN : Hid (ArrPost w 60 [] [] (.returned (.tuple #[.agg #[.slice none 0 0, .slice none 0 0], .int .i64 60])) W7) := Lib.hid (arr_no (by
      rw [← hW7]
      exact (HBk.out.setCell (p := ⟨A + 1, 0, none⟩) HRB.out _).setCell (p := ⟨A + 1, 1, none⟩) HRB.out _))
    clear hE1 hE2 y1
    go_wp2_with fail
    (try simp only [Exit.inBlock, Exit.then])
    refine bodyPost_ret (v := .tuple #[.agg #[.slice none 0 0, .slice none 0 0], .int .i64 60]) ?_ rfl HFIN.out
    rw [results_cell_tmp rfl]
    go_simp
  have hv2 : validA s l = true := by simpa using hv
  rw [hv2] at H20
  by_cases ht : vs t = false
  · have e0 : sprR s t axes l = (60, [], []) := by unfold sprR; rw [if_neg hv, if_pos ht]
    rw [e0]
    rw [ht] at H18
    clear hv ht e0
    go_enter Tryz.func43, Tryz.ntmps43
    go_wp2_with fail
    rw [HW0.out, ← HA.out]
    refine (H20.out).mono ?_
    rintro e w1 ⟨hb1, rfl⟩
    have HB1 := Lib.hid hb1
    obtain ⟨hbw, x0, y1⟩ := HBX.out w1 hb1
    have HBk := Lib.hid hbw
    clear hb1 hbw
    go_wp2_with fail
    refine (H18.out _ HB1.out).mono ?_
    rintro e w1' ⟨rfl, rfl⟩
    clear x0
    have r0 : w1.cell? ⟨A + 1, 0, none⟩ = some (.slice none 0 0) := by simp [World.cell?, y1]
    have r1 : w1.cell? ⟨A + 1, 1, none⟩ = some (.slice none 0 0) := by simp [World.cell?, y1]
    have z0 : w1.frozen? ⟨A + 1, 0, none⟩ = false := by simp [World.frozen?, y1]
    have z1 : w1.frozen? ⟨A + 1, 1, none⟩ = false := by simp [World.frozen?, y1]
    have hE1 := heap_set w1 (A + 1) 0 (.slice none 0 0) _ _ y1
    have hE2 := heap_set _ (A + 1) 1 (.slice none 0 0) _ _ hE1
    obtain ⟨W7, hW7⟩ : ∃ W7, (w1.setCell ⟨A + 1, 0, none⟩ (.slice none 0 0)).setCell ⟨A + 1, 1, none⟩ (.slice none 0 0) = W7 := ⟨_, rfl⟩
    rw [hW7] at hE2
    have k0 : W7.cell? ⟨A + 1, 0, none⟩ = some (.slice none 0 0) := by simp [World.cell?, hE2]
    have k1 : W7.cell? ⟨A + 1, 1, none⟩ = some (.slice none 0 0) := by simp [World.cell?, hE2]
    have HFIN : Hid (ArrPost w 60 [] [] (.returned (.tuple #[.agg #[.slice none 0 0, .slice none 0 0], .int .i64 60])) W7) := Lib.hid (arr_no (by
      rw [← hW7]
      exact (HBk.out.setCell (p := ⟨A + 1, 0, none⟩) HRB.out _).setCell (p := ⟨A + 1, 1, none⟩) HRB.out _))
    clear hE1 hE2 y1
    go_wp2_with fail
    (try simp only [Exit.inBlock, Exit.then])
    refine bodyPost_ret (v := .tuple #[.agg #[.slice none 0 0, .slice none 0 0], .int .i64 60]) ?_ rfl HFIN.out
    rw [results_cell_tmp rfl]
    go_simp
  have ht2 : vs t = true := by simpa using ht
  rw [ht2] at H18
  by_cases hu : u = false
  · subst hu
    have e0 : sprR s t axes l = (2, [], []) := by unfold sprR; rw [if_neg hv, if_neg ht, if_pos (by rw [hs.out, hk.out]; exact HU.out.symm)]
    rw [e0]
    clear hv hv2 ht ht2 e0
    go_enter Tryz.func43, Tryz.ntmps43
    go_wp2_with fail
    rw [HW0.out, ← HA.out]
    refine (H20.out).mono ?_
    rintro e w1 ⟨hb1, rfl⟩
    have HB1 := Lib.hid hb1
    obtain ⟨hbw, x0, y1⟩ := HBX.out w1 hb1
    have HBk := Lib.hid hbw
    clear hb1 hbw
    go_wp2_with fail
    refine (H18.out _ HB1.out).mono ?_
    rintro e w1' ⟨rfl, rfl⟩
    have c0 : w1.cell? ⟨A, 0, none⟩ = some (.slice p n c) := by simp [World.cell?, x0]
    go_wp2_with fail
    refine (H77.out _ HB1.out).mono ?_
    rintro e w1' ⟨rfl, rfl⟩
    clear x0
    have r0 : w1.cell? ⟨A + 1, 0, none⟩ = some (.slice none 0 0) := by simp [World.cell?, y1]
    have r1 : w1.cell? ⟨A + 1, 1, none⟩ = some (.slice none 0 0) := by simp [World.cell?, y1]
    have z0 : w1.frozen? ⟨A + 1, 0, none⟩ = false := by simp [World.frozen?, y1]
    have z1 : w1.frozen? ⟨A + 1, 1, none⟩ = false := by simp [World.frozen?, y1]
    have hE1 := heap_set w1 (A + 1) 0 (.slice none 0 0) _ _ y1
    have hE2 := heap_set _ (A + 1) 1 (.slice none 0 0) _ _ hE1
    obtain ⟨W7, hW7⟩ : ∃ W7, (w1.setCell ⟨A + 1, 0, none⟩ (.slice none 0 0)).setCell ⟨A + 1, 1, none⟩ (.slice none 0 0) = W7 := ⟨_, rfl⟩
    rw [hW7] at hE2
    have k0 : W7.cell? ⟨A + 1, 0, none⟩ = some (.slice none 0 0) := by simp [World.cell?, hE2]
    have k1 : W7.cell? ⟨A + 1, 1, none⟩ = some (.slice none 0 0) := by simp [World.cell?, hE2]
    have HFIN : Hid (ArrPost w 2 [] [] (.returned (.tuple #[.agg #[.slice none 0 0, .slice none 0 0], .int .i64 2])) W7) := Lib.hid (arr_no (by
      rw [← hW7]
      exact (HBk.out.setCell (p := ⟨A + 1, 0, none⟩) HRB.out _).setCell (p := ⟨A + 1, 1, none⟩) HRB.out _))
    clear hE1 hE2 y1
    go_wp2_with fail
    (try simp only [Exit.inBlock, Exit.then])
    refine bodyPost_ret (v := .tuple #[.agg #[.slice none 0 0, .slice none 0 0], .int .i64 2]) ?_ rfl HFIN.out
    rw [results_cell_tmp rfl]
    go_simp
  obtain rfl : u = true := by simpa using hu
  have hvs : vs s = true := by unfold validA at hv2; rw [Bool.and_eq_true] at hv2; exact hv2.1
  obtain ⟨s0, rfl, hsh⟩ := vs_yes hvs
  obtain ⟨t0, rfl, hth⟩ := vs_yes ht2
  obtain ⟨ax, rfl, hal, hab, hnd⟩ := axOk_nat HU.out.symm
  have hsn : s0.length = n := by rw [← hs.out, List.length_map]
  have htk : t0.length = k := by rw [← hk.out, List.length_map]
  have hn4 : n ≤ 4 := by rw [← hsn]; exact hsh.1
  have hk4 : k ≤ 4 := by rw [← htk]; exact hth.1
  have hxn : n = x := by rw [← hx.out, List.length_map, hal]
  subst hxn
  obtain ⟨e2, HE2⟩ : ∃ e2, Hid (e2 = sprR (s0.map Int.ofNat) (t0.map Int.ofNat) (ax.map Int.ofNat) l) := ⟨_, rfl⟩
  rw [← HE2.out]
  have HNO : Hid (pk t0 ax ≠ s0 → e2 = (60, [], [])) := Lib.hid (fun h => by rw [HE2.out]; unfold sprR; rw [if_neg hv, if_neg ht, if_neg (by rw [hs.out, hk.out, ← HU.out]; simp), if_pos (by rw [toNat_map, toNat_map, toNat_map]; exact h)])
  have HYES : Hid (pk t0 ax = s0 → e2 = (0, t0, sprV s0 t0 ax l)) := Lib.hid (fun h => by rw [HE2.out]; unfold sprR; rw [if_neg hv, if_neg ht, if_neg (by rw [hs.out, hk.out, ← HU.out]; simp), if_neg (by rw [toNat_map, toNat_map, toNat_map]; exact fun h2 => h2 h), toNat_map, toNat_map, toNat_map])
  have hml : m = prod s0 := by
    unfold validA at hv2
    rw [Bool.and_eq_true, Bool.and_eq_true, decide_eq_true_eq, toNat_map, hl.out] at hv2
    exact hv2.2.1
  have HSN := Lib.hid hsn
  have HTN := Lib.hid htk
  have HSH := Lib.hid hsh
  have HTH := Lib.hid hth
  have HML := Lib.hid hml
  have HAL := Lib.hid hal
  have HAB := Lib.hid hab
  have hni : (n : Int) ≤ 4 := by omega
  have hki : (k : Int) ≤ 4 := by omega
  clear hv hv2 ht ht2 hvs hsh hth hsn htk hml hal hab hnd
  go_enter Tryz.func43, Tryz.ntmps43
  go_wp2_with fail
  rw [HW0.out, ← HA.out]
  refine (H20.out).mono ?_
  rintro e w1 ⟨hb1, rfl⟩
  have HB1 := Lib.hid hb1
  obtain ⟨hbw, x0, y1⟩ := HBX.out w1 hb1
  have HBk := Lib.hid hbw
  clear hb1 hbw
  go_wp2_with fail
  refine (H18.out _ HB1.out).mono ?_
  rintro e w1' ⟨rfl, rfl⟩
  have c0 : w1.cell? ⟨A, 0, none⟩ = some (.slice p n c) := by simp [World.cell?, x0]
  go_wp2_with fail
  refine (H77.out _ HB1.out).mono ?_
  rintro e w1' ⟨rfl, rfl⟩
  have HX0 := Lib.hid x0
  have HY1 := Lib.hid y1
  clear x0 y1
  go_wp2_with fail
  go_loopw [30] (fun iv wr => ∃ i z : Nat, i ≤ n ∧ iv = .int .i64 i ∧ wr = w1.drewN z ∧ Hid (∀ j, j < i → s0.getD j 0 = t0.getD (ax.getD j 0) 0)) (fun iv _ => n - (Go.RowKit.intOf iv).toNat)
  case atStart => exact ⟨0, 0, Nat.zero_le _, rfl, rfl, Lib.hid (fun k hk => by omega)⟩
  case round =>
    obtain ⟨i, z, hi, rfl, rfl, HJ⟩ := hrel
    have ii : (i : Int) ≤ (n : Int) := by omega
    by_cases hlt : i < n
    · have ilt : (i : Int) < (n : Int) := by omega
      obtain ⟨b1, o1, a, rfl, hb1, hc1, HAX⟩ := RdN.at (w := w1) (l := ax) (HXQ.out.below HBk.out) (k := i) (by rw [HAL.out]; exact hlt)
      have hak : a < k := by
        rw [HAX.out, List.getD_eq_getElem?_getD, List.getElem?_eq_getElem (by rw [HAL.out]; exact hlt)]
        exact HAB.out _ (List.getElem_mem _)
      have iak : (a : Int) < (k : Int) := by omega
      obtain ⟨b2, o2, y, rfl, hb2, hc2, HSY⟩ := RdN.at (w := w1) (l := s0) (HP.out.below HBk.out) (k := i) (by rw [HSN.out]; exact hlt)
      obtain ⟨b3, o3, v, rfl, hb3, hc3, HTV⟩ := RdN.at (w := w1) (l := t0) (HR.out.below HBk.out) (k := a) (by rw [HTN.out]; exact hak)
      by_cases hyv : y = v
      · have hst : Hid (∀ j, j < i + 1 → s0.getD j 0 = t0.getD (ax.getD j 0) 0) := Lib.hid (fun j hj => by
          by_cases e : j = i
          · rw [e, ← HAX.out, ← HSY.out, ← HTV.out]; exact hyv
          · exact HJ.out j (by omega))
        subst hyv
        have hne : ((y : Int) != (y : Int)) = false := by simp
        go_wp2_with fail
        go_quiet (fail)
        go_wp2_with fail
        go_roundw
        case rel => exact ⟨i + 1, _, by omega, by go_num, rfl, hst⟩
        case measure => simp [Go.RowKit.intOf]; omega
      · have hne : ((y : Int) != (v : Int)) = true := by rw [bne_iff_ne]; omega
        have hne2 : ¬ (y : Int) = (v : Int) := by omega
        obtain rfl : e2 = (60, [], []) := HNO.out (fun e => hyv (by
          rw [HSY.out, ← e, pk_at (by rw [HAL.out]; exact hlt), ← HAX.out, ← HTV.out]))
        go_wp2_with fail
        go_quiet (fail)
        obtain ⟨W2, HW2⟩ : ∃ W2, Hid ((w1.drewN z).drewN nq = W2) := ⟨_, Lib.hid rfl⟩
        rw [HW2.out]
        have y1 : W2.heap[A + 1]? = some (.cells #[.slice none 0 0, .slice none 0 0] 25 (0, 0)) := by rw [← HW2.out]; exact HY1.out
        have HBk : Hid (Below w.heap.size w W2) := Lib.hid (by rw [← HW2.out]; exact HBk.out.trans ⟨rfl, rfl, rfl, Nat.le_refl _, fun _ _ => rfl⟩)
        have r0 : W2.cell? ⟨A + 1, 0, none⟩ = some (.slice none 0 0) := by simp [World.cell?, y1]
        have r1 : W2.cell? ⟨A + 1, 1, none⟩ = some (.slice none 0 0) := by simp [World.cell?, y1]
        have z0 : W2.frozen? ⟨A + 1, 0, none⟩ = false := by simp [World.frozen?, y1]
        have z1 : W2.frozen? ⟨A + 1, 1, none⟩ = false := by simp [World.frozen?, y1]
        have hE1 := heap_set W2 (A + 1) 0 (.slice none 0 0) _ _ y1
        have hE2 := heap_set _ (A + 1) 1 (.slice none 0 0) _ _ hE1
        obtain ⟨W7, hW7⟩ : ∃ W7, (W2.setCell ⟨A + 1, 0, none⟩ (.slice none 0 0)).setCell ⟨A + 1, 1, none⟩ (.slice none 0 0) = W7 := ⟨_, rfl⟩
        rw [hW7] at hE2
        have k0 : W7.cell? ⟨A + 1, 0, none⟩ = some (.slice none 0 0) := by simp [World.cell?, hE2]
        have k1 : W7.cell? ⟨A + 1, 1, none⟩ = some (.slice none 0 0) := by simp [World.cell?, hE2]
        have HFIN : Hid (ArrPost w 60 [] [] (.returned (.tuple #[.agg #[.slice none 0 0, .slice none 0 0], .int .i64 60])) W7) := Lib.hid (arr_no (by
          rw [← hW7]
          exact (HBk.out.setCell (p := ⟨A + 1, 0, none⟩) HRB.out _).setCell (p := ⟨A + 1, 1, none⟩) HRB.out _))
        clear hE1 hE2 y1
        go_wp2_with fail
        (try simp only [Exit.inBlock, Exit.then])
        refine bodyPost_ret (v := .tuple #[.agg #[.slice none 0 0, .slice none 0 0], .int .i64 60]) ?_ rfl HFIN.out
        rw [results_cell_tmp rfl]
        go_simp
    · obtain rfl : i = n := by omega
      have ilt : ¬ (i : Int) < (i : Int) := by omega
      have epk : pk t0 ax = s0 := ext_getD (by rw [pk_len, HAL.out, HSN.out]) (fun j hj => by
        rw [pk_len, HAL.out] at hj
        rw [pk_at (by rw [HAL.out]; exact hj)]
        exact (HJ.out j hj).symm)
      obtain rfl : e2 = (0, t0, sprV s0 t0 ax l) := HYES.out epk
      obtain ⟨W2, HW2⟩ : ∃ W2, Hid (w1.drewN z = W2) := ⟨_, Lib.hid rfl⟩
      rw [HW2.out]
      have y1 : W2.heap[A + 1]? = some (.cells #[.slice none 0 0, .slice none 0 0] 25 (0, 0)) := by rw [← HW2.out]; exact HY1.out
      have x0 : W2.heap[A]? = some (.cells #[.slice p i c, .slice q m d] 25 (0, 0)) := by rw [← HW2.out]; exact HX0.out
      have HBk : Hid (Below w.heap.size w W2) := Lib.hid (by rw [← HW2.out]; exact HBk.out.trans ⟨rfl, rfl, rfl, Nat.le_refl _, fun _ _ => rfl⟩)
      have HSZ : Hid (A + 1 < W2.heap.size) := Lib.hid (Array.getElem?_eq_some_iff.1 y1).1
      have HYY := Lib.hid y1
      have c0 : W2.cell? ⟨A, 0, none⟩ = some (.slice p i c) := by simp [World.cell?, x0]
      have c1 : W2.cell? ⟨A, 1, none⟩ = some (.slice q m d) := by simp [World.cell?, x0]
      have H78 := Lib.hid (spread_any p q xq r c d i m k cx f s0 t0 ax l W2 hn4 hm HSN (Lib.hid HSH.out.2.1) HSH.out.2.2 hl HML hk4 HTN (Lib.hid HTH.out.2.1) HTH.out.2.2 HAL HAB (Lib.hid epk) (HP.out.below HBk.out) (HQ.out.below HBk.out) (HXQ.out.below HBk.out) (HR.out.below HBk.out))
      clear x0 y1 epk
      go_wp2_with fail
      refine (H78.out).mono ?_
      rintro e w6 ⟨hb6, q', d', V, rfl, hr1, hr2, hr3, hr4, hr5, hr6⟩
      have hsz := HSZ.out
      have hA := HA.out
      have hrb := HRB.out
      have hbk := HBk.out.size
      have y6 : w6.heap[A + 1]? = some (.cells #[.slice none 0 0, .slice none 0 0] 25 (0, 0)) := (hb6.block (A + 1) hsz).trans HYY.out
      have r0 : w6.cell? ⟨A + 1, 0, none⟩ = some (.slice none 0 0) := by simp [World.cell?, y6]
      have r1 : w6.cell? ⟨A + 1, 1, none⟩ = some (.slice none 0 0) := by simp [World.cell?, y6]
      have z0 : w6.frozen? ⟨A + 1, 0, none⟩ = false := by simp [World.frozen?, y6]
      have z1 : w6.frozen? ⟨A + 1, 1, none⟩ = false := by simp [World.frozen?, y6]
      have hE1 := heap_set w6 (A + 1) 0 (.slice q' k d') _ _ y6
      have hE2 := heap_set _ (A + 1) 1 (.slice (some ⟨V, 0, none⟩) (prod t0) (prod t0)) _ _ hE1
      obtain ⟨W7, hW7⟩ : ∃ W7, (w6.setCell ⟨A + 1, 0, none⟩ (.slice q' k d')).setCell ⟨A + 1, 1, none⟩ (.slice (some ⟨V, 0, none⟩) (prod t0) (prod t0)) = W7 := ⟨_, rfl⟩
      rw [hW7] at hE2
      have k0 : W7.cell? ⟨A + 1, 0, none⟩ = some (.slice q' k d') := by simp [World.cell?, hE2]
      have k1 : W7.cell? ⟨A + 1, 1, none⟩ = some (.slice (some ⟨V, 0, none⟩) (prod t0) (prod t0)) := by simp [World.cell?, hE2]
      have hg67 : w6.grownBy W7 (some (A + 1)) := by rw [← hW7]; exact (gb_set _ _ _ _).trans (gb_set _ _ _ _)
      have HFIN : Hid (ArrPost w 0 t0 (sprV s0 t0 ax l) (.returned (.tuple #[.agg #[.slice q' k d', .slice (some ⟨V, 0, none⟩) (prod t0) (prod t0)], .int .i64 0])) W7) := Lib.hid (by
          have o2 : w.grownBy W7 none := gb_trans_new ((gb_of_below HBk.out none).trans (gb_of_below hb6 none)) hg67 HRB.out
          refine ⟨⟨o2.os, o2.tape, o2.output, o2.size, fun k hk => o2.block k hk (by intro e; cases e)⟩, q', _, k, d', prod t0, prod t0, rfl, HTN.out, by rw [sprV, List.length_map, List.length_range], ?_, ?_⟩
          · refine hr1.keep hg67.size (fun b off e h0 => ?_)
            obtain ⟨b', off', x, e', hb', -⟩ := hr1.at h0
            rw [e] at e'; cases e'
            exact hg67.block b hb' (by intro e2; injection e2 with e2; have := hr4 b off e; omega)
          · refine hr5.keep hg67.size (fun b off e h0 => ?_)
            obtain ⟨b', off', x, e', hb', -⟩ := hr5.at h0
            rw [e] at e'; cases e'
            cases e
            exact hg67.block V hb' (by intro e2; injection e2 with e2; omega))
      clear hr1 hr2 hr3 hr4 hr5 hr6 hb6 hg67 hE1 hE2 y6 H78 hsz hA hrb hbk c0 c1
      go_wp2_with fail
      (try simp only [Exit.inBlock, Exit.then])
      refine bodyPost_ret (v := .tuple #[.agg #[.slice q' k d', .slice (some ⟨V, 0, none⟩) (prod t0) (prod t0)], .int .i64 0]) ?_ rfl HFIN.out
      rw [results_cell_tmp rfl]
      go_simp
end Go.Proofs.YtigidchicloleaaGreatDoor.Arr
