/- The document's Move. -/
import Derived.Test.YtigidchicloleaaGreatDoorIH
import Derived.Test.YtigidchicloleaaGreatDoorHN
set_option maxHeartbeats 16000000
set_option maxRecDepth 100000
namespace Go.Proofs.YtigidchicloleaaGreatDoor.Arr
open Go.RowKit Go.Shelf
open Go.Lib
attribute [local go_sem] Oper.semAt_some
def ub (ax tu : List Nat) (i : Nat) : List Nat := (List.range ax.length).map (fun j => if ax.idxOf j < i then tu.getD (ax.idxOf j) 0 else 0)
theorem ub_len (ax tu : List Nat) (i : Nat) : (ub ax tu i).length = ax.length := by simp [ub]
theorem ub_at {ax tu : List Nat} {i j : Nat} (hj : j < ax.length) : (ub ax tu i).getD j 0 = if ax.idxOf j < i then tu.getD (ax.idxOf j) 0 else 0 := by
  unfold ub
  rw [List.getD_eq_getElem?_getD, List.getElem?_map, List.getElem?_range hj]; rfl
theorem ub_zero (ax tu : List Nat) : ub ax tu 0 = zn ax.length := by
  refine ext_getD (by rw [ub_len]; simp [zn]) (fun k hk => ?_)
  rw [ub_len] at hk
  rw [ub_at hk, if_neg (by omega)]
  unfold zn
  rw [List.getD_eq_getElem?_getD, List.getElem?_replicate_of_lt hk]; rfl
theorem ub_succ {ax tu : List Nat} (hnd : ax.Nodup) (hb : ∀ x ∈ ax, x < ax.length) {i : Nat} (hi : i < ax.length) : (ub ax tu i).set (ax.getD i 0) (tu.getD i 0) = ub ax tu (i + 1) := by
  have hm : ax.getD i 0 ∈ ax := by rw [List.getD_eq_getElem?_getD, List.getElem?_eq_getElem hi]; exact List.getElem_mem _
  refine ext_getD (by rw [List.length_set, ub_len, ub_len]) (fun k hk => ?_)
  rw [List.length_set, ub_len] at hk
  by_cases e : ax.getD i 0 = k
  · rw [ub_at hk, ← e, idx_at hnd hi, if_pos (by omega), List.getD_eq_getElem?_getD, List.getElem?_set_self (by rw [ub_len]; exact hb _ hm)]; rfl
  · have h1 : (((ub ax tu i).set (ax.getD i 0) (tu.getD i 0)).getD k 0) = (ub ax tu i).getD k 0 := by
      rw [List.getD_eq_getElem?_getD, List.getElem?_set_ne e, ← List.getD_eq_getElem?_getD]
    rw [h1, ub_at hk, ub_at hk]
    have h2 : ax.idxOf k ≠ i := fun e2 => by
      have h3 : ax.idxOf k < ax.length := by omega
      have h4 : ax[ax.idxOf k] = k := List.getElem_idxOf h3
      refine e ?_
      rw [List.getD_eq_getElem?_getD, List.getElem?_eq_getElem hi, Option.getD_some]
      have h5 : ax[i] = ax[ax.idxOf k] := by congr 1; exact e2.symm
      rw [h5, h4]
    by_cases h3 : ax.idxOf k < i
    · rw [if_pos h3, if_pos (by omega)]
    · rw [if_neg h3, if_neg (by omega)]
theorem ub_all {ax tu : List Nat} (hnd : ax.Nodup) (hb : ∀ x ∈ ax, x < ax.length) : ub ax tu ax.length = pk tu (inv ax) := by
  refine ext_getD (by rw [ub_len, pk_len, inv_len]) (fun k hk => ?_)
  rw [ub_len] at hk
  have h1 : ax.idxOf k < ax.length := List.idxOf_lt_length_of_mem (nd_all hnd hb rfl hk)
  rw [ub_at hk, if_pos h1, pk_at (by rw [inv_len]; exact hk)]
  unfold inv
  rw [bk_at hk, if_pos h1]
theorem ixC_put (l : List Nat) (k v : Nat) : (ixC l).setIfInBounds k (.int .i64 ((v : Nat) : Int)) = ixC (l.set k v) := by
  unfold ixC
  rw [List.map_set, List.setIfInBounds_toArray]
theorem rmove_all (p q xq : Option Addr) (c d n m x cx : Nat) (s axes : List Int) (l : List (List UInt8)) (w : World) (hs : Hid (s.length = n)) (hl : Hid (l.length = m)) (hx : Hid (axes.length = x)) (hm : m ≤ 5000) (hx10 : x ≤ 10) (hp : Rd w p s) (hq : RdS w q l) (hxq : Rd w xq axes) :
    Calls Tryz.prog 46 #[.agg #[.slice p n c, .slice q m d], .slice xq x cx] w (ArrPost w (mvR s axes l).1 (mvR s axes l).2.1 (mvR s axes l).2.2) := by
  have HP := Lib.hid hp
  have HQ := Lib.hid hq
  have HXQ := Lib.hid hxq
  have hmi : (m : Int) ≤ 5000 := by omega
  obtain ⟨A, HA⟩ : ∃ A, Hid (A = w.heap.size) := ⟨_, Lib.hid rfl⟩
  obtain ⟨W0, HW0⟩ : ∃ W0, Hid ((w.alloc (.cells #[.slice p n c, .slice q m d] 25)).alloc (.cells #[.slice none 0 0, .slice none 0 0] 25) = W0) := ⟨_, Lib.hid rfl⟩
  have HB0 : Hid (Below w.heap.size w W0) := Lib.hid (by rw [← HW0.out]; exact ((Below.refl _ w).alloc (Nat.le_refl _) _).alloc (by simp) _)
  have HRB : Hid (w.heap.size ≤ A + 1) := Lib.hid (by rw [HA.out]; omega)
  have HS0 : Hid (W0.heap.size = A + 1 + 1) := Lib.hid (by rw [← HW0.out, HA.out]; simp)
  have HA0 : Hid (W0.heap[A]? = some (.cells #[.slice p n c, .slice q m d] 25 (0, 0))) := Lib.hid (by
    rw [← HW0.out, HA.out]; simp only [World.alloc, Array.getElem?_push, Array.size_push]
    repeat' (first | rw [if_pos (by omega)] | rw [if_neg (by omega)] | rfl))
  have HA1 : Hid (W0.heap[A + 1]? = some (.cells #[.slice none 0 0, .slice none 0 0] 25 (0, 0))) := Lib.hid (by
    rw [← HW0.out, HA.out]; simp only [World.alloc, Array.getElem?_push, Array.size_push]
    repeat' (first | rw [if_pos (by omega)] | rw [if_neg (by omega)] | rfl))
  have HBX : Hid (∀ W, Below W0.heap.size W0 W → Below w.heap.size w W ∧ W.heap[A]? = some (.cells #[.slice p n c, .slice q m d] 25 (0, 0)) ∧ W.heap[A + 1]? = some (.cells #[.slice none 0 0, .slice none 0 0] 25 (0, 0))) := Lib.hid (fun W hW =>
    ⟨HB0.out.trans (hW.mono HB0.out.size), (hW.block A (by rw [HS0.out]; omega)).trans HA0.out, (hW.block (A + 1) (by rw [HS0.out]; omega)).trans HA1.out⟩)
  have H21 : Hid (Calls Tryz.prog 22 #[.agg #[.slice p n c, .slice q m d]] W0 fun e w' => Below W0.heap.size W0 w' ∧ e = .returned (.bool (validA s l))) := Lib.hid (rvalidA_any p q c d n m s l W0 hs hl hm (HP.out.below HB0.out) (HQ.out.below HB0.out))
  obtain ⟨u, HU⟩ : ∃ u, Hid (u = axOk axes n n) := ⟨_, rfl⟩
  have H79 : Hid (∀ W, Below W0.heap.size W0 W → Calls Tryz.prog 84 #[.slice xq x cx, .int .i64 (n : Int), .int .i64 (n : Int)] W fun e w' => Below W.heap.size W w' ∧ e = .returned (.bool u)) := Lib.hid (fun W hW => by
    rw [HU.out]; exact (distinct_any xq cx x axes n n W hx hx10 (HXQ.out.below (HBX.out W hW).1)).mono (fun e w' h => ⟨by obtain ⟨j, rfl⟩ := h.1; exact ⟨rfl, rfl, rfl, Nat.le_refl _, fun _ _ => rfl⟩, h.2⟩))
  clear hp hq hxq
  by_cases hv : validA s l = false
  · have e0 : mvR s axes l = (60, [], []) := by unfold mvR; rw [if_pos hv]
    rw [e0]
    rw [hv] at H21
    clear hv e0
    go_enter Tryz.func46, Tryz.ntmps46
    go_wp2_with fail
    rw [HW0.out, ← HA.out]
    refine (H21.out).mono ?_
    rintro e w1 ⟨hb1, rfl⟩
    have HB1 := Lib.hid hb1
    obtain ⟨hbw, x0, y1⟩ := HBX.out w1 hb1
    have HBk := Lib.hid hbw
    clear hb1 hbw
    clear x0
    have r0 : w1.cell? ⟨A + 1, 0, none⟩ = some (.slice none 0 0) := by simp [World.cell?, y1]
    have r1 : w1.cell? ⟨A + 1, 1, none⟩ = some (.slice none 0 0) := by simp [World.cell?, y1]
    have z0 : w1.frozen? ⟨A + 1, 0, none⟩ = false := by simp [World.frozen?, y1]
    have z1 : w1.frozen? ⟨A + 1, 1, none⟩ = false := by simp [World.frozen?, y1]
    have hE1 := heap_set w1 (A + 1) 0 (.slice none 0 0) _ _ y1
    have hE2 := heap_set _ (A + 1) 1 (.slice none 0 0) _ _ hE1
    obtain ⟨W7, hW7⟩ : ∃ W7, (w1.setCell ⟨A + 1, 0, none⟩ (.slice none 0 0)).setCell ⟨A + 1, 1, none⟩ (.slice none 0 0) = W7 := ⟨_, rfl⟩
    rw [hW7] at hE2
    have k0 : W7.cell? ⟨A + 1, 0, none⟩ = some (.slice none 0 0) := by simp [World.cell?, hE2]
    have k1 : W7.cell? ⟨A + 1, 1, none⟩ = some (.slice none 0 0) := by simp [World.cell?, hE2]
    have HFIN : Hid (ArrPost w 60 [] [] (.returned (.tuple #[.agg #[.slice none 0 0, .slice none 0 0], .int .i64 60])) W7) := Lib.hid (arr_no (by
      rw [← hW7]
      exact (HBk.out.setCell (p := ⟨A + 1, 0, none⟩) HRB.out _).setCell (p := ⟨A + 1, 1, none⟩) HRB.out _))
    clear hE1 hE2 y1
    go_wp2_with fail
    (try simp only [Exit.inBlock, Exit.then])
    refine bodyPost_ret (v := .tuple #[.agg #[.slice none 0 0, .slice none 0 0], .int .i64 60]) ?_ rfl HFIN.out
    rw [results_cell_tmp rfl]
    go_simp
  have hv2 : validA s l = true := by simpa using hv
  rw [hv2] at H21
  by_cases hu : u = false
  · subst hu
    have e0 : mvR s axes l = (2, [], []) := by unfold mvR; rw [if_neg hv, if_pos (by rw [hs.out]; exact HU.out.symm)]
    rw [e0]
    clear hv hv2 e0
    go_enter Tryz.func46, Tryz.ntmps46
    go_wp2_with fail
    rw [HW0.out, ← HA.out]
    refine (H21.out).mono ?_
    rintro e w1 ⟨hb1, rfl⟩
    have HB1 := Lib.hid hb1
    obtain ⟨hbw, x0, y1⟩ := HBX.out w1 hb1
    have HBk := Lib.hid hbw
    clear hb1 hbw
    have c0 : w1.cell? ⟨A, 0, none⟩ = some (.slice p n c) := by simp [World.cell?, x0]
    clear x0 y1
    go_wp2_with fail
    refine (H79.out _ HB1.out).mono ?_
    rintro e w2 ⟨hb2, rfl⟩
    have HB2 := Lib.hid (HB1.out.trans (hb2.mono HB1.out.size))
    clear hb2 HBk c0
    obtain ⟨hbw, x0, y1⟩ := HBX.out w2 HB2.out
    have HBk := Lib.hid hbw
    clear hbw
    clear x0
    have r0 : w2.cell? ⟨A + 1, 0, none⟩ = some (.slice none 0 0) := by simp [World.cell?, y1]
    have r1 : w2.cell? ⟨A + 1, 1, none⟩ = some (.slice none 0 0) := by simp [World.cell?, y1]
    have z0 : w2.frozen? ⟨A + 1, 0, none⟩ = false := by simp [World.frozen?, y1]
    have z1 : w2.frozen? ⟨A + 1, 1, none⟩ = false := by simp [World.frozen?, y1]
    have hE1 := heap_set w2 (A + 1) 0 (.slice none 0 0) _ _ y1
    have hE2 := heap_set _ (A + 1) 1 (.slice none 0 0) _ _ hE1
    obtain ⟨W7, hW7⟩ : ∃ W7, (w2.setCell ⟨A + 1, 0, none⟩ (.slice none 0 0)).setCell ⟨A + 1, 1, none⟩ (.slice none 0 0) = W7 := ⟨_, rfl⟩
    rw [hW7] at hE2
    have k0 : W7.cell? ⟨A + 1, 0, none⟩ = some (.slice none 0 0) := by simp [World.cell?, hE2]
    have k1 : W7.cell? ⟨A + 1, 1, none⟩ = some (.slice none 0 0) := by simp [World.cell?, hE2]
    have HFIN : Hid (ArrPost w 2 [] [] (.returned (.tuple #[.agg #[.slice none 0 0, .slice none 0 0], .int .i64 2])) W7) := Lib.hid (arr_no (by
      rw [← hW7]
      exact (HBk.out.setCell (p := ⟨A + 1, 0, none⟩) HRB.out _).setCell (p := ⟨A + 1, 1, none⟩) HRB.out _))
    clear hE1 hE2 y1
    go_wp2_with fail
    (try simp only [Exit.inBlock, Exit.then])
    refine bodyPost_ret (v := .tuple #[.agg #[.slice none 0 0, .slice none 0 0], .int .i64 2]) ?_ rfl HFIN.out
    rw [results_cell_tmp rfl]
    go_simp
  obtain rfl : u = true := by simpa using hu
  have hvs : vs s = true := by unfold validA at hv2; rw [Bool.and_eq_true] at hv2; exact hv2.1
  obtain ⟨s0, rfl, hsh⟩ := vs_yes hvs
  obtain ⟨ax, rfl, hal, hab, hnd⟩ := axOk_nat HU.out.symm
  have hsn : s0.length = n := by rw [← hs.out, List.length_map]
  have hn4 : n ≤ 4 := by rw [← hsn]; exact hsh.1
  have hxn : n = x := by rw [← hx.out, List.length_map, hal]
  subst hxn
  have hsa : s0.length = ax.length := by rw [hsn, hal]
  have hab2 : ∀ x ∈ ax, x < ax.length := by rw [hal]; exact hab
  obtain ⟨t0, HT0⟩ : ∃ t0, Hid (pk s0 ax = t0) := ⟨_, Lib.hid rfl⟩
  obtain ⟨bx, HBX2⟩ : ∃ bx, Hid (inv ax = bx) := ⟨_, Lib.hid rfl⟩
  obtain ⟨N, HN⟩ : ∃ N, Hid (N = prod t0) := ⟨_, rfl⟩
  obtain ⟨F, HF⟩ : ∃ F : Nat → List UInt8, Hid (F = fun i => l.getD (plc s0 (pk (ixOf t0 i) bx) 0) []) := ⟨_, Lib.hid rfl⟩
  have e0 : mvR (s0.map Int.ofNat) (ax.map Int.ofNat) l = (0, t0, (List.range N).map F) := by unfold mvR; rw [if_neg hv, if_neg (by rw [hs.out, ← HU.out]; simp), toNat_map, toNat_map, HT0.out, HBX2.out, HN.out, HF.out]; rfl
  rw [e0]
  have hml : m = prod s0 := by
    unfold validA at hv2
    rw [Bool.and_eq_true, Bool.and_eq_true, decide_eq_true_eq, toNat_map, hl.out] at hv2
    exact hv2.2.1
  have HTN : Hid (t0.length = n) := Lib.hid (by rw [← HT0.out, pk_len, hal])
  have HTB : Hid (∀ x ∈ t0, x ≤ 1024) := Lib.hid (by rw [← HT0.out]; exact pk_le (fun x hx => by rw [hsn]; exact hab x hx) hsh.2.1)
  have HT4 : Hid (prod t0 ≤ 4096) := Lib.hid (by rw [← HT0.out, prod_pk hnd hab2 hsa]; exact hsh.2.2)
  have HBL : Hid (bx.length = n) := Lib.hid (by rw [← HBX2.out, inv_len, hal])
  have HBB : Hid (∀ x ∈ bx, x < n) := Lib.hid (by rw [← HBX2.out, ← hal]; exact inv_lt hnd hab2)
  have HPK : Hid (pk t0 bx = s0) := Lib.hid (by rw [← HT0.out, ← HBX2.out]; exact pk_inv hnd hab2 hsa)
  have HUA : ∀ tu : List Nat, Hid (ub ax tu n = pk tu bx) := fun tu => Lib.hid (by rw [← HBX2.out, ← hal]; exact ub_all hnd hab2)
  have HSN := Lib.hid hsn
  have HSH := Lib.hid hsh
  have HML := Lib.hid hml
  have HAL := Lib.hid hal
  have HAB := Lib.hid hab
  have HND := Lib.hid hnd
  have HAB2 := Lib.hid hab2
  have hni : (n : Int) ≤ 4 := by omega
  have hmk := Lib.hid (fun W => make_ints n (by omega) W)
  have HN4 : Hid (N ≤ 4096) := Lib.hid (by rw [HN.out]; exact HT4.out)
  have iN : (N : Int) ≤ 4096 := by have := HN4.out; omega
  have H80 : Hid (∀ W, Below w.heap.size w W → Calls Tryz.prog 85 #[.slice p n c, .slice xq n cx] W fun e w' => ∃ g, e = .returned (.slice (some ⟨g, 0, none⟩) n n) ∧ w'.heap[g]? = some (.cells (ixC t0) 3 (0, 0)) ∧ Below W.heap.size W w' ∧ W.heap.size ≤ g) := Lib.hid (fun W hW => by
    rw [← HT0.out]
    exact (picked_any p xq c cx n n s0 ax W hn4 HSN hn4 HAL HAB (HP.out.below hW) (HXQ.out.below hW)).mono (fun e w' h => ⟨_, h.2.1, h.2.2, h.1, Nat.le_refl _⟩))
  clear hv hv2 hvs hsh hsn hml hal hab hnd hsa hab2 e0
  go_enter Tryz.func46, Tryz.ntmps46
  go_wp2_with fail
  rw [HW0.out, ← HA.out]
  refine (H21.out).mono ?_
  rintro e w1 ⟨hb1, rfl⟩
  have HB1 := Lib.hid hb1
  obtain ⟨hbw, x0, y1⟩ := HBX.out w1 hb1
  have HBk := Lib.hid hbw
  clear hb1 hbw
  have c0 : w1.cell? ⟨A, 0, none⟩ = some (.slice p n c) := by simp [World.cell?, x0]
  clear x0 y1
  go_wp2_with fail
  refine (H79.out _ HB1.out).mono ?_
  rintro e w2 ⟨hb2, rfl⟩
  have HB2 := Lib.hid (HB1.out.trans (hb2.mono HB1.out.size))
  clear hb2 HBk c0
  obtain ⟨hbw, x0, y1⟩ := HBX.out w2 HB2.out
  have HBk := Lib.hid hbw
  clear hbw
  have c0 : w2.cell? ⟨A, 0, none⟩ = some (.slice p n c) := by simp [World.cell?, x0]
  have HX2 := Lib.hid x0
  have HY2 := Lib.hid y1
  have HS2 : Hid (A + 1 + 1 ≤ w2.heap.size) := Lib.hid (by rw [← HS0.out]; exact HB2.out.size)
  clear x0 y1
  go_wp2_with fail
  refine (H80.out _ HBk.out).mono ?_
  rintro e w3 ⟨gc, rfl, hgc, hb3, hgc2⟩
  clear c0
  obtain ⟨G, HG⟩ : ∃ G, Hid (G = w3.heap.size) := ⟨_, Lib.hid rfl⟩
  obtain ⟨W5, HW5⟩ : ∃ W5, Hid (w3.alloc (.cells #[.slice (some ⟨gc, 0, none⟩) n n, .slice none 0 0] 25) = W5) := ⟨_, Lib.hid rfl⟩
  have hb25 : Below w3.heap.size w3 W5 := by rw [← HW5.out]; exact (Below.refl _ _).alloc (Nat.le_refl _) _
  have HX5 : Hid (W5.heap[G]? = some (.cells #[.slice (some ⟨gc, 0, none⟩) n n, .slice none 0 0] 25 (0, 0))) := Lib.hid (by rw [← HW5.out, HG.out]; exact World.alloc_heap_new _ _)
  have hgclt := (Array.getElem?_eq_some_iff.1 hgc).1
  have HAG : Hid (A + 1 < G ∧ w.heap.size ≤ G ∧ A + 1 < gc ∧ gc < G) := Lib.hid (by
    have h1 := HS2.out
    have h2 := hb3.size
    rw [HG.out]; have := HA.out; omega)
  have HB35 : Hid (Below w2.heap.size w2 W5) := Lib.hid (hb3.trans (hb25.mono hb3.size))
  have HX50 : Hid (W5.heap[A]? = some (.cells #[.slice p n c, .slice q m d] 25 (0, 0))) := Lib.hid ((HB35.out.block A (by have := HS2.out; omega)).trans HX2.out)
  have HY5 : Hid (W5.heap[A + 1]? = some (.cells #[.slice none 0 0, .slice none 0 0] 25 (0, 0))) := Lib.hid ((HB35.out.block (A + 1) (by have := HS2.out; omega)).trans HY2.out)
  have HGC5 : Hid (W5.heap[gc]? = some (.cells (ixC t0) 3 (0, 0))) := Lib.hid ((hb25.block gc hgclt).trans hgc)
  have HB5 : Hid (Below w.heap.size w W5) := Lib.hid (HBk.out.trans (HB35.out.mono HBk.out.size))
  have HXA : Hid (∀ W, W5.grownBy W (some G) → (W.cell? ⟨A, 0, none⟩ = some (.slice p n c) ∧ W.cell? ⟨A, 1, none⟩ = some (.slice q m d)) ∧ Below w.heap.size w W ∧ RdN W (some ⟨gc, 0, none⟩) t0) := Lib.hid (fun W hW => by
    have hag := HAG.out
    have h0 := (hW.block A (Array.getElem?_eq_some_iff.1 HX50.out).1 (by intro e; injection e with e; omega)).trans HX50.out
    have h1 := (hW.block gc (Array.getElem?_eq_some_iff.1 HGC5.out).1 (by intro e; injection e with e; omega)).trans HGC5.out
    exact ⟨⟨by simp [World.cell?, h0], by simp [World.cell?, h0]⟩, ⟨hW.os.trans HB5.out.os, hW.tape.trans HB5.out.tape, hW.output.trans HB5.out.output, Nat.le_trans HB5.out.size hW.size, fun j hj => (hW.block j (Nat.lt_of_lt_of_le hj HB5.out.size) (by intro e; injection e with e; omega)).trans (HB5.out.block j hj)⟩, rdn_row h1 (fun x hx => by have := HTB.out x hx; omega)⟩)
  have HCNT : Hid (∀ W, W5.grownBy W (some G) → Calls Tryz.prog 47 #[.slice (some ⟨gc, 0, none⟩) n n] W fun e w' => W = w' ∧ e = .returned (.int .i64 (N : Int))) := Lib.hid (fun W hW => by
    have := count_any (some ⟨gc, 0, none⟩) n t0 W (by rw [HTN.out]; exact hn4) HTB.out (HXA.out W hW).2.2
    rwa [HTN.out, ← HN.out] at this)
  clear hb3 hgc hgc2 hgclt hb25
  go_wp2_with fail
  rw [HW5.out, ← HG.out]
  go_loopw [7] (fun iv wr => ∃ i : Nat, i ≤ N ∧ iv = .int .i64 i ∧ Hid (OutI W5 G (.slice (some ⟨gc, 0, none⟩) n n) ((List.range i).map F) wr)) (fun iv _ => N - (Go.RowKit.intOf iv).toNat)
  case atStart => exact ⟨0, Nat.zero_le _, rfl, Lib.hid (OutI.start HX5.out)⟩
  case round =>
    obtain ⟨i, hi, rfl, HO⟩ := hrel
    have ii : (i : Int) ≤ (N : Int) := by omega
    have HBR := Lib.hid (HXA.out wr HO.out.old).2.1
    have HCW := Lib.hid (HCNT.out wr HO.out.old)
    obtain ⟨pv, cv, hx, hown, hge⟩ := HO.out.row
    rw [List.length_map, List.length_range] at hx hown hge
    have HXR := Lib.hid hx
    have HGE := Lib.hid hge
    have HOWN0 := Lib.hid hown
    have g0 : wr.cell? ⟨G, 0, none⟩ = some (.slice (some ⟨gc, 0, none⟩) n n) := by simp [World.cell?, hx]
    by_cases hlt : i < N
    · have ilt : (i : Int) < (N : Int) := by omega
      have HLT := Lib.hid hlt
      have HIP : Hid (i < prod t0) := Lib.hid (by rw [← HN.out]; exact hlt)
      obtain ⟨ix, HIX⟩ : ∃ ix, Hid (ixOf t0 i = ix) := ⟨_, Lib.hid rfl⟩
      have hixc := (ixOf_is t0 i HIP.out).1
      rw [HIX.out] at hixc
      have hti : IsIx s0 (pk ix bx) := by rw [← HPK.out]; exact pk_ix hixc (fun x hx => by rw [HTN.out]; exact HBB.out x hx)
      have HTI := Lib.hid hti
      have HIXL : Hid (ix.length = n) := Lib.hid (by rw [hixc.1, HTN.out])
      have HTHB : Hid (∀ x ∈ pk ix bx, (x : Int) ≤ 9223372036854775807) := Lib.hid (fun x hx => by
        obtain ⟨j, hj, e⟩ := List.getElem_of_mem hx
        have h1 := HTI.out.2 j (by rw [← HTI.out.1]; exact hj)
        have h2 := HSH.out.2.1 (s0.getD j 0) (by rw [List.getD_eq_getElem?_getD, List.getElem?_eq_getElem (by rw [← HTI.out.1]; exact hj)]; exact List.getElem_mem _)
        rw [List.getD_eq_getElem?_getD, List.getElem?_eq_getElem hj, Option.getD_some, e] at h1
        omega)
      obtain ⟨y, HY⟩ : ∃ y, Hid (y = plc s0 (pk ix bx) 0) := ⟨_, rfl⟩
      have hym : y < m := by
        have := (plc_lt s0 (pk ix bx) 0 hti).1
        rw [HY.out, HML.out]; simpa using this
      have hyi : (y : Int) < (m : Int) := by omega
      have HYM := Lib.hid hym
      obtain ⟨bq, oq, xs, eq1, hbq, -, HXS⟩ := HQ.out.at (k := y) (by rw [hl.out]; exact hym)
      have HYE : Hid (F i = xs) := Lib.hid (by rw [HF.out]; show l.getD (plc s0 (pk (ixOf t0 i) bx) 0) [] = xs; rw [HIX.out, ← HY.out, HXS.out])
      subst eq1
      have H63 : Hid (∀ W, Below wr.heap.size wr W → Calls Tryz.prog 66 #[.slice (some ⟨gc, 0, none⟩) n n, .int .i64 (i : Int)] W fun e w' => ∃ g, e = .returned (.slice (some ⟨g, 0, none⟩) n n) ∧ w'.heap[g]? = some (.cells (ixC ix) 3 (0, 0)) ∧ Below W.heap.size W w') := Lib.hid (fun W hW =>
        (rindex_any (some ⟨gc, 0, none⟩) n n i t0 W hn4 HTN HTB HIP HT4.out (HXA.out W (HO.out.old.trans (gb_of_below hW _))).2.2).mono (fun e w' h => ⟨_, h.1, by rw [← HIX.out]; exact h.2.1, h.2.2⟩))
      have H53 : Hid (∀ W g, Below wr.heap.size wr W → W.heap[g]? = some (.cells (ixC (pk ix bx)) 3 (0, 0)) → Calls Tryz.prog 56 #[.slice p n c, .slice (some ⟨g, 0, none⟩) n n] W fun e w' => e = .returned (.int .i64 (y : Int)) ∧ Below W.heap.size W w') := Lib.hid (fun W g hW hg => by
        refine (rplace_any p (some ⟨g, 0, none⟩) c n n s0 (pk ix bx) W hn4 HSN (Lib.hid (by rw [HTI.out.1, HSN.out])) HTI.out HSH.out.2.2 (HP.out.below (HXA.out W (HO.out.old.trans (gb_of_below hW _))).2.1) (rdn_row hg HTHB.out)).mono (fun e w' h => ⟨by rw [h.2, ← HY.out], ?_⟩)
        obtain ⟨j, rfl⟩ := h.1
        exact ⟨rfl, rfl, rfl, Nat.le_refl _, fun _ _ => rfl⟩)
      have HSO : Hid (∀ W, W5.grownBy W (some G) → W.cell? ⟨G, 0, none⟩ = some (.slice (some ⟨gc, 0, none⟩) n n) → (fun W => W.cell? ⟨A, 0, none⟩ = some (.slice p n c) ∧ W.cell? ⟨A, 1, none⟩ = some (.slice (some ⟨bq, oq, none⟩) m d) ∧ W.cell? ⟨bq, oq + y, none⟩ = some (.string ⟨List.toArray xs⟩)) W) := Lib.hid (fun W hW _ => by
        obtain ⟨⟨h0, h1⟩, h2, -⟩ := HXA.out W hW
        obtain ⟨b', o', x', e', -, hc, hx'⟩ := (HQ.out.below h2).at (k := y) (by rw [hl.out]; exact HYM.out)
        cases e'
        rw [hx'.out, ← HXS.out] at hc
        exact ⟨h0, h1, hc⟩)
      have HSB : ∀ {W}, Below wr.heap.size wr W → (fun W => W.cell? ⟨A, 0, none⟩ = some (.slice p n c) ∧ W.cell? ⟨A, 1, none⟩ = some (.slice (some ⟨bq, oq, none⟩) m d) ∧ W.cell? ⟨bq, oq + y, none⟩ = some (.string ⟨List.toArray xs⟩)) W := fun {W} hW => HSO.out W (HO.out.old.trans (gb_of_below hW _)) ((HO.out.next hW).box0)
      have HG1 : Hid (∀ W, Below wr.heap.size wr W → W.cell? ⟨G, 1, none⟩ = some (.slice pv i cv)) := Lib.hid (fun W hW => by
        have := (hW.block G (Array.getElem?_eq_some_iff.1 HXR.out).1).trans HXR.out
        simp [World.cell?, this])
      have HOWN : Hid (∀ W, Below wr.heap.size wr W → W.ownsRow W5.heap.size 9 1 (.slice pv i cv) i (strs ((List.range i).map F))) := Lib.hid (fun W hW => by
        have := HOWN0.out.kept (gb_of_below hW none) (by cases pv <;> simp [Value.ownBlock])
        obtain ⟨h1, ⟨e, e2⟩ | ⟨g, cap, cur, e, h3, h4⟩⟩ := this
        · exact ⟨h1, .inl ⟨e, e2⟩⟩
        · exact ⟨h1, .inr ⟨g, cap, cur, e, HGE.out g (by rw [e]; rfl), h4⟩⟩)
      have HU5 : Hid (∀ W, Below wr.heap.size wr W → W5.heap.size ≤ W.heap.size) := Lib.hid (fun W hW => Nat.le_trans HO.out.old.size hW.size)
      have hi2 : i ≤ 100000 := by have := HN4.out; omega
      clear hx hown hge hti hixc hym hbq
      go_wp2_with fail
      refine (HCW.out).mono ?_
      rintro e w3' ⟨rfl, rfl⟩
      go_wp2_with fail
      refine (H63.out _ (Below.refl _ _)).mono ?_
      rintro e w4 ⟨gI, rfl, hrI, hb4⟩
      obtain ⟨K, HK⟩ : ∃ K, Hid (K = w4.heap.size) := ⟨_, Lib.hid rfl⟩
      obtain ⟨V4, HV4⟩ : ∃ V4, Hid (w4.alloc (.cells (ixC (zn n)) 3) = V4) := ⟨_, Lib.hid rfl⟩
      have hb5 : Below w4.heap.size w4 V4 := by rw [← HV4.out]; exact (Below.refl _ _).alloc (Nat.le_refl _) _
      have HBV : Hid (Below wr.heap.size wr V4) := Lib.hid (hb4.trans (hb5.mono hb4.size))
      have HIK : Hid (gI < K ∧ wr.heap.size ≤ K) := Lib.hid ⟨by rw [HK.out]; exact (Array.getElem?_eq_some_iff.1 hrI).1, by rw [HK.out]; exact hb4.size⟩
      have HVI : Hid (V4.heap[gI]? = some (.cells (ixC ix) 3 (0, 0))) := Lib.hid ((hb5.block gI (Array.getElem?_eq_some_iff.1 hrI).1).trans hrI)
      have HVF : Hid (V4.heap[K]? = some (.cells (ixC (ub ax ix 0)) 3 (0, 0))) := Lib.hid (by rw [ub_zero, HAL.out, ← HV4.out, HK.out]; exact World.alloc_heap_new _ _)
      clear hrI hb4 hb5 g0
      have hmk2 := hmk.out
      go_wp2_with fail
      rw [HV4.out, ← HK.out]
      clear hmk2
      obtain ⟨wo, hwo⟩ : ∃ wo, wo = wr := ⟨_, rfl⟩
      subst hwo
      go_loopw [10] (fun jv wq => ∃ j : Nat, j ≤ n ∧ jv = .int .i64 j ∧ Hid (Below wo.heap.size wo wq) ∧ Hid (wq.heap[gI]? = some (.cells (ixC ix) 3 (0, 0))) ∧ Hid (wq.heap[K]? = some (.cells (ixC (ub ax ix j)) 3 (0, 0)))) (fun jv _ => n - (Go.RowKit.intOf jv).toNat)
      case atStart => exact ⟨0, Nat.zero_le _, rfl, HBV, HVI, HVF⟩
      case round =>
        obtain ⟨wq, hwq⟩ : ∃ wq, wq = wr := ⟨_, rfl⟩
        subst hwq
        obtain ⟨wr, hwr⟩ : ∃ wr, wr = wo := ⟨_, rfl⟩
        subst hwr
        obtain ⟨j, hj, rfl, HBJ, HIJ, HFJ⟩ := hrel
        have ij : (j : Int) ≤ (n : Int) := by omega
        by_cases hjl : j < n
        · have jlt : (j : Int) < (n : Int) := by omega
          have hja : j < ax.length := by rw [HAL.out]; exact hjl
          obtain ⟨b1, o1, a, e1, hb1, hc1, HAX⟩ := RdN.at (w := wq) (l := ax) (HXQ.out.below ((HXA.out wq (HO.out.old.trans (gb_of_below HBJ.out _))).2.1)) hja
          have ham : a ∈ ax := by rw [HAX.out, List.getD_eq_getElem?_getD, List.getElem?_eq_getElem hja]; exact List.getElem_mem _
          have han : a < n := HAB.out _ ham
          have ian : (a : Int) < (n : Int) := by omega
          have hbw : b1 < w.heap.size := by
            obtain ⟨b', o', x', e', hb', -⟩ := RdN.at (w := w) (l := ax) HXQ.out hja
            rw [e1] at e'; cases e'; exact hb'
          subst e1
          obtain ⟨v, HV⟩ : ∃ v, Hid (v = ix.getD j 0) := ⟨_, rfl⟩
          have hnk : b1 ≠ K := by have h1 := HIK.out.2; have h2 := HBR.out.size; omega
          have HALL : Hid (∀ W, wq.grownBy W (some K) → W.cell? ⟨b1, o1 + j, none⟩ = some (.int .i64 (a : Int)) ∧ W.cell? ⟨gI, j, none⟩ = some (.int .i64 (v : Int))) := Lib.hid (fun W hW => by
            have k1 := hW.block b1 hb1 (by intro e; injection e with e; exact hnk e)
            have k2 := (hW.block gI (Array.getElem?_eq_some_iff.1 HIJ.out).1 (by intro e; injection e with e; have := HIK.out.1; omega)).trans HIJ.out
            exact ⟨(World.cell?_of_block (a := ⟨b1, o1 + j, none⟩) k1).trans hc1, by rw [HV.out]; exact cell_row k2 (by rw [HIXL.out]; exact hjl)⟩)
          have hRd : wq.drew.heap[K]? = some (.cells (ixC (ub ax ix j)) 3 (0, 0)) := HFJ.out
          have hcr : wq.drew.cell? ⟨K, a, none⟩ = some (.int .i64 (((ub ax ix j).getD a 0 : Nat) : Int)) := cell_row hRd (by rw [ub_len, HAL.out]; exact han)
          have hfr : wq.drew.frozen? ⟨K, a, none⟩ = false := free_row hRd
          obtain ⟨V5, hV5⟩ : ∃ V5, (wq.setCell ⟨K, a, none⟩ (.int .i64 (v : Int))).drew = V5 := ⟨_, rfl⟩
          have hg5 : wq.drew.grownBy V5 (some K) := by rw [← hV5]; exact gb_set wq.drew _ _ _
          have hgd : wq.grownBy wq.drew (some K) := ⟨rfl, rfl, rfl, Nat.le_refl _, fun _ _ _ => rfl⟩
          have HS5 := Lib.hid (HALL.out _ (hgd.trans hg5))
          have HS1 := Lib.hid (HALL.out _ hgd)
          have HB6 : Hid (Below wr.heap.size wr V5) := Lib.hid (by
            rw [← hV5]
            exact (HBJ.out.setCell (p := ⟨K, a, none⟩) HIK.out.2 _).trans ⟨rfl, rfl, rfl, Nat.le_refl _, fun _ _ => rfl⟩)
          have HI6 : Hid (V5.heap[gI]? = some (.cells (ixC ix) 3 (0, 0))) := Lib.hid (((hgd.trans hg5).block gI (Array.getElem?_eq_some_iff.1 HIJ.out).1 (by intro e; injection e with e; have := HIK.out.1; omega)).trans HIJ.out)
          have HF6 : Hid (V5.heap[K]? = some (.cells (ixC (ub ax ix (j + 1))) 3 (0, 0))) := Lib.hid (by
            have h := heap_set wq.drew K a (.int .i64 (v : Int)) _ _ hRd
            change ((wq.setCell ⟨K, a, none⟩ (.int .i64 (v : Int))).drew).heap[K]? = _ at h
            rw [hV5, ixC_put, HV.out] at h
            rw [← ub_succ HND.out HAB2.out hja, ← HAX.out]
            exact h)
          clear hRd hg5 hgd hc1 hb1 hbw hnk ham
          go_wp2_with fail
          refine wp_region_noPanic ?_
          refine wp_region_held_drew (S := fun W => W.cell? ⟨b1, o1 + j, none⟩ = some (.int .i64 (a : Int)) ∧ W.cell? ⟨gI, j, none⟩ = some (.int .i64 (v : Int))) (by kernel_rfl) HS1.out (fun hHeld => ?_)
          refine wpAnyH_take (i := 0) (v := ?v1) rfl (by kernel_rfl) (by kernel_rfl) (by kernel_rfl) (fun _ _ _ h => h) (Or.inl ⟨by rfl, ?hy1⟩) (by assumption) ?rest1
          case hy1 =>
            intro W' hSw
            obtain ⟨e0, e1⟩ := hSw
            go_simp
            with_reducible rfl
          simp only [List.getElem_toArray, List.getElem_cons_zero, Act.put, List.setIfInBounds_toArray, List.set_cons_zero, List.set_cons_succ]
          refine wpAnyH_take (i := 1) (v := ?v2) rfl (by kernel_rfl) (by kernel_rfl) (by kernel_rfl) (fun _ _ _ h => h) (Or.inl ⟨by rfl, ?hy2⟩) (by assumption) ?rest2
          case hy2 =>
            intro W' hSw
            obtain ⟨e0, e1⟩ := hSw
            go_simp
            with_reducible rfl
          simp only [List.getElem_toArray, List.getElem_cons_zero, List.getElem_cons_succ, Act.put, List.setIfInBounds_toArray, List.set_cons_zero, List.set_cons_succ]
          refine wpAnyH_take (i := 2) (v := ?v3) rfl (by kernel_rfl) (by kernel_rfl) (by kernel_rfl) (fun _ _ _ h => h) (Or.inl ⟨by rfl, ?hy3⟩) (by assumption) ?rest3
          case hy3 =>
            intro W' hSw
            obtain ⟨e0, e1⟩ := hSw
            go_simp
            with_reducible rfl
          simp only [List.getElem_toArray, List.getElem_cons_zero, List.getElem_cons_succ, Act.put, List.setIfInBounds_toArray, List.set_cons_zero, List.set_cons_succ]
          refine wpAnyH_take (i := 3) (v := ?v4) rfl (by kernel_rfl) (by kernel_rfl) (by kernel_rfl) (fun _ _ _ h => h) (Or.inl ⟨by rfl, ?hy4⟩) (by assumption) ?rest4
          case hy4 =>
            intro W' hSw
            obtain ⟨e0, e1⟩ := hSw
            go_simp
            with_reducible rfl
          simp only [List.getElem_toArray, List.getElem_cons_zero, List.getElem_cons_succ, Act.put, List.setIfInBounds_toArray, List.set_cons_zero, List.set_cons_succ]
          refine wpAnyH_take (i := 4) (v := ?v5) rfl (by kernel_rfl) (by kernel_rfl) (by kernel_rfl) (fun _ _ _ h => h) (Or.inl ⟨by rfl, ?hy5⟩) (by assumption) ?rest5
          case hy5 =>
            intro W' hSw
            obtain ⟨e0, e1⟩ := hSw
            go_simp
            with_reducible rfl
          simp only [List.getElem_toArray, List.getElem_cons_zero, List.getElem_cons_succ, Act.put, List.setIfInBounds_toArray, List.set_cons_zero, List.set_cons_succ]
          refine wpAnyH_take (i := 5) (v := ?v6) rfl (by kernel_rfl) (by kernel_rfl) (by kernel_rfl) (fun _ _ _ h => h) (Or.inl ⟨by rfl, ?hy6⟩) (by assumption) ?rest6
          case hy6 =>
            intro W' hSw
            obtain ⟨e0, e1⟩ := hSw
            go_simp
            with_reducible rfl
          simp only [List.getElem_toArray, List.getElem_cons_zero, List.getElem_cons_succ, Act.put, List.setIfInBounds_toArray, List.set_cons_zero, List.set_cons_succ]
          refine wpAnyH_take (i := 6) (v := ?v7) rfl (by kernel_rfl) (by kernel_rfl) (by kernel_rfl) (fun _ _ _ h => h) (Or.inl ⟨by rfl, ?hy7⟩) (by assumption) ?rest7
          case hy7 =>
            intro W' hSw
            obtain ⟨e0, e1⟩ := hSw
            go_simp
            with_reducible rfl
          simp only [List.getElem_toArray, List.getElem_cons_zero, List.getElem_cons_succ, Act.put, List.setIfInBounds_toArray, List.set_cons_zero, List.set_cons_succ]
          refine wpAnyH_take (i := 7) (v := ?v8) rfl (by kernel_rfl) (by kernel_rfl) (by kernel_rfl) (fun _ _ _ h => h) (Or.inl ⟨by rfl, ?hy8⟩) (by assumption) ?rest8
          case hy8 =>
            intro W' hSw
            obtain ⟨e0, e1⟩ := hSw
            go_simp
            with_reducible rfl
          simp only [List.getElem_toArray, List.getElem_cons_zero, List.getElem_cons_succ, Act.put, List.setIfInBounds_toArray, List.set_cons_zero, List.set_cons_succ]
          refine wpAnyH_take (i := 8) (v := ?v9) rfl (by kernel_rfl) (by kernel_rfl) (by kernel_rfl) (fun _ _ _ h => h) (Or.inl ⟨by rfl, ?hy9⟩) (by assumption) ?rest9
          case hy9 =>
            intro W' hSw
            obtain ⟨e0, e1⟩ := hSw
            go_simp
            with_reducible rfl
          simp only [List.getElem_toArray, List.getElem_cons_zero, List.getElem_cons_succ, Act.put, List.setIfInBounds_toArray, List.set_cons_zero, List.set_cons_succ]
          refine wpAnyH_take (i := 9) (v := ?v10) rfl (by kernel_rfl) (by kernel_rfl) (by kernel_rfl) (fun _ _ _ h => h) (Or.inl ⟨by rfl, ?hy10⟩) (by assumption) ?rest10
          case hy10 =>
            intro W' hSw
            obtain ⟨e0, e1⟩ := hSw
            go_simp
            with_reducible rfl
          simp only [List.getElem_toArray, List.getElem_cons_zero, List.getElem_cons_succ, Act.put, List.setIfInBounds_toArray, List.set_cons_zero, List.set_cons_succ]
          refine wpAnyH_ready (rs := [10]) (by kernel_rfl) (by simp) ?_
          refine AllReadyH.cons (i := 10) rfl (fun K' hK => ?_) AllReadyH.nil
          go_simp
          try rw [hV5]
          refine hK.out _ _ HS5.out (fun hHeld3 => ?_)
          clear hK K'
          refine wpAnyH_done (by kernel_rfl) ?_ _
          refine NoPanic.normal ?_
          clear hHeld hHeld3
          go_wp2_with fail
          go_roundw
          case rel => exact ⟨j + 1, by omega, by go_num, HB6, HI6, HF6⟩
          case measure => simp [Go.RowKit.intOf]; omega
        · obtain rfl : j = n := by omega
          have jlt : ¬ (j : Int) < (j : Int) := by omega
          obtain ⟨wd, hwd⟩ : ∃ wd, wq.drew = wd := ⟨_, rfl⟩
          have HBwd : Hid (Below wr.heap.size wr wd) := Lib.hid (by rw [← hwd]; exact HBJ.out.trans ⟨rfl, rfl, rfl, Nat.le_refl _, fun _ _ => rfl⟩)
          have HRT : Hid (wd.heap[K]? = some (.cells (ixC (pk ix bx)) 3 (0, 0))) := Lib.hid (by rw [← hwd, ← (HUA ix).out]; exact HFJ.out)
          go_wp2_with fail
          refine wp_region_noPanic ?_
          refine wp_region_held_drew (S := fun W => W.cell? ⟨A, 0, none⟩ = some (.slice p j c) ∧ W.cell? ⟨A, 1, none⟩ = some (.slice (some ⟨bq, oq, none⟩) m d) ∧ W.cell? ⟨bq, oq + y, none⟩ = some (.string ⟨List.toArray xs⟩)) (by kernel_rfl) (HSB (by rw [hwd]; exact HBwd.out)) (fun hHeld => ?_)
          rw [hwd] at hHeld ⊢
          refine wpAnyH_take (i := 0) (v := ?v11) rfl (by kernel_rfl) (by kernel_rfl) (by kernel_rfl) (fun _ _ _ h => h) (Or.inl ⟨by rfl, ?hy11⟩) (by assumption) ?rest11
          case hy11 =>
            intro W' hSw
            obtain ⟨e0, e1, e2⟩ := hSw
            go_simp
            with_reducible rfl
          simp only [List.getElem_toArray, List.getElem_cons_zero, Act.put, List.setIfInBounds_toArray, List.set_cons_zero, List.set_cons_succ]
          refine wpAnyH_take (i := 2) (v := ?v12) rfl (by kernel_rfl) (by kernel_rfl) (by kernel_rfl) (fun _ _ _ h => h) (Or.inl ⟨by rfl, ?hy12⟩) (by assumption) ?rest12
          case hy12 =>
            intro W' hSw
            obtain ⟨e0, e1, e2⟩ := hSw
            go_simp
            with_reducible rfl
          simp only [List.getElem_toArray, List.getElem_cons_zero, List.getElem_cons_succ, Act.put, List.setIfInBounds_toArray, List.set_cons_zero, List.set_cons_succ]
          refine wpAnyH_take (i := 3) (v := ?v13) rfl (by kernel_rfl) (by kernel_rfl) (by kernel_rfl) (fun _ _ _ h => h) (Or.inl ⟨by rfl, ?hy13⟩) (by assumption) ?rest13
          case hy13 =>
            intro W' hSw
            obtain ⟨e0, e1, e2⟩ := hSw
            go_simp
            with_reducible rfl
          simp only [List.getElem_toArray, List.getElem_cons_zero, List.getElem_cons_succ, Act.put, List.setIfInBounds_toArray, List.set_cons_zero, List.set_cons_succ]
          refine wpAnyH_take (i := 4) (v := ?v14) rfl (by kernel_rfl) (by kernel_rfl) (by kernel_rfl) (fun _ _ _ h => h) (Or.inl ⟨by rfl, ?hy14⟩) (by assumption) ?rest14
          case hy14 =>
            intro W' hSw
            obtain ⟨e0, e1, e2⟩ := hSw
            go_simp
            with_reducible rfl
          simp only [List.getElem_toArray, List.getElem_cons_zero, List.getElem_cons_succ, Act.put, List.setIfInBounds_toArray, List.set_cons_zero, List.set_cons_succ]
          refine wpAnyH_take (i := 5) (v := ?v15) rfl (by kernel_rfl) (by kernel_rfl) (by kernel_rfl) (fun _ _ _ h => h) (Or.inl ⟨by rfl, ?hy15⟩) (by assumption) ?rest15
          case hy15 =>
            intro W' hSw
            obtain ⟨e0, e1, e2⟩ := hSw
            go_simp
            with_reducible rfl
          simp only [List.getElem_toArray, List.getElem_cons_zero, List.getElem_cons_succ, Act.put, List.setIfInBounds_toArray, List.set_cons_zero, List.set_cons_succ]
          refine wpAnyH_take (i := 6) (v := ?v16) rfl (by kernel_rfl) (by kernel_rfl) (by kernel_rfl) (fun _ _ _ h => h) (Or.inl ⟨by rfl, ?hy16⟩) (by assumption) ?rest16
          case hy16 =>
            intro W' hSw
            obtain ⟨e0, e1, e2⟩ := hSw
            go_simp
            with_reducible rfl
          simp only [List.getElem_toArray, List.getElem_cons_zero, List.getElem_cons_succ, Act.put, List.setIfInBounds_toArray, List.set_cons_zero, List.set_cons_succ]
          refine wpAnyH_ready (rs := [1, 7]) (by kernel_rfl) (by simp) ?_
          refine AllReadyH.cons (i := 1) rfl (fun K hK => ?_) (AllReadyH.cons (i := 7) rfl (fun K hK => ?_) AllReadyH.nil)
          · have g1 : (wd).cell? ⟨G, 1, none⟩ = some (.slice pv i cv) := HG1.out _ HBwd.out
            go_simp
            refine hK.out _ _ (HSB HBwd.out) (fun hHeld => ?_)
            clear hK K
            refine wpAnyH_ready (rs := [7]) (by kernel_rfl) (by simp) ?_
            refine AllReadyH.cons (i := 7) rfl (fun K hK => ?_) AllReadyH.nil
            go_simp
            refine (H53.out _ _ HBwd.out HRT.out).mono ?_
            rintro e v2 ⟨rfl, hb⟩
            have HBv2 : Hid (Below wr.heap.size wr v2) := Lib.hid (HBwd.out.trans (hb.mono HBwd.out.size))
            clear hb
            refine hK.out _ _ (HSB HBv2.out) (fun hHeld => ?_)
            clear hK K
            refine wpAnyH_take (i := 8) (v := ?v17) rfl (by kernel_rfl) (by kernel_rfl) (by kernel_rfl) (fun _ _ _ h => h) (Or.inl ⟨by rfl, ?hy17⟩) (by assumption) ?rest17
            case hy17 =>
              intro W' hSw
              obtain ⟨e0, e1, e2⟩ := hSw
              go_simp
              with_reducible rfl
            simp only [List.getElem_toArray, List.getElem_cons_zero, List.getElem_cons_succ, Act.put, List.setIfInBounds_toArray, List.set_cons_zero, List.set_cons_succ]
            refine wpAnyH_take (i := 9) (v := ?v18) rfl (by kernel_rfl) (by kernel_rfl) (by kernel_rfl) (fun _ _ _ h => h) (Or.inl ⟨by rfl, ?hy18⟩) (by assumption) ?rest18
            case hy18 =>
              intro W' hSw
              obtain ⟨e0, e1, e2⟩ := hSw
              go_simp
              with_reducible rfl
            simp only [List.getElem_toArray, List.getElem_cons_zero, List.getElem_cons_succ, Act.put, List.setIfInBounds_toArray, List.set_cons_zero, List.set_cons_succ]
            refine wpAnyH_ready (rs := [10]) (by kernel_rfl) (by simp) ?_
            refine AllReadyH.cons (i := 10) rfl (fun K hK => ?_) AllReadyH.nil
            obtain ⟨v3, HUv3⟩ : ∃ U, Hid ((v2).alloc (.cells #[.string ⟨List.toArray xs⟩] 9) = U) := ⟨_, Lib.hid rfl⟩
            obtain ⟨gU, HgU⟩ : ∃ g, Hid (g = (v2).heap.size) := ⟨_, Lib.hid rfl⟩
            have HBv3 : Hid (Below wr.heap.size wr v3) := Lib.hid (by rw [← HUv3.out]; exact HBv2.out.alloc HBv2.out.size _)
            have HUC : Hid (v3.cell? ⟨gU, 0, none⟩ = some (.string ⟨List.toArray xs⟩)) := Lib.hid (by
              rw [← HUv3.out, HgU.out]; have := World.alloc_heap_new (v2) (.cells #[.string ⟨List.toArray xs⟩] 9); unfold World.cell?; simp only [this]; rfl)
            go_simp
            try rw [HUv3.out]
            try rw [← HgU.out]
            refine hK.out _ _ (HSB HBv3.out) (fun hHeld => ?_)
            clear hK K
            refine wpAnyH_ready (rs := [11]) (by kernel_rfl) (by simp) ?_
            refine AllReadyH.cons (i := 11) rfl (fun K hK => ?_) AllReadyH.nil
            rw [if_pos (by rfl)]
            have HOU := Lib.hid (HOWN.out _ HBv3.out)
            refine op_append_1s (.tmp 61) (.tmp 70) rfl W5.heap.size pv cv i ((List.range i).map F) rfl HOU.out gU xs rfl HUC.out hi2 (HU5.out _ HBv3.out) ?_
            intro gv cv' w9 hown9 hg9
            obtain ⟨hst, hG9⟩ := HO.out.step (by simp) HXR.out HGE.out HBv3.out hown9 hg9
            have hold9 := hst.of_set
            have hstep : (List.range i).map F ++ [xs] = (List.range (i + 1)).map F := by rw [List.range_succ, List.map_append, List.map_singleton, HYE.out]
            rw [hstep] at hst
            have HST := Lib.hid hst
            have k1 : w9.cell? ⟨G, 1, none⟩ = some (.slice pv i cv) := by simp [World.cell?, hG9]
            have z1 : w9.frozen? ⟨G, 1, none⟩ = false := by simp [World.frozen?, hG9]
            have HS9 := Lib.hid (HSO.out _ hold9 (by simp [World.cell?, hG9]))
            have HS10 := Lib.hid (HSO.out _ HST.out.old (HST.out.box0))
            clear hst hG9 hown9 hg9 hstep hold9
            refine hK.out _ _ HS9.out (fun hHeld => ?_)
            clear hK K
            refine wpAnyH_take (i := 12) (v := ?v19) rfl (by kernel_rfl) (by kernel_rfl) (by kernel_rfl) (fun _ _ _ h => h) (Or.inl ⟨by rfl, ?hy19⟩) (by assumption) ?rest19
            case hy19 =>
              intro W' hSw
              obtain ⟨e0, e1, e2⟩ := hSw
              go_simp
              with_reducible rfl
            simp only [List.getElem_toArray, List.getElem_cons_zero, List.getElem_cons_succ, Act.put, List.setIfInBounds_toArray, List.set_cons_zero, List.set_cons_succ]
            refine wpAnyH_ready (rs := [13]) (by kernel_rfl) (by simp) ?_
            refine AllReadyH.cons (i := 13) rfl (fun K hK => ?_) AllReadyH.nil
            go_simp
            refine hK.out _ _ HS10.out (fun hHeld => ?_)
            clear hK K
            refine wpAnyH_done (by kernel_rfl) ?_ _
            refine NoPanic.normal ?_
            clear hHeld
            go_wp2_with fail
            go_roundw
            case rel => exact ⟨i + 1, by omega, by go_num, HST⟩
            case measure => simp [Go.RowKit.intOf]; omega
          · go_simp
            refine (H53.out _ _ HBwd.out HRT.out).mono ?_
            rintro e v1 ⟨rfl, hb⟩
            have HBv1 : Hid (Below wr.heap.size wr v1) := Lib.hid (HBwd.out.trans (hb.mono HBwd.out.size))
            clear hb
            refine hK.out _ _ (HSB HBv1.out) (fun hHeld => ?_)
            clear hK K
            refine wpAnyH_take (i := 8) (v := ?v20) rfl (by kernel_rfl) (by kernel_rfl) (by kernel_rfl) (fun _ _ _ h => h) (Or.inl ⟨by rfl, ?hy20⟩) (by assumption) ?rest20
            case hy20 =>
              intro W' hSw
              obtain ⟨e0, e1, e2⟩ := hSw
              go_simp
              with_reducible rfl
            simp only [List.getElem_toArray, List.getElem_cons_zero, List.getElem_cons_succ, Act.put, List.setIfInBounds_toArray, List.set_cons_zero, List.set_cons_succ]
            refine wpAnyH_take (i := 9) (v := ?v21) rfl (by kernel_rfl) (by kernel_rfl) (by kernel_rfl) (fun _ _ _ h => h) (Or.inl ⟨by rfl, ?hy21⟩) (by assumption) ?rest21
            case hy21 =>
              intro W' hSw
              obtain ⟨e0, e1, e2⟩ := hSw
              go_simp
              with_reducible rfl
            simp only [List.getElem_toArray, List.getElem_cons_zero, List.getElem_cons_succ, Act.put, List.setIfInBounds_toArray, List.set_cons_zero, List.set_cons_succ]
            refine wpAnyH_ready (rs := [1, 10]) (by kernel_rfl) (by simp) ?_
            refine AllReadyH.cons (i := 1) rfl (fun K hK => ?_) (AllReadyH.cons (i := 10) rfl (fun K hK => ?_) AllReadyH.nil)
            · have g1 : (v1).cell? ⟨G, 1, none⟩ = some (.slice pv i cv) := HG1.out _ HBv1.out
              go_simp
              refine hK.out _ _ (HSB HBv1.out) (fun hHeld => ?_)
              clear hK K
              refine wpAnyH_ready (rs := [10]) (by kernel_rfl) (by simp) ?_
              refine AllReadyH.cons (i := 10) rfl (fun K hK => ?_) AllReadyH.nil
              obtain ⟨v5, HUv5⟩ : ∃ U, Hid ((v1).alloc (.cells #[.string ⟨List.toArray xs⟩] 9) = U) := ⟨_, Lib.hid rfl⟩
              obtain ⟨gU, HgU⟩ : ∃ g, Hid (g = (v1).heap.size) := ⟨_, Lib.hid rfl⟩
              have HBv5 : Hid (Below wr.heap.size wr v5) := Lib.hid (by rw [← HUv5.out]; exact HBv1.out.alloc HBv1.out.size _)
              have HUC : Hid (v5.cell? ⟨gU, 0, none⟩ = some (.string ⟨List.toArray xs⟩)) := Lib.hid (by
                rw [← HUv5.out, HgU.out]; have := World.alloc_heap_new (v1) (.cells #[.string ⟨List.toArray xs⟩] 9); unfold World.cell?; simp only [this]; rfl)
              go_simp
              try rw [HUv5.out]
              try rw [← HgU.out]
              refine hK.out _ _ (HSB HBv5.out) (fun hHeld => ?_)
              clear hK K
              refine wpAnyH_ready (rs := [11]) (by kernel_rfl) (by simp) ?_
              refine AllReadyH.cons (i := 11) rfl (fun K hK => ?_) AllReadyH.nil
              rw [if_pos (by rfl)]
              have HOU := Lib.hid (HOWN.out _ HBv5.out)
              refine op_append_1s (.tmp 61) (.tmp 70) rfl W5.heap.size pv cv i ((List.range i).map F) rfl HOU.out gU xs rfl HUC.out hi2 (HU5.out _ HBv5.out) ?_
              intro gv cv' w9 hown9 hg9
              obtain ⟨hst, hG9⟩ := HO.out.step (by simp) HXR.out HGE.out HBv5.out hown9 hg9
              have hold9 := hst.of_set
              have hstep : (List.range i).map F ++ [xs] = (List.range (i + 1)).map F := by rw [List.range_succ, List.map_append, List.map_singleton, HYE.out]
              rw [hstep] at hst
              have HST := Lib.hid hst
              have k1 : w9.cell? ⟨G, 1, none⟩ = some (.slice pv i cv) := by simp [World.cell?, hG9]
              have z1 : w9.frozen? ⟨G, 1, none⟩ = false := by simp [World.frozen?, hG9]
              have HS9 := Lib.hid (HSO.out _ hold9 (by simp [World.cell?, hG9]))
              have HS10 := Lib.hid (HSO.out _ HST.out.old (HST.out.box0))
              clear hst hG9 hown9 hg9 hstep hold9
              refine hK.out _ _ HS9.out (fun hHeld => ?_)
              clear hK K
              refine wpAnyH_take (i := 12) (v := ?v22) rfl (by kernel_rfl) (by kernel_rfl) (by kernel_rfl) (fun _ _ _ h => h) (Or.inl ⟨by rfl, ?hy22⟩) (by assumption) ?rest22
              case hy22 =>
                intro W' hSw
                obtain ⟨e0, e1, e2⟩ := hSw
                go_simp
                with_reducible rfl
              simp only [List.getElem_toArray, List.getElem_cons_zero, List.getElem_cons_succ, Act.put, List.setIfInBounds_toArray, List.set_cons_zero, List.set_cons_succ]
              refine wpAnyH_ready (rs := [13]) (by kernel_rfl) (by simp) ?_
              refine AllReadyH.cons (i := 13) rfl (fun K hK => ?_) AllReadyH.nil
              go_simp
              refine hK.out _ _ HS10.out (fun hHeld => ?_)
              clear hK K
              refine wpAnyH_done (by kernel_rfl) ?_ _
              refine NoPanic.normal ?_
              clear hHeld
              go_wp2_with fail
              go_roundw
              case rel => exact ⟨i + 1, by omega, by go_num, HST⟩
              case measure => simp [Go.RowKit.intOf]; omega
            · obtain ⟨v4, HUv4⟩ : ∃ U, Hid ((v1).alloc (.cells #[.string ⟨List.toArray xs⟩] 9) = U) := ⟨_, Lib.hid rfl⟩
              obtain ⟨gU, HgU⟩ : ∃ g, Hid (g = (v1).heap.size) := ⟨_, Lib.hid rfl⟩
              have HBv4 : Hid (Below wr.heap.size wr v4) := Lib.hid (by rw [← HUv4.out]; exact HBv1.out.alloc HBv1.out.size _)
              have HUC : Hid (v4.cell? ⟨gU, 0, none⟩ = some (.string ⟨List.toArray xs⟩)) := Lib.hid (by
                rw [← HUv4.out, HgU.out]; have := World.alloc_heap_new (v1) (.cells #[.string ⟨List.toArray xs⟩] 9); unfold World.cell?; simp only [this]; rfl)
              go_simp
              try rw [HUv4.out]
              try rw [← HgU.out]
              refine hK.out _ _ (HSB HBv4.out) (fun hHeld => ?_)
              clear hK K
              refine wpAnyH_ready (rs := [1]) (by kernel_rfl) (by simp) ?_
              refine AllReadyH.cons (i := 1) rfl (fun K hK => ?_) AllReadyH.nil
              have g1 : (v4).cell? ⟨G, 1, none⟩ = some (.slice pv i cv) := HG1.out _ HBv4.out
              go_simp
              refine hK.out _ _ (HSB HBv4.out) (fun hHeld => ?_)
              clear hK K
              refine wpAnyH_ready (rs := [11]) (by kernel_rfl) (by simp) ?_
              refine AllReadyH.cons (i := 11) rfl (fun K hK => ?_) AllReadyH.nil
              rw [if_pos (by rfl)]
              have HOU := Lib.hid (HOWN.out _ HBv4.out)
              refine op_append_1s (.tmp 61) (.tmp 70) rfl W5.heap.size pv cv i ((List.range i).map F) rfl HOU.out gU xs rfl HUC.out hi2 (HU5.out _ HBv4.out) ?_
              intro gv cv' w9 hown9 hg9
              obtain ⟨hst, hG9⟩ := HO.out.step (by simp) HXR.out HGE.out HBv4.out hown9 hg9
              have hold9 := hst.of_set
              have hstep : (List.range i).map F ++ [xs] = (List.range (i + 1)).map F := by rw [List.range_succ, List.map_append, List.map_singleton, HYE.out]
              rw [hstep] at hst
              have HST := Lib.hid hst
              have k1 : w9.cell? ⟨G, 1, none⟩ = some (.slice pv i cv) := by simp [World.cell?, hG9]
              have z1 : w9.frozen? ⟨G, 1, none⟩ = false := by simp [World.frozen?, hG9]
              have HS9 := Lib.hid (HSO.out _ hold9 (by simp [World.cell?, hG9]))
              have HS10 := Lib.hid (HSO.out _ HST.out.old (HST.out.box0))
              clear hst hG9 hown9 hg9 hstep hold9
              refine hK.out _ _ HS9.out (fun hHeld => ?_)
              clear hK K
              refine wpAnyH_take (i := 12) (v := ?v23) rfl (by kernel_rfl) (by kernel_rfl) (by kernel_rfl) (fun _ _ _ h => h) (Or.inl ⟨by rfl, ?hy23⟩) (by assumption) ?rest23
              case hy23 =>
                intro W' hSw
                obtain ⟨e0, e1, e2⟩ := hSw
                go_simp
                with_reducible rfl
              simp only [List.getElem_toArray, List.getElem_cons_zero, List.getElem_cons_succ, Act.put, List.setIfInBounds_toArray, List.set_cons_zero, List.set_cons_succ]
              refine wpAnyH_ready (rs := [13]) (by kernel_rfl) (by simp) ?_
              refine AllReadyH.cons (i := 13) rfl (fun K hK => ?_) AllReadyH.nil
              go_simp
              refine hK.out _ _ HS10.out (fun hHeld => ?_)
              clear hK K
              refine wpAnyH_done (by kernel_rfl) ?_ _
              refine NoPanic.normal ?_
              clear hHeld
              go_wp2_with fail
              go_roundw
              case rel => exact ⟨i + 1, by omega, by go_num, HST⟩
              case measure => simp [Go.RowKit.intOf]; omega
    · obtain rfl : i = N := by omega
      have ilt : ¬ (i : Int) < (i : Int) := by omega
      have g1 : wr.cell? ⟨G, 1, none⟩ = some (.slice pv i cv) := by simp [World.cell?, hx]
      obtain ⟨hrd, hrb⟩ := HO.out.reads (by simp) hx
      have y6 : wr.heap[A + 1]? = some (.cells #[.slice none 0 0, .slice none 0 0] 25 (0, 0)) := (HO.out.old.block (A + 1) (Array.getElem?_eq_some_iff.1 HY5.out).1 (by intro e; injection e with e; have := HAG.out.1; omega)).trans HY5.out
      have hq6 : RdN wr (some ⟨gc, 0, none⟩) t0 := (HXA.out wr HO.out.old).2.2
      clear hown hge
      have r0 : wr.cell? ⟨A + 1, 0, none⟩ = some (.slice none 0 0) := by simp [World.cell?, y6]
      have r1 : wr.cell? ⟨A + 1, 1, none⟩ = some (.slice none 0 0) := by simp [World.cell?, y6]
      have z0 : wr.frozen? ⟨A + 1, 0, none⟩ = false := by simp [World.frozen?, y6]
      have z1 : wr.frozen? ⟨A + 1, 1, none⟩ = false := by simp [World.frozen?, y6]
      have hE1 := heap_set wr (A + 1) 0 (.slice (some ⟨gc, 0, none⟩) n n) _ _ y6
      have hE2 := heap_set _ (A + 1) 1 (.slice pv i cv) _ _ hE1
      obtain ⟨W7, hW7⟩ : ∃ W7, (wr.setCell ⟨A + 1, 0, none⟩ (.slice (some ⟨gc, 0, none⟩) n n)).setCell ⟨A + 1, 1, none⟩ (.slice pv i cv) = W7 := ⟨_, rfl⟩
      rw [hW7] at hE2
      have k0 : W7.cell? ⟨A + 1, 0, none⟩ = some (.slice (some ⟨gc, 0, none⟩) n n) := by simp [World.cell?, hE2]
      have k1 : W7.cell? ⟨A + 1, 1, none⟩ = some (.slice pv i cv) := by simp [World.cell?, hE2]
      have hg67 : wr.grownBy W7 (some (A + 1)) := by rw [← hW7]; exact (gb_set _ _ _ _).trans (gb_set _ _ _ _)
      have HFIN : Hid (ArrPost w 0 t0 ((List.range i).map F) (.returned (.tuple #[.agg #[.slice (some ⟨gc, 0, none⟩) n n, .slice pv i cv], .int .i64 0])) W7) := Lib.hid (by
          refine ⟨?_, some ⟨gc, 0, none⟩, pv, n, n, i, cv, rfl, HTN.out, by simp, ?_, ?_⟩
          · have o2 : w.grownBy W7 none := gb_trans_new (gb_of_below HBR.out none) hg67 HRB.out
            exact ⟨o2.os, o2.tape, o2.output, o2.size, fun k hk => o2.block k hk (by intro e; cases e)⟩
          · refine hq6.keep hg67.size (fun b off e h0 => ?_)
            obtain ⟨b', off', x, e', hb', -⟩ := hq6.at h0
            rw [e] at e'; cases e'
            cases e
            exact hg67.block gc hb' (by intro e2; injection e2 with e2; have := HAG.out.2.2.1; omega)
          · refine hrd.keep hg67.size (fun b off e h0 => ?_)
            obtain ⟨b', off', x, e', hb', -⟩ := hrd.at h0
            rw [e] at e'; cases e'
            exact hg67.block b hb' (by intro e2; injection e2 with e2; have := hrb b off e h0; have := HAG.out.1; omega))
      clear hrd hrb hq6 hg67 hE1 hE2 y6 hx
      go_wp2_with fail
      refine (HCW.out).mono ?_
      rintro e w3' ⟨rfl, rfl⟩
      go_wp2_with fail
      (try simp only [Exit.inBlock, Exit.then])
      refine bodyPost_ret (v := .tuple #[.agg #[.slice (some ⟨gc, 0, none⟩) n n, .slice pv i cv], .int .i64 0]) ?_ rfl HFIN.out
      rw [results_cell_tmp rfl]
      go_simp
end Go.Proofs.YtigidchicloleaaGreatDoor.Arr
