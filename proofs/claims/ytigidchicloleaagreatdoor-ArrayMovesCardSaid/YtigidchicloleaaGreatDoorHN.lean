/- The program's Move. -/
import Derived.Test.YtigidchicloleaaGreatDoorIF
import Derived.Test.YtigidchicloleaaGreatDoorQA
import Derived.Test.YtigidchicloleaaGreatDoorIA
import Derived.Test.YtigidchicloleaaGreatDoorIB
import Derived.Deep.RegionHeld3
set_option maxHeartbeats 4000000
set_option maxRecDepth 100000
namespace Go.Proofs.YtigidchicloleaaGreatDoor.Arr
open Go.RowKit Go.Shelf
open Go.Lib
attribute [local go_sem] Oper.semAt_some
theorem ax_perm {ax : List Nat} (hnd : ax.Nodup) (hb : ∀ x ∈ ax, x < ax.length) : ax.Perm (List.range ax.length) := List.perm_iff_count.2 (fun a => by
  by_cases h : a < ax.length
  · have h1 := nd_all hnd hb rfl h
    rw [hnd.count, if_pos h1, List.nodup_range.count, if_pos (List.mem_range.2 h)]
  · rw [List.count_eq_zero_of_not_mem (fun h1 => h (hb a h1)), List.count_eq_zero_of_not_mem (fun h1 => h (List.mem_range.1 h1))])
theorem prod_perm {a b : List Nat} (h : a.Perm b) : prod a = prod b := by
  induction h with
  | nil => rfl
  | cons x _ ih => rw [prod_cons, prod_cons, ih]
  | swap x y l => rw [prod_cons, prod_cons, prod_cons, prod_cons, ← Nat.mul_assoc, ← Nat.mul_assoc, Nat.mul_comm x y]
  | trans _ _ ih1 ih2 => exact ih1.trans ih2
theorem prod_pk {ax s : List Nat} (hnd : ax.Nodup) (hb : ∀ x ∈ ax, x < ax.length) (hs : s.length = ax.length) : prod (pk s ax) = prod s := by
  have h1 : (pk s ax).Perm ((List.range ax.length).map (fun a => s.getD a 0)) := (ax_perm hnd hb).map _
  have h2 : (List.range ax.length).map (fun a => s.getD a 0) = s := ext_getD (by rw [List.length_map, List.length_range, hs]) (fun k hk => by
    rw [List.length_map, List.length_range] at hk
    rw [List.getD_eq_getElem?_getD, List.getElem?_map, List.getElem?_range hk]; rfl)
  rw [prod_perm h1, h2]
theorem pk_le {ax s : List Nat} {B : Nat} (hb : ∀ x ∈ ax, x < s.length) (h : ∀ x ∈ s, x ≤ B) : ∀ x ∈ pk s ax, x ≤ B := fun x hx => by
  obtain ⟨a, ha, rfl⟩ := List.mem_map.1 hx
  have := hb a ha
  exact h _ (by show s.getD a 0 ∈ s; rw [List.getD_eq_getElem?_getD, List.getElem?_eq_getElem this]; exact List.getElem_mem _)
def mvR (s axes : List Int) (l : List (List UInt8)) : Int × List Nat × List (List UInt8) :=
  if validA s l = false then (60, [], []) else if axOk axes s.length s.length = false then (2, [], []) else (0, pk (s.map Int.toNat) (axes.map Int.toNat), sprV (s.map Int.toNat) (pk (s.map Int.toNat) (axes.map Int.toNat)) (inv (axes.map Int.toNat)) l)
theorem move_all (p q xq : Option Addr) (c d n m x cx : Nat) (s axes : List Int) (l : List (List UInt8)) (w : World) (he : Env w) (hs : Hid (s.length = n)) (hl : Hid (l.length = m)) (hx : Hid (axes.length = x)) (hm : m ≤ 5000) (hx10 : x ≤ 10) (hxc : x ≤ cx) (hp : Rd w p s) (hq : RdS w q l) (hxq : Rd w xq axes) :
    Calls Tryz.prog 45 #[.agg #[.slice p n c, .slice q m d], .slice xq x cx] w (ArrPost w (mvR s axes l).1 (mvR s axes l).2.1 (mvR s axes l).2.2) := by
  have HP := Lib.hid hp
  have HQ := Lib.hid hq
  have HXQ := Lib.hid hxq
  have HE := Lib.hid he
  obtain ⟨A, HA⟩ : ∃ A, Hid (A = w.heap.size) := ⟨_, Lib.hid rfl⟩
  obtain ⟨W0, HW0⟩ : ∃ W0, Hid ((w.alloc (.cells #[.slice p n c, .slice q m d] 25)).alloc (.cells #[.slice none 0 0, .slice none 0 0] 25) = W0) := ⟨_, Lib.hid rfl⟩
  have HB0 : Hid (Below w.heap.size w W0) := Lib.hid (by rw [← HW0.out]; exact ((Below.refl _ w).alloc (Nat.le_refl _) _).alloc (by simp) _)
  have HRB : Hid (w.heap.size ≤ A + 1) := Lib.hid (by rw [HA.out]; omega)
  have HS0 : Hid (W0.heap.size = A + 1 + 1) := Lib.hid (by rw [← HW0.out, HA.out]; simp)
  have HA0 : Hid (W0.heap[A]? = some (.cells #[.slice p n c, .slice q m d] 25 (0, 0))) := Lib.hid (by
    rw [← HW0.out, HA.out]; simp only [World.alloc, Array.getElem?_push, Array.size_push]
    repeat' (first | rw [if_pos (by omega)] | rw [if_neg (by omega)] | rfl))
  have HA1 : Hid (W0.heap[A + 1]? = some (.cells #[.slice none 0 0, .slice none 0 0] 25 (0, 0))) := Lib.hid (by
    rw [← HW0.out, HA.out]; simp only [World.alloc, Array.getElem?_push, Array.size_push]
    repeat' (first | rw [if_pos (by omega)] | rw [if_neg (by omega)] | rfl))
  have HBX : Hid (∀ W, Below W0.heap.size W0 W → Below w.heap.size w W ∧ W.heap[A]? = some (.cells #[.slice p n c, .slice q m d] 25 (0, 0)) ∧ W.heap[A + 1]? = some (.cells #[.slice none 0 0, .slice none 0 0] 25 (0, 0))) := Lib.hid (fun W hW =>
    ⟨HB0.out.trans (hW.mono HB0.out.size), (hW.block A (by rw [HS0.out]; omega)).trans HA0.out, (hW.block (A + 1) (by rw [HS0.out]; omega)).trans HA1.out⟩)
  have H20 : Hid (Calls Tryz.prog 21 #[.agg #[.slice p n c, .slice q m d]] W0 fun e w' => Below W0.heap.size W0 w' ∧ e = .returned (.bool (validA s l))) := Lib.hid (valid_any p q c d n m s l W0 (HE.out.below HB0.out) hs hl hm (HP.out.below HB0.out) (HQ.out.below HB0.out))
  obtain ⟨u, HU⟩ : ∃ u, Hid (u = axOk axes n n) := ⟨_, rfl⟩
  have H77 : Hid (∀ W, Below W0.heap.size W0 W → Calls Tryz.prog 82 #[.slice xq x cx, .int .i64 (n : Int), .int .i64 (n : Int)] W fun e w' => W = w' ∧ e = .returned (.bool u)) := Lib.hid (fun W hW => by
    rw [HU.out]; exact areaxes_any xq cx x axes n n W hx hx10 hxc (HXQ.out.below (HBX.out W hW).1))
  clear hp hq hxq he
  by_cases hv : validA s l = false
  · have e0 : mvR s axes l = (60, [], []) := by unfold mvR; rw [if_pos hv]
    rw [e0]
    rw [hv] at H20
    clear hv e0
    go_enter Tryz.func45, Tryz.ntmps45
    go_wp2_with fail
    rw [HW0.out, ← HA.out]
    refine (H20.out).mono ?_
    rintro e w1 ⟨hb1, rfl⟩
    have HB1 := Lib.hid hb1
    obtain ⟨hbw, x0, y1⟩ := HBX.out w1 hb1
    have HBk := Lib.hid hbw
    clear hb1 hbw
    clear x0
    have r0 : w1.cell? ⟨A + 1, 0, none⟩ = some (.slice none 0 0) := by simp [World.cell?, y1]
    have r1 : w1.cell? ⟨A + 1, 1, none⟩ = some (.slice none 0 0) := by simp [World.cell?, y1]
    have z0 : w1.frozen? ⟨A + 1, 0, none⟩ = false := by simp [World.frozen?, y1]
    have z1 : w1.frozen? ⟨A + 1, 1, none⟩ = false := by simp [World.frozen?, y1]
    have hE1 := heap_set w1 (A + 1) 0 (.slice none 0 0) _ _ y1
    have hE2 := heap_set _ (A + 1) 1 (.slice none 0 0) _ _ hE1
    obtain ⟨W7, hW7⟩ : ∃ W7, (w1.setCell ⟨A + 1, 0, none⟩ (.slice none 0 0)).setCell ⟨A + 1, 1, none⟩ (.slice none 0 0) = W7 := ⟨_, rfl⟩
    rw [hW7] at hE2
    have k0 : W7.cell? ⟨A + 1, 0, none⟩ = some (.slice none 0 0) := by simp [World.cell?, hE2]
    have k1 : W7.cell? ⟨A + 1, 1, none⟩ = some (.slice none 0 0) := by simp [World.cell?, hE2]
    have HFIN : Hid (ArrPost w 60 [] [] (.returned (.tuple #[.agg #[.slice none 0 0, .slice none 0 0], .int .i64 60])) W7) := Lib.hid (arr_no (by
      rw [← hW7]
      exact (HBk.out.setCell (p := ⟨A + 1, 0, none⟩) HRB.out _).setCell (p := ⟨A + 1, 1, none⟩) HRB.out _))
    clear hE1 hE2 y1
    go_wp2_with fail
    (try simp only [Exit.inBlock, Exit.then])
    refine bodyPost_ret (v := .tuple #[.agg #[.slice none 0 0, .slice none 0 0], .int .i64 60]) ?_ rfl HFIN.out
    rw [results_cell_tmp rfl]
    go_simp
  have hv2 : validA s l = true := by simpa using hv
  rw [hv2] at H20
  by_cases hu : u = false
  · subst hu
    have e0 : mvR s axes l = (2, [], []) := by unfold mvR; rw [if_neg hv, if_pos (by rw [hs.out]; exact HU.out.symm)]
    rw [e0]
    clear hv hv2 e0
    go_enter Tryz.func45, Tryz.ntmps45
    go_wp2_with fail
    rw [HW0.out, ← HA.out]
    refine (H20.out).mono ?_
    rintro e w1 ⟨hb1, rfl⟩
    have HB1 := Lib.hid hb1
    obtain ⟨hbw, x0, y1⟩ := HBX.out w1 hb1
    have HBk := Lib.hid hbw
    clear hb1 hbw
    have c0 : w1.cell? ⟨A, 0, none⟩ = some (.slice p n c) := by simp [World.cell?, x0]
    go_wp2_with fail
    refine (H77.out _ HB1.out).mono ?_
    rintro e w1' ⟨rfl, rfl⟩
    clear x0
    have r0 : w1.cell? ⟨A + 1, 0, none⟩ = some (.slice none 0 0) := by simp [World.cell?, y1]
    have r1 : w1.cell? ⟨A + 1, 1, none⟩ = some (.slice none 0 0) := by simp [World.cell?, y1]
    have z0 : w1.frozen? ⟨A + 1, 0, none⟩ = false := by simp [World.frozen?, y1]
    have z1 : w1.frozen? ⟨A + 1, 1, none⟩ = false := by simp [World.frozen?, y1]
    have hE1 := heap_set w1 (A + 1) 0 (.slice none 0 0) _ _ y1
    have hE2 := heap_set _ (A + 1) 1 (.slice none 0 0) _ _ hE1
    obtain ⟨W7, hW7⟩ : ∃ W7, (w1.setCell ⟨A + 1, 0, none⟩ (.slice none 0 0)).setCell ⟨A + 1, 1, none⟩ (.slice none 0 0) = W7 := ⟨_, rfl⟩
    rw [hW7] at hE2
    have k0 : W7.cell? ⟨A + 1, 0, none⟩ = some (.slice none 0 0) := by simp [World.cell?, hE2]
    have k1 : W7.cell? ⟨A + 1, 1, none⟩ = some (.slice none 0 0) := by simp [World.cell?, hE2]
    have HFIN : Hid (ArrPost w 2 [] [] (.returned (.tuple #[.agg #[.slice none 0 0, .slice none 0 0], .int .i64 2])) W7) := Lib.hid (arr_no (by
      rw [← hW7]
      exact (HBk.out.setCell (p := ⟨A + 1, 0, none⟩) HRB.out _).setCell (p := ⟨A + 1, 1, none⟩) HRB.out _))
    clear hE1 hE2 y1
    go_wp2_with fail
    (try simp only [Exit.inBlock, Exit.then])
    refine bodyPost_ret (v := .tuple #[.agg #[.slice none 0 0, .slice none 0 0], .int .i64 2]) ?_ rfl HFIN.out
    rw [results_cell_tmp rfl]
    go_simp
  obtain rfl : u = true := by simpa using hu
  have hvs : vs s = true := by unfold validA at hv2; rw [Bool.and_eq_true] at hv2; exact hv2.1
  obtain ⟨s0, rfl, hsh⟩ := vs_yes hvs
  obtain ⟨ax, rfl, hal, hab, hnd⟩ := axOk_nat HU.out.symm
  have hsn : s0.length = n := by rw [← hs.out, List.length_map]
  have hn4 : n ≤ 4 := by rw [← hsn]; exact hsh.1
  have hxn : n = x := by rw [← hx.out, List.length_map, hal]
  subst hxn
  have hsa : s0.length = ax.length := by rw [hsn, hal]
  have hab2 : ∀ x ∈ ax, x < ax.length := by rw [hal]; exact hab
  obtain ⟨t0, HT0⟩ : ∃ t0, Hid (pk s0 ax = t0) := ⟨_, Lib.hid rfl⟩
  obtain ⟨bx, HBX2⟩ : ∃ bx, Hid (inv ax = bx) := ⟨_, Lib.hid rfl⟩
  have e0 : mvR (s0.map Int.ofNat) (ax.map Int.ofNat) l = (0, t0, sprV s0 t0 bx l) := by unfold mvR; rw [if_neg hv, if_neg (by rw [hs.out, ← HU.out]; simp), toNat_map, toNat_map, HT0.out, HBX2.out]
  rw [e0]
  have hml : m = prod s0 := by
    unfold validA at hv2
    rw [Bool.and_eq_true, Bool.and_eq_true, decide_eq_true_eq, toNat_map, hl.out] at hv2
    exact hv2.2.1
  have HTN : Hid (t0.length = n) := Lib.hid (by rw [← HT0.out, pk_len, hal])
  have HTB : Hid (∀ x ∈ t0, x ≤ 1024) := Lib.hid (by rw [← HT0.out]; exact pk_le (fun x hx => by rw [hsn]; exact hab x hx) hsh.2.1)
  have HT4 : Hid (prod t0 ≤ 4096) := Lib.hid (by rw [← HT0.out, prod_pk hnd hab2 hsa]; exact hsh.2.2)
  have HBL : Hid (bx.length = n) := Lib.hid (by rw [← HBX2.out, inv_len, hal])
  have HBB : Hid (∀ x ∈ bx, x < n) := Lib.hid (by rw [← HBX2.out, ← hal]; exact inv_lt hnd hab2)
  have HPK : Hid (pk t0 bx = s0) := Lib.hid (by rw [← HT0.out, ← HBX2.out]; exact pk_inv hnd hab2 hsa)
  have HSN := Lib.hid hsn
  have HSH := Lib.hid hsh
  have HML := Lib.hid hml
  have HAL := Lib.hid hal
  have HAB := Lib.hid hab
  have HND := Lib.hid hnd
  have HAB2 := Lib.hid hab2
  have hni : (n : Int) ≤ 4 := by omega
  have hmk := fun W => make_ints n (by omega) W
  clear hv hv2 hvs hsh hsn hml hal hab hnd hsa hab2 e0
  go_enter Tryz.func45, Tryz.ntmps45
  go_wp2_with fail
  rw [HW0.out, ← HA.out]
  refine (H20.out).mono ?_
  rintro e w1 ⟨hb1, rfl⟩
  have HB1 := Lib.hid hb1
  obtain ⟨hbw, x0, y1⟩ := HBX.out w1 hb1
  have HBk := Lib.hid hbw
  clear hb1 hbw
  have c0 : w1.cell? ⟨A, 0, none⟩ = some (.slice p n c) := by simp [World.cell?, x0]
  go_wp2_with fail
  refine (H77.out _ HB1.out).mono ?_
  rintro e w1' ⟨rfl, rfl⟩
  have HX0 := Lib.hid x0
  have HY1 := Lib.hid y1
  have HSZ1 : Hid (A + 1 < w1.heap.size) := Lib.hid (Array.getElem?_eq_some_iff.1 y1).1
  clear x0 y1 c0
  obtain ⟨G, HG⟩ : ∃ G, Hid (G = w1.heap.size) := ⟨_, Lib.hid rfl⟩
  obtain ⟨W2, HW2⟩ : ∃ W2, Hid ((w1.alloc (.cells (ixC (zn n)) 3)).alloc (.cells (ixC (zn n)) 3) = W2) := ⟨_, Lib.hid rfl⟩
  have HB2 : Hid (Below w1.heap.size w1 W2) := Lib.hid (by rw [← HW2.out]; exact ((Below.refl _ w1).alloc (Nat.le_refl _) _).alloc (by simp) _)
  have HR2 : Hid (W2.heap[G]? = some (.cells (ixC (t0.take 0 ++ zn (n - 0))) 3 (0, 0))) := Lib.hid (by
    rw [← HW2.out, HG.out]; simp only [World.alloc, Array.getElem?_push, Array.size_push]
    repeat' (first | rw [if_pos (by omega)] | rw [if_neg (by omega)] | rfl))
  have HQ2 : Hid (W2.heap[G + 1]? = some (.cells (ixC (bk ax 0)) 3 (0, 0))) := Lib.hid (by
    rw [bk_zero, HAL.out, ← HW2.out, HG.out]; simp only [World.alloc, Array.getElem?_push, Array.size_push]
    repeat' (first | rw [if_pos (by omega)] | rw [if_neg (by omega)] | rfl))
  go_wp2_with fail
  rw [HW2.out, ← HG.out]
  clear hmk
  go_loopw [32] (fun iv wr => ∃ i : Nat, i ≤ n ∧ iv = .int .i64 i ∧ Hid (Below w1.heap.size w1 wr) ∧ Hid (wr.heap[G]? = some (.cells (ixC (t0.take i ++ zn (n - i))) 3 (0, 0))) ∧ Hid (wr.heap[G + 1]? = some (.cells (ixC (bk ax i)) 3 (0, 0)))) (fun iv _ => n - (Go.RowKit.intOf iv).toNat)
  case atStart => exact ⟨0, Nat.zero_le _, rfl, HB2, HR2, HQ2⟩
  case round =>
    obtain ⟨i, hi, rfl, HB, HR, HQR⟩ := hrel
    have ii : (i : Int) ≤ (n : Int) := by omega
    have HBW : Hid (Below w.heap.size w wr) := Lib.hid (HBk.out.trans (HB.out.mono HBk.out.size))
    by_cases hlt : i < n
    · have ilt : (i : Int) < (n : Int) := by omega
      have hia : i < ax.length := by rw [HAL.out]; exact hlt
      obtain ⟨b1, o1, a, e1, hb1, hc1, HAX⟩ := RdN.at (w := w1) (l := ax) (HXQ.out.below HBk.out) hia
      have ham : a ∈ ax := by rw [HAX.out, List.getD_eq_getElem?_getD, List.getElem?_eq_getElem hia]; exact List.getElem_mem _
      have han : a < n := HAB.out _ ham
      have ian : (a : Int) < (n : Int) := by omega
      obtain ⟨b2, o2, y, e2, hb2, hc2, HSY⟩ := RdN.at (w := w1) (l := s0) (HP.out.below HBk.out) (k := a) (by rw [HSN.out]; exact han)
      subst e1 e2
      have c0 : wr.cell? ⟨A, 0, none⟩ = some (.slice (some ⟨b2, o2, none⟩) n c) := by
        have h := (HB.out.block A (by have := HSZ1.out; omega)).trans HX0.out
        simp [World.cell?, h]
      have d1 : wr.cell? ⟨b1, o1 + i, none⟩ = some (.int .i64 (a : Int)) := (HB.out.cell (p := ⟨b1, o1 + i, none⟩) hb1).trans hc1
      have d2 : wr.cell? ⟨b2, o2 + a, none⟩ = some (.int .i64 (y : Int)) := (HB.out.cell (p := ⟨b2, o2 + a, none⟩) hb2).trans hc2
      have hcl : (t0.take i).length = i := by rw [List.length_take, HTN.out]; omega
      have HRm := HR.out
      rw [zn_succ hlt] at HRm
      have q1 : wr.cell? ⟨G, i, none⟩ = some (.int .i64 ((0 : Nat) : Int)) := by simp [World.cell?, HRm, ixC_mid hcl]
      have z1 : wr.frozen? ⟨G, i, none⟩ = false := by simp [World.frozen?, HRm]
      have HE := Lib.hid (heap_set wr G i (.int .i64 (y : Int)) _ _ HRm)
      have hyt : y = t0.getD i 0 := by rw [← HT0.out, pk_at hia, ← HAX.out]; exact HSY.out
      obtain ⟨W3, HW3⟩ : ∃ W3, Hid (wr.setCell ⟨G, i, none⟩ (.int .i64 (y : Int)) = W3) := ⟨_, Lib.hid rfl⟩
      have hne : W3.heap[G + 1]? = wr.heap[G + 1]? := by rw [← HW3.out]; exact Below.heap_setCell _ _ _ _ (by intro e; simp only at e; omega)
      have HQ3 := hne.trans HQR.out
      have q3 : W3.cell? ⟨G + 1, a, none⟩ = some (.int .i64 (((bk ax i).getD a 0 : Nat) : Int)) := cell_row HQ3 (by rw [bk_len, HAL.out]; exact han)
      have z3 : W3.frozen? ⟨G + 1, a, none⟩ = false := free_row HQ3
      have HE3 := Lib.hid (heap_set W3 (G + 1) a (.int .i64 (i : Int)) _ _ HQ3)
      obtain ⟨W5, HW5⟩ : ∃ W5, Hid (W3.setCell ⟨G + 1, a, none⟩ (.int .i64 (i : Int)) = W5) := ⟨_, Lib.hid rfl⟩
      have HB5 : Hid (Below w1.heap.size w1 W5) := Lib.hid (by
        rw [← HW5.out, ← HW3.out]
        exact (HB.out.setCell (p := ⟨G, i, none⟩) (by show w1.heap.size ≤ G; rw [HG.out]; exact Nat.le_refl _) _).setCell (p := ⟨G + 1, a, none⟩) (by show w1.heap.size ≤ G + 1; rw [HG.out]; omega) _)
      have HR5 : Hid (W5.heap[G]? = some (.cells (ixC (t0.take (i + 1) ++ zn (n - (i + 1)))) 3 (0, 0))) := Lib.hid (by
        have h := HE.out
        rw [ixC_set (t0.take i) 0 y _ hcl, HW3.out] at h
        rw [take_succ' (by rw [HTN.out]; exact hlt), List.append_assoc, ← hyt, ← HW5.out, Below.heap_setCell _ _ _ _ (by intro e; simp only at e; omega)]
        exact h)
      have HQ5 : Hid (W5.heap[G + 1]? = some (.cells (ixC (bk ax (i + 1))) 3 (0, 0))) := Lib.hid (by
        have h := HE3.out
        rw [HW5.out] at h
        rw [h, ← bk_succ HND.out HAB2.out hia, ← HAX.out]
        congr 2
        unfold ixC
        rw [List.map_set, List.setIfInBounds_toArray])
      rw [← HW3.out] at q3 z3
      clear hne HQ3 HRm hc1 hc2 hyt ham
      go_wp2_with fail
      rw [HW3.out, HW5.out]
      go_roundw
      case rel => exact ⟨i + 1, by omega, by go_num, HB5, HR5, HQ5⟩
      case measure => simp [Go.RowKit.intOf]; omega
    · obtain rfl : i = n := by omega
      have ilt : ¬ (i : Int) < (i : Int) := by omega
      have hrow : wr.heap[G]? = some (.cells (ixC t0) 3 (0, 0)) := by
        have h := HR.out
        rw [Nat.sub_self, List.take_of_length_le (by rw [HTN.out]; exact Nat.le_refl _)] at h
        simpa [zn] using h
      have hback : wr.heap[G + 1]? = some (.cells (ixC bx) 3 (0, 0)) := by
        have h := HQR.out
        rw [← HBX2.out]; unfold inv; rw [HAL.out]; exact h
      have x0 := (HB.out.block A (by have := HSZ1.out; omega)).trans HX0.out
      have HYY : Hid (wr.heap[A + 1]? = some (.cells #[.slice none 0 0, .slice none 0 0] 25 (0, 0))) := Lib.hid ((HB.out.block (A + 1) HSZ1.out).trans HY1.out)
      have HSZ : Hid (A + 1 < wr.heap.size) := Lib.hid (Nat.lt_of_lt_of_le HSZ1.out HB.out.size)
      have c0 : wr.cell? ⟨A, 0, none⟩ = some (.slice p i c) := by simp [World.cell?, x0]
      have c1 : wr.cell? ⟨A, 1, none⟩ = some (.slice q m d) := by simp [World.cell?, x0]
      have H78 := Lib.hid (spread_any p q (some ⟨G + 1, 0, none⟩) (some ⟨G, 0, none⟩) c d i m i i i s0 t0 bx l wr hn4 hm HSN (Lib.hid HSH.out.2.1) HSH.out.2.2 hl HML hn4 HTN HTB HT4.out HBL HBB HPK (HP.out.below HBW.out) (HQ.out.below HBW.out) (rdn_row hback (fun x hx => by have := HBB.out x hx; omega)) (rdn_row hrow (fun x hx => by have := HTB.out x hx; omega)))
      clear x0 hrow hback
      go_wp2_with fail
      refine (H78.out).mono ?_
      rintro e w6 ⟨hb6, q', d', V, rfl, hr1, hr2, hr3, hr4, hr5, hr6⟩
      have hsz := HSZ.out
      have hA := HA.out
      have hrb := HRB.out
      have hbk := HBW.out.size
      have y6 : w6.heap[A + 1]? = some (.cells #[.slice none 0 0, .slice none 0 0] 25 (0, 0)) := (hb6.block (A + 1) hsz).trans HYY.out
      have r0 : w6.cell? ⟨A + 1, 0, none⟩ = some (.slice none 0 0) := by simp [World.cell?, y6]
      have r1 : w6.cell? ⟨A + 1, 1, none⟩ = some (.slice none 0 0) := by simp [World.cell?, y6]
      have z0 : w6.frozen? ⟨A + 1, 0, none⟩ = false := by simp [World.frozen?, y6]
      have z1 : w6.frozen? ⟨A + 1, 1, none⟩ = false := by simp [World.frozen?, y6]
      have hE1 := heap_set w6 (A + 1) 0 (.slice q' i d') _ _ y6
      have hE2 := heap_set _ (A + 1) 1 (.slice (some ⟨V, 0, none⟩) (prod t0) (prod t0)) _ _ hE1
      obtain ⟨W7, hW7⟩ : ∃ W7, (w6.setCell ⟨A + 1, 0, none⟩ (.slice q' i d')).setCell ⟨A + 1, 1, none⟩ (.slice (some ⟨V, 0, none⟩) (prod t0) (prod t0)) = W7 := ⟨_, rfl⟩
      rw [hW7] at hE2
      have k0 : W7.cell? ⟨A + 1, 0, none⟩ = some (.slice q' i d') := by simp [World.cell?, hE2]
      have k1 : W7.cell? ⟨A + 1, 1, none⟩ = some (.slice (some ⟨V, 0, none⟩) (prod t0) (prod t0)) := by simp [World.cell?, hE2]
      have hg67 : w6.grownBy W7 (some (A + 1)) := by rw [← hW7]; exact (gb_set _ _ _ _).trans (gb_set _ _ _ _)
      have HFIN : Hid (ArrPost w 0 t0 (sprV s0 t0 bx l) (.returned (.tuple #[.agg #[.slice q' i d', .slice (some ⟨V, 0, none⟩) (prod t0) (prod t0)], .int .i64 0])) W7) := Lib.hid (by
          have o2 : w.grownBy W7 none := gb_trans_new ((gb_of_below HBW.out none).trans (gb_of_below hb6 none)) hg67 HRB.out
          refine ⟨⟨o2.os, o2.tape, o2.output, o2.size, fun k hk => o2.block k hk (by intro e; cases e)⟩, q', _, i, d', prod t0, prod t0, rfl, HTN.out, by rw [sprV, List.length_map, List.length_range], ?_, ?_⟩
          · refine hr1.keep hg67.size (fun b off e h0 => ?_)
            obtain ⟨b', off', x, e', hb', -⟩ := hr1.at h0
            rw [e] at e'; cases e'
            exact hg67.block b hb' (by intro e2; injection e2 with e2; have := hr4 b off e; omega)
          · refine hr5.keep hg67.size (fun b off e h0 => ?_)
            obtain ⟨b', off', x, e', hb', -⟩ := hr5.at h0
            rw [e] at e'; cases e'
            cases e
            exact hg67.block V hb' (by intro e2; injection e2 with e2; omega))
      clear hr1 hr2 hr3 hr4 hr5 hr6 hb6 hg67 hE1 hE2 y6 H78 hsz hA hrb hbk c0 c1
      go_wp2_with fail
      (try simp only [Exit.inBlock, Exit.then])
      refine bodyPost_ret (v := .tuple #[.agg #[.slice q' i d', .slice (some ⟨V, 0, none⟩) (prod t0) (prod t0)], .int .i64 0]) ?_ rfl HFIN.out
      rw [results_cell_tmp rfl]
      go_simp
end Go.Proofs.YtigidchicloleaaGreatDoor.Arr
namespace Go.Proofs.YtigidchicloleaaGreatDoor.Arr
open Go.RowKit Go.Shelf
open Go.Lib
theorem vs_of_shp {s : List Nat} (hs : Shp s) : vs (s.map Int.ofNat) = true := by
  unfold vs
  rw [decide_eq_true (show (s.map Int.ofNat).length ≤ 4 by rw [List.length_map]; exact hs.1), decide_eq_true (show prod ((s.map Int.ofNat).map Int.toNat) ≤ 4096 by rw [toNat_map]; exact hs.2.2), decide_eq_true]
  · rfl
  · intro z hz
    obtain ⟨x, hx, rfl⟩ := List.mem_map.1 hz
    have := hs.2.1 x hx
    exact ⟨by show (0 : Int) ≤ (x : Int); omega, by show (x : Int) ≤ 1024; omega⟩
end Go.Proofs.YtigidchicloleaaGreatDoor.Arr
namespace Go.Proofs.YtigidchicloleaaGreatDoor.Arr
open Go.RowKit Go.Shelf
open Go.Lib
attribute [local go_sem] Oper.semAt_some
theorem op_append_1s {w : World} {o : Oper} {a : Act} {K : Act → World → Prop} {Q : Exit → Act → World → Prop} (s x : Operand)
    (ho : o.op = .call { callee := .builtin .append, args := #[s, x], argTypes := #[23, 23] })
    (B : Nat) (pv : Option Addr) (cv n : Nat) (X : List (List UInt8)) (hs : a.eval s = .slice pv n cv) (hown : w.ownsRow B 9 1 (.slice pv n cv) n (strs X))
    (g : Nat) (y : List UInt8) (hx : a.eval x = .slice (some ⟨g, 0, none⟩) 1 1) (hc : w.cell? ⟨g, 0, none⟩ = some (.string ⟨List.toArray y⟩)) (hlen : n ≤ 100000) (hB : B ≤ w.heap.size)
    (h : ∀ gv cv' w', w'.ownsRow B 9 1 (.slice (some ⟨gv, 0, none⟩) (n + 1) cv') (n + 1) (strs (X ++ [y])) → w.grownBy w' (Value.slice pv n cv).ownBlock → K (a.put o.dst (.slice (some ⟨gv, 0, none⟩) (n + 1) cv')) w') : o.wp Tryz.prog a w K Q := by
  obtain ⟨i0, hi, hz0, hz1, hz2⟩ := info_parts info9
  obtain ⟨v', w', hr, h2, h3, h4, h5⟩ := run_append_own_at (P := Tryz.prog) w B 23 o.type 9 i0 (.string ⟨#[]⟩) 1 16 Tryz.underlying23 hi hz0 hz1 hz2 rfl (by decide) (.slice pv n cv) n (strs X) hown ⟨g, 0, none⟩ 1 1 [.string ⟨List.toArray y⟩] rfl (fun j u hj => by
    cases j with
    | zero => simp at hj; subst hj; exact hc
    | succ j => simp at hj) (fun u hu => by obtain rfl := List.mem_singleton.1 hu; rfl) (by unfold maxLen; omega) (by omega) hB
  obtain ⟨gv, cv', rfl⟩ : ∃ g c, v' = .slice (some ⟨g, 0, none⟩) (n + 1) c := by
    obtain ⟨-, ⟨-, e⟩ | ⟨g, cap, _, e, -⟩⟩ := id h2
    · omega
    · exact ⟨g, cap, e⟩
  unfold Oper.wp execOp
  simp only [ho, resolve, invoke, builtin, Sem.run_bind, Sem.run_pure, Result.andThen_ok, List.map_toArray, List.map_cons, List.map_nil, hs, hx, hr]
  refine h gv cv' w' ?_ h3
  rw [strs, List.map_append]
  exact h2
theorem OutI.of_set {W5 W : World} {G : Nat} {c0 u : Value} {l : List (List UInt8)} (h : OutI W5 G c0 l (W.setCell ⟨G, 1, none⟩ u)) : W5.grownBy W (some G) :=
  ⟨h.old.os, h.old.tape, h.old.output, Nat.le_trans h.old.size (Nat.le_of_eq (by simp)), fun k hk hne => by
    have := h.old.block k hk hne
    rwa [Below.heap_setCell _ _ _ _ (by intro e; exact hne (congrArg some e))] at this⟩
theorem OutI.box0 {W5 W : World} {G : Nat} {c0 : Value} {l : List (List UInt8)} (h : OutI W5 G c0 l W) : W.cell? ⟨G, 0, none⟩ = some c0 := by
  obtain ⟨pv, cv, h1, -⟩ := h.row
  simp [World.cell?, h1]
end Go.Proofs.YtigidchicloleaaGreatDoor.Arr
set_option maxRecDepth 100000
namespace Go.Proofs.YtigidchicloleaaGreatDoor.Arr
open Go.RowKit Go.Shelf
open Go.Lib
attribute [local go_sem] Oper.semAt_some
theorem samesh_any (p q : Option Addr) (c d n m : Nat) (s1 s2 : List Int) (w : World) (h1 : Hid (s1.length = n)) (h2 : Hid (s2.length = m)) (hn : n ≤ 1000) (hm : m ≤ 1000) (hp : Rd w p s1) (hq : Rd w q s2) :
    Calls Tryz.prog 71 #[.slice p n c, .slice q m d] w fun e w' => Below w.heap.size w w' ∧ e = .returned (.bool (decide (s1 = s2))) := by
  have H37 : Hid (Calls Tryz.prog 38 #[.agg #[.slice p n c, .slice none 0 0], .agg #[.slice q m d, .slice none 0 0]] w fun e w' => Below w.heap.size w w' ∧ e = .returned (.bool (decide (s1 = s2)))) := Lib.hid (by
    have := same_any p none q none c 0 d 0 n 0 m 0 s1 s2 [] [] w h1 (Lib.hid rfl) h2 (Lib.hid rfl) hn (by omega) hm (by omega) hp (.inl rfl) hq (.inl rfl)
    simpa using this)
  clear hp hq
  go_enter Tryz.func71, Tryz.ntmps71
  go_wp2_with fail
  refine (H37.out).mono ?_
  rintro e w1 ⟨hb, rfl⟩
  have HB := Lib.hid hb
  clear hb
  go_wp2_with fail
  go_ret
  exact ⟨HB.out, rfl⟩
end Go.Proofs.YtigidchicloleaaGreatDoor.Arr
