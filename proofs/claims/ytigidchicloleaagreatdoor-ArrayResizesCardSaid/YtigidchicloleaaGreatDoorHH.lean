/- The program's Resize. -/
import Derived.Test.YtigidchicloleaaGreatDoorHG
set_option maxHeartbeats 4000000
set_option maxRecDepth 100000
namespace Go.Proofs.YtigidchicloleaaGreatDoor.Arr
open Go.RowKit Go.Shelf
open Go.Lib
attribute [local go_sem] Oper.semAt_some
def resT (s t : List Nat) (l : List (List UInt8)) (v : List UInt8) (i : Nat) : List UInt8 := if ixOk s ((ixOf t i).map Int.ofNat) = true then l.getD (plc s (ixOf t i) 0) [] else v
def resV (s t : List Int) (l : List (List UInt8)) (v : List UInt8) : Int × List Nat × List (List UInt8) :=
  if validA s l = false then (60, [], []) else if vs t = false then (60, [], []) else if isV v = false then (2, [], []) else if t.length ≠ s.length then (60, [], []) else (0, t.map Int.toNat, (List.range (prod (t.map Int.toNat))).map (resT (s.map Int.toNat) (t.map Int.toNat) l v))
structure RO (B0 A n m c d : Nat) (p q : Option Addr) (s : List Nat) (l : List (List UInt8)) (v : List UInt8) (W : World) : Prop where
  box : W.heap[A]? = some (.cells #[.slice p n c, .slice q m d] 25 (0, 0))
  bv : W.heap[A + 1]? = some (.cells #[.string ⟨List.toArray v⟩] 9 (0, 0))
  sh : RdN W p s
  vals : RdS W q l
  lt : A + 1 < B0
  pb : ∀ b off, p = some ⟨b, off, none⟩ → 0 < s.length → b < B0
  qb : ∀ b off, q = some ⟨b, off, none⟩ → 0 < l.length → b < B0
theorem RO.above {B0 A n m c d : Nat} {p q : Option Addr} {s : List Nat} {l : List (List UInt8)} {v : List UInt8} {W W' : World} {r : Option Nat} (h : RO B0 A n m c d p q s l v W) (hg : W.grownBy W' r) (hr : ∀ k, r = some k → B0 ≤ k) : RO B0 A n m c d p q s l v W' := by
  have hk : ∀ b, b < W.heap.size → b < B0 → W'.heap[b]? = W.heap[b]? := fun b h1 h2 => hg.block b h1 (by intro e; have := hr b e.symm; omega)
  have hl := h.lt
  refine ⟨(hk A (Array.getElem?_eq_some_iff.1 h.box).1 (by omega)).trans h.box, (hk (A + 1) (Array.getElem?_eq_some_iff.1 h.bv).1 hl).trans h.bv, h.sh.keep hg.size (fun b off e h0 => ?_), h.vals.keep hg.size (fun b off e h0 => ?_), hl, h.pb, h.qb⟩
  · obtain ⟨b', off', x, e', hb', -⟩ := h.sh.at h0
    rw [e] at e'; cases e'
    exact hk b hb' (h.pb b off e h0)
  · obtain ⟨b', off', x, e', hb', -⟩ := h.vals.at h0
    rw [e] at e'; cases e'
    exact hk b hb' (h.qb b off e h0)
theorem hent69 : ∀ args W, (callFunc 72 args).run Tryz.prog W = .ok (.enter 72 args) W := by
  intro args W
  have h1 : ¬ Tryz.f72.name = "runtime.NumGoroutine" := of_decide_eq_false (by kernel_rfl)
  have h2 : ¬ Tryz.f72.body = none := fun h => by
    have h3 : Tryz.f72.body.isNone = false := by kernel_rfl
    rw [h] at h3; cases h3
  simp [callFunc, h1, h2]
theorem res1_any (B0 A g n m c d i : Nat) (p q : Option Addr) (s t : List Nat) (l : List (List UInt8)) (v : List UInt8) (w : World) (hn : n ≤ 4) (hm : m ≤ 5000) (hs : Hid (s.length = n)) (h4 : prod s ≤ 4096) (hl : Hid (l.length = m)) (hmp : Hid (m = prod s)) (ht : Hid (t.length = n)) (htb : Hid (∀ x ∈ t, x ≤ 1024)) (hi : Hid (i < prod t))
    (hro : RO B0 A n m c d p q s l v w) (hg : w.heap[g]? = some (.cells (ixC (ixOf t i)) 3 (0, 0))) :
    Calls Tryz.prog 72 #[.slice (some ⟨g, 0, none⟩) n n, .pointer (some ⟨A, 0, none⟩), .pointer (some ⟨A + 1, 0, none⟩)] w fun e w' => e = .returned (.string ⟨List.toArray (resT s t l v i)⟩) ∧ w.grownBy w' none ∧ KeepsOthers w w' ∧ RO B0 A n m c d p q s l v w' := by
  have HRO := Lib.hid hro
  have HIXL : Hid ((ixOf t i).length = n) := Lib.hid (by rw [ixOf_len, ht.out])
  obtain ⟨ix, HIX⟩ : ∃ ix, Hid (ixOf t i = ix) := ⟨_, Lib.hid rfl⟩
  have HRD : Hid (RdN w (some ⟨g, 0, none⟩) ix) := Lib.hid (by
    rw [← HIX.out]; exact rdn_row hg (fun x hx => by have := ixOf_small hi.out htb.out x hx; omega))
  rw [HIX.out] at HIXL
  obtain ⟨u, HU⟩ : ∃ u, Hid (u = ixOk s (ix.map Int.ofNat)) := ⟨_, Lib.hid rfl⟩
  have H50 : Hid (Calls Tryz.prog 53 #[.slice p n c, .slice (some ⟨g, 0, none⟩) n n] w fun e w' => w = w' ∧ e = .returned (.bool u)) := Lib.hid (by
    rw [HU.out]
    exact isix_any p (some ⟨g, 0, none⟩) c n n n s (ix.map Int.ofNat) w hs (Lib.hid (by rw [List.length_map, HIXL.out])) hn HRO.out.sh HRD.out)
  have c0 : w.cell? ⟨A, 0, none⟩ = some (.slice p n c) := by simp [World.cell?, hro.box]
  have c1 : w.cell? ⟨A, 1, none⟩ = some (.slice q m d) := by simp [World.cell?, hro.box]
  have c2 : w.cell? ⟨A + 1, 0, none⟩ = some (.string ⟨List.toArray v⟩) := by simp [World.cell?, hro.bv]
  clear hro hg
  by_cases hu : u = true
  · subst hu
    obtain ⟨m0, em, hix⟩ := ixOk_nat HU.out.symm
    obtain rfl : ix = m0 := by
      have := congrArg (List.map Int.toNat) em
      rwa [toNat_map, toNat_map] at this
    obtain ⟨y, HY⟩ : ∃ y, Hid (y = plc s ix 0) := ⟨_, rfl⟩
    have hym : y < m := by
      have := (plc_lt s ix 0 hix).1
      rw [HY.out, hmp.out]; simpa using this
    have e0 : resT s t l v i = l.getD y [] := by unfold resT; rw [HIX.out, if_pos HU.out.symm, HY.out]
    have H51 : Hid (Calls Tryz.prog 54 #[.agg #[.slice p n c, .slice q m d], .slice (some ⟨g, 0, none⟩) n n] w fun e w' => w' = (w.alloc (.cells #[.slice p n c, .slice q m d] 25)).drew ∧ e = .returned (.string ⟨List.toArray (l.getD y [])⟩)) := Lib.hid
      (element_any p q (some ⟨g, 0, none⟩) c d n n m y s ix l w hn hm hs h4 hl (Lib.hid hix) HY hym HRO.out.sh HRO.out.vals HRD.out)
    have HFIN : Hid (w.grownBy (w.alloc (.cells #[.slice p n c, .slice q m d] 25)).drew none ∧ KeepsOthers w (w.alloc (.cells #[.slice p n c, .slice q m d] 25)).drew ∧ RO B0 A n m c d p q s l v (w.alloc (.cells #[.slice p n c, .slice q m d] 25)).drew) := Lib.hid (by
      have o1 : w.grownBy (w.alloc (.cells #[.slice p n c, .slice q m d] 25)).drew none := (World.grownBy_alloc _ _ none).trans ⟨rfl, rfl, rfl, Nat.le_refl _, fun _ _ _ => rfl⟩
      exact ⟨o1, (KeepsOthers.alloc _ _).trans (KeepsOthers.drew _), HRO.out.above o1 (fun k e => by cases e)⟩)
    rw [e0]
    clear hix hym e0 em
    go_enter Tryz.func72, Tryz.ntmps72
    go_wp2_with fail
    refine (H50.out).mono ?_
    rintro e w1 ⟨rfl, rfl⟩
    go_wp2_with fail
    refine (H51.out).mono ?_
    rintro e w1 ⟨rfl, rfl⟩
    go_wp2_with fail
    go_ret
    exact ⟨rfl, HFIN.out.1, HFIN.out.2.1, HFIN.out.2.2⟩
  · obtain rfl : u = false := by simpa using hu
    have e0 : resT s t l v i = v := by unfold resT; rw [HIX.out, if_neg (by rw [← HU.out]; simp)]
    rw [e0]
    clear e0
    go_enter Tryz.func72, Tryz.ntmps72
    go_wp2_with fail
    refine (H50.out).mono ?_
    rintro e w1 ⟨rfl, rfl⟩
    go_wp2_with fail
    go_ret
    exact ⟨rfl, ⟨rfl, rfl, rfl, Nat.le_refl _, fun _ _ _ => rfl⟩, KeepsOthers.refl _, HRO.out⟩
theorem resize_any (p q r : Option Addr) (c d f n m k : Nat) (s t : List Int) (l : List (List UInt8)) (v : List UInt8) (w : World) (he : Env w) (hs : Hid (s.length = n)) (hl : Hid (l.length = m)) (hk : Hid (t.length = k)) (hm : m ≤ 5000) (hp : Rd w p s) (hq : RdS w q l) (hr : Rd w r t) :
    Calls Tryz.prog 28 #[.agg #[.slice p n c, .slice q m d], .slice r k f, .string ⟨List.toArray v⟩] w (ArrPost w (resV s t l v).1 (resV s t l v).2.1 (resV s t l v).2.2) := by
  have HP := Lib.hid hp
  have HQ := Lib.hid hq
  have HR := Lib.hid hr
  have HE := Lib.hid he
  obtain ⟨A, HA⟩ : ∃ A, Hid (A = w.heap.size) := ⟨_, Lib.hid rfl⟩
  obtain ⟨W0, HW0⟩ : ∃ W0, Hid (((w.alloc (.cells #[.slice p n c, .slice q m d] 25)).alloc (.cells #[.string ⟨List.toArray v⟩] 9)).alloc (.cells #[.slice none 0 0, .slice none 0 0] 25) = W0) := ⟨_, Lib.hid rfl⟩
  have HB0 : Hid (Below w.heap.size w W0) := Lib.hid (by rw [← HW0.out]; exact (((Below.refl _ w).alloc (Nat.le_refl _) _).alloc (by simp) _).alloc (by simp; omega) _)
  have HRB : Hid (w.heap.size ≤ A + 1 + 1) := Lib.hid (by rw [HA.out]; omega)
  have HS0 : Hid (W0.heap.size = A + 1 + 1 + 1) := Lib.hid (by rw [← HW0.out, HA.out]; simp)
  have HA0 : Hid (W0.heap[A]? = some (.cells #[.slice p n c, .slice q m d] 25 (0, 0))) := Lib.hid (by
    rw [← HW0.out, HA.out]; simp only [World.alloc, Array.getElem?_push, Array.size_push]
    repeat' (first | rw [if_pos (by omega)] | rw [if_neg (by omega)] | rfl))
  have HA1 : Hid (W0.heap[A + 1]? = some (.cells #[.string ⟨List.toArray v⟩] 9 (0, 0))) := Lib.hid (by
    rw [← HW0.out, HA.out]; simp only [World.alloc, Array.getElem?_push, Array.size_push]
    repeat' (first | rw [if_pos (by omega)] | rw [if_neg (by omega)] | rfl))
  have HA2 : Hid (W0.heap[A + 1 + 1]? = some (.cells #[.slice none 0 0, .slice none 0 0] 25 (0, 0))) := Lib.hid (by
    rw [← HW0.out, HA.out]; simp only [World.alloc, Array.getElem?_push, Array.size_push]
    repeat' (first | rw [if_pos (by omega)] | rw [if_neg (by omega)] | rfl))
  have HBX : Hid (∀ W, Below W0.heap.size W0 W → Below w.heap.size w W ∧ W.heap[A]? = some (.cells #[.slice p n c, .slice q m d] 25 (0, 0)) ∧ W.heap[A + 1]? = some (.cells #[.string ⟨List.toArray v⟩] 9 (0, 0)) ∧ W.heap[A + 1 + 1]? = some (.cells #[.slice none 0 0, .slice none 0 0] 25 (0, 0))) := Lib.hid (fun W hW =>
    ⟨HB0.out.trans (hW.mono HB0.out.size), (hW.block A (by rw [HS0.out]; omega)).trans HA0.out, (hW.block (A + 1) (by rw [HS0.out]; omega)).trans HA1.out, (hW.block (A + 1 + 1) (by rw [HS0.out]; omega)).trans HA2.out⟩)
  have H20 : Hid (Calls Tryz.prog 21 #[.agg #[.slice p n c, .slice q m d]] W0 fun e w' => Below W0.heap.size W0 w' ∧ e = .returned (.bool (validA s l))) := Lib.hid (valid_any p q c d n m s l W0 (HE.out.below HB0.out) hs hl hm (HP.out.below HB0.out) (HQ.out.below HB0.out))
  have H18 : Hid (∀ W, Below W0.heap.size W0 W → Calls Tryz.prog 19 #[.slice r k f] W fun e w' => W = w' ∧ e = .returned (.bool (vs t))) := Lib.hid (fun W hW => by
    have := vshape_any r f t W (HR.out.below (HBX.out W hW).1)
    rwa [hk.out] at this)
  clear hp hq hr he
  by_cases hv : validA s l = false
  · have e0 : resV s t l v = (60, [], []) := by unfold resV; rw [if_pos hv]
    rw [e0]
    rw [hv] at H20
    clear hv e0
    go_enter Tryz.func28, Tryz.ntmps28
    go_wp2_with fail
    rw [HW0.out, ← HA.out]
    refine (H20.out).mono ?_
    rintro e w1 ⟨hb1, rfl⟩
    have HB1 := Lib.hid hb1
    obtain ⟨hbw, x0, x1, y1⟩ := HBX.out w1 hb1
    have HBk := Lib.hid hbw
    clear hb1 hbw
    clear x0 x1
    have r0 : w1.cell? ⟨A + 1 + 1, 0, none⟩ = some (.slice none 0 0) := by simp [World.cell?, y1]
    have r1 : w1.cell? ⟨A + 1 + 1, 1, none⟩ = some (.slice none 0 0) := by simp [World.cell?, y1]
    have z0 : w1.frozen? ⟨A + 1 + 1, 0, none⟩ = false := by simp [World.frozen?, y1]
    have z1 : w1.frozen? ⟨A + 1 + 1, 1, none⟩ = false := by simp [World.frozen?, y1]
    have hE1 := heap_set w1 (A + 1 + 1) 0 (.slice none 0 0) _ _ y1
    have hE2 := heap_set _ (A + 1 + 1) 1 (.slice none 0 0) _ _ hE1
    obtain ⟨W7, hW7⟩ : ∃ W7, (w1.setCell ⟨A + 1 + 1, 0, none⟩ (.slice none 0 0)).setCell ⟨A + 1 + 1, 1, none⟩ (.slice none 0 0) = W7 := ⟨_, rfl⟩
    rw [hW7] at hE2
    have k0 : W7.cell? ⟨A + 1 + 1, 0, none⟩ = some (.slice none 0 0) := by simp [World.cell?, hE2]
    have k1 : W7.cell? ⟨A + 1 + 1, 1, none⟩ = some (.slice none 0 0) := by simp [World.cell?, hE2]
    have HFIN : Hid (ArrPost w 60 [] [] (.returned (.tuple #[.agg #[.slice none 0 0, .slice none 0 0], .int .i64 60])) W7) := Lib.hid (arr_no (by
      rw [← hW7]
      exact (HBk.out.setCell (p := ⟨A + 1 + 1, 0, none⟩) HRB.out _).setCell (p := ⟨A + 1 + 1, 1, none⟩) HRB.out _))
    clear hE1 hE2 y1
    go_wp2_with fail
    (try simp only [Exit.inBlock, Exit.then])
    refine bodyPost_ret (v := .tuple #[.agg #[.slice none 0 0, .slice none 0 0], .int .i64 60]) ?_ rfl HFIN.out
    rw [results_cell_tmp rfl]
    go_simp
  have hv2 : validA s l = true := by simpa using hv
  rw [hv2] at H20
  by_cases ht : vs t = false
  · have e0 : resV s t l v = (60, [], []) := by unfold resV; rw [if_neg hv, if_pos ht]
    rw [e0]
    rw [ht] at H18
    clear hv ht e0
    go_enter Tryz.func28, Tryz.ntmps28
    go_wp2_with fail
    rw [HW0.out, ← HA.out]
    refine (H20.out).mono ?_
    rintro e w1 ⟨hb1, rfl⟩
    have HB1 := Lib.hid hb1
    obtain ⟨hbw, x0, x1, y1⟩ := HBX.out w1 hb1
    have HBk := Lib.hid hbw
    clear hb1 hbw
    have c1 : w1.cell? ⟨A + 1, 0, none⟩ = some (.string ⟨List.toArray v⟩) := by simp [World.cell?, x1]
    clear x0 x1
    go_wp2_with fail
    refine (H18.out _ HB1.out).mono ?_
    rintro e w1' ⟨rfl, rfl⟩
    clear c1
    have r0 : w1.cell? ⟨A + 1 + 1, 0, none⟩ = some (.slice none 0 0) := by simp [World.cell?, y1]
    have r1 : w1.cell? ⟨A + 1 + 1, 1, none⟩ = some (.slice none 0 0) := by simp [World.cell?, y1]
    have z0 : w1.frozen? ⟨A + 1 + 1, 0, none⟩ = false := by simp [World.frozen?, y1]
    have z1 : w1.frozen? ⟨A + 1 + 1, 1, none⟩ = false := by simp [World.frozen?, y1]
    have hE1 := heap_set w1 (A + 1 + 1) 0 (.slice none 0 0) _ _ y1
    have hE2 := heap_set _ (A + 1 + 1) 1 (.slice none 0 0) _ _ hE1
    obtain ⟨W7, hW7⟩ : ∃ W7, (w1.setCell ⟨A + 1 + 1, 0, none⟩ (.slice none 0 0)).setCell ⟨A + 1 + 1, 1, none⟩ (.slice none 0 0) = W7 := ⟨_, rfl⟩
    rw [hW7] at hE2
    have k0 : W7.cell? ⟨A + 1 + 1, 0, none⟩ = some (.slice none 0 0) := by simp [World.cell?, hE2]
    have k1 : W7.cell? ⟨A + 1 + 1, 1, none⟩ = some (.slice none 0 0) := by simp [World.cell?, hE2]
    have HFIN : Hid (ArrPost w 60 [] [] (.returned (.tuple #[.agg #[.slice none 0 0, .slice none 0 0], .int .i64 60])) W7) := Lib.hid (arr_no (by
      rw [← hW7]
      exact (HBk.out.setCell (p := ⟨A + 1 + 1, 0, none⟩) HRB.out _).setCell (p := ⟨A + 1 + 1, 1, none⟩) HRB.out _))
    clear hE1 hE2 y1
    go_wp2_with fail
    (try simp only [Exit.inBlock, Exit.then])
    refine bodyPost_ret (v := .tuple #[.agg #[.slice none 0 0, .slice none 0 0], .int .i64 60]) ?_ rfl HFIN.out
    rw [results_cell_tmp rfl]
    go_simp
  have ht2 : vs t = true := by simpa using ht
  rw [ht2] at H18
  obtain ⟨u, HU⟩ : ∃ u, Hid (u = isV v) := ⟨_, rfl⟩
  have H45 : Hid (∀ W, Below W0.heap.size W0 W → Calls Tryz.prog 48 #[.string ⟨List.toArray v⟩] W fun e w' => Below W.heap.size W w' ∧ e = .returned (.bool u)) := Lib.hid (fun W hW => by rw [HU.out]; exact isvalue_any v W (HE.out.below (HBX.out W hW).1))
  by_cases hu : u = false
  · subst hu
    have e0 : resV s t l v = (2, [], []) := by unfold resV; rw [if_neg hv, if_neg ht, if_pos HU.out.symm]
    rw [e0]
    clear hv hv2 ht ht2 e0
    go_enter Tryz.func28, Tryz.ntmps28
    go_wp2_with fail
    rw [HW0.out, ← HA.out]
    refine (H20.out).mono ?_
    rintro e w1 ⟨hb1, rfl⟩
    have HB1 := Lib.hid hb1
    obtain ⟨hbw, x0, x1, y1⟩ := HBX.out w1 hb1
    have HBk := Lib.hid hbw
    clear hb1 hbw
    have c1 : w1.cell? ⟨A + 1, 0, none⟩ = some (.string ⟨List.toArray v⟩) := by simp [World.cell?, x1]
    clear x0 x1
    go_wp2_with fail
    refine (H18.out _ HB1.out).mono ?_
    rintro e w1' ⟨rfl, rfl⟩
    clear y1
    go_wp2_with fail
    refine (H45.out _ HB1.out).mono ?_
    rintro e w2 ⟨hb2, rfl⟩
    have HB2 := Lib.hid (HB1.out.trans (hb2.mono HB1.out.size))
    clear hb2 c1 HBk
    obtain ⟨hbw, x0, x1, y1⟩ := HBX.out w2 HB2.out
    have HBk := Lib.hid hbw
    clear hbw
    clear x0 x1
    have r0 : w2.cell? ⟨A + 1 + 1, 0, none⟩ = some (.slice none 0 0) := by simp [World.cell?, y1]
    have r1 : w2.cell? ⟨A + 1 + 1, 1, none⟩ = some (.slice none 0 0) := by simp [World.cell?, y1]
    have z0 : w2.frozen? ⟨A + 1 + 1, 0, none⟩ = false := by simp [World.frozen?, y1]
    have z1 : w2.frozen? ⟨A + 1 + 1, 1, none⟩ = false := by simp [World.frozen?, y1]
    have hE1 := heap_set w2 (A + 1 + 1) 0 (.slice none 0 0) _ _ y1
    have hE2 := heap_set _ (A + 1 + 1) 1 (.slice none 0 0) _ _ hE1
    obtain ⟨W7, hW7⟩ : ∃ W7, (w2.setCell ⟨A + 1 + 1, 0, none⟩ (.slice none 0 0)).setCell ⟨A + 1 + 1, 1, none⟩ (.slice none 0 0) = W7 := ⟨_, rfl⟩
    rw [hW7] at hE2
    have k0 : W7.cell? ⟨A + 1 + 1, 0, none⟩ = some (.slice none 0 0) := by simp [World.cell?, hE2]
    have k1 : W7.cell? ⟨A + 1 + 1, 1, none⟩ = some (.slice none 0 0) := by simp [World.cell?, hE2]
    have HFIN : Hid (ArrPost w 2 [] [] (.returned (.tuple #[.agg #[.slice none 0 0, .slice none 0 0], .int .i64 2])) W7) := Lib.hid (arr_no (by
      rw [← hW7]
      exact (HBk.out.setCell (p := ⟨A + 1 + 1, 0, none⟩) HRB.out _).setCell (p := ⟨A + 1 + 1, 1, none⟩) HRB.out _))
    clear hE1 hE2 y1
    go_wp2_with fail
    (try simp only [Exit.inBlock, Exit.then])
    refine bodyPost_ret (v := .tuple #[.agg #[.slice none 0 0, .slice none 0 0], .int .i64 2]) ?_ rfl HFIN.out
    rw [results_cell_tmp rfl]
    go_simp
  obtain rfl : u = true := by simpa using hu
  have hvs : vs s = true := by unfold validA at hv2; rw [Bool.and_eq_true] at hv2; exact hv2.1
  obtain ⟨s0, rfl, hsh⟩ := vs_yes hvs
  obtain ⟨t0, rfl, hth⟩ := vs_yes ht2
  have hsn : s0.length = n := by rw [← hs.out, List.length_map]
  have htk : t0.length = k := by rw [← hk.out, List.length_map]
  have hn4 : n ≤ 4 := by rw [← hsn]; exact hsh.1
  have hk4 : k ≤ 4 := by rw [← htk]; exact hth.1
  by_cases hkn : k = n
  case neg =>
    have ikn : ¬ (k : Int) = (n : Int) := by omega
    have e0 : resV (s0.map Int.ofNat) (t0.map Int.ofNat) l v = (60, [], []) := by unfold resV; rw [if_neg hv, if_neg ht, if_neg (by rw [← HU.out]; simp), if_pos (by rw [List.length_map, List.length_map, hsn, htk]; exact hkn)]
    rw [e0]
    clear hv hv2 ht ht2 e0
    go_enter Tryz.func28, Tryz.ntmps28
    go_wp2_with fail
    rw [HW0.out, ← HA.out]
    refine (H20.out).mono ?_
    rintro e w1 ⟨hb1, rfl⟩
    have HB1 := Lib.hid hb1
    obtain ⟨hbw, x0, x1, y1⟩ := HBX.out w1 hb1
    have HBk := Lib.hid hbw
    clear hb1 hbw
    have c1 : w1.cell? ⟨A + 1, 0, none⟩ = some (.string ⟨List.toArray v⟩) := by simp [World.cell?, x1]
    clear x0 x1
    go_wp2_with fail
    refine (H18.out _ HB1.out).mono ?_
    rintro e w1' ⟨rfl, rfl⟩
    clear y1
    go_wp2_with fail
    refine (H45.out _ HB1.out).mono ?_
    rintro e w2 ⟨hb2, rfl⟩
    have HB2 := Lib.hid (HB1.out.trans (hb2.mono HB1.out.size))
    clear hb2 c1 HBk
    obtain ⟨hbw, x0, x1, y1⟩ := HBX.out w2 HB2.out
    have HBk := Lib.hid hbw
    clear hbw
    have c0 : w2.cell? ⟨A, 0, none⟩ = some (.slice p n c) := by simp [World.cell?, x0]
    clear x0 x1
    have r0 : w2.cell? ⟨A + 1 + 1, 0, none⟩ = some (.slice none 0 0) := by simp [World.cell?, y1]
    have r1 : w2.cell? ⟨A + 1 + 1, 1, none⟩ = some (.slice none 0 0) := by simp [World.cell?, y1]
    have z0 : w2.frozen? ⟨A + 1 + 1, 0, none⟩ = false := by simp [World.frozen?, y1]
    have z1 : w2.frozen? ⟨A + 1 + 1, 1, none⟩ = false := by simp [World.frozen?, y1]
    have hE1 := heap_set w2 (A + 1 + 1) 0 (.slice none 0 0) _ _ y1
    have hE2 := heap_set _ (A + 1 + 1) 1 (.slice none 0 0) _ _ hE1
    obtain ⟨W7, hW7⟩ : ∃ W7, (w2.setCell ⟨A + 1 + 1, 0, none⟩ (.slice none 0 0)).setCell ⟨A + 1 + 1, 1, none⟩ (.slice none 0 0) = W7 := ⟨_, rfl⟩
    rw [hW7] at hE2
    have k0 : W7.cell? ⟨A + 1 + 1, 0, none⟩ = some (.slice none 0 0) := by simp [World.cell?, hE2]
    have k1 : W7.cell? ⟨A + 1 + 1, 1, none⟩ = some (.slice none 0 0) := by simp [World.cell?, hE2]
    have HFIN : Hid (ArrPost w 60 [] [] (.returned (.tuple #[.agg #[.slice none 0 0, .slice none 0 0], .int .i64 60])) W7) := Lib.hid (arr_no (by
      rw [← hW7]
      exact (HBk.out.setCell (p := ⟨A + 1 + 1, 0, none⟩) HRB.out _).setCell (p := ⟨A + 1 + 1, 1, none⟩) HRB.out _))
    clear hE1 hE2 y1
    go_wp2_with fail
    (try simp only [Exit.inBlock, Exit.then])
    refine bodyPost_ret (v := .tuple #[.agg #[.slice none 0 0, .slice none 0 0], .int .i64 60]) ?_ rfl HFIN.out
    rw [results_cell_tmp rfl]
    go_simp
  subst hkn
  obtain ⟨N, HN⟩ : ∃ N, Hid (N = prod t0) := ⟨_, rfl⟩
  have e0 : resV (s0.map Int.ofNat) (t0.map Int.ofNat) l v = (0, t0, (List.range N).map (resT s0 t0 l v)) := by unfold resV; rw [if_neg hv, if_neg ht, if_neg (by rw [← HU.out]; simp), if_neg (by rw [List.length_map, List.length_map, hsn, htk]; simp), toNat_map, toNat_map, HN.out]
  rw [e0]
  have hml : m = prod s0 := by
    unfold validA at hv2
    rw [Bool.and_eq_true, Bool.and_eq_true, decide_eq_true_eq, toNat_map, hl.out] at hv2
    exact hv2.2.1
  have HSN := Lib.hid hsn
  have HTN := Lib.hid htk
  have HSH := Lib.hid hsh
  have HTH := Lib.hid hth
  have HTB : Hid (∀ x ∈ t0, x ≤ 1024) := Lib.hid hth.2.1
  have HML := Lib.hid hml
  clear hv hv2 ht ht2 e0 hsh hth hsn htk hml
  go_enter Tryz.func28, Tryz.ntmps28
  go_wp2_with fail
  rw [HW0.out, ← HA.out]
  refine (H20.out).mono ?_
  rintro e w1 ⟨hb1, rfl⟩
  have HB1 := Lib.hid hb1
  obtain ⟨hbw, x0, x1, y1⟩ := HBX.out w1 hb1
  have HBk := Lib.hid hbw
  clear hb1 hbw
  have c1 : w1.cell? ⟨A + 1, 0, none⟩ = some (.string ⟨List.toArray v⟩) := by simp [World.cell?, x1]
  clear x0 x1
  go_wp2_with fail
  refine (H18.out _ HB1.out).mono ?_
  rintro e w1' ⟨rfl, rfl⟩
  clear y1
  go_wp2_with fail
  refine (H45.out _ HB1.out).mono ?_
  rintro e w2 ⟨hb2, rfl⟩
  have HB2 := Lib.hid (HB1.out.trans (hb2.mono HB1.out.size))
  clear hb2 c1 HBk
  obtain ⟨hbw, x0, x1, y1⟩ := HBX.out w2 HB2.out
  have HBk := Lib.hid hbw
  clear hbw
  have c0 : w2.cell? ⟨A, 0, none⟩ = some (.slice p k c) := by simp [World.cell?, x0]
  have HX0 := Lib.hid x0
  have HX1 := Lib.hid x1
  have HY1 := Lib.hid y1
  have HS1 : Hid (A + 1 + 1 + 1 ≤ w2.heap.size) := Lib.hid (by rw [← HS0.out]; exact HB2.out.size)
  clear x0 x1 y1
  have HRO : Hid (RO w2.heap.size A k m c d p q s0 l v w2) := Lib.hid (by
    have h1 := HS1.out
    refine ⟨HX0.out, HX1.out, HP.out.below HBk.out, HQ.out.below HBk.out, by omega, fun b off e h0 => ?_, fun b off e h0 => ?_⟩
    · obtain ⟨b', off', x, e', hb', -⟩ := RdN.at (w := w) (l := s0) HP.out h0
      rw [e] at e'; cases e'; exact Nat.lt_of_lt_of_le hb' HBk.out.size
    · obtain ⟨b', off', x, e', hb', -⟩ := HQ.out.at h0
      rw [e] at e'; cases e'; exact Nat.lt_of_lt_of_le hb' HBk.out.size)
  have H46 : Hid (Calls Tryz.prog 49 #[.slice r k f, .func (.func 72) #[] #[.pointer (some ⟨A, 0, none⟩), .pointer (some ⟨A + 1, 0, none⟩)]] w2 (BuildPost w2 k N t0 (resT s0 t0 l v) none (RO w2.heap.size A k m c d p q s0 l v))) := Lib.hid (by
    refine build_any r f k N 72 _ t0 _ none _ w2 hn4 HTN HTB HN (by rw [HN.out]; exact HTH.out.2.2) (HR.out.below HBk.out) (fun r e => by cases e) (fun b off e _ e2 => by cases e2) hent69 HRO.out (fun X Y r hX hg hr => hX.above hg hr) ?_
    intro i g W hi hW hg _
    exact res1_any w2.heap.size A g k m c d i p q s0 t0 l v W hn4 hm HSN HSH.out.2.2 hl HML HTN HTB (Lib.hid (by rw [← HN.out]; exact hi)) hW hg)
  go_wp2_with fail
  refine (H46.out).mono ?_
  rintro e w6 ⟨hg6, -, q', d', V, rfl, hr1, hr2, hr3, hr4, hr5, hr6⟩
  have hs1 := HS1.out
  have hA := HA.out
  have y6 : w6.heap[A + 1 + 1]? = some (.cells #[.slice none 0 0, .slice none 0 0] 25 (0, 0)) := (hg6.block (A + 1 + 1) (by omega) (by intro e; cases e)).trans HY1.out
  have r0 : w6.cell? ⟨A + 1 + 1, 0, none⟩ = some (.slice none 0 0) := by simp [World.cell?, y6]
  have r1 : w6.cell? ⟨A + 1 + 1, 1, none⟩ = some (.slice none 0 0) := by simp [World.cell?, y6]
  have z0 : w6.frozen? ⟨A + 1 + 1, 0, none⟩ = false := by simp [World.frozen?, y6]
  have z1 : w6.frozen? ⟨A + 1 + 1, 1, none⟩ = false := by simp [World.frozen?, y6]
  have hE1 := heap_set w6 (A + 1 + 1) 0 (.slice q' k d') _ _ y6
  have hE2 := heap_set _ (A + 1 + 1) 1 (.slice (some ⟨V, 0, none⟩) N N) _ _ hE1
  obtain ⟨W7, hW7⟩ : ∃ W7, (w6.setCell ⟨A + 1 + 1, 0, none⟩ (.slice q' k d')).setCell ⟨A + 1 + 1, 1, none⟩ (.slice (some ⟨V, 0, none⟩) N N) = W7 := ⟨_, rfl⟩
  rw [hW7] at hE2
  have k0 : W7.cell? ⟨A + 1 + 1, 0, none⟩ = some (.slice q' k d') := by simp [World.cell?, hE2]
  have k1 : W7.cell? ⟨A + 1 + 1, 1, none⟩ = some (.slice (some ⟨V, 0, none⟩) N N) := by simp [World.cell?, hE2]
  have hg67 : w6.grownBy W7 (some (A + 1 + 1)) := by rw [← hW7]; exact (gb_set _ _ _ _).trans (gb_set _ _ _ _)
  have HFIN : Hid (ArrPost w 0 t0 ((List.range N).map (resT s0 t0 l v)) (.returned (.tuple #[.agg #[.slice q' k d', .slice (some ⟨V, 0, none⟩) N N], .int .i64 0])) W7) := Lib.hid (by
      have o2 : w.grownBy W7 none := gb_trans_new ((gb_of_below HBk.out none).trans hg6) hg67 HRB.out
      refine ⟨⟨o2.os, o2.tape, o2.output, o2.size, fun k hk => o2.block k hk (by intro e; cases e)⟩, q', _, k, d', N, N, rfl, HTN.out, by rw [List.length_map, List.length_range], ?_, ?_⟩
      · refine hr1.keep hg67.size (fun b off e h0 => ?_)
        obtain ⟨b', off', x, e', hb', -⟩ := hr1.at h0
        rw [e] at e'; cases e'
        exact hg67.block b hb' (by intro e2; injection e2 with e2; have := hr4 b off e; omega)
      · refine hr5.keep hg67.size (fun b off e h0 => ?_)
        obtain ⟨b', off', x, e', hb', -⟩ := hr5.at h0
        rw [e] at e'; cases e'
        cases e
        exact hg67.block V hb' (by intro e2; injection e2 with e2; omega))
  clear hr1 hr2 hr3 hr4 hr5 hr6 hg6 hg67 hE1 hE2 y6 H46 hs1 hA
  go_wp2_with fail
  (try simp only [Exit.inBlock, Exit.then])
  refine bodyPost_ret (v := .tuple #[.agg #[.slice q' k d', .slice (some ⟨V, 0, none⟩) N N], .int .i64 0]) ?_ rfl HFIN.out
  rw [results_cell_tmp rfl]
  go_simp
end Go.Proofs.YtigidchicloleaaGreatDoor.Arr
