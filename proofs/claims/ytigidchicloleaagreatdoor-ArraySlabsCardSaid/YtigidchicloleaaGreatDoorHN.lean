/- Paste on both sides, where it is refused. -/
import Derived.Test.YtigidchicloleaaGreatDoorHL
import Derived.Test.YtigidchicloleaaGreatDoorHM
set_option maxHeartbeats 8000000
set_option maxRecDepth 100000
namespace Go.Proofs.YtigidchicloleaaGreatDoor.Arr
open Go.RowKit Go.Shelf
open Go.Lib
attribute [local go_sem] Oper.semAt_some
def pasteV (s : List Nat) (l : List (List UInt8)) (cuts : List (Int × Int × Int)) (bl : List (List UInt8)) : List (List UInt8) :=
  (List.range (prod (cnts cuts))).foldl (fun L i => L.set (plc s (thr cuts (ixOf (cnts cuts) i)) 0) (bl.getD i [])) l
def pstV (s t : List Int) (l bl : List (List UInt8)) (cuts : List (Int × Int × Int)) : Int × List Nat × List (List UInt8) :=
  if validA s l = false then (60, [], []) else if validA t bl = false then (60, [], []) else if slabOk (s.map Int.toNat) cuts = false then (61, [], []) else if ¬ t = (cnts cuts).map Int.ofNat then (60, [], []) else (0, s.map Int.toNat, pasteV (s.map Int.toNat) l cuts bl)
theorem list_eq_of {s1 s2 : List Int} {n : Nat} (h1 : s1.length = n) (h2 : s2.length = n) (h : ∀ k, k < n → s1.getD k 0 = s2.getD k 0) : s1 = s2 := by
  refine List.ext_getElem (by rw [h1, h2]) (fun k hk1 hk2 => ?_)
  have := h k (by omega)
  rwa [List.getD_eq_getElem?_getD, List.getElem?_eq_getElem hk1, List.getD_eq_getElem?_getD, List.getElem?_eq_getElem hk2] at this
theorem equal_any (p q : Option Addr) (c d n m : Nat) (s1 s2 : List Int) (w : World) (h1 : Hid (s1.length = n)) (h2 : Hid (s2.length = m)) (hm : m ≤ 1000) (hp : Rd w p s1) (hq : Rd w q s2) :
    Calls Tryz.prog 67 #[.slice p n c, .slice q m d] w fun e w' => (∃ k, w.drewN k = w') ∧ e = .returned (.bool (decide (s1 = s2))) := by
  have HP := Lib.hid hp
  have HQ := Lib.hid hq
  obtain ⟨v, HV⟩ : ∃ v, Hid (v = decide (s1 = s2)) := ⟨_, Lib.hid rfl⟩
  rw [← HV.out]
  clear hp hq
  by_cases hlen : n = m
  case neg =>
    have hle : ¬ (n : Int) = (m : Int) := by omega
    obtain rfl : v = false := by rw [HV.out]; exact decide_eq_false (fun e => hlen (by rw [← h1.out, ← h2.out, e]))
    go_enter Tryz.func67, Tryz.ntmps67
    go_wp2_with fail
    go_ret
    exact ⟨⟨0, rfl⟩, rfl⟩
  subst hlen
  have hni : (n : Int) ≤ 1000 := by omega
  have HNO : Hid (∀ k, k < n → s1.getD k 0 ≠ s2.getD k 0 → v = false) := Lib.hid (fun k _ h => by rw [HV.out]; exact decide_eq_false (fun e => h (by rw [e])))
  have HYES : Hid ((∀ k, k < n → s1.getD k 0 = s2.getD k 0) → v = true) := Lib.hid (fun h => by rw [HV.out]; exact decide_eq_true (list_eq_of h1.out h2.out h))
  go_enter Tryz.func67, Tryz.ntmps67
  go_wp2_with fail
  go_loopw [13] (fun iv wr => ∃ i k : Nat, i ≤ n ∧ iv = .int .i64 i ∧ wr = w.drewN k ∧ Hid (∀ k, k < i → s1.getD k 0 = s2.getD k 0)) (fun iv _ => n - (Go.RowKit.intOf iv).toNat)
  case atStart => exact ⟨0, 0, Nat.zero_le _, rfl, rfl, Lib.hid (fun k hk => by omega)⟩
  case round =>
    obtain ⟨i, r, hi, rfl, rfl, HA⟩ := hrel
    have ii : (i : Int) ≤ (n : Int) := by omega
    by_cases hlt : i < n
    · have ilt : (i : Int) < (n : Int) := by omega
      obtain ⟨b1, o1, x, rfl, -, hc1, HX, -, -⟩ := HP.out.at (k := i) (by rw [h1.out]; exact hlt)
      obtain ⟨b2, o2, z, rfl, -, hc2, HZ, -, -⟩ := HQ.out.at (k := i) (by rw [h2.out]; exact hlt)
      by_cases hxz : x = z
      · have hst : Hid (∀ k, k < i + 1 → s1.getD k 0 = s2.getD k 0) := Lib.hid (fun k hk => by
          by_cases e : k = i
          · rw [e, ← HX.out, ← HZ.out, hxz]
          · exact HA.out k (by omega))
        subst hxz
        go_wp2_with fail
        go_quiet (fail)
        go_wp2_with fail
        go_roundw
        case rel => exact ⟨i + 1, _, by omega, by go_num, rfl, hst⟩
        case measure => simp [Go.RowKit.intOf]; omega
      · have hxz2 : (x == z) = false := by rw [beq_eq_false_iff_ne]; exact hxz
        obtain rfl : v = false := HNO.out i hlt (by rw [← HX.out, ← HZ.out]; exact hxz)
        go_wp2_with fail
        go_quiet (fail)
        go_wp2_with fail
        go_ret
        exact ⟨⟨_, (World.drewN_drewN ..).symm⟩, rfl⟩
    · obtain rfl : i = n := by omega
      have ilt : ¬ (i : Int) < (i : Int) := by omega
      obtain rfl : v = true := HYES.out HA.out
      go_wp2_with fail
      go_ret
      exact ⟨⟨_, rfl⟩, rfl⟩
theorem samesh_any (p q : Option Addr) (c d n m : Nat) (s1 s2 : List Int) (w : World) (h1 : Hid (s1.length = n)) (h2 : Hid (s2.length = m)) (hn : n ≤ 1000) (hm : m ≤ 1000) (hp : Rd w p s1) (hq : Rd w q s2) :
    Calls Tryz.prog 71 #[.slice p n c, .slice q m d] w fun e w' => Below w.heap.size w w' ∧ e = .returned (.bool (decide (s1 = s2))) := by
  have H37 : Hid (Calls Tryz.prog 38 #[.agg #[.slice p n c, .slice none 0 0], .agg #[.slice q m d, .slice none 0 0]] w fun e w' => Below w.heap.size w w' ∧ e = .returned (.bool (decide (s1 = s2)))) := Lib.hid (by
    have := same_any p none q none c 0 d 0 n 0 m 0 s1 s2 [] [] w h1 (Lib.hid rfl) h2 (Lib.hid rfl) hn (by omega) hm (by omega) hp (.inl rfl) hq (.inl rfl)
    simpa using this)
  clear hp hq
  go_enter Tryz.func71, Tryz.ntmps71
  go_wp2_with fail
  refine (H37.out).mono ?_
  rintro e w1 ⟨hb, rfl⟩
  have HB := Lib.hid hb
  clear hb
  go_wp2_with fail
  go_ret
  exact ⟨HB.out, rfl⟩
theorem isslab_any' (p q : Option Addr) (c d n m : Nat) (s : List Nat) (l : List (Int × Int × Int)) (w : World) (hs : Hid (s.length = n)) (hl : Hid (l.length = m)) (hs4 : n ≤ 4) (hsb : ∀ x ∈ s, x ≤ 1024) (hp : RdN w p s) (hq : RdC w q l) :
    Calls Tryz.prog 59 #[.slice p n c, .slice q m d] w (CutPost (slabOk s l) w) := by
  have := isslab_any p q c d s l w (by rw [hs.out]; exact hs4) hsb hp hq
  rwa [hs.out, hl.out] at this
theorem ppaste_no (p q p2 q2 cq : Option Addr) (c d c2 d2 n m n2 m2 k cd : Nat) (s t : List Int) (l bl : List (List UInt8)) (cuts : List (Int × Int × Int)) (w : World) (he : Env w) (hs : Hid (s.length = n)) (hl : Hid (l.length = m)) (hm : m ≤ 5000) (ht : Hid (t.length = n2)) (hbl : Hid (bl.length = m2)) (hm2 : m2 ≤ 5000) (hk : Hid (cuts.length = k)) (hp : Rd w p s) (hq : RdS w q l) (hp2 : Rd w p2 t) (hq2 : RdS w q2 bl) (hcq : RdC w cq cuts)
    (hno : (pstV s t l bl cuts).1 ≠ 0) :
    Calls Tryz.prog 26 #[.agg #[.slice p n c, .slice q m d], .slice cq k cd, .agg #[.slice p2 n2 c2, .slice q2 m2 d2]] w (ArrPost w (pstV s t l bl cuts).1 (pstV s t l bl cuts).2.1 (pstV s t l bl cuts).2.2) := by
  have HP := Lib.hid hp
  have HQ := Lib.hid hq
  have HP2 := Lib.hid hp2
  have HQ2 := Lib.hid hq2
  have HCQ := Lib.hid hcq
  have HE := Lib.hid he
  obtain ⟨A, HA⟩ : ∃ A, Hid (A = w.heap.size) := ⟨_, Lib.hid rfl⟩
  obtain ⟨W0, HW0⟩ : ∃ W0, Hid (((w.alloc (.cells #[.slice p n c, .slice q m d] 25)).alloc (.cells #[.slice p2 n2 c2, .slice q2 m2 d2] 25)).alloc (.cells #[.slice none 0 0, .slice none 0 0] 25) = W0) := ⟨_, Lib.hid rfl⟩
  have HB0 : Hid (Below w.heap.size w W0) := Lib.hid (by rw [← HW0.out]; exact (((Below.refl _ w).alloc (Nat.le_refl _) _).alloc (by simp) _).alloc (by simp; omega) _)
  have HRB : Hid (w.heap.size ≤ A + 1 + 1) := Lib.hid (by rw [HA.out]; omega)
  have HS0 : Hid (W0.heap.size = A + 1 + 1 + 1) := Lib.hid (by rw [← HW0.out, HA.out]; simp)
  have HA0 : Hid (W0.heap[A]? = some (.cells #[.slice p n c, .slice q m d] 25 (0, 0))) := Lib.hid (by
    rw [← HW0.out, HA.out]; simp only [World.alloc, Array.getElem?_push, Array.size_push]
    repeat' (first | rw [if_pos (by omega)] | rw [if_neg (by omega)] | rfl))
  have HA1 : Hid (W0.heap[A + 1]? = some (.cells #[.slice p2 n2 c2, .slice q2 m2 d2] 25 (0, 0))) := Lib.hid (by
    rw [← HW0.out, HA.out]; simp only [World.alloc, Array.getElem?_push, Array.size_push]
    repeat' (first | rw [if_pos (by omega)] | rw [if_neg (by omega)] | rfl))
  have HA2 : Hid (W0.heap[A + 1 + 1]? = some (.cells #[.slice none 0 0, .slice none 0 0] 25 (0, 0))) := Lib.hid (by
    rw [← HW0.out, HA.out]; simp only [World.alloc, Array.getElem?_push, Array.size_push]
    repeat' (first | rw [if_pos (by omega)] | rw [if_neg (by omega)] | rfl))
  have HBX : Hid (∀ W, Below W0.heap.size W0 W → Below w.heap.size w W ∧ W.heap[A]? = some (.cells #[.slice p n c, .slice q m d] 25 (0, 0)) ∧ W.heap[A + 1]? = some (.cells #[.slice p2 n2 c2, .slice q2 m2 d2] 25 (0, 0)) ∧ W.heap[A + 1 + 1]? = some (.cells #[.slice none 0 0, .slice none 0 0] 25 (0, 0))) := Lib.hid (fun W hW =>
    ⟨HB0.out.trans (hW.mono HB0.out.size), (hW.block A (by rw [HS0.out]; omega)).trans HA0.out, (hW.block (A + 1) (by rw [HS0.out]; omega)).trans HA1.out, (hW.block (A + 1 + 1) (by rw [HS0.out]; omega)).trans HA2.out⟩)
  have HVA : Hid (Calls Tryz.prog 21 #[.agg #[.slice p n c, .slice q m d]] W0 fun e w' => Below W0.heap.size W0 w' ∧ e = .returned (.bool (validA s l))) := Lib.hid (valid_any p q c d n m s l W0 (HE.out.below HB0.out) hs hl hm (HP.out.below HB0.out) (HQ.out.below HB0.out))
  have HVB : Hid (∀ W, Below W0.heap.size W0 W → Calls Tryz.prog 21 #[.agg #[.slice p2 n2 c2, .slice q2 m2 d2]] W fun e w' => Below W.heap.size W w' ∧ e = .returned (.bool (validA t bl))) := Lib.hid (fun W hW => valid_any p2 q2 c2 d2 n2 m2 t bl W (HE.out.below (HBX.out W hW).1) ht hbl hm2 (HP2.out.below (HBX.out W hW).1) (HQ2.out.below (HBX.out W hW).1))
  clear hp hq hp2 hq2 hcq he
  by_cases hv : validA s l = false
  · have e0 : pstV s t l bl cuts = (60, [], []) := by unfold pstV; rw [if_pos hv]
    rw [e0]
    rw [hv] at HVA
    clear hv e0 hno
    go_enter Tryz.func26, Tryz.ntmps26
    go_wp2_with fail
    rw [HW0.out, ← HA.out]
    refine (HVA.out).mono ?_
    rintro e w1 ⟨hb1, rfl⟩
    have HB1 := Lib.hid hb1
    obtain ⟨hbw, x0, x1, y1⟩ := HBX.out w1 hb1
    have HBk := Lib.hid hbw
    clear hb1 hbw
    clear x0 x1
    have r0 : w1.cell? ⟨A + 1 + 1, 0, none⟩ = some (.slice none 0 0) := by simp [World.cell?, y1]
    have r1 : w1.cell? ⟨A + 1 + 1, 1, none⟩ = some (.slice none 0 0) := by simp [World.cell?, y1]
    have z0 : w1.frozen? ⟨A + 1 + 1, 0, none⟩ = false := by simp [World.frozen?, y1]
    have z1 : w1.frozen? ⟨A + 1 + 1, 1, none⟩ = false := by simp [World.frozen?, y1]
    have hE1 := heap_set w1 (A + 1 + 1) 0 (.slice none 0 0) _ _ y1
    have hE2 := heap_set _ (A + 1 + 1) 1 (.slice none 0 0) _ _ hE1
    obtain ⟨W7, hW7⟩ : ∃ W7, (w1.setCell ⟨A + 1 + 1, 0, none⟩ (.slice none 0 0)).setCell ⟨A + 1 + 1, 1, none⟩ (.slice none 0 0) = W7 := ⟨_, rfl⟩
    rw [hW7] at hE2
    have k0 : W7.cell? ⟨A + 1 + 1, 0, none⟩ = some (.slice none 0 0) := by simp [World.cell?, hE2]
    have k1 : W7.cell? ⟨A + 1 + 1, 1, none⟩ = some (.slice none 0 0) := by simp [World.cell?, hE2]
    have HFIN : Hid (ArrPost w 60 [] [] (.returned (.tuple #[.agg #[.slice none 0 0, .slice none 0 0], .int .i64 60])) W7) := Lib.hid (arr_no (by
      rw [← hW7]
      exact (HBk.out.setCell (p := ⟨A + 1 + 1, 0, none⟩) HRB.out _).setCell (p := ⟨A + 1 + 1, 1, none⟩) HRB.out _))
    clear hE1 hE2 y1
    go_wp2_with fail
    (try simp only [Exit.inBlock, Exit.then])
    refine bodyPost_ret (v := .tuple #[.agg #[.slice none 0 0, .slice none 0 0], .int .i64 60]) ?_ rfl HFIN.out
    rw [results_cell_tmp rfl]
    go_simp
  have hv2 : validA s l = true := by simpa using hv
  rw [hv2] at HVA
  by_cases hw : validA t bl = false
  · have e0 : pstV s t l bl cuts = (60, [], []) := by unfold pstV; rw [if_neg hv, if_pos hw]
    rw [e0]
    rw [hw] at HVB
    clear hv hw e0 hno
    go_enter Tryz.func26, Tryz.ntmps26
    go_wp2_with fail
    rw [HW0.out, ← HA.out]
    refine (HVA.out).mono ?_
    rintro e w1 ⟨hb1, rfl⟩
    have HB1 := Lib.hid hb1
    obtain ⟨hbw, x0, x1, y1⟩ := HBX.out w1 hb1
    have HBk := Lib.hid hbw
    clear hb1 hbw
    have c1 : w1.cell? ⟨A + 1, 0, none⟩ = some (.slice p2 n2 c2) := by simp [World.cell?, x1]
    have c2' : w1.cell? ⟨A + 1, 1, none⟩ = some (.slice q2 m2 d2) := by simp [World.cell?, x1]
    clear x0 x1 y1
    go_wp2_with fail
    refine (HVB.out _ HB1.out).mono ?_
    rintro e w2 ⟨hb2, rfl⟩
    have HB2 := Lib.hid (HB1.out.trans (hb2.mono HB1.out.size))
    clear hb2 c1 c2' HBk
    obtain ⟨hbw, x0, x1, y1⟩ := HBX.out w2 HB2.out
    have HBk := Lib.hid hbw
    clear hbw
    clear x0 x1
    have r0 : w2.cell? ⟨A + 1 + 1, 0, none⟩ = some (.slice none 0 0) := by simp [World.cell?, y1]
    have r1 : w2.cell? ⟨A + 1 + 1, 1, none⟩ = some (.slice none 0 0) := by simp [World.cell?, y1]
    have z0 : w2.frozen? ⟨A + 1 + 1, 0, none⟩ = false := by simp [World.frozen?, y1]
    have z1 : w2.frozen? ⟨A + 1 + 1, 1, none⟩ = false := by simp [World.frozen?, y1]
    have hE1 := heap_set w2 (A + 1 + 1) 0 (.slice none 0 0) _ _ y1
    have hE2 := heap_set _ (A + 1 + 1) 1 (.slice none 0 0) _ _ hE1
    obtain ⟨W7, hW7⟩ : ∃ W7, (w2.setCell ⟨A + 1 + 1, 0, none⟩ (.slice none 0 0)).setCell ⟨A + 1 + 1, 1, none⟩ (.slice none 0 0) = W7 := ⟨_, rfl⟩
    rw [hW7] at hE2
    have k0 : W7.cell? ⟨A + 1 + 1, 0, none⟩ = some (.slice none 0 0) := by simp [World.cell?, hE2]
    have k1 : W7.cell? ⟨A + 1 + 1, 1, none⟩ = some (.slice none 0 0) := by simp [World.cell?, hE2]
    have HFIN : Hid (ArrPost w 60 [] [] (.returned (.tuple #[.agg #[.slice none 0 0, .slice none 0 0], .int .i64 60])) W7) := Lib.hid (arr_no (by
      rw [← hW7]
      exact (HBk.out.setCell (p := ⟨A + 1 + 1, 0, none⟩) HRB.out _).setCell (p := ⟨A + 1 + 1, 1, none⟩) HRB.out _))
    clear hE1 hE2 y1
    go_wp2_with fail
    (try simp only [Exit.inBlock, Exit.then])
    refine bodyPost_ret (v := .tuple #[.agg #[.slice none 0 0, .slice none 0 0], .int .i64 60]) ?_ rfl HFIN.out
    rw [results_cell_tmp rfl]
    go_simp
  have hw2 : validA t bl = true := by simpa using hw
  rw [hw2] at HVB
  have hvs : vs s = true := by unfold validA at hv2; rw [Bool.and_eq_true] at hv2; exact hv2.1
  have hvt : vs t = true := by unfold validA at hw2; rw [Bool.and_eq_true] at hw2; exact hw2.1
  have HN2 : Hid (n2 ≤ 1000) := Lib.hid (by
    obtain ⟨t0, rfl, ht0⟩ := vs_yes hvt
    have := ht0.1
    rw [← ht.out, List.length_map]; omega)
  obtain ⟨s0, rfl, hsh⟩ := vs_yes hvs
  have hsn : s0.length = n := by rw [← hs.out, List.length_map]
  have hn4 : n ≤ 4 := by rw [← hsn]; exact hsh.1
  have HSN := Lib.hid hsn
  have HSH := Lib.hid hsh
  obtain ⟨u, HU⟩ : ∃ u, Hid (u = slabOk s0 cuts) := ⟨_, rfl⟩
  have HFI : Hid (∀ W, Below W0.heap.size W0 W → Calls Tryz.prog 59 #[.slice p n c, .slice cq k cd] W fun e w' => Below W.heap.size W w' ∧ e = .returned (.bool u)) := Lib.hid (fun W hW => by
    rw [HU.out]; exact (isslab_any' p cq c cd n k s0 cuts W HSN hk hn4 HSH.out.2.1 (HP.out.below (HBX.out W hW).1) (HCQ.out.below (HBX.out W hW).1)))
  by_cases hu : u = false
  · subst hu
    have e0 : pstV (s0.map Int.ofNat) t l bl cuts = (61, [], []) := by unfold pstV; rw [if_neg hv, if_neg hw, toNat_map, if_pos HU.out.symm]
    rw [e0]
    clear hv hv2 hw hw2 e0 hno hsh hsn hvs hvt
    go_enter Tryz.func26, Tryz.ntmps26
    go_wp2_with fail
    rw [HW0.out, ← HA.out]
    refine (HVA.out).mono ?_
    rintro e w1 ⟨hb1, rfl⟩
    have HB1 := Lib.hid hb1
    obtain ⟨hbw, x0, x1, y1⟩ := HBX.out w1 hb1
    have HBk := Lib.hid hbw
    clear hb1 hbw
    have c1 : w1.cell? ⟨A + 1, 0, none⟩ = some (.slice p2 n2 c2) := by simp [World.cell?, x1]
    have c2' : w1.cell? ⟨A + 1, 1, none⟩ = some (.slice q2 m2 d2) := by simp [World.cell?, x1]
    clear x0 x1 y1
    go_wp2_with fail
    refine (HVB.out _ HB1.out).mono ?_
    rintro e w2 ⟨hb2, rfl⟩
    have HB2 := Lib.hid (HB1.out.trans (hb2.mono HB1.out.size))
    clear hb2 c1 c2' HBk
    obtain ⟨hbw, x0, x1, y1⟩ := HBX.out w2 HB2.out
    have HBk := Lib.hid hbw
    clear hbw
    have c0 : w2.cell? ⟨A, 0, none⟩ = some (.slice p n c) := by simp [World.cell?, x0]
    clear x0 x1 y1
    go_wp2_with fail
    refine (HFI.out _ HB2.out).mono ?_
    rintro e w3 ⟨hb3, rfl⟩
    have HB3 := Lib.hid (HB2.out.trans (hb3.mono HB2.out.size))
    clear hb3 c0 HBk
    obtain ⟨hbw, x0, x1, y1⟩ := HBX.out w3 HB3.out
    have HBk := Lib.hid hbw
    clear hbw
    clear x0 x1
    have r0 : w3.cell? ⟨A + 1 + 1, 0, none⟩ = some (.slice none 0 0) := by simp [World.cell?, y1]
    have r1 : w3.cell? ⟨A + 1 + 1, 1, none⟩ = some (.slice none 0 0) := by simp [World.cell?, y1]
    have z0 : w3.frozen? ⟨A + 1 + 1, 0, none⟩ = false := by simp [World.frozen?, y1]
    have z1 : w3.frozen? ⟨A + 1 + 1, 1, none⟩ = false := by simp [World.frozen?, y1]
    have hE1 := heap_set w3 (A + 1 + 1) 0 (.slice none 0 0) _ _ y1
    have hE2 := heap_set _ (A + 1 + 1) 1 (.slice none 0 0) _ _ hE1
    obtain ⟨W7, hW7⟩ : ∃ W7, (w3.setCell ⟨A + 1 + 1, 0, none⟩ (.slice none 0 0)).setCell ⟨A + 1 + 1, 1, none⟩ (.slice none 0 0) = W7 := ⟨_, rfl⟩
    rw [hW7] at hE2
    have k0 : W7.cell? ⟨A + 1 + 1, 0, none⟩ = some (.slice none 0 0) := by simp [World.cell?, hE2]
    have k1 : W7.cell? ⟨A + 1 + 1, 1, none⟩ = some (.slice none 0 0) := by simp [World.cell?, hE2]
    have HFIN : Hid (ArrPost w 61 [] [] (.returned (.tuple #[.agg #[.slice none 0 0, .slice none 0 0], .int .i64 61])) W7) := Lib.hid (arr_no (by
      rw [← hW7]
      exact (HBk.out.setCell (p := ⟨A + 1 + 1, 0, none⟩) HRB.out _).setCell (p := ⟨A + 1 + 1, 1, none⟩) HRB.out _))
    clear hE1 hE2 y1
    go_wp2_with fail
    (try simp only [Exit.inBlock, Exit.then])
    refine bodyPost_ret (v := .tuple #[.agg #[.slice none 0 0, .slice none 0 0], .int .i64 61]) ?_ rfl HFIN.out
    rw [results_cell_tmp rfl]
    go_simp
  obtain rfl : u = true := by simpa using hu
  have hsl : slabOk s0 cuts = true := HU.out.symm
  obtain ⟨hcl, hcz, hcb, hcp⟩ := cnts_ok hsl hsh.2.1
  have hkn : k = n := by rw [← hk.out, hcl, hsn]
  subst hkn
  have HKN : Hid (cuts.length = k) := hk
  have HCZ := Lib.hid hcz
  have HCB := Lib.hid hcb
  have HCN : Hid ((cnts cuts).length = k) := Lib.hid (by rw [cnts, List.length_map, hk.out])
  by_cases heq : t = (cnts cuts).map Int.ofNat
  · exact absurd (show (pstV (s0.map Int.ofNat) t l bl cuts).1 = 0 by unfold pstV; rw [if_neg hv, if_neg hw, toNat_map, if_neg (by rw [hsl]; simp), if_neg (by simp [heq])]) hno
  have e0 : pstV (s0.map Int.ofNat) t l bl cuts = (60, [], []) := by unfold pstV; rw [if_neg hv, if_neg hw, toNat_map, if_neg (by rw [hsl]; simp), if_pos heq]
  rw [e0]
  have HCO : Hid (∀ W, Below W0.heap.size W0 W → Calls Tryz.prog 61 #[.slice cq k cd] W fun e w' => ∃ g, e = .returned (.slice (some ⟨g, 0, none⟩) k k) ∧ w'.heap[g]? = some (.cells (ixC (cnts cuts)) 3 (0, 0)) ∧ Below W.heap.size W w') := Lib.hid (fun W hW =>
    (shapeof_any cq cd k cuts W hn4 HKN HCZ (HCQ.out.below (HBX.out W hW).1)).mono (fun e w' h => by obtain ⟨h1, g, h2, h3, h4⟩ := h; exact ⟨g, h3, h4, h1⟩))
  have HEQ : Hid (∀ W g, Below W0.heap.size W0 W → W.heap[g]? = some (.cells (ixC (cnts cuts)) 3 (0, 0)) → Calls Tryz.prog 67 #[.slice p2 n2 c2, .slice (some ⟨g, 0, none⟩) k k] W fun e w' => Below W.heap.size W w' ∧ e = .returned (.bool false)) := Lib.hid (fun W g hW hg => by
    rw [← decide_eq_false heq]
    exact (equal_any p2 (some ⟨g, 0, none⟩) c2 k n2 k t ((cnts cuts).map Int.ofNat) W ht (Lib.hid (by rw [List.length_map, HCN.out])) (by omega) (HP2.out.below (HBX.out W hW).1) (rdn_row hg (fun x hx => by have := HCB.out x hx; omega))).mono (fun e w' h => ⟨by obtain ⟨j, rfl⟩ := h.1; exact ⟨rfl, rfl, rfl, Nat.le_refl _, fun _ _ => rfl⟩, h.2⟩))
  clear hv hv2 hw hw2 e0 hno hsh hsn hvs hvt heq hcl hcz hcb hcp hsl
  go_enter Tryz.func26, Tryz.ntmps26
  go_wp2_with fail
  rw [HW0.out, ← HA.out]
  refine (HVA.out).mono ?_
  rintro e w1 ⟨hb1, rfl⟩
  have HB1 := Lib.hid hb1
  obtain ⟨hbw, x0, x1, y1⟩ := HBX.out w1 hb1
  have HBk := Lib.hid hbw
  clear hb1 hbw
  have c1 : w1.cell? ⟨A + 1, 0, none⟩ = some (.slice p2 n2 c2) := by simp [World.cell?, x1]
  have c2' : w1.cell? ⟨A + 1, 1, none⟩ = some (.slice q2 m2 d2) := by simp [World.cell?, x1]
  clear x0 x1 y1
  go_wp2_with fail
  refine (HVB.out _ HB1.out).mono ?_
  rintro e w2 ⟨hb2, rfl⟩
  have HB2 := Lib.hid (HB1.out.trans (hb2.mono HB1.out.size))
  clear hb2 c1 c2' HBk
  obtain ⟨hbw, x0, x1, y1⟩ := HBX.out w2 HB2.out
  have HBk := Lib.hid hbw
  clear hbw
  have c0 : w2.cell? ⟨A, 0, none⟩ = some (.slice p k c) := by simp [World.cell?, x0]
  clear x0 x1 y1
  go_wp2_with fail
  refine (HFI.out _ HB2.out).mono ?_
  rintro e w3 ⟨hb3, rfl⟩
  have HB3 := Lib.hid (HB2.out.trans (hb3.mono HB2.out.size))
  clear hb3 c0 HBk
  obtain ⟨hbw, x0, x1, y1⟩ := HBX.out w3 HB3.out
  have HBk := Lib.hid hbw
  clear hbw
  have HSS : Hid (∀ W, Below W0.heap.size W0 W → (fun W => W.cell? ⟨A + 1, 0, none⟩ = some (.slice p2 n2 c2)) W) := Lib.hid (fun W hW => by
    have := (HBX.out W hW).2.2.1
    simp [World.cell?, this])
  have HBD : Hid (Below W0.heap.size W0 w3.drew) := Lib.hid (HB3.out.trans ⟨rfl, rfl, rfl, Nat.le_refl _, fun _ _ => rfl⟩)
  clear x0 x1 y1 HBk
  go_wp2_with fail
  refine wp_region_noPanic ?_
  refine wp_region_held_drew (S := fun W => W.cell? ⟨A + 1, 0, none⟩ = some (.slice p2 n2 c2)) (by kernel_rfl) (HSS.out _ HBD.out) (fun hHeld => ?_)
  refine wpAnyH_take (i := 0) (v := ?v1) rfl (by kernel_rfl) (by kernel_rfl) (by kernel_rfl) (fun _ _ _ h => h) (Or.inl ⟨by rfl, ?hy1⟩) (by assumption) ?rest1
  case hy1 =>
    intro W' hSw
    obtain e0 := hSw
    go_simp
    with_reducible rfl
  simp only [List.getElem_toArray, List.getElem_cons_zero, Act.put, List.setIfInBounds_toArray, List.set_cons_zero, List.set_cons_succ]
  refine wpAnyH_take (i := 1) (v := ?v2) rfl (by kernel_rfl) (by kernel_rfl) (by kernel_rfl) (fun _ _ _ h => h) (Or.inl ⟨by rfl, ?hy2⟩) (by assumption) ?rest2
  case hy2 =>
    intro W' hSw
    obtain e0 := hSw
    go_simp
    with_reducible rfl
  simp only [List.getElem_toArray, List.getElem_cons_zero, List.getElem_cons_succ, Act.put, List.setIfInBounds_toArray, List.set_cons_zero, List.set_cons_succ]
  refine wpAnyH_take (i := 2) (v := ?v3) rfl (by kernel_rfl) (by kernel_rfl) (by kernel_rfl) (fun _ _ _ h => h) (Or.inl ⟨by rfl, ?hy3⟩) (by assumption) ?rest3
  case hy3 =>
    intro W' hSw
    obtain e0 := hSw
    go_simp
    with_reducible rfl
  simp only [List.getElem_toArray, List.getElem_cons_zero, List.getElem_cons_succ, Act.put, List.setIfInBounds_toArray, List.set_cons_zero, List.set_cons_succ]
  refine wpAnyH_ready (rs := [3]) (by kernel_rfl) (by simp) ?_
  refine AllReadyH.cons (i := 3) rfl (fun K hK => ?_) AllReadyH.nil
  go_simp
  refine (HCO.out _ HBD.out).mono ?_
  rintro e w4 ⟨g4, rfl, hg4, hb4⟩
  have HG4 := Lib.hid hg4
  have HB4 : Hid (Below W0.heap.size W0 w4) := Lib.hid (HBD.out.trans (hb4.mono HBD.out.size))
  clear hg4 hb4
  refine hK.out _ _ (HSS.out _ HB4.out) (fun hHeld => ?_)
  clear hK K
  refine wpAnyH_ready (rs := [4]) (by kernel_rfl) (by simp) ?_
  refine AllReadyH.cons (i := 4) rfl (fun K hK => ?_) AllReadyH.nil
  go_simp
  refine (HEQ.out _ _ HB4.out HG4.out).mono ?_
  rintro e w5 ⟨hb5, rfl⟩
  have HB5 : Hid (Below W0.heap.size W0 w5) := Lib.hid (HB4.out.trans (hb5.mono HB4.out.size))
  clear hb5
  refine hK.out _ _ (HSS.out _ HB5.out) (fun hHeld => ?_)
  clear hK K
  refine wpAnyH_take (i := 5) (v := ?v4) rfl (by kernel_rfl) (by kernel_rfl) (by kernel_rfl) (fun _ _ _ h => h) (Or.inl ⟨by rfl, ?hy4⟩) (by assumption) ?rest4
  case hy4 =>
    intro W' hSw
    obtain e0 := hSw
    go_simp
    with_reducible rfl
  simp only [List.getElem_toArray, List.getElem_cons_zero, List.getElem_cons_succ, Act.put, List.setIfInBounds_toArray, List.set_cons_zero, List.set_cons_succ]
  refine wpAnyH_done (by kernel_rfl) ?_ _
  refine NoPanic.normal ?_
  clear hHeld
  obtain ⟨hbw, x0, x1, y1⟩ := HBX.out w5 HB5.out
  have HBk := Lib.hid hbw
  clear hbw
  clear x0 x1
  have r0 : w5.cell? ⟨A + 1 + 1, 0, none⟩ = some (.slice none 0 0) := by simp [World.cell?, y1]
  have r1 : w5.cell? ⟨A + 1 + 1, 1, none⟩ = some (.slice none 0 0) := by simp [World.cell?, y1]
  have z0 : w5.frozen? ⟨A + 1 + 1, 0, none⟩ = false := by simp [World.frozen?, y1]
  have z1 : w5.frozen? ⟨A + 1 + 1, 1, none⟩ = false := by simp [World.frozen?, y1]
  have hE1 := heap_set w5 (A + 1 + 1) 0 (.slice none 0 0) _ _ y1
  have hE2 := heap_set _ (A + 1 + 1) 1 (.slice none 0 0) _ _ hE1
  obtain ⟨W7, hW7⟩ : ∃ W7, (w5.setCell ⟨A + 1 + 1, 0, none⟩ (.slice none 0 0)).setCell ⟨A + 1 + 1, 1, none⟩ (.slice none 0 0) = W7 := ⟨_, rfl⟩
  rw [hW7] at hE2
  have k0 : W7.cell? ⟨A + 1 + 1, 0, none⟩ = some (.slice none 0 0) := by simp [World.cell?, hE2]
  have k1 : W7.cell? ⟨A + 1 + 1, 1, none⟩ = some (.slice none 0 0) := by simp [World.cell?, hE2]
  have HFIN : Hid (ArrPost w 60 [] [] (.returned (.tuple #[.agg #[.slice none 0 0, .slice none 0 0], .int .i64 60])) W7) := Lib.hid (arr_no (by
    rw [← hW7]
    exact (HBk.out.setCell (p := ⟨A + 1 + 1, 0, none⟩) HRB.out _).setCell (p := ⟨A + 1 + 1, 1, none⟩) HRB.out _))
  clear hE1 hE2 y1
  go_wp2_with fail
  (try simp only [Exit.inBlock, Exit.then])
  refine bodyPost_ret (v := .tuple #[.agg #[.slice none 0 0, .slice none 0 0], .int .i64 60]) ?_ rfl HFIN.out
  rw [results_cell_tmp rfl]
  go_simp
theorem rpaste_no (p q p2 q2 cq : Option Addr) (c d c2 d2 n m n2 m2 k cd : Nat) (s t : List Int) (l bl : List (List UInt8)) (cuts : List (Int × Int × Int)) (w : World) (hs : Hid (s.length = n)) (hl : Hid (l.length = m)) (hm : m ≤ 5000) (ht : Hid (t.length = n2)) (hbl : Hid (bl.length = m2)) (hm2 : m2 ≤ 5000) (hk : Hid (cuts.length = k)) (hp : Rd w p s) (hq : RdS w q l) (hp2 : Rd w p2 t) (hq2 : RdS w q2 bl) (hcq : RdC w cq cuts)
    (hno : (pstV s t l bl cuts).1 ≠ 0) :
    Calls Tryz.prog 27 #[.agg #[.slice p n c, .slice q m d], .slice cq k cd, .agg #[.slice p2 n2 c2, .slice q2 m2 d2]] w (ArrPost w (pstV s t l bl cuts).1 (pstV s t l bl cuts).2.1 (pstV s t l bl cuts).2.2) := by
  have HP := Lib.hid hp
  have HQ := Lib.hid hq
  have HP2 := Lib.hid hp2
  have HQ2 := Lib.hid hq2
  have HCQ := Lib.hid hcq

  obtain ⟨A, HA⟩ : ∃ A, Hid (A = w.heap.size) := ⟨_, Lib.hid rfl⟩
  obtain ⟨W0, HW0⟩ : ∃ W0, Hid (((w.alloc (.cells #[.slice p n c, .slice q m d] 25)).alloc (.cells #[.slice p2 n2 c2, .slice q2 m2 d2] 25)).alloc (.cells #[.slice none 0 0, .slice none 0 0] 25) = W0) := ⟨_, Lib.hid rfl⟩
  have HB0 : Hid (Below w.heap.size w W0) := Lib.hid (by rw [← HW0.out]; exact (((Below.refl _ w).alloc (Nat.le_refl _) _).alloc (by simp) _).alloc (by simp; omega) _)
  have HRB : Hid (w.heap.size ≤ A + 1 + 1) := Lib.hid (by rw [HA.out]; omega)
  have HS0 : Hid (W0.heap.size = A + 1 + 1 + 1) := Lib.hid (by rw [← HW0.out, HA.out]; simp)
  have HA0 : Hid (W0.heap[A]? = some (.cells #[.slice p n c, .slice q m d] 25 (0, 0))) := Lib.hid (by
    rw [← HW0.out, HA.out]; simp only [World.alloc, Array.getElem?_push, Array.size_push]
    repeat' (first | rw [if_pos (by omega)] | rw [if_neg (by omega)] | rfl))
  have HA1 : Hid (W0.heap[A + 1]? = some (.cells #[.slice p2 n2 c2, .slice q2 m2 d2] 25 (0, 0))) := Lib.hid (by
    rw [← HW0.out, HA.out]; simp only [World.alloc, Array.getElem?_push, Array.size_push]
    repeat' (first | rw [if_pos (by omega)] | rw [if_neg (by omega)] | rfl))
  have HA2 : Hid (W0.heap[A + 1 + 1]? = some (.cells #[.slice none 0 0, .slice none 0 0] 25 (0, 0))) := Lib.hid (by
    rw [← HW0.out, HA.out]; simp only [World.alloc, Array.getElem?_push, Array.size_push]
    repeat' (first | rw [if_pos (by omega)] | rw [if_neg (by omega)] | rfl))
  have HBX : Hid (∀ W, Below W0.heap.size W0 W → Below w.heap.size w W ∧ W.heap[A]? = some (.cells #[.slice p n c, .slice q m d] 25 (0, 0)) ∧ W.heap[A + 1]? = some (.cells #[.slice p2 n2 c2, .slice q2 m2 d2] 25 (0, 0)) ∧ W.heap[A + 1 + 1]? = some (.cells #[.slice none 0 0, .slice none 0 0] 25 (0, 0))) := Lib.hid (fun W hW =>
    ⟨HB0.out.trans (hW.mono HB0.out.size), (hW.block A (by rw [HS0.out]; omega)).trans HA0.out, (hW.block (A + 1) (by rw [HS0.out]; omega)).trans HA1.out, (hW.block (A + 1 + 1) (by rw [HS0.out]; omega)).trans HA2.out⟩)
  have HVA : Hid (Calls Tryz.prog 22 #[.agg #[.slice p n c, .slice q m d]] W0 fun e w' => Below W0.heap.size W0 w' ∧ e = .returned (.bool (validA s l))) := Lib.hid (rvalidA_any p q c d n m s l W0 hs hl hm (HP.out.below HB0.out) (HQ.out.below HB0.out))
  have HVB : Hid (∀ W, Below W0.heap.size W0 W → Calls Tryz.prog 22 #[.agg #[.slice p2 n2 c2, .slice q2 m2 d2]] W fun e w' => Below W.heap.size W w' ∧ e = .returned (.bool (validA t bl))) := Lib.hid (fun W hW => rvalidA_any p2 q2 c2 d2 n2 m2 t bl W ht hbl hm2 (HP2.out.below (HBX.out W hW).1) (HQ2.out.below (HBX.out W hW).1))
  clear hp hq hp2 hq2 hcq
  by_cases hv : validA s l = false
  · have e0 : pstV s t l bl cuts = (60, [], []) := by unfold pstV; rw [if_pos hv]
    rw [e0]
    rw [hv] at HVA
    clear hv e0 hno
    go_enter Tryz.func27, Tryz.ntmps27
    go_wp2_with fail
    rw [HW0.out, ← HA.out]
    refine (HVA.out).mono ?_
    rintro e w1 ⟨hb1, rfl⟩
    have HB1 := Lib.hid hb1
    obtain ⟨hbw, x0, x1, y1⟩ := HBX.out w1 hb1
    have HBk := Lib.hid hbw
    clear hb1 hbw
    clear x0 x1
    have r0 : w1.cell? ⟨A + 1 + 1, 0, none⟩ = some (.slice none 0 0) := by simp [World.cell?, y1]
    have r1 : w1.cell? ⟨A + 1 + 1, 1, none⟩ = some (.slice none 0 0) := by simp [World.cell?, y1]
    have z0 : w1.frozen? ⟨A + 1 + 1, 0, none⟩ = false := by simp [World.frozen?, y1]
    have z1 : w1.frozen? ⟨A + 1 + 1, 1, none⟩ = false := by simp [World.frozen?, y1]
    have hE1 := heap_set w1 (A + 1 + 1) 0 (.slice none 0 0) _ _ y1
    have hE2 := heap_set _ (A + 1 + 1) 1 (.slice none 0 0) _ _ hE1
    obtain ⟨W7, hW7⟩ : ∃ W7, (w1.setCell ⟨A + 1 + 1, 0, none⟩ (.slice none 0 0)).setCell ⟨A + 1 + 1, 1, none⟩ (.slice none 0 0) = W7 := ⟨_, rfl⟩
    rw [hW7] at hE2
    have k0 : W7.cell? ⟨A + 1 + 1, 0, none⟩ = some (.slice none 0 0) := by simp [World.cell?, hE2]
    have k1 : W7.cell? ⟨A + 1 + 1, 1, none⟩ = some (.slice none 0 0) := by simp [World.cell?, hE2]
    have HFIN : Hid (ArrPost w 60 [] [] (.returned (.tuple #[.agg #[.slice none 0 0, .slice none 0 0], .int .i64 60])) W7) := Lib.hid (arr_no (by
      rw [← hW7]
      exact (HBk.out.setCell (p := ⟨A + 1 + 1, 0, none⟩) HRB.out _).setCell (p := ⟨A + 1 + 1, 1, none⟩) HRB.out _))
    clear hE1 hE2 y1
    go_wp2_with fail
    (try simp only [Exit.inBlock, Exit.then])
    refine bodyPost_ret (v := .tuple #[.agg #[.slice none 0 0, .slice none 0 0], .int .i64 60]) ?_ rfl HFIN.out
    rw [results_cell_tmp rfl]
    go_simp
  have hv2 : validA s l = true := by simpa using hv
  rw [hv2] at HVA
  by_cases hw : validA t bl = false
  · have e0 : pstV s t l bl cuts = (60, [], []) := by unfold pstV; rw [if_neg hv, if_pos hw]
    rw [e0]
    rw [hw] at HVB
    clear hv hw e0 hno
    go_enter Tryz.func27, Tryz.ntmps27
    go_wp2_with fail
    rw [HW0.out, ← HA.out]
    refine (HVA.out).mono ?_
    rintro e w1 ⟨hb1, rfl⟩
    have HB1 := Lib.hid hb1
    obtain ⟨hbw, x0, x1, y1⟩ := HBX.out w1 hb1
    have HBk := Lib.hid hbw
    clear hb1 hbw
    have c1 : w1.cell? ⟨A + 1, 0, none⟩ = some (.slice p2 n2 c2) := by simp [World.cell?, x1]
    have c2' : w1.cell? ⟨A + 1, 1, none⟩ = some (.slice q2 m2 d2) := by simp [World.cell?, x1]
    clear x0 x1 y1
    go_wp2_with fail
    refine (HVB.out _ HB1.out).mono ?_
    rintro e w2 ⟨hb2, rfl⟩
    have HB2 := Lib.hid (HB1.out.trans (hb2.mono HB1.out.size))
    clear hb2 c1 c2' HBk
    obtain ⟨hbw, x0, x1, y1⟩ := HBX.out w2 HB2.out
    have HBk := Lib.hid hbw
    clear hbw
    clear x0 x1
    have r0 : w2.cell? ⟨A + 1 + 1, 0, none⟩ = some (.slice none 0 0) := by simp [World.cell?, y1]
    have r1 : w2.cell? ⟨A + 1 + 1, 1, none⟩ = some (.slice none 0 0) := by simp [World.cell?, y1]
    have z0 : w2.frozen? ⟨A + 1 + 1, 0, none⟩ = false := by simp [World.frozen?, y1]
    have z1 : w2.frozen? ⟨A + 1 + 1, 1, none⟩ = false := by simp [World.frozen?, y1]
    have hE1 := heap_set w2 (A + 1 + 1) 0 (.slice none 0 0) _ _ y1
    have hE2 := heap_set _ (A + 1 + 1) 1 (.slice none 0 0) _ _ hE1
    obtain ⟨W7, hW7⟩ : ∃ W7, (w2.setCell ⟨A + 1 + 1, 0, none⟩ (.slice none 0 0)).setCell ⟨A + 1 + 1, 1, none⟩ (.slice none 0 0) = W7 := ⟨_, rfl⟩
    rw [hW7] at hE2
    have k0 : W7.cell? ⟨A + 1 + 1, 0, none⟩ = some (.slice none 0 0) := by simp [World.cell?, hE2]
    have k1 : W7.cell? ⟨A + 1 + 1, 1, none⟩ = some (.slice none 0 0) := by simp [World.cell?, hE2]
    have HFIN : Hid (ArrPost w 60 [] [] (.returned (.tuple #[.agg #[.slice none 0 0, .slice none 0 0], .int .i64 60])) W7) := Lib.hid (arr_no (by
      rw [← hW7]
      exact (HBk.out.setCell (p := ⟨A + 1 + 1, 0, none⟩) HRB.out _).setCell (p := ⟨A + 1 + 1, 1, none⟩) HRB.out _))
    clear hE1 hE2 y1
    go_wp2_with fail
    (try simp only [Exit.inBlock, Exit.then])
    refine bodyPost_ret (v := .tuple #[.agg #[.slice none 0 0, .slice none 0 0], .int .i64 60]) ?_ rfl HFIN.out
    rw [results_cell_tmp rfl]
    go_simp
  have hw2 : validA t bl = true := by simpa using hw
  rw [hw2] at HVB
  have hvs : vs s = true := by unfold validA at hv2; rw [Bool.and_eq_true] at hv2; exact hv2.1
  have hvt : vs t = true := by unfold validA at hw2; rw [Bool.and_eq_true] at hw2; exact hw2.1
  have HN2 : Hid (n2 ≤ 1000) := Lib.hid (by
    obtain ⟨t0, rfl, ht0⟩ := vs_yes hvt
    have := ht0.1
    rw [← ht.out, List.length_map]; omega)
  obtain ⟨s0, rfl, hsh⟩ := vs_yes hvs
  have hsn : s0.length = n := by rw [← hs.out, List.length_map]
  have hn4 : n ≤ 4 := by rw [← hsn]; exact hsh.1
  have HSN := Lib.hid hsn
  have HSH := Lib.hid hsh
  obtain ⟨u, HU⟩ : ∃ u, Hid (u = slabOk s0 cuts) := ⟨_, rfl⟩
  have HFI : Hid (∀ W, Below W0.heap.size W0 W → Calls Tryz.prog 63 #[.slice p n c, .slice cq k cd] W fun e w' => Below W.heap.size W w' ∧ e = .returned (.bool u)) := Lib.hid (fun W hW => by
    rw [HU.out]; exact rfits_any p cq c cd n k s0 cuts W HSN hk hn4 HSH.out.2.1 (HP.out.below (HBX.out W hW).1) (HCQ.out.below (HBX.out W hW).1))
  by_cases hu : u = false
  · subst hu
    have e0 : pstV (s0.map Int.ofNat) t l bl cuts = (61, [], []) := by unfold pstV; rw [if_neg hv, if_neg hw, toNat_map, if_pos HU.out.symm]
    rw [e0]
    clear hv hv2 hw hw2 e0 hno hsh hsn hvs hvt
    go_enter Tryz.func27, Tryz.ntmps27
    go_wp2_with fail
    rw [HW0.out, ← HA.out]
    refine (HVA.out).mono ?_
    rintro e w1 ⟨hb1, rfl⟩
    have HB1 := Lib.hid hb1
    obtain ⟨hbw, x0, x1, y1⟩ := HBX.out w1 hb1
    have HBk := Lib.hid hbw
    clear hb1 hbw
    have c1 : w1.cell? ⟨A + 1, 0, none⟩ = some (.slice p2 n2 c2) := by simp [World.cell?, x1]
    have c2' : w1.cell? ⟨A + 1, 1, none⟩ = some (.slice q2 m2 d2) := by simp [World.cell?, x1]
    clear x0 x1 y1
    go_wp2_with fail
    refine (HVB.out _ HB1.out).mono ?_
    rintro e w2 ⟨hb2, rfl⟩
    have HB2 := Lib.hid (HB1.out.trans (hb2.mono HB1.out.size))
    clear hb2 c1 c2' HBk
    obtain ⟨hbw, x0, x1, y1⟩ := HBX.out w2 HB2.out
    have HBk := Lib.hid hbw
    clear hbw
    have c0 : w2.cell? ⟨A, 0, none⟩ = some (.slice p n c) := by simp [World.cell?, x0]
    clear x0 x1 y1
    go_wp2_with fail
    refine (HFI.out _ HB2.out).mono ?_
    rintro e w3 ⟨hb3, rfl⟩
    have HB3 := Lib.hid (HB2.out.trans (hb3.mono HB2.out.size))
    clear hb3 c0 HBk
    obtain ⟨hbw, x0, x1, y1⟩ := HBX.out w3 HB3.out
    have HBk := Lib.hid hbw
    clear hbw
    clear x0 x1
    have r0 : w3.cell? ⟨A + 1 + 1, 0, none⟩ = some (.slice none 0 0) := by simp [World.cell?, y1]
    have r1 : w3.cell? ⟨A + 1 + 1, 1, none⟩ = some (.slice none 0 0) := by simp [World.cell?, y1]
    have z0 : w3.frozen? ⟨A + 1 + 1, 0, none⟩ = false := by simp [World.frozen?, y1]
    have z1 : w3.frozen? ⟨A + 1 + 1, 1, none⟩ = false := by simp [World.frozen?, y1]
    have hE1 := heap_set w3 (A + 1 + 1) 0 (.slice none 0 0) _ _ y1
    have hE2 := heap_set _ (A + 1 + 1) 1 (.slice none 0 0) _ _ hE1
    obtain ⟨W7, hW7⟩ : ∃ W7, (w3.setCell ⟨A + 1 + 1, 0, none⟩ (.slice none 0 0)).setCell ⟨A + 1 + 1, 1, none⟩ (.slice none 0 0) = W7 := ⟨_, rfl⟩
    rw [hW7] at hE2
    have k0 : W7.cell? ⟨A + 1 + 1, 0, none⟩ = some (.slice none 0 0) := by simp [World.cell?, hE2]
    have k1 : W7.cell? ⟨A + 1 + 1, 1, none⟩ = some (.slice none 0 0) := by simp [World.cell?, hE2]
    have HFIN : Hid (ArrPost w 61 [] [] (.returned (.tuple #[.agg #[.slice none 0 0, .slice none 0 0], .int .i64 61])) W7) := Lib.hid (arr_no (by
      rw [← hW7]
      exact (HBk.out.setCell (p := ⟨A + 1 + 1, 0, none⟩) HRB.out _).setCell (p := ⟨A + 1 + 1, 1, none⟩) HRB.out _))
    clear hE1 hE2 y1
    go_wp2_with fail
    (try simp only [Exit.inBlock, Exit.then])
    refine bodyPost_ret (v := .tuple #[.agg #[.slice none 0 0, .slice none 0 0], .int .i64 61]) ?_ rfl HFIN.out
    rw [results_cell_tmp rfl]
    go_simp
  obtain rfl : u = true := by simpa using hu
  have hsl : slabOk s0 cuts = true := HU.out.symm
  obtain ⟨hcl, hcz, hcb, hcp⟩ := cnts_ok hsl hsh.2.1
  have hkn : k = n := by rw [← hk.out, hcl, hsn]
  subst hkn
  have HKN : Hid (cuts.length = k) := hk
  have HCZ := Lib.hid hcz
  have HCB := Lib.hid hcb
  have HCN : Hid ((cnts cuts).length = k) := Lib.hid (by rw [cnts, List.length_map, hk.out])
  by_cases heq : t = (cnts cuts).map Int.ofNat
  · exact absurd (show (pstV (s0.map Int.ofNat) t l bl cuts).1 = 0 by unfold pstV; rw [if_neg hv, if_neg hw, toNat_map, if_neg (by rw [hsl]; simp), if_neg (by simp [heq])]) hno
  have e0 : pstV (s0.map Int.ofNat) t l bl cuts = (60, [], []) := by unfold pstV; rw [if_neg hv, if_neg hw, toNat_map, if_neg (by rw [hsl]; simp), if_pos heq]
  rw [e0]
  have HCO : Hid (∀ W, Below W0.heap.size W0 W → Calls Tryz.prog 64 #[.slice cq k cd] W fun e w' => ∃ g, e = .returned (.slice (some ⟨g, 0, none⟩) k k) ∧ w'.heap[g]? = some (.cells (ixC (cnts cuts)) 3 (0, 0)) ∧ Below W.heap.size W w') := Lib.hid (fun W hW =>
    (rcounts_any cq cd k cuts W hn4 HKN HCZ (HCQ.out.below (HBX.out W hW).1)).mono (fun e w' h => ⟨_, h.2.1, h.2.2, h.1⟩))
  have HEQ : Hid (∀ W g, Below W0.heap.size W0 W → W.heap[g]? = some (.cells (ixC (cnts cuts)) 3 (0, 0)) → Calls Tryz.prog 71 #[.slice p2 n2 c2, .slice (some ⟨g, 0, none⟩) k k] W fun e w' => Below W.heap.size W w' ∧ e = .returned (.bool false)) := Lib.hid (fun W g hW hg => by
    rw [← decide_eq_false heq]
    exact samesh_any p2 (some ⟨g, 0, none⟩) c2 k n2 k t ((cnts cuts).map Int.ofNat) W ht (Lib.hid (by rw [List.length_map, HCN.out])) HN2.out (by omega) (HP2.out.below (HBX.out W hW).1) (rdn_row hg (fun x hx => by have := HCB.out x hx; omega)))
  clear hv hv2 hw hw2 e0 hno hsh hsn hvs hvt heq hcl hcz hcb hcp hsl
  go_enter Tryz.func27, Tryz.ntmps27
  go_wp2_with fail
  rw [HW0.out, ← HA.out]
  refine (HVA.out).mono ?_
  rintro e w1 ⟨hb1, rfl⟩
  have HB1 := Lib.hid hb1
  obtain ⟨hbw, x0, x1, y1⟩ := HBX.out w1 hb1
  have HBk := Lib.hid hbw
  clear hb1 hbw
  have c1 : w1.cell? ⟨A + 1, 0, none⟩ = some (.slice p2 n2 c2) := by simp [World.cell?, x1]
  have c2' : w1.cell? ⟨A + 1, 1, none⟩ = some (.slice q2 m2 d2) := by simp [World.cell?, x1]
  clear x0 x1 y1
  go_wp2_with fail
  refine (HVB.out _ HB1.out).mono ?_
  rintro e w2 ⟨hb2, rfl⟩
  have HB2 := Lib.hid (HB1.out.trans (hb2.mono HB1.out.size))
  clear hb2 c1 c2' HBk
  obtain ⟨hbw, x0, x1, y1⟩ := HBX.out w2 HB2.out
  have HBk := Lib.hid hbw
  clear hbw
  have c0 : w2.cell? ⟨A, 0, none⟩ = some (.slice p k c) := by simp [World.cell?, x0]
  clear x0 x1 y1
  go_wp2_with fail
  refine (HFI.out _ HB2.out).mono ?_
  rintro e w3 ⟨hb3, rfl⟩
  have HB3 := Lib.hid (HB2.out.trans (hb3.mono HB2.out.size))
  clear hb3 c0 HBk
  obtain ⟨hbw, x0, x1, y1⟩ := HBX.out w3 HB3.out
  have HBk := Lib.hid hbw
  clear hbw
  have HSS : Hid (∀ W, Below W0.heap.size W0 W → (fun W => W.cell? ⟨A + 1, 0, none⟩ = some (.slice p2 n2 c2)) W) := Lib.hid (fun W hW => by
    have := (HBX.out W hW).2.2.1
    simp [World.cell?, this])
  have HBD : Hid (Below W0.heap.size W0 w3.drew) := Lib.hid (HB3.out.trans ⟨rfl, rfl, rfl, Nat.le_refl _, fun _ _ => rfl⟩)
  clear x0 x1 y1 HBk
  go_wp2_with fail
  refine wp_region_noPanic ?_
  refine wp_region_held_drew (S := fun W => W.cell? ⟨A + 1, 0, none⟩ = some (.slice p2 n2 c2)) (by kernel_rfl) (HSS.out _ HBD.out) (fun hHeld => ?_)
  refine wpAnyH_take (i := 0) (v := ?v5) rfl (by kernel_rfl) (by kernel_rfl) (by kernel_rfl) (fun _ _ _ h => h) (Or.inl ⟨by rfl, ?hy5⟩) (by assumption) ?rest5
  case hy5 =>
    intro W' hSw
    obtain e0 := hSw
    go_simp
    with_reducible rfl
  simp only [List.getElem_toArray, List.getElem_cons_zero, Act.put, List.setIfInBounds_toArray, List.set_cons_zero, List.set_cons_succ]
  refine wpAnyH_take (i := 1) (v := ?v6) rfl (by kernel_rfl) (by kernel_rfl) (by kernel_rfl) (fun _ _ _ h => h) (Or.inl ⟨by rfl, ?hy6⟩) (by assumption) ?rest6
  case hy6 =>
    intro W' hSw
    obtain e0 := hSw
    go_simp
    with_reducible rfl
  simp only [List.getElem_toArray, List.getElem_cons_zero, List.getElem_cons_succ, Act.put, List.setIfInBounds_toArray, List.set_cons_zero, List.set_cons_succ]
  refine wpAnyH_take (i := 2) (v := ?v7) rfl (by kernel_rfl) (by kernel_rfl) (by kernel_rfl) (fun _ _ _ h => h) (Or.inl ⟨by rfl, ?hy7⟩) (by assumption) ?rest7
  case hy7 =>
    intro W' hSw
    obtain e0 := hSw
    go_simp
    with_reducible rfl
  simp only [List.getElem_toArray, List.getElem_cons_zero, List.getElem_cons_succ, Act.put, List.setIfInBounds_toArray, List.set_cons_zero, List.set_cons_succ]
  refine wpAnyH_ready (rs := [3]) (by kernel_rfl) (by simp) ?_
  refine AllReadyH.cons (i := 3) rfl (fun K hK => ?_) AllReadyH.nil
  go_simp
  refine (HCO.out _ HBD.out).mono ?_
  rintro e w4 ⟨g4, rfl, hg4, hb4⟩
  have HG4 := Lib.hid hg4
  have HB4 : Hid (Below W0.heap.size W0 w4) := Lib.hid (HBD.out.trans (hb4.mono HBD.out.size))
  clear hg4 hb4
  refine hK.out _ _ (HSS.out _ HB4.out) (fun hHeld => ?_)
  clear hK K
  refine wpAnyH_ready (rs := [4]) (by kernel_rfl) (by simp) ?_
  refine AllReadyH.cons (i := 4) rfl (fun K hK => ?_) AllReadyH.nil
  go_simp
  refine (HEQ.out _ _ HB4.out HG4.out).mono ?_
  rintro e w5 ⟨hb5, rfl⟩
  have HB5 : Hid (Below W0.heap.size W0 w5) := Lib.hid (HB4.out.trans (hb5.mono HB4.out.size))
  clear hb5
  refine hK.out _ _ (HSS.out _ HB5.out) (fun hHeld => ?_)
  clear hK K
  refine wpAnyH_take (i := 5) (v := ?v8) rfl (by kernel_rfl) (by kernel_rfl) (by kernel_rfl) (fun _ _ _ h => h) (Or.inl ⟨by rfl, ?hy8⟩) (by assumption) ?rest8
  case hy8 =>
    intro W' hSw
    obtain e0 := hSw
    go_simp
    with_reducible rfl
  simp only [List.getElem_toArray, List.getElem_cons_zero, List.getElem_cons_succ, Act.put, List.setIfInBounds_toArray, List.set_cons_zero, List.set_cons_succ]
  refine wpAnyH_done (by kernel_rfl) ?_ _
  refine NoPanic.normal ?_
  clear hHeld
  obtain ⟨hbw, x0, x1, y1⟩ := HBX.out w5 HB5.out
  have HBk := Lib.hid hbw
  clear hbw
  clear x0 x1
  have r0 : w5.cell? ⟨A + 1 + 1, 0, none⟩ = some (.slice none 0 0) := by simp [World.cell?, y1]
  have r1 : w5.cell? ⟨A + 1 + 1, 1, none⟩ = some (.slice none 0 0) := by simp [World.cell?, y1]
  have z0 : w5.frozen? ⟨A + 1 + 1, 0, none⟩ = false := by simp [World.frozen?, y1]
  have z1 : w5.frozen? ⟨A + 1 + 1, 1, none⟩ = false := by simp [World.frozen?, y1]
  have hE1 := heap_set w5 (A + 1 + 1) 0 (.slice none 0 0) _ _ y1
  have hE2 := heap_set _ (A + 1 + 1) 1 (.slice none 0 0) _ _ hE1
  obtain ⟨W7, hW7⟩ : ∃ W7, (w5.setCell ⟨A + 1 + 1, 0, none⟩ (.slice none 0 0)).setCell ⟨A + 1 + 1, 1, none⟩ (.slice none 0 0) = W7 := ⟨_, rfl⟩
  rw [hW7] at hE2
  have k0 : W7.cell? ⟨A + 1 + 1, 0, none⟩ = some (.slice none 0 0) := by simp [World.cell?, hE2]
  have k1 : W7.cell? ⟨A + 1 + 1, 1, none⟩ = some (.slice none 0 0) := by simp [World.cell?, hE2]
  have HFIN : Hid (ArrPost w 60 [] [] (.returned (.tuple #[.agg #[.slice none 0 0, .slice none 0 0], .int .i64 60])) W7) := Lib.hid (arr_no (by
    rw [← hW7]
    exact (HBk.out.setCell (p := ⟨A + 1 + 1, 0, none⟩) HRB.out _).setCell (p := ⟨A + 1 + 1, 1, none⟩) HRB.out _))
  clear hE1 hE2 y1
  go_wp2_with fail
  (try simp only [Exit.inBlock, Exit.then])
  refine bodyPost_ret (v := .tuple #[.agg #[.slice none 0 0, .slice none 0 0], .int .i64 60]) ?_ rfl HFIN.out
  rw [results_cell_tmp rfl]
  go_simp
end Go.Proofs.YtigidchicloleaaGreatDoor.Arr
