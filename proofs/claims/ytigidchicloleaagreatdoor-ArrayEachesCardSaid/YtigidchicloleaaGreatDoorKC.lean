/- Paste on both sides, where it is refused. -/
import Derived.Test.YtigidchicloleaaGreatDoorHM
import Derived.Test.YtigidchicloleaaGreatDoorKB
import Derived.Test.YtigidchicloleaaGreatDoorHB
set_option maxHeartbeats 2000000
set_option maxRecDepth 100000
namespace Go.Proofs.YtigidchicloleaaGreatDoor.Arr
open Go.RowKit Go.Shelf
open Go.Lib
attribute [local go_sem] Oper.semAt_some
theorem list_eq_of {s1 s2 : List Int} {n : Nat} (h1 : s1.length = n) (h2 : s2.length = n) (h : ∀ k, k < n → s1.getD k 0 = s2.getD k 0) : s1 = s2 := by
  refine List.ext_getElem (by rw [h1, h2]) (fun k hk1 hk2 => ?_)
  have := h k (by omega)
  rwa [List.getD_eq_getElem?_getD, List.getElem?_eq_getElem hk1, List.getD_eq_getElem?_getD, List.getElem?_eq_getElem hk2] at this
theorem equal_any (p q : Option Addr) (c d n m : Nat) (s1 s2 : List Int) (w : World) (h1 : Hid (s1.length = n)) (h2 : Hid (s2.length = m)) (hm : m ≤ 1000) (hp : Rd w p s1) (hq : Rd w q s2) :
    Calls Tryz.prog 67 #[.slice p n c, .slice q m d] w fun e w' => (∃ k, w.drewN k = w') ∧ e = .returned (.bool (decide (s1 = s2))) := by
  have HP := Lib.hid hp
  have HQ := Lib.hid hq
  obtain ⟨v, HV⟩ : ∃ v, Hid (v = decide (s1 = s2)) := ⟨_, Lib.hid rfl⟩
  rw [← HV.out]
  clear hp hq
  by_cases hlen : n = m
  case neg =>
    have hle : ¬ (n : Int) = (m : Int) := by omega
    obtain rfl : v = false := by rw [HV.out]; exact decide_eq_false (fun e => hlen (by rw [← h1.out, ← h2.out, e]))
    go_enter Tryz.func67, Tryz.ntmps67
    go_wp2_with fail
    go_ret
    exact ⟨⟨0, rfl⟩, rfl⟩
  subst hlen
  have hni : (n : Int) ≤ 1000 := by omega
  have HNO : Hid (∀ k, k < n → s1.getD k 0 ≠ s2.getD k 0 → v = false) := Lib.hid (fun k _ h => by rw [HV.out]; exact decide_eq_false (fun e => h (by rw [e])))
  have HYES : Hid ((∀ k, k < n → s1.getD k 0 = s2.getD k 0) → v = true) := Lib.hid (fun h => by rw [HV.out]; exact decide_eq_true (list_eq_of h1.out h2.out h))
  go_enter Tryz.func67, Tryz.ntmps67
  go_wp2_with fail
  go_loopw [13] (fun iv wr => ∃ i k : Nat, i ≤ n ∧ iv = .int .i64 i ∧ wr = w.drewN k ∧ Hid (∀ k, k < i → s1.getD k 0 = s2.getD k 0)) (fun iv _ => n - (Go.RowKit.intOf iv).toNat)
  case atStart => exact ⟨0, 0, Nat.zero_le _, rfl, rfl, Lib.hid (fun k hk => by omega)⟩
  case round =>
    obtain ⟨i, r, hi, rfl, rfl, HA⟩ := hrel
    have ii : (i : Int) ≤ (n : Int) := by omega
    by_cases hlt : i < n
    · have ilt : (i : Int) < (n : Int) := by omega
      obtain ⟨b1, o1, x, rfl, -, hc1, HX, -, -⟩ := HP.out.at (k := i) (by rw [h1.out]; exact hlt)
      obtain ⟨b2, o2, z, rfl, -, hc2, HZ, -, -⟩ := HQ.out.at (k := i) (by rw [h2.out]; exact hlt)
      by_cases hxz : x = z
      · have hst : Hid (∀ k, k < i + 1 → s1.getD k 0 = s2.getD k 0) := Lib.hid (fun k hk => by
          by_cases e : k = i
          · rw [e, ← HX.out, ← HZ.out, hxz]
          · exact HA.out k (by omega))
        subst hxz
        go_wp2_with fail
        go_quiet (fail)
        go_wp2_with fail
        go_roundw
        case rel => exact ⟨i + 1, _, by omega, by go_num, rfl, hst⟩
        case measure => simp [Go.RowKit.intOf]; omega
      · have hxz2 : (x == z) = false := by rw [beq_eq_false_iff_ne]; exact hxz
        obtain rfl : v = false := HNO.out i hlt (by rw [← HX.out, ← HZ.out]; exact hxz)
        go_wp2_with fail
        go_quiet (fail)
        go_wp2_with fail
        go_ret
        exact ⟨⟨_, (World.drewN_drewN ..).symm⟩, rfl⟩
    · obtain rfl : i = n := by omega
      have ilt : ¬ (i : Int) < (i : Int) := by omega
      obtain rfl : v = true := HYES.out HA.out
      go_wp2_with fail
      go_ret
      exact ⟨⟨_, rfl⟩, rfl⟩
theorem samesh_any (p q : Option Addr) (c d n m : Nat) (s1 s2 : List Int) (w : World) (h1 : Hid (s1.length = n)) (h2 : Hid (s2.length = m)) (hn : n ≤ 1000) (hm : m ≤ 1000) (hp : Rd w p s1) (hq : Rd w q s2) :
    Calls Tryz.prog 71 #[.slice p n c, .slice q m d] w fun e w' => Below w.heap.size w w' ∧ e = .returned (.bool (decide (s1 = s2))) := by
  have H37 : Hid (Calls Tryz.prog 38 #[.agg #[.slice p n c, .slice none 0 0], .agg #[.slice q m d, .slice none 0 0]] w fun e w' => Below w.heap.size w w' ∧ e = .returned (.bool (decide (s1 = s2)))) := Lib.hid (by
    have := same_any p none q none c 0 d 0 n 0 m 0 s1 s2 [] [] w h1 (Lib.hid rfl) h2 (Lib.hid rfl) hn (by omega) hm (by omega) hp (.inl rfl) hq (.inl rfl)
    simpa using this)
  clear hp hq
  go_enter Tryz.func71, Tryz.ntmps71
  go_wp2_with fail
  refine (H37.out).mono ?_
  rintro e w1 ⟨hb, rfl⟩
  have HB := Lib.hid hb
  clear hb
  go_wp2_with fail
  go_ret
  exact ⟨HB.out, rfl⟩
end Go.Proofs.YtigidchicloleaaGreatDoor.Arr
set_option maxHeartbeats 4000000
set_option maxRecDepth 100000
namespace Go.Proofs.YtigidchicloleaaGreatDoor.Arr
open Go.RowKit Go.Shelf
open Go.Lib
attribute [local go_sem] Oper.semAt_some
def eachV (s t : List Int) (l bl : List (List UInt8)) (op : Int) : Int × List Nat × List (List UInt8) :=
  if validA s l = false then (60, [], [])
  else if validA t bl = false then (60, [], [])
  else if op < 1 ∨ 10 < op then (2, [], [])
  else if s = t then (0, s.map Int.toNat, List.zipWith (eachT op) l bl)
  else (60, [], [])
theorem fn_nil (w : World) : (binOp BinOp.eql 90 .nilFunc .nilFunc).run Tryz.prog w = .ok (.bool true) w := by kernel_rfl
theorem fn_some (f : Fn) (first caps : Array Value) (w : World) : (binOp BinOp.eql 90 (.func f first caps) .nilFunc).run Tryz.prog w = .ok (.bool false) w := by kernel_rfl
theorem each_no (p q p2 q2 : Option Addr) (c d c2 d2 n m n2 m2 : Nat) (s t : List Int) (l bl : List (List UInt8)) (op : Int) (w : World) (he : Env w) (hs : Hid (s.length = n)) (hl : Hid (l.length = m)) (hm : m ≤ 5000) (ht : Hid (t.length = n2)) (hbl : Hid (bl.length = m2)) (hm2 : m2 ≤ 5000) (hp : Rd w p s) (hq : RdS w q l) (hp2 : Rd w p2 t) (hq2 : RdS w q2 bl) (hno : (eachV s t l bl op).1 ≠ 0) : Calls Tryz.prog 41 #[.agg #[.slice p n c, .slice q m d], .agg #[.slice p2 n2 c2, .slice q2 m2 d2], .int .i64 op] w (ArrPost w (eachV s t l bl op).1 (eachV s t l bl op).2.1 (eachV s t l bl op).2.2) := by
  have HP := Lib.hid hp
  have HQ := Lib.hid hq
  have HP2 := Lib.hid hp2
  have HQ2 := Lib.hid hq2
  have HE := Lib.hid he
  obtain ⟨A, HA⟩ : ∃ A, Hid (A = w.heap.size) := ⟨_, Lib.hid rfl⟩
  obtain ⟨W0, HW0⟩ : ∃ W0, Hid (((w.alloc (.cells #[.slice p n c, .slice q m d] 25)).alloc (.cells #[.slice p2 n2 c2, .slice q2 m2 d2] 25)).alloc (.cells #[.slice none 0 0, .slice none 0 0] 25) = W0) := ⟨_, Lib.hid rfl⟩
  have HB0 : Hid (Below w.heap.size w W0) := Lib.hid (by rw [← HW0.out]; exact (((Below.refl _ w).alloc (Nat.le_refl _) _).alloc (by simp) _).alloc (by simp; omega) _)
  have HRB : Hid (w.heap.size ≤ A + 1 + 1) := Lib.hid (by rw [HA.out]; omega)
  have HS0 : Hid (W0.heap.size = A + 1 + 1 + 1) := Lib.hid (by rw [← HW0.out, HA.out]; simp)
  have HA0 : Hid (W0.heap[A]? = some (.cells #[.slice p n c, .slice q m d] 25 (0, 0))) := Lib.hid (by
    rw [← HW0.out, HA.out]; simp only [World.alloc, Array.getElem?_push, Array.size_push]
    repeat' (first | rw [if_pos (by omega)] | rw [if_neg (by omega)] | rfl))
  have HA1 : Hid (W0.heap[A + 1]? = some (.cells #[.slice p2 n2 c2, .slice q2 m2 d2] 25 (0, 0))) := Lib.hid (by
    rw [← HW0.out, HA.out]; simp only [World.alloc, Array.getElem?_push, Array.size_push]
    repeat' (first | rw [if_pos (by omega)] | rw [if_neg (by omega)] | rfl))
  have HA2 : Hid (W0.heap[A + 1 + 1]? = some (.cells #[.slice none 0 0, .slice none 0 0] 25 (0, 0))) := Lib.hid (by
    rw [← HW0.out, HA.out]; simp only [World.alloc, Array.getElem?_push, Array.size_push]
    repeat' (first | rw [if_pos (by omega)] | rw [if_neg (by omega)] | rfl))
  have HBX : Hid (∀ W, Below W0.heap.size W0 W → Below w.heap.size w W ∧ W.heap[A]? = some (.cells #[.slice p n c, .slice q m d] 25 (0, 0)) ∧ W.heap[A + 1]? = some (.cells #[.slice p2 n2 c2, .slice q2 m2 d2] 25 (0, 0)) ∧ W.heap[A + 1 + 1]? = some (.cells #[.slice none 0 0, .slice none 0 0] 25 (0, 0))) := Lib.hid (fun W hW =>
    ⟨HB0.out.trans (hW.mono HB0.out.size), (hW.block A (by rw [HS0.out]; omega)).trans HA0.out, (hW.block (A + 1) (by rw [HS0.out]; omega)).trans HA1.out, (hW.block (A + 1 + 1) (by rw [HS0.out]; omega)).trans HA2.out⟩)
  have HVA : Hid (Calls Tryz.prog 21 #[.agg #[.slice p n c, .slice q m d]] W0 fun e w' => Below W0.heap.size W0 w' ∧ e = .returned (.bool (validA s l))) := Lib.hid (valid_any p q c d n m s l W0 (HE.out.below HB0.out) hs hl hm (HP.out.below HB0.out) (HQ.out.below HB0.out))
  have HVB : Hid (∀ W, Below W0.heap.size W0 W → Calls Tryz.prog 21 #[.agg #[.slice p2 n2 c2, .slice q2 m2 d2]] W fun e w' => Below W.heap.size W w' ∧ e = .returned (.bool (validA t bl))) := Lib.hid (fun W hW => valid_any p2 q2 c2 d2 n2 m2 t bl W (HE.out.below (HBX.out W hW).1) ht hbl hm2 (HP2.out.below (HBX.out W hW).1) (HQ2.out.below (HBX.out W hW).1))
  clear hp hq hp2 hq2 he
  by_cases hv : validA s l = false
  · have e0 : eachV s t l bl op = (60, [], []) := by unfold eachV; rw [if_pos hv]
    rw [e0]
    rw [hv] at HVA
    clear hv e0 hno
    go_enter Tryz.func41, Tryz.ntmps41
    go_wp2_with fail
    rw [HW0.out, ← HA.out]
    refine (HVA.out).mono ?_
    rintro e w1 ⟨hb1, rfl⟩
    have HB1 := Lib.hid hb1
    clear hb1
    obtain ⟨hbw, -, -, y1⟩ := HBX.out w1 HB1.out
    have HBk := Lib.hid hbw
    have r0 : w1.cell? ⟨A + 1 + 1, 0, none⟩ = some (.slice none 0 0) := by simp [World.cell?, y1]
    have r1 : w1.cell? ⟨A + 1 + 1, 1, none⟩ = some (.slice none 0 0) := by simp [World.cell?, y1]
    have z0 : w1.frozen? ⟨A + 1 + 1, 0, none⟩ = false := by simp [World.frozen?, y1]
    have z1 : w1.frozen? ⟨A + 1 + 1, 1, none⟩ = false := by simp [World.frozen?, y1]
    have hE1 := heap_set w1 (A + 1 + 1) 0 (.slice none 0 0) _ _ y1
    have hE2 := heap_set _ (A + 1 + 1) 1 (.slice none 0 0) _ _ hE1
    obtain ⟨W7, hW7⟩ : ∃ W7, (w1.setCell ⟨A + 1 + 1, 0, none⟩ (.slice none 0 0)).setCell ⟨A + 1 + 1, 1, none⟩ (.slice none 0 0) = W7 := ⟨_, rfl⟩
    rw [hW7] at hE2
    have k0 : W7.cell? ⟨A + 1 + 1, 0, none⟩ = some (.slice none 0 0) := by simp [World.cell?, hE2]
    have k1 : W7.cell? ⟨A + 1 + 1, 1, none⟩ = some (.slice none 0 0) := by simp [World.cell?, hE2]
    have HFIN : Hid (ArrPost w 60 [] [] (.returned (.tuple #[.agg #[.slice none 0 0, .slice none 0 0], .int .i64 60])) W7) := Lib.hid (arr_no (by
      rw [← hW7]
      exact (HBk.out.setCell (p := ⟨A + 1 + 1, 0, none⟩) HRB.out _).setCell (p := ⟨A + 1 + 1, 1, none⟩) HRB.out _))
    clear hE1 hE2 y1 hbw
    go_wp2_with fail
    (try simp only [Exit.inBlock, Exit.then])
    refine bodyPost_ret (v := .tuple #[.agg #[.slice none 0 0, .slice none 0 0], .int .i64 60]) ?_ rfl HFIN.out
    rw [results_cell_tmp rfl]
    go_simp
  have hv2 : validA s l = true := by simpa using hv
  rw [hv2] at HVA
  by_cases hw : validA t bl = false
  · have e0 : eachV s t l bl op = (60, [], []) := by unfold eachV; rw [if_neg hv, if_pos hw]
    rw [e0]
    rw [hw] at HVB
    clear hv hw e0 hno hv2
    go_enter Tryz.func41, Tryz.ntmps41
    go_wp2_with fail
    rw [HW0.out, ← HA.out]
    refine (HVA.out).mono ?_
    rintro e w1 ⟨hb1, rfl⟩
    have HB1 := Lib.hid hb1
    clear hb1
    obtain ⟨-, -, x1, -⟩ := HBX.out w1 HB1.out
    have a10 : w1.cell? ⟨A + 1, 0, none⟩ = some (.slice p2 n2 c2) := by simp [World.cell?, x1]
    have a11 : w1.cell? ⟨A + 1, 1, none⟩ = some (.slice q2 m2 d2) := by simp [World.cell?, x1]
    clear x1
    go_wp2_with fail
    refine (HVB.out _ HB1.out).mono ?_
    rintro e w2 ⟨hb2, rfl⟩
    have HB2 := Lib.hid (HB1.out.trans (hb2.mono HB1.out.size))
    clear hb2 a10 a11
    obtain ⟨hbw, -, -, y1⟩ := HBX.out w2 HB2.out
    have HBk := Lib.hid hbw
    have r0 : w2.cell? ⟨A + 1 + 1, 0, none⟩ = some (.slice none 0 0) := by simp [World.cell?, y1]
    have r1 : w2.cell? ⟨A + 1 + 1, 1, none⟩ = some (.slice none 0 0) := by simp [World.cell?, y1]
    have z0 : w2.frozen? ⟨A + 1 + 1, 0, none⟩ = false := by simp [World.frozen?, y1]
    have z1 : w2.frozen? ⟨A + 1 + 1, 1, none⟩ = false := by simp [World.frozen?, y1]
    have hE1 := heap_set w2 (A + 1 + 1) 0 (.slice none 0 0) _ _ y1
    have hE2 := heap_set _ (A + 1 + 1) 1 (.slice none 0 0) _ _ hE1
    obtain ⟨W7, hW7⟩ : ∃ W7, (w2.setCell ⟨A + 1 + 1, 0, none⟩ (.slice none 0 0)).setCell ⟨A + 1 + 1, 1, none⟩ (.slice none 0 0) = W7 := ⟨_, rfl⟩
    rw [hW7] at hE2
    have k0 : W7.cell? ⟨A + 1 + 1, 0, none⟩ = some (.slice none 0 0) := by simp [World.cell?, hE2]
    have k1 : W7.cell? ⟨A + 1 + 1, 1, none⟩ = some (.slice none 0 0) := by simp [World.cell?, hE2]
    have HFIN : Hid (ArrPost w 60 [] [] (.returned (.tuple #[.agg #[.slice none 0 0, .slice none 0 0], .int .i64 60])) W7) := Lib.hid (arr_no (by
      rw [← hW7]
      exact (HBk.out.setCell (p := ⟨A + 1 + 1, 0, none⟩) HRB.out _).setCell (p := ⟨A + 1 + 1, 1, none⟩) HRB.out _))
    clear hE1 hE2 y1 hbw
    go_wp2_with fail
    (try simp only [Exit.inBlock, Exit.then])
    refine bodyPost_ret (v := .tuple #[.agg #[.slice none 0 0, .slice none 0 0], .int .i64 60]) ?_ rfl HFIN.out
    rw [results_cell_tmp rfl]
    go_simp
  have hw2 : validA t bl = true := by simpa using hw
  rw [hw2] at HVB
  by_cases ho : op < 1 ∨ 10 < op
  · have e0 : eachV s t l bl op = (2, [], []) := by unfold eachV; rw [if_neg hv, if_neg hw, if_pos ho]
    rw [e0]
    have HOP : Hid (∀ W, Calls Tryz.prog 80 #[.int .i64 op] W fun e w' => W = w' ∧ e = .returned .nilFunc) := Lib.hid (fun W => oper_no op ho W)
    clear hv hw e0 hno hv2 hw2 ho
    go_enter Tryz.func41, Tryz.ntmps41
    go_wp2_with fail
    rw [HW0.out, ← HA.out]
    refine (HVA.out).mono ?_
    rintro e w1 ⟨hb1, rfl⟩
    have HB1 := Lib.hid hb1
    clear hb1
    obtain ⟨-, -, x1, -⟩ := HBX.out w1 HB1.out
    have a10 : w1.cell? ⟨A + 1, 0, none⟩ = some (.slice p2 n2 c2) := by simp [World.cell?, x1]
    have a11 : w1.cell? ⟨A + 1, 1, none⟩ = some (.slice q2 m2 d2) := by simp [World.cell?, x1]
    clear x1
    go_wp2_with fail
    refine (HVB.out _ HB1.out).mono ?_
    rintro e w2 ⟨hb2, rfl⟩
    have HB2 := Lib.hid (HB1.out.trans (hb2.mono HB1.out.size))
    clear hb2 a10 a11
    go_wp2_with fail
    refine (HOP.out _).mono ?_
    rintro e w3 ⟨rfl, rfl⟩
    have hnil := fn_nil
    obtain ⟨hbw, -, -, y1⟩ := HBX.out w2 HB2.out
    have HBk := Lib.hid hbw
    have r0 : w2.cell? ⟨A + 1 + 1, 0, none⟩ = some (.slice none 0 0) := by simp [World.cell?, y1]
    have r1 : w2.cell? ⟨A + 1 + 1, 1, none⟩ = some (.slice none 0 0) := by simp [World.cell?, y1]
    have z0 : w2.frozen? ⟨A + 1 + 1, 0, none⟩ = false := by simp [World.frozen?, y1]
    have z1 : w2.frozen? ⟨A + 1 + 1, 1, none⟩ = false := by simp [World.frozen?, y1]
    have hE1 := heap_set w2 (A + 1 + 1) 0 (.slice none 0 0) _ _ y1
    have hE2 := heap_set _ (A + 1 + 1) 1 (.slice none 0 0) _ _ hE1
    obtain ⟨W7, hW7⟩ : ∃ W7, (w2.setCell ⟨A + 1 + 1, 0, none⟩ (.slice none 0 0)).setCell ⟨A + 1 + 1, 1, none⟩ (.slice none 0 0) = W7 := ⟨_, rfl⟩
    rw [hW7] at hE2
    have k0 : W7.cell? ⟨A + 1 + 1, 0, none⟩ = some (.slice none 0 0) := by simp [World.cell?, hE2]
    have k1 : W7.cell? ⟨A + 1 + 1, 1, none⟩ = some (.slice none 0 0) := by simp [World.cell?, hE2]
    have HFIN : Hid (ArrPost w 2 [] [] (.returned (.tuple #[.agg #[.slice none 0 0, .slice none 0 0], .int .i64 2])) W7) := Lib.hid (arr_no (by
      rw [← hW7]
      exact (HBk.out.setCell (p := ⟨A + 1 + 1, 0, none⟩) HRB.out _).setCell (p := ⟨A + 1 + 1, 1, none⟩) HRB.out _))
    clear hE1 hE2 y1 hbw
    go_wp2_with fail
    (try simp only [Exit.inBlock, Exit.then])
    refine bodyPost_ret (v := .tuple #[.agg #[.slice none 0 0, .slice none 0 0], .int .i64 2]) ?_ rfl HFIN.out
    rw [results_cell_tmp rfl]
    go_simp
  by_cases hst : s = t
  · exact absurd (by unfold eachV; rw [if_neg hv, if_neg hw, if_neg ho, if_pos hst]) hno
  have e0 : eachV s t l bl op = (60, [], []) := by unfold eachV; rw [if_neg hv, if_neg hw, if_neg ho, if_neg hst]
  rw [e0]
  have hvt : vs t = true := by unfold validA at hw2; rw [Bool.and_eq_true] at hw2; exact hw2.1
  have HN2 : Hid (n2 ≤ 1000) := Lib.hid (by
    obtain ⟨t0, rfl, ht0⟩ := vs_yes hvt
    have := ht0.1
    rw [← ht.out, List.length_map]; omega)
  have HOP : Hid (∀ W, Below W0.heap.size W0 W → Calls Tryz.prog 80 #[.int .i64 op] W (OperPost op W)) := Lib.hid (fun W hW => oper_any op (by omega) (by omega) W (HE.out.below (HBX.out W hW).1).tab)
  have HEQ : Hid (∀ W, Below W0.heap.size W0 W → Calls Tryz.prog 67 #[.slice p n c, .slice p2 n2 c2] W fun e w' => (∃ k, W.drewN k = w') ∧ e = .returned (.bool false)) := Lib.hid (fun W hW => by
    have := equal_any p p2 c c2 n n2 s t W hs ht HN2.out (HP.out.below (HBX.out W hW).1) (HP2.out.below (HBX.out W hW).1)
    rwa [decide_eq_false hst] at this)
  clear hv hw e0 hno hv2 hw2 ho hst hvt
  go_enter Tryz.func41, Tryz.ntmps41
  go_wp2_with fail
  rw [HW0.out, ← HA.out]
  refine (HVA.out).mono ?_
  rintro e w1 ⟨hb1, rfl⟩
  have HB1 := Lib.hid hb1
  clear hb1
  obtain ⟨-, -, x1, -⟩ := HBX.out w1 HB1.out
  have a10 : w1.cell? ⟨A + 1, 0, none⟩ = some (.slice p2 n2 c2) := by simp [World.cell?, x1]
  have a11 : w1.cell? ⟨A + 1, 1, none⟩ = some (.slice q2 m2 d2) := by simp [World.cell?, x1]
  clear x1
  go_wp2_with fail
  refine (HVB.out _ HB1.out).mono ?_
  rintro e w2 ⟨hb2, rfl⟩
  have HB2 := Lib.hid (HB1.out.trans (hb2.mono HB1.out.size))
  clear hb2 a10 a11
  go_wp2_with fail
  refine (HOP.out _ HB2.out).mono ?_
  rintro e w3 ⟨hb3, v, rfl, hv⟩
  have hfn := fn_some
  have HB3 := Lib.hid (HB2.out.trans (hb3.mono HB2.out.size))
  clear hb3
  obtain ⟨-, x0, x1, -⟩ := HBX.out w3 HB3.out
  have a00 : w3.cell? ⟨A, 0, none⟩ = some (.slice p n c) := by simp [World.cell?, x0]
  have a10 : w3.cell? ⟨A + 1, 0, none⟩ = some (.slice p2 n2 c2) := by simp [World.cell?, x1]
  clear x0 x1
  rcases hv with ⟨f, rfl, -, -⟩ | ⟨f, g, rfl, -, -⟩
  all_goals
    go_wp2_with fail
    refine (HEQ.out _ HB3.out).mono ?_
    rintro e w4 ⟨⟨k4, e4⟩, rfl⟩
    have HB4 : Hid (Below W0.heap.size W0 w4) := Lib.hid (by rw [← e4]; exact HB3.out.trans ⟨rfl, rfl, rfl, Nat.le_refl _, fun _ _ => rfl⟩)
    clear e4 a00 a10
    obtain ⟨hbw, -, -, y1⟩ := HBX.out w4 HB4.out
    have HBk := Lib.hid hbw
    have r0 : w4.cell? ⟨A + 1 + 1, 0, none⟩ = some (.slice none 0 0) := by simp [World.cell?, y1]
    have r1 : w4.cell? ⟨A + 1 + 1, 1, none⟩ = some (.slice none 0 0) := by simp [World.cell?, y1]
    have z0 : w4.frozen? ⟨A + 1 + 1, 0, none⟩ = false := by simp [World.frozen?, y1]
    have z1 : w4.frozen? ⟨A + 1 + 1, 1, none⟩ = false := by simp [World.frozen?, y1]
    have hE1 := heap_set w4 (A + 1 + 1) 0 (.slice none 0 0) _ _ y1
    have hE2 := heap_set _ (A + 1 + 1) 1 (.slice none 0 0) _ _ hE1
    obtain ⟨W7, hW7⟩ : ∃ W7, (w4.setCell ⟨A + 1 + 1, 0, none⟩ (.slice none 0 0)).setCell ⟨A + 1 + 1, 1, none⟩ (.slice none 0 0) = W7 := ⟨_, rfl⟩
    rw [hW7] at hE2
    have k0 : W7.cell? ⟨A + 1 + 1, 0, none⟩ = some (.slice none 0 0) := by simp [World.cell?, hE2]
    have k1 : W7.cell? ⟨A + 1 + 1, 1, none⟩ = some (.slice none 0 0) := by simp [World.cell?, hE2]
    have HFIN : Hid (ArrPost w 60 [] [] (.returned (.tuple #[.agg #[.slice none 0 0, .slice none 0 0], .int .i64 60])) W7) := Lib.hid (arr_no (by
      rw [← hW7]
      exact (HBk.out.setCell (p := ⟨A + 1 + 1, 0, none⟩) HRB.out _).setCell (p := ⟨A + 1 + 1, 1, none⟩) HRB.out _))
    clear hE1 hE2 y1 hbw
    go_wp2_with fail
    (try simp only [Exit.inBlock, Exit.then])
    refine bodyPost_ret (v := .tuple #[.agg #[.slice none 0 0, .slice none 0 0], .int .i64 60]) ?_ rfl HFIN.out
    rw [results_cell_tmp rfl]
    go_simp
end Go.Proofs.YtigidchicloleaaGreatDoor.Arr
