/- The document's Index. -/
import Derived.Test.YtaldangjhdddoaaGreatDoorGI
namespace Go.Proofs.YtaldangjhdddoaaGreatDoor.Arr
open Go.RowKit
open Go.Lib
attribute [local go_sem] Oper.semAt_some
theorem prod_drop {s : List Nat} {k : Nat} (hk : k < s.length) : prod (s.drop k) = s.getD k 0 * prod (s.drop (k + 1)) := by
  rw [List.drop_eq_getElem_cons hk, prod_cons, List.getD_eq_getElem?_getD, List.getElem?_eq_getElem hk]; rfl
theorem prod_split : ∀ (s : List Nat) (k : Nat), prod s = prod (s.take k) * prod (s.drop k)
  | s, 0 => by simp [prod]
  | [], k + 1 => by simp [prod]
  | x :: s, k + 1 => by rw [List.take_succ_cons, List.drop_succ_cons, prod_cons, prod_cons, prod_split s k, Nat.mul_assoc]
theorem ixOf_getD : ∀ (s : List Nat) (i k : Nat), i < prod s → k < s.length → (ixOf s i).getD k 0 = (i / prod (s.drop (k + 1))) % s.getD k 0
  | [], _, _, _, hk => absurd hk (by simp)
  | x :: s, i, 0, hi, _ => by
    rw [prod_cons] at hi
    show i / prod s = (i / prod s) % x
    rw [Nat.mod_eq_of_lt (Nat.div_lt_of_lt_mul (by rw [Nat.mul_comm]; exact hi))]
  | x :: s, i, k + 1, hi, hk => by
    rw [prod_cons] at hi
    have hp : 0 < prod s := by
      rcases Nat.eq_zero_or_pos (prod s) with h0 | h0
      · rw [h0, Nat.mul_zero] at hi; omega
      · exact h0
    have hk2 : k < s.length := by simpa using hk
    have ih := ixOf_getD s (i % prod s) k (Nat.mod_lt _ hp) hk2
    show (ixOf s (i % prod s)).getD k 0 = (i / prod (s.drop (k + 1))) % s.getD k 0
    rw [ih]
    have e : prod s = (prod (s.take k) * s.getD k 0) * prod (s.drop (k + 1)) := by rw [prod_split s k, prod_drop hk2, Nat.mul_assoc]
    rw [e, Nat.mod_mul_left_div_self, Nat.mul_comm (prod (s.take k)), Nat.mod_mul_right_mod]
theorem zn_app (k : Nat) (R : List Nat) : zn (k + 1) ++ R = zn k ++ 0 :: R := by
  unfold zn
  rw [List.replicate_succ', List.append_assoc]; rfl
theorem ixOf_small {s : List Nat} {i : Nat} (hi : i < prod s) (hsb : ∀ x ∈ s, x ≤ 1024) : ∀ x ∈ ixOf s i, x < 1024 := fun x hx => by
  obtain ⟨k, hk, e⟩ := List.getElem_of_mem hx
  have h1 := (ixOf_is s i hi).1
  have h2 := h1.2 k (by rw [← h1.1]; exact hk)
  have h3 := hsb (s.getD k 0) (by rw [List.getD_eq_getElem?_getD, List.getElem?_eq_getElem (by rw [← h1.1]; exact hk)]; exact List.getElem_mem _)
  rw [List.getD_eq_getElem?_getD, List.getElem?_eq_getElem hk, Option.getD_some, e] at h2
  omega
set_option maxRecDepth 100000 in
set_option maxHeartbeats 2000000 in
theorem rindex_any (p : Option Addr) (c n i : Nat) (s : List Nat) (w : World) (hn : n ≤ 4) (hs : Hid (s.length = n)) (hsb : Hid (∀ x ∈ s, x ≤ 1024)) (hi : Hid (i < prod s)) (h4 : prod s ≤ 4096) (hp : RdN w p s) :
    Calls Tryz.prog 63 #[.slice p n c, .int .i64 (i : Int)] w fun e w' => e = .returned (.slice (some ⟨w.heap.size, 0, none⟩) n n) ∧ w'.heap[w.heap.size]? = some (.cells (ixC (ixOf s i)) 3 (0, 0)) ∧ Below w.heap.size w w' := by
  have HP := Lib.hid hp
  have hni : (n : Int) ≤ 4 := by omega
  have hmk := fun W => make_ints n (by omega) W
  have HI4 : Hid (i ≤ 4096) := Lib.hid (by have := hi.out; omega)
  have HIX : Hid ((ixOf s i).length = n) := Lib.hid (by rw [ixOf_len, hs.out])
  obtain ⟨g, HG⟩ : ∃ g, Hid (g = w.heap.size) := ⟨_, rfl⟩
  obtain ⟨W1, HW1⟩ : ∃ W1, Hid (w.alloc (.cells (ixC (zn n)) 3) = W1) := ⟨_, Lib.hid rfl⟩
  have HB1 : Hid (Below w.heap.size w W1) := Lib.hid (by rw [← HW1.out]; exact (Below.refl _ _).alloc (Nat.le_refl _) _)
  have HG1 : Hid (W1.heap[g]? = some (.cells (ixC (zn n)) 3 (0, 0))) := Lib.hid (by rw [← HW1.out, HG.out]; exact World.alloc_heap_new _ _)
  clear hp h4
  go_enter Tryz.func63, Tryz.ntmps63
  go_wp2_with fail
  rw [HW1.out, ← HG.out]
  clear hmk
  go_loopw [1, 6] (fun mv kv wr => ∃ (j m : Nat) (t : Int), j ≤ n ∧ kv = .int .i64 t ∧ mv = .int .i64 (m : Int) ∧ t = (j : Int) - 1 ∧ Hid (m = i / prod (s.drop j)) ∧ Hid (wr.heap[g]? = some (.cells (ixC (zn j ++ (ixOf s i).drop j)) 3 (0, 0))) ∧ Hid (W1.grownBy wr (some g))) (fun _ kv _ => (intOf kv + 1).toNat)
  case atStart => exact ⟨n, i, _, Nat.le_refl _, rfl, rfl, rfl, Lib.hid (by rw [List.drop_of_length_le (by rw [hs.out]; omega)]; simp [prod]), Lib.hid (by rw [List.drop_of_length_le (by rw [HIX.out]; omega), List.append_nil]; exact HG1.out), Lib.hid ⟨rfl, rfl, rfl, Nat.le_refl _, fun _ _ _ => rfl⟩⟩
  case round =>
    obtain ⟨j, m, t, hj, rfl, rfl, ht, HM, HR, HB⟩ := hrel
    have HBW : Hid (Below w.heap.size w wr) := Lib.hid ⟨HB.out.os.trans HB1.out.os, HB.out.tape.trans HB1.out.tape, HB.out.output.trans HB1.out.output, Nat.le_trans HB1.out.size HB.out.size, fun k hk => (HB.out.block k (Nat.lt_of_lt_of_le hk HB1.out.size) (by intro e; injection e with e; rw [e, HG.out] at hk; omega)).trans (HB1.out.block k hk)⟩
    cases j with
    | zero =>
      obtain rfl : t = -1 := by omega
      have hfin : Hid (wr.heap[w.heap.size]? = some (.cells (ixC (ixOf s i)) 3 (0, 0)) ∧ Below w.heap.size w wr) := Lib.hid ⟨by rw [← HG.out]; exact HR.out, HBW.out⟩
      clear ht
      go_wp2_with fail
      go_ret
      exact ⟨by rw [HG.out]; rfl, hfin.out.1, hfin.out.2⟩
    | succ k =>
      obtain rfl : t = (k : Int) := by omega
      clear ht
      have hkn : (k : Int) < (n : Int) := by omega
      obtain ⟨b1, o1, x, rfl, hb1, hc1, HX⟩ := HP.out.at (k := k) (by rw [hs.out]; omega)
      have hks : k < s.length := by rw [hs.out]; omega
      have hxp : 0 < x := by
        have h1 := (ixOf_is s i hi.out).1.2 k hks
        rw [← HX.out] at h1; omega
      have hx1024 : x ≤ 1024 := by
        rw [HX.out, List.getD_eq_getElem?_getD, List.getElem?_eq_getElem hks]
        exact hsb.out _ (List.getElem_mem _)
      have hm4 : m ≤ 4096 := by
        rw [HM.out]; exact Nat.le_trans (Nat.div_le_self _ _) HI4.out
      have imi : (m : Int) ≤ 4096 := by omega
      have ixi : (x : Int) ≤ 1024 := by omega
      have ixp : (0 : Int) < (x : Int) := by omega
      have ixn : ¬ (x : Int) = 0 := by omega
      obtain ⟨y, HY⟩ : ∃ y, Hid (y = m % x) := ⟨_, rfl⟩
      obtain ⟨m2, HM2⟩ : ∃ m2, Hid (m2 = m / x) := ⟨_, rfl⟩
      have hmod : (m : Int).tmod (x : Int) = (y : Int) := by rw [HY.out]; exact (Int.ofNat_tmod m x).symm
      have hdiv : (m : Int).tdiv (x : Int) = (m2 : Int) := by rw [HM2.out]; exact (Int.ofNat_tdiv m x).symm
      have iy : (y : Int) ≤ 4096 := by rw [HY.out]; have := Nat.mod_le m x; omega
      have im2 : (m2 : Int) ≤ 4096 := by rw [HM2.out]; have := Nat.div_le_self m x; omega
      have hyx : Hid (y = (ixOf s i).getD k 0) := Lib.hid (by rw [ixOf_getD s i k hi.out hks, HY.out, HM.out, HX.out])
      have hstm : Hid (m2 = i / prod (s.drop k)) := Lib.hid (by rw [prod_drop hks, Nat.mul_comm, ← Nat.div_div_eq_div_mul, HM2.out, HM.out, HX.out])
      have hdr : (ixOf s i).drop k = y :: (ixOf s i).drop (k + 1) := by
        rw [List.drop_eq_getElem_cons (by rw [HIX.out]; omega), hyx.out, List.getD_eq_getElem?_getD, List.getElem?_eq_getElem (by rw [HIX.out]; omega)]; rfl
      have HDR := Lib.hid hdr
      have HZL : Hid ((zn k).length = k) := Lib.hid (by simp [zn])
      have HR0 : Hid (wr.heap[g]? = some (.cells (ixC (zn k ++ 0 :: (ixOf s i).drop (k + 1))) 3 (0, 0))) := Lib.hid (by rw [← zn_app]; exact HR.out)
      have hcg : wr.cell? ⟨g, k, none⟩ = some (.int .i64 0) := by
        have h := cell_row HR0.out (k := k) (by simp [zn])
        rw [getD_mid HZL.out] at h
        exact h
      have hfg : wr.frozen? ⟨g, k, none⟩ = false := free_row HR0.out
      have d1 : wr.cell? ⟨b1, o1 + k, none⟩ = some (.int .i64 (x : Int)) := (HBW.out.cell (p := ⟨b1, o1 + k, none⟩) hb1).trans hc1
      obtain ⟨W2, HW2⟩ : ∃ W2, Hid (wr.setCell ⟨g, k, none⟩ (.int .i64 (y : Int)) = W2) := ⟨_, Lib.hid rfl⟩
      have HR1 : Hid (W2.heap[g]? = some (.cells (ixC (zn k ++ (ixOf s i).drop k)) 3 (0, 0))) := Lib.hid (by
        rw [HDR.out, ← HW2.out, ← ixC_set (zn k) 0 y ((ixOf s i).drop (k + 1)) HZL.out]
        exact heap_set wr g k _ _ _ HR0.out)
      have HB2 : Hid (W1.grownBy W2 (some g)) := Lib.hid (HB.out.trans (by rw [← HW2.out]; exact gb_set _ _ _ _))
      have d2 : W2.cell? ⟨b1, o1 + k, none⟩ = some (.int .i64 (x : Int)) := by
        have hne : b1 ≠ g := by rw [HG.out]; omega
        have hh := (HB2.out.block b1 (Nat.lt_of_lt_of_le hb1 HB1.out.size) (by intro e; injection e with e; exact hne e)).trans (HB1.out.block b1 hb1)
        rw [World.cell?_of_block (a := ⟨b1, o1 + k, none⟩) hh]; exact hc1
      rw [← HW2.out] at d2
      clear hc1 hdr
      go_wp2_with fail
      rw [HW2.out]
      go_roundw
      case rel => exact ⟨k, m2, _, by omega, rfl, rfl, by go_num, hstm, HR1, HB2⟩
      case measure => simp [intOf]
end Go.Proofs.YtaldangjhdddoaaGreatDoor.Arr
