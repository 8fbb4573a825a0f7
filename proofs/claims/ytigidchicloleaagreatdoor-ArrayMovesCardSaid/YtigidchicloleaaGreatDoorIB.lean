/- The document's Index. -/
import Derived.Test.YtigidchicloleaaGreatDoorGI
import Derived.Test.YtigidchicloleaaGreatDoorIA
set_option maxHeartbeats 2000000
set_option maxRecDepth 100000
namespace Go.Proofs.YtigidchicloleaaGreatDoor.Arr
open Go.RowKit
open Go.Lib
attribute [local go_sem] Oper.semAt_some
theorem prod_drop {s : List Nat} {k : Nat} (hk : k < s.length) : prod (s.drop k) = s.getD k 0 * prod (s.drop (k + 1)) := by
  rw [List.drop_eq_getElem_cons hk, prod_cons, List.getD_eq_getElem?_getD, List.getElem?_eq_getElem hk]; rfl
theorem prod_split : ∀ (s : List Nat) (k : Nat), prod s = prod (s.take k) * prod (s.drop k)
  | s, 0 => by simp [prod]
  | [], k + 1 => by simp [prod]
  | x :: s, k + 1 => by rw [List.take_succ_cons, List.drop_succ_cons, prod_cons, prod_cons, prod_split s k, Nat.mul_assoc]
theorem ixOf_getD : ∀ (s : List Nat) (i k : Nat), i < prod s → k < s.length → (ixOf s i).getD k 0 = (i / prod (s.drop (k + 1))) % s.getD k 0
  | [], _, _, _, hk => absurd hk (by simp)
  | x :: s, i, 0, hi, _ => by
    rw [prod_cons] at hi
    show i / prod s = (i / prod s) % x
    rw [Nat.mod_eq_of_lt (Nat.div_lt_of_lt_mul (by rw [Nat.mul_comm]; exact hi))]
  | x :: s, i, k + 1, hi, hk => by
    rw [prod_cons] at hi
    have hp : 0 < prod s := by
      rcases Nat.eq_zero_or_pos (prod s) with h0 | h0
      · rw [h0, Nat.mul_zero] at hi; omega
      · exact h0
    have hk2 : k < s.length := by simpa using hk
    have ih := ixOf_getD s (i % prod s) k (Nat.mod_lt _ hp) hk2
    show (ixOf s (i % prod s)).getD k 0 = (i / prod (s.drop (k + 1))) % s.getD k 0
    rw [ih]
    have e : prod s = (prod (s.take k) * s.getD k 0) * prod (s.drop (k + 1)) := by rw [prod_split s k, prod_drop hk2, Nat.mul_assoc]
    rw [e, Nat.mod_mul_left_div_self, Nat.mul_comm (prod (s.take k)), Nat.mod_mul_right_mod]
theorem zn_app (k : Nat) (R : List Nat) : zn (k + 1) ++ R = zn k ++ 0 :: R := by
  unfold zn
  rw [List.replicate_succ', List.append_assoc]; rfl
theorem ixOf_small {s : List Nat} {i : Nat} (hi : i < prod s) (hsb : ∀ x ∈ s, x ≤ 1024) : ∀ x ∈ ixOf s i, x < 1024 := fun x hx => by
  obtain ⟨k, hk, e⟩ := List.getElem_of_mem hx
  have h1 := (ixOf_is s i hi).1
  have h2 := h1.2 k (by rw [← h1.1]; exact hk)
  have h3 := hsb (s.getD k 0) (by rw [List.getD_eq_getElem?_getD, List.getElem?_eq_getElem (by rw [← h1.1]; exact hk)]; exact List.getElem_mem _)
  rw [List.getD_eq_getElem?_getD, List.getElem?_eq_getElem hk, Option.getD_some, e] at h2
  omega
theorem rindex_any (p : Option Addr) (c n i : Nat) (s : List Nat) (w : World) (hn : n ≤ 4) (hs : Hid (s.length = n)) (hsb : Hid (∀ x ∈ s, x ≤ 1024)) (hi : Hid (i < prod s)) (h4 : prod s ≤ 4096) (hp : RdN w p s) :
    Calls Tryz.prog 66 #[.slice p n c, .int .i64 (i : Int)] w fun e w' => e = .returned (.slice (some ⟨w.heap.size, 0, none⟩) n n) ∧ w'.heap[w.heap.size]? = some (.cells (ixC (ixOf s i)) 3 (0, 0)) ∧ Below w.heap.size w w' := by
  have HP := Lib.hid hp
  have hni : (n : Int) ≤ 4 := by omega
  have hmk := fun W => make_ints n (by omega) W
  have HI4 : Hid (i ≤ 4096) := Lib.hid (by have := hi.out; omega)
  have HIX : Hid ((ixOf s i).length = n) := Lib.hid (by rw [ixOf_len, hs.out])
  obtain ⟨g, HG⟩ : ∃ g, Hid (g = w.heap.size) := ⟨_, rfl⟩
  obtain ⟨W1, HW1⟩ : ∃ W1, Hid (w.alloc (.cells (ixC (zn n)) 3) = W1) := ⟨_, Lib.hid rfl⟩
  have HB1 : Hid (Below w.heap.size w W1) := Lib.hid (by rw [← HW1.out]; exact (Below.refl _ _).alloc (Nat.le_refl _) _)
  have HG1 : Hid (W1.heap[g]? = some (.cells (ixC (zn n)) 3 (0, 0))) := Lib.hid (by rw [← HW1.out, HG.out]; exact World.alloc_heap_new _ _)
  clear hp h4
  go_enter Tryz.func66, Tryz.ntmps66
  go_wp2_with fail
  rw [HW1.out, ← HG.out]
  clear hmk
  go_loopw [1, 6] (fun mv kv wr => ∃ (j m : Nat) (t : Int), j ≤ n ∧ kv = .int .i64 t ∧ mv = .int .i64 (m : Int) ∧ t = (j : Int) - 1 ∧ Hid (m = i / prod (s.drop j)) ∧ Hid (wr.heap[g]? = some (.cells (ixC (zn j ++ (ixOf s i).drop j)) 3 (0, 0))) ∧ Hid (W1.grownBy wr (some g))) (fun _ kv _ => (intOf kv + 1).toNat)
  case atStart => exact ⟨n, i, _, Nat.le_refl _, rfl, rfl, rfl, Lib.hid (by rw [List.drop_of_length_le (by rw [hs.out]; omega)]; simp [prod]), Lib.hid (by rw [List.drop_of_length_le (by rw [HIX.out]; omega), List.append_nil]; exact HG1.out), Lib.hid ⟨rfl, rfl, rfl, Nat.le_refl _, fun _ _ _ => rfl⟩⟩
  case round =>
    obtain ⟨j, m, t, hj, rfl, rfl, ht, HM, HR, HB⟩ := hrel
    have HBW : Hid (Below w.heap.size w wr) := Lib.hid ⟨HB.out.os.trans HB1.out.os, HB.out.tape.trans HB1.out.tape, HB.out.output.trans HB1.out.output, Nat.le_trans HB1.out.size HB.out.size, fun k hk => (HB.out.block k (Nat.lt_of_lt_of_le hk HB1.out.size) (by intro e; injection e with e; rw [e, HG.out] at hk; omega)).trans (HB1.out.block k hk)⟩
    cases j with
    | zero =>
      obtain rfl : t = -1 := by omega
      have hfin : Hid (wr.heap[w.heap.size]? = some (.cells (ixC (ixOf s i)) 3 (0, 0)) ∧ Below w.heap.size w wr) := Lib.hid ⟨by rw [← HG.out]; exact HR.out, HBW.out⟩
      clear ht
      go_wp2_with fail
      go_ret
      exact ⟨by rw [HG.out]; rfl, hfin.out.1, hfin.out.2⟩
    | succ k =>
      obtain rfl : t = (k : Int) := by omega
      clear ht
      have hkn : (k : Int) < (n : Int) := by omega
      obtain ⟨b1, o1, x, rfl, hb1, hc1, HX⟩ := HP.out.at (k := k) (by rw [hs.out]; omega)
      have hks : k < s.length := by rw [hs.out]; omega
      have hxp : 0 < x := by
        have h1 := (ixOf_is s i hi.out).1.2 k hks
        rw [← HX.out] at h1; omega
      have hx1024 : x ≤ 1024 := by
        rw [HX.out, List.getD_eq_getElem?_getD, List.getElem?_eq_getElem hks]
        exact hsb.out _ (List.getElem_mem _)
      have hm4 : m ≤ 4096 := by
        rw [HM.out]; exact Nat.le_trans (Nat.div_le_self _ _) HI4.out
      have imi : (m : Int) ≤ 4096 := by omega
      have ixi : (x : Int) ≤ 1024 := by omega
      have ixp : (0 : Int) < (x : Int) := by omega
      have ixn : ¬ (x : Int) = 0 := by omega
      obtain ⟨y, HY⟩ : ∃ y, Hid (y = m % x) := ⟨_, rfl⟩
      obtain ⟨m2, HM2⟩ : ∃ m2, Hid (m2 = m / x) := ⟨_, rfl⟩
      have hmod : (m : Int).tmod (x : Int) = (y : Int) := by rw [HY.out]; exact (Int.ofNat_tmod m x).symm
      have hdiv : (m : Int).tdiv (x : Int) = (m2 : Int) := by rw [HM2.out]; exact (Int.ofNat_tdiv m x).symm
      have iy : (y : Int) ≤ 4096 := by rw [HY.out]; have := Nat.mod_le m x; omega
      have im2 : (m2 : Int) ≤ 4096 := by rw [HM2.out]; have := Nat.div_le_self m x; omega
      have hyx : Hid (y = (ixOf s i).getD k 0) := Lib.hid (by rw [ixOf_getD s i k hi.out hks, HY.out, HM.out, HX.out])
      have hstm : Hid (m2 = i / prod (s.drop k)) := Lib.hid (by rw [prod_drop hks, Nat.mul_comm, ← Nat.div_div_eq_div_mul, HM2.out, HM.out, HX.out])
      have hdr : (ixOf s i).drop k = y :: (ixOf s i).drop (k + 1) := by
        rw [List.drop_eq_getElem_cons (by rw [HIX.out]; omega), hyx.out, List.getD_eq_getElem?_getD, List.getElem?_eq_getElem (by rw [HIX.out]; omega)]; rfl
      have HDR := Lib.hid hdr
      have HZL : Hid ((zn k).length = k) := Lib.hid (by simp [zn])
      have HR0 : Hid (wr.heap[g]? = some (.cells (ixC (zn k ++ 0 :: (ixOf s i).drop (k + 1))) 3 (0, 0))) := Lib.hid (by rw [← zn_app]; exact HR.out)
      have hcg : wr.cell? ⟨g, k, none⟩ = some (.int .i64 0) := by
        have h := cell_row HR0.out (k := k) (by simp [zn])
        rw [getD_mid HZL.out] at h
        exact h
      have hfg : wr.frozen? ⟨g, k, none⟩ = false := free_row HR0.out
      have d1 : wr.cell? ⟨b1, o1 + k, none⟩ = some (.int .i64 (x : Int)) := (HBW.out.cell (p := ⟨b1, o1 + k, none⟩) hb1).trans hc1
      obtain ⟨W2, HW2⟩ : ∃ W2, Hid (wr.setCell ⟨g, k, none⟩ (.int .i64 (y : Int)) = W2) := ⟨_, Lib.hid rfl⟩
      have HR1 : Hid (W2.heap[g]? = some (.cells (ixC (zn k ++ (ixOf s i).drop k)) 3 (0, 0))) := Lib.hid (by
        rw [HDR.out, ← HW2.out, ← ixC_set (zn k) 0 y ((ixOf s i).drop (k + 1)) HZL.out]
        exact heap_set wr g k _ _ _ HR0.out)
      have HB2 : Hid (W1.grownBy W2 (some g)) := Lib.hid (HB.out.trans (by rw [← HW2.out]; exact gb_set _ _ _ _))
      have d2 : W2.cell? ⟨b1, o1 + k, none⟩ = some (.int .i64 (x : Int)) := by
        have hne : b1 ≠ g := by rw [HG.out]; omega
        have hh := (HB2.out.block b1 (Nat.lt_of_lt_of_le hb1 HB1.out.size) (by intro e; injection e with e; exact hne e)).trans (HB1.out.block b1 hb1)
        rw [World.cell?_of_block (a := ⟨b1, o1 + k, none⟩) hh]; exact hc1
      rw [← HW2.out] at d2
      clear hc1 hdr
      go_wp2_with fail
      rw [HW2.out]
      go_roundw
      case rel => exact ⟨k, m2, _, by omega, rfl, rfl, by go_num, hstm, HR1, HB2⟩
      case measure => simp [intOf]
end Go.Proofs.YtigidchicloleaaGreatDoor.Arr
set_option maxHeartbeats 4000000
set_option maxRecDepth 100000
namespace Go.Proofs.YtigidchicloleaaGreatDoor.Arr
open Go.RowKit Go.Shelf
open Go.Lib
attribute [local go_sem] Oper.semAt_some
theorem distinct_any (p : Option Addr) (c n : Nat) (l : List Int) (cnt rank : Nat) (w : World) (hl : Hid (l.length = n)) (hn : n ≤ 10) (hp : Rd w p l) :
    Calls Tryz.prog 84 #[.slice p n c, .int .i64 (cnt : Int), .int .i64 (rank : Int)] w fun e w' => (∃ k, w.drewN k = w') ∧ e = .returned (.bool (axOk l cnt rank)) := by
  have HP := Lib.hid hp
  obtain ⟨v, HV⟩ : ∃ v, Hid (v = axOk l cnt rank) := ⟨_, rfl⟩
  rw [← HV.out]
  clear hp
  by_cases hlen : n = cnt
  case neg =>
    have hle : ¬ (n : Int) = (cnt : Int) := by omega
    obtain rfl : v = false := by rw [HV.out]; exact axOk_len (by rw [hl.out]; exact hlen)
    go_enter Tryz.func84, Tryz.ntmps84
    go_wp2_with fail
    go_ret
    exact ⟨⟨0, rfl⟩, rfl⟩
  subst hlen
  have hni : (n : Int) ≤ 10 := by omega
  have HNO : Hid (∀ k, k < n → l.getD k 0 < 0 ∨ (rank : Int) ≤ l.getD k 0 ∨ hasZ (l.take k) (l.getD k 0) = true → v = false) := Lib.hid (fun k hk h => by rw [HV.out]; exact axOk_no (by rw [hl.out]; exact hk) h)
  have HYES : Hid ((∀ k, k < n → 0 ≤ l.getD k 0 ∧ l.getD k 0 < (rank : Int) ∧ hasZ (l.take k) (l.getD k 0) = false) → v = true) := Lib.hid (fun h => by rw [HV.out]; exact axOk_yes hl.out (fun k hk => h k (by rw [← hl.out]; exact hk)))
  go_enter Tryz.func84, Tryz.ntmps84
  go_wp2_with fail
  go_loopw [7] (fun iv wr => ∃ i r : Nat, i ≤ n ∧ iv = .int .i64 i ∧ wr = w.drewN r ∧ Hid (∀ k, k < i → 0 ≤ l.getD k 0 ∧ l.getD k 0 < (rank : Int) ∧ hasZ (l.take k) (l.getD k 0) = false)) (fun iv _ => n - (Go.RowKit.intOf iv).toNat)
  case atStart => exact ⟨0, 0, Nat.zero_le _, rfl, rfl, Lib.hid (fun k hk => by omega)⟩
  case round =>
    obtain ⟨i, r, hi, rfl, rfl, HA⟩ := hrel
    have ii : (i : Int) ≤ (n : Int) := by omega
    by_cases hlt : i < n
    · have ilt : (i : Int) < (n : Int) := by omega
      obtain ⟨b1, o1, x, rfl, hb1, hc1, HX, hx1, hx2⟩ := HP.out.at (k := i) (by rw [hl.out]; exact hlt)
      by_cases hx0 : x < 0
      · obtain rfl : v = false := HNO.out i hlt (.inl (by rw [← HX.out]; exact hx0))
        go_wp2_with fail
        go_ret
        exact ⟨⟨_, rfl⟩, rfl⟩
      by_cases hxr : (rank : Int) ≤ x
      · obtain rfl : v = false := HNO.out i hlt (.inr (.inl (by rw [← HX.out]; exact hxr)))
        go_wp2_with fail
        go_ret
        exact ⟨⟨_, rfl⟩, rfl⟩
      have hx0' := Lib.hid hx0
      have hxr' := Lib.hid hxr
      go_wp2_with fail
      go_loopw [8] (fun jv wr => ∃ j t : Nat, j ≤ i ∧ jv = .int .i64 j ∧ wr = w.drewN t ∧ Hid (∀ k, k < j → l.getD k 0 ≠ x)) (fun jv _ => i - (Go.RowKit.intOf jv).toNat)
      case atStart => exact ⟨0, r, Nat.zero_le _, rfl, rfl, Lib.hid (fun k hk => by omega)⟩
      case round =>
        obtain ⟨j, t, hj, rfl, rfl, HJ⟩ := hrel
        have ij : (j : Int) ≤ (i : Int) := by omega
        by_cases hjl : j < i
        · have jlt : (j : Int) < (i : Int) := by omega
          have jln : (j : Int) < (n : Int) := by omega
          obtain ⟨b2, o2, y, e2, -, hc2, HY, -⟩ := HP.out.at (k := j) (by rw [hl.out]; omega)
          cases e2
          by_cases hyx : y = x
          · subst hyx
            obtain rfl : v = false := HNO.out i hlt (.inr (.inr (by
              rw [← HX.out]
              exact hasZ_yes (j := j) (by rw [List.length_take, hl.out]; omega) (by rw [getD_take hjl]; exact HY.out.symm))))
            have hb : (y == y) = true := beq_self_eq_true y
            go_wp2_with fail
            go_quiet (fail)
            go_wp2_with fail
            go_ret
            exact ⟨⟨_, (World.drewN_drewN ..).symm⟩, rfl⟩
          · have hb : (y == x) = false := by rw [beq_eq_false_iff_ne]; exact hyx
            have hst : Hid (∀ k, k < j + 1 → l.getD k 0 ≠ x) := Lib.hid (fun k hk => by
              by_cases e : k = j
              · rw [e, ← HY.out]; exact hyx
              · exact HJ.out k (by omega))
            go_wp2_with fail
            go_quiet (fail)
            go_wp2_with fail
            go_roundw
            case rel => exact ⟨j + 1, _, by omega, by go_num, rfl, hst⟩
            case measure => simp [Go.RowKit.intOf]; omega
        · obtain rfl : j = i := by omega
          have jlt : ¬ (j : Int) < (j : Int) := by omega
          have hst : Hid (∀ k, k < j + 1 → 0 ≤ l.getD k 0 ∧ l.getD k 0 < (rank : Int) ∧ hasZ (l.take k) (l.getD k 0) = false) := Lib.hid (fun k hk => by
            by_cases e : k = j
            · have h1 := hx0'.out
              have h2 := hxr'.out
              rw [e, ← HX.out]
              exact ⟨by omega, by omega, hasZ_no (fun q hq => by
                rw [List.length_take] at hq
                rw [getD_take (by omega)]; exact HJ.out q (by omega))⟩
            · exact HA.out k (by omega))
          go_wp2_with fail
          go_roundw
          case rel => exact ⟨j + 1, _, by omega, by go_num, rfl, hst⟩
          case measure => simp [Go.RowKit.intOf]; omega
    · obtain rfl : i = n := by omega
      have ilt : ¬ (i : Int) < (i : Int) := by omega
      obtain rfl : v = true := HYES.out HA.out
      go_wp2_with fail
      go_ret
      exact ⟨⟨_, rfl⟩, rfl⟩
def pk (s axes : List Nat) : List Nat := axes.map (fun a => s.getD a 0)
theorem pk_len (s axes : List Nat) : (pk s axes).length = axes.length := by simp [pk]
theorem pk_at {s axes : List Nat} {k : Nat} (h : k < axes.length) : (pk s axes).getD k 0 = s.getD (axes.getD k 0) 0 := by
  unfold pk
  rw [List.getD_eq_getElem?_getD, List.getElem?_map, List.getElem?_eq_getElem h, List.getD_eq_getElem?_getD (l := axes), List.getElem?_eq_getElem h]; rfl
theorem picked_any (p q : Option Addr) (c d n m : Nat) (s axes : List Nat) (w : World) (hm : m ≤ 4) (hs : Hid (s.length = n)) (hn : n ≤ 4) (hl : Hid (axes.length = m)) (hb : Hid (∀ x ∈ axes, x < n)) (hp : RdN w p s) (hq : RdN w q axes) :
    Calls Tryz.prog 85 #[.slice p n c, .slice q m d] w fun e w' => Below w.heap.size w w' ∧ e = .returned (.slice (some ⟨w.heap.size, 0, none⟩) m m) ∧ w'.heap[w.heap.size]? = some (.cells (ixC (pk s axes)) 3 (0, 0)) := by
  have HP := Lib.hid hp
  have HQ := Lib.hid hq
  have hmi : (m : Int) ≤ 4 := by omega
  have hni : (n : Int) ≤ 4 := by omega
  have hmk := fun W => make_ints m (by omega) W
  obtain ⟨g, HG⟩ : ∃ g, Hid (g = w.heap.size) := ⟨_, rfl⟩
  obtain ⟨W1, HW1⟩ : ∃ W1, Hid (w.alloc (.cells (ixC (zn m)) 3) = W1) := ⟨_, Lib.hid rfl⟩
  have HB1 : Hid (Below w.heap.size w W1) := Lib.hid (by rw [← HW1.out]; exact (Below.refl _ w).alloc (Nat.le_refl _) _)
  have HR1 : Hid (W1.heap[g]? = some (.cells (ixC ((pk s axes).take 0 ++ zn (m - 0))) 3 (0, 0))) := Lib.hid (by rw [← HW1.out, HG.out]; exact World.alloc_heap_new w _)
  clear hp hq
  go_enter Tryz.func85, Tryz.ntmps85
  go_wp2_with fail
  rw [HW1.out, ← HG.out]
  clear hmk
  go_loopw [6] (fun iv wr => ∃ i : Nat, i ≤ m ∧ iv = .int .i64 i ∧ Hid (Below w.heap.size w wr) ∧ Hid (wr.heap[g]? = some (.cells (ixC ((pk s axes).take i ++ zn (m - i))) 3 (0, 0)))) (fun iv _ => m - (Go.RowKit.intOf iv).toNat)
  case atStart => exact ⟨0, Nat.zero_le _, rfl, HB1, HR1⟩
  case round =>
    obtain ⟨i, hi, rfl, HB, HR⟩ := hrel
    have ii : (i : Int) ≤ (m : Int) := by omega
    by_cases hlt : i < m
    · have ilt : (i : Int) < (m : Int) := by omega
      have hil : i < axes.length := by rw [hl.out]; exact hlt
      obtain ⟨b2, o2, x, rfl, hb2, hc2, HX⟩ := (HQ.out.below HB.out).at hil
      have hxn : x < n := by
        rw [HX.out, List.getD_eq_getElem?_getD, List.getElem?_eq_getElem hil]
        exact hb.out _ (List.getElem_mem _)
      have ixn : (x : Int) < (n : Int) := by omega
      obtain ⟨b1, o1, y, rfl, hb1, hc1, HY⟩ := (HP.out.below HB.out).at (k := x) (by rw [hs.out]; exact hxn)
      have hgw : g < wr.heap.size := (Array.getElem?_eq_some_iff.1 HR.out).1
      have hcl : ((pk s axes).take i).length = i := by rw [List.length_take, pk_len]; omega
      have HRm := HR.out
      rw [zn_succ hlt] at HRm
      have c1 : wr.cell? ⟨g, i, none⟩ = some (.int .i64 ((0 : Nat) : Int)) := by simp [World.cell?, HRm, ixC_mid hcl]
      have z1 : wr.frozen? ⟨g, i, none⟩ = false := by simp [World.frozen?, HRm]
      have HE := Lib.hid (heap_set wr g i (.int .i64 (y : Int)) _ _ HRm)
      have HR2 : Hid ((wr.setCell ⟨g, i, none⟩ (.int .i64 (y : Int))).heap[g]? = some (.cells (ixC ((pk s axes).take (i + 1) ++ zn (m - (i + 1)))) 3 (0, 0))) := Lib.hid (by
        have h := HE.out
        rw [ixC_set ((pk s axes).take i) 0 y _ hcl] at h
        rw [take_succ' (by rw [pk_len]; exact hil), List.append_assoc, pk_at hil, ← HX.out, ← HY.out]
        exact h)
      have HB2 : Hid (Below w.heap.size w (wr.setCell ⟨g, i, none⟩ (.int .i64 (y : Int)))) := Lib.hid (HB.out.setCell (p := ⟨g, i, none⟩) (by show w.heap.size ≤ g; rw [HG.out]; exact Nat.le_refl _) _)
      clear HRm
      go_wp2_with fail
      go_roundw
      case rel => exact ⟨i + 1, by omega, by go_num, HB2, HR2⟩
      case measure => simp [Go.RowKit.intOf]; omega
    · obtain rfl : i = m := by omega
      have ilt : ¬ (i : Int) < (i : Int) := by omega
      have hfin : Hid (Below w.heap.size w wr ∧ wr.heap[g]? = some (.cells (ixC (pk s axes)) 3 (0, 0))) := Lib.hid ⟨HB.out, by
        have h := HR.out
        rw [Nat.sub_self, List.take_of_length_le (by rw [pk_len, hl.out]; exact Nat.le_refl _)] at h
        simpa [zn] using h⟩
      go_wp2_with fail
      go_ret
      exact ⟨hfin.out.1, by rw [HG.out]; rfl, by rw [← HG.out]; exact hfin.out.2⟩
end Go.Proofs.YtigidchicloleaaGreatDoor.Arr
