/- Bytes of values: the document's Put. -/
import Derived.Test.YtaedmojkoioifaaGreatDoorKE
import Derived.BigQuiet
import Derived.Deep.RegionHeld3
import Derived.Laws.BitsAllLaws
set_option maxHeartbeats 4000000
set_option maxRecDepth 100000
namespace Go.Proofs.YtaedmojkoioifaaGreatDoor
open Go.RowKit
open Go.Lib
theorem rput_bad (k : Int) (p : Option Addr) (c n : Nat) (xs : List (List UInt8)) (w : World) (hx : Hid (xs.length = n)) (hn : n ≤ 4096) (hs : Ss w p xs) (z : Int) (HZ : Hid (chkE k xs = z)) (hz : z ≠ 0) :
    Calls Tryz.prog 8 #[.int .i64 k, .slice p n c] w fun e w' => e = .returned (.tuple #[.slice none 0 0, .int .i64 z]) ∧ Below w.heap.size w w' := by
  have HC := Lib.hid (unwell_any k p c n xs w hx hn hs)
  rw [HZ.out] at HC
  clear hs
  have gz : (z != 0) = true := by rw [bne_iff_ne]; exact hz
  go_enter Tryz.func8, Tryz.ntmps8
  go_wp2_with fail
  refine (HC.out).mono ?_
  rintro e w1 ⟨rfl, hb1⟩
  have HB1 := Lib.hid hb1
  clear hb1
  go_wp2_with fail
  go_ret2
  exact ⟨rfl, HB1.out⟩
theorem rput_good (k : Int) (p : Option Addr) (c n : Nat) (xs : List (List UInt8)) (w : World) (hx : Hid (xs.length = n)) (hn : n ≤ 4096) (hs : Ss w p xs) (HZ : Hid (chkE k xs = 0)) :
    Calls Tryz.prog 8 #[.int .i64 k, .slice p n c] w fun e w' => ∃ v, e = .returned (.tuple #[v, .int .i64 0]) ∧ PutG w (putT k xs) w' v := by
  have HS := Lib.hid hs
  have HC := Lib.hid (unwell_any k p c n xs w hx hn hs)
  rw [HZ.out] at HC
  clear hs
  have hk : isT k = true ∧ xs.all (fitT k) = true := by
    have h := HZ.out
    unfold chkE at h
    by_cases h1 : isT k = false
    · rw [if_pos h1] at h; cases h
    · rw [if_neg h1] at h
      by_cases h2 : xs.all (fitT k) = false
      · rw [if_pos h2] at h; cases h
      · exact ⟨by simpa using h1, by simpa using h2⟩
  have HK1 : Hid (1 ≤ k ∧ k ≤ 5) := Lib.hid (by
    have h := hk.1
    unfold isT at h
    rw [Bool.and_eq_true, decide_eq_true_eq, decide_eq_true_eq] at h
    exact h)
  have HFA : Hid (∀ x ∈ xs, fitT k x = true) := Lib.hid (List.all_eq_true.1 hk.2)
  obtain ⟨P, HPD⟩ : ∃ P, Hid ((n + 7) / 8 = P) := ⟨_, rfl⟩
  have HPD2 : Hid ((xs.length + 7) / 8 = P) := Lib.hid (by rw [hx.out]; exact HPD.out)
  have hP : P ≤ 512 := by have := HPD.out; omega
  have hPi : ((n : Int) + 7) / 8 = (P : Int) := by have := HPD.out; omega
  have hni : (n : Int) ≤ 4096 := by omega
  obtain ⟨i0, hi, hz0, hz1, hz2⟩ := info_parts infoB5
  clear hk
  go_enter Tryz.func8, Tryz.ntmps8
  go_wp2_with fail
  refine (HC.out).mono ?_
  rintro e w1 ⟨rfl, hb1⟩
  have HB1 := Lib.hid hb1
  clear hb1
  go_wp2_with (at_make; rw [hPi]; refine wpList_make_full _ rfl _ _ 25 rfl w.heap.size 5 i0 (.int .u8 0) 1 Tryz.underlying25 hi hz0 hz1 _ _ _ _ P rfl rfl (by rfl) (by rfl) ?b2 ?b3 HB1.out.size ?_)
  case b2 => rw [hz2]; omega
  case b3 => unfold maxLen; omega
  intro w2 hown hgrow
  obtain ⟨G, HGG⟩ : ∃ G, Hid (w1.heap.size = G) := ⟨_, rfl⟩
  rw [HGG.out] at hown ⊢
  have HP0 : Hid (PutG w (stP xs P 0) w2 (.slice (some ⟨G, 0, none⟩) P P)) := Lib.hid (by
    refine ⟨?_, HB1.out.grown hgrow HB1.out.size (fun _ h => by cases h)⟩
    rw [stP, made_n, List.length_replicate]
    exact hown)
  clear hown hgrow hPi
  go_wp2_with fail
  go_loopw [8] (fun iv wr => ∃ i : Nat, i ≤ n ∧ iv = .int .i64 i ∧ Hid (PutG w (stP xs P i) wr (.slice (some ⟨G, 0, none⟩) P P))) (fun iv _ => n - (intOf iv).toNat)
  case atStart => exact ⟨0, Nat.zero_le _, rfl, HP0⟩
  case round =>
    obtain ⟨i, hi9, rfl, HK⟩ := hrel
    obtain ⟨wo, rfl⟩ : ∃ wo, wo = wr := ⟨_, rfl⟩
    have ii : (i : Int) ≤ (n : Int) := by omega
    by_cases hlt : i < n
    · have ilt : (i : Int) < (n : Int) := by omega
      have hil : i < xs.length := by rw [hx.out]; exact hlt
      obtain ⟨b1, o1, x, e1, hb1, hc1, hxx⟩ := (HS.out.below HK.out.below).at hil
      subst e1
      by_cases hxe : x = []
      · subst hxe
        have HP1 : Hid (PutG w (stP xs P (i + 1)) wo (.slice (some ⟨G, 0, none⟩) P P)) := Lib.hid (by
          rw [stP, if_pos hxx.out]; exact HK.out)
        clear hil hb1
        go_wp2_with fail
        go_roundw
        case rel => exact ⟨i + 1, by omega, by go_num, HP1⟩
        case measure => simp [intOf]; omega
      · have hxb : x.isEmpty = false := by
          cases x with
          | nil => exact absurd rfl hxe
          | cons => rfl
        have hi8 : i / 8 < P := by have := HPD.out; omega
        obtain ⟨j, HJ⟩ : ∃ j, Hid (i / 8 = j) := ⟨_, rfl⟩
        obtain ⟨r, HR⟩ : ∃ r, Hid (i % 8 = r) := ⟨_, rfl⟩
        have hr8 : r < 8 := by have := HR.out; omega
        rw [HJ.out] at hi8
        have hjl : j < (stP xs P i).length := by rw [stP_len]; exact hi8
        obtain ⟨g, cap, hv5, hcap, hg, hgl, hcell, hfree, hset⟩ := own_set HK.out.own (by omega)
        rw [stP_len] at hv5 hset
        cases hv5
        have gc := hcell j hjl
        have gf := hfree j
        have ijM : (j : Int) < (P : Int) := by omega
        have ij5 : (j : Int) ≤ 512 := by omega
        have hdi : (i : Int) / 8 = (j : Int) := by have := HJ.out; omega
        have hmi : (i : Int) % 8 = (r : Int) := by have := HR.out; omega
        obtain ⟨c0, HC0⟩ : ∃ c0, Hid ((stP xs P i).getD j 0 = c0) := ⟨_, rfl⟩
        rw [HC0.out] at gc
        obtain ⟨y, HY⟩ : ∃ y, Hid (orB c0 r = y) := ⟨_, rfl⟩
        have hor : bits .or .u8 (c0.toNat : Int) (2 ^ r % 256) = ((y.toNat : Nat) : Int) := by
          have h2 : 2 ^ r < 2 ^ 8 := Nat.pow_lt_pow_right (by omega) hr8
          have e : (2 : Int) ^ r % 256 = ((2 ^ r : Nat) : Int) := by
            have e0 : (2 : Int) ^ r = ((2 ^ r : Nat) : Int) := by simp
            have h3 : 2 ^ r < 256 := h2
            rw [e0]
            generalize 2 ^ r = t at h3
            omega
          rw [e, u8_or_nat _ _ c0.toNat_lt h2, ← HY.out, orB_toNat c0 hr8]
        obtain ⟨W1, HW1⟩ : ∃ W1, Hid ((wo.setCell ⟨G, j, none⟩ (.int .u8 (y.toNat : Int))).drew = W1) := ⟨_, rfl⟩
        have HP1 : Hid (PutG w (stP xs P (i + 1)) W1 (.slice (some ⟨G, 0, none⟩) P P)) := Lib.hid (by
          have e1 : (stP xs P i).set j y = stP xs P (i + 1) := by
            rw [stP, if_neg (by rw [hxx.out]; exact hxe), HJ.out, HR.out, ← HY.out, ← HC0.out]
          refine ⟨?_, ?_⟩
          · rw [stP_len, ← e1, ← HW1.out]; exact hset j y hi8
          · rw [← HW1.out]; exact (HK.out.below.setCell hg _).drew)
        clear hil hb1 hcell hfree hset hjl
        go_wp2_with fail
        go_region
        rw [HW1.out]
        clear hor gc gf hdi hmi
        go_wp2_with fail
        go_roundw
        case rel => exact ⟨i + 1, by omega, by go_num, HP1⟩
        case measure => simp [intOf]; omega
    · obtain rfl : i = n := by omega
      have ilt : ¬ (i : Int) < (i : Int) := by omega
      obtain ⟨n, rfl⟩ : ∃ n, n = i := ⟨_, rfl⟩
      have HPP : Hid (PutG w (stP xs P n ++ els k xs 0) wo (.slice (some ⟨G, 0, none⟩) P P)) := Lib.hid (by
        rw [show els k xs 0 = [] by simp [els], List.append_nil]; exact HK.out)
      clear HK
      go_wp2_with fail
      go_loopw [7, 9] (fun v iv wr => ∃ i : Nat, i ≤ n ∧ iv = .int .i64 i ∧ Hid (PutG w (stP xs P n ++ els k xs i) wr v)) (fun _ iv _ => n - (intOf iv).toNat)
      case atStart => exact ⟨0, Nat.zero_le _, rfl, HPP⟩
      case round =>
        obtain ⟨i, hi9, rfl, HK⟩ := hrel
        have ii : (i : Int) ≤ (n : Int) := by omega
        by_cases hlt : i < n
        · have ilt : (i : Int) < (n : Int) := by omega
          have hil : i < xs.length := by rw [hx.out]; exact hlt
          obtain ⟨b1, o1, x, e1, hb1, hc1, hxx⟩ := (HS.out.below HK.out.below).at hil
          subst e1
          have HF : Hid (fitT k x = true) := Lib.hid (HFA.out x (by rw [← hxx.out, List.getD_eq_getElem?_getD, List.getElem?_eq_getElem hil]; exact List.getElem_mem _))
          have HEL : Hid (P + (els k xs i).length ≤ 100000000) := Lib.hid (by have := els_len HFA.out i (by omega); omega)
          have H18 := Lib.hid (elem_any k x wr HF.out HK1.out.1 HK1.out.2)
          clear hb1
          go_wp2_with fail
          refine (H18.out).mono ?_
          rintro e w3 ⟨ev, rfl, hb3, hel⟩
          rcases hel with ⟨rfl, hnil⟩ | ⟨ad, cc, rfl, hnews⟩
          · have HP3 : Hid (PutG w (stP xs P n ++ els k xs (i + 1)) w3 u7) := Lib.hid (by
              rw [els_succ hil, hxx.out, hnil, List.append_nil]
              exact ⟨own_below HK.out.own hb3, HK.out.below.trans (hb3.mono HK.out.below.size)⟩)
            have HOWN := Lib.hid (own_below HK.out.own hb3)
            clear hnil hb3 hil
            go_wp2_with (at_builtin; refine wpList_append_own_none rfl (.tmp 51) (.tmp 57) 25 rfl w.heap.size 5 i0 1 Tryz.underlying25 hi _ _ _ rfl HOWN.out rfl ?_)
            go_wp2_with fail
            go_roundw
            case rel => exact ⟨i + 1, by omega, by go_num, HP3⟩
            case measure => simp [intOf]; omega
          · have HOWN := Lib.hid (own_below HK.out.own hb3)
            have HBW3 : Hid (Below w.heap.size w w3) := Lib.hid (HK.out.below.trans (hb3.mono HK.out.below.size))
            have HNEWS := Lib.hid hnews
            have hbl : Hid ((stP xs P n ++ els k xs i).length + (elemL k x).length ≤ maxLen ∧ ((stP xs P n ++ els k xs i).length + (elemL k x).length) * 1 ≤ 140737488355328 ∧ w.heap.size ≤ w3.heap.size) := Lib.hid (by
              have h1 := HEL.out
              have h2 := elemL_len HF.out
              have h3 := HBW3.out.size
              rw [List.length_append, stP_len]
              unfold maxLen; omega)
            clear hnews hb3
            go_wp2_with (at_builtin; refine wpList_append_own_at _ rfl (.tmp 51) (.tmp 57) 25 rfl w.heap.size 5 i0 (.int .u8 0) 1 1 Tryz.underlying25 hi hz0 hz1 hz2 rfl (by decide) _ _ _ rfl HOWN.out ad (elemL k x).length cc (ubs (elemL k x)) rfl (by rw [u8s_length, Nat.mul_one]) HNEWS.out (u8s_one _) hbl.out.1 hbl.out.2.1 hbl.out.2.2 ?_)
            intro v5 w5 hown5 hgrow5 _ _
            have HP3 : Hid (PutG w (stP xs P n ++ els k xs (i + 1)) w5 v5) := Lib.hid (by
              rw [els_succ hil, hxx.out, ← List.append_assoc]
              refine PutG.next (L := stP xs P n ++ els k xs i) (W := w3) ⟨HOWN.out, HBW3.out⟩ ⟨?_, hgrow5⟩
              rw [List.length_append, u8s_app, List.length_append]; exact hown5)
            clear hown5 hgrow5 hil
            go_wp2_with fail
            go_roundw
            case rel => exact ⟨i + 1, by omega, by go_num, HP3⟩
            case measure => simp [intOf]; omega
        · obtain rfl : i = n := by omega
          have ilt : ¬ (i : Int) < (i : Int) := by omega
          have HFIN : Hid (PutG w (putT k xs) wr u7) := Lib.hid (by unfold putT putS; rw [hx.out, HPD.out]; exact HK.out)
          go_wp2_with fail
          go_ret2
          exact ⟨_, rfl, HFIN.out⟩
end Go.Proofs.YtaedmojkoioifaaGreatDoor
