/- The law CodecRounds: the walk. -/
import Derived.Test.YtpnofkefcoaojaaGreatDoorYRa
import Derived.Test.YtpnofkefcoaojaaGreatDoorV01
import Derived.BigQuiet
import Derived.Deep.QuietTactic
import Derived.StillTailTactics
set_option maxHeartbeats 8000000
set_option maxRecDepth 100000
namespace Go.Proofs.YtpnofkefcoaojaaGreatDoor
open Go.RowKit
open Go.Lib
theorem rounds_law (k : Int) (p : Option Addr) (c n : Nat) (xs : List (List UInt8)) (st : List UInt8) (w : World) (he : Env w) (hx : Hid (xs.length = n)) (hs : Ss w p xs) :
    Calls Tryz.prog 4 #[.int .i64 k, .slice p n c, .string ⟨st.toArray⟩] w fun e w' => Below w.heap.size w w' ∧ e = .returned (.bool true) := by
  have HE := Lib.hid he
  have HS := Lib.hid hs
  have HLG := Lib.hid (long_any p c n xs w hx hs)
  have HSANE : Hid (∀ W, Below w.heap.size w W → Calls Tryz.prog 10 #[] W fun e w' => e = .returned (.bool true) ∧ Below W.heap.size W w') := Lib.hid (fun W hW => sane_any W (HE.out.below hW))
  have HB0 := Lib.hid (Below.refl w.heap.size w)
  obtain ⟨bl, HBL⟩ : ∃ b, Hid (longT xs = b) := ⟨_, rfl⟩
  obtain ⟨SZ, HSZ⟩ : ∃ SZ : ByteArray, Hid (⟨st.toArray⟩ = SZ) := ⟨_, rfl⟩
  have HSD : Hid (SZ.data.toList = st) := Lib.hid (by rw [← HSZ.out])
  obtain ⟨sl, HSLN⟩ : ∃ sl, Hid (st.length = sl) := ⟨_, rfl⟩
  have hsz : SZ.size = sl := by rw [← HSZ.out, ← ByteArray.size_data]; simpa using HSLN.out
  rw [HBL.out] at HLG
  rw [HSZ.out]
  clear he hs
  cases bl with
  | true =>
    clear hsz
    go_enter Tryz.func4, Tryz.ntmps4
    go_wp2_with fail
    refine (HLG.out).mono ?_
    rintro e w' ⟨rfl, rfl⟩
    go_wp2_with fail
    refine (HSANE.out _ HB0.out).mono ?_
    rintro e w9 ⟨rfl, hb9⟩
    have HB9 := Lib.hid hb9
    clear hb9
    go_wp2_with fail
    go_ret
    exact ⟨HB9.out, rfl⟩
  | false =>
  by_cases h200 : 200 < sl
  · have h2i : (200 : Int) < (sl : Int) := by omega
    go_enter Tryz.func4, Tryz.ntmps4
    go_wp2_with fail
    refine (HLG.out).mono ?_
    rintro e w' ⟨rfl, rfl⟩
    go_wp2_with fail
    refine (HSANE.out _ HB0.out).mono ?_
    rintro e w9 ⟨rfl, hb9⟩
    have HB9 := Lib.hid hb9
    clear hb9
    go_wp2_with fail
    go_ret
    exact ⟨HB9.out, rfl⟩
  have h2i : ¬ (200 : Int) < (sl : Int) := by omega
  have hn : n ≤ 100 := by
    have h := HBL.out
    unfold longT at h
    rw [Bool.or_eq_false_iff, decide_eq_false_iff_not, hx.out] at h
    omega
  obtain ⟨z, HZ⟩ : ∃ z, Hid ((if posC st = false then 2 else if chkE k xs ≠ 0 then chkE k xs else if xs.any (rndBad k st) then 41 else 0) = z) := ⟨_, rfl⟩
  by_cases hz : z = 0
  case neg =>
    have HR1 : Hid (Calls Tryz.prog 18 #[.int .i64 k, .slice p n c, .string SZ] w fun e w' => e = .returned (.tuple #[.slice none 0 0, .int .i64 z]) ∧ Below w.heap.size w w') := Lib.hid (by
      have h := HZ.out
      by_cases hp : posC st = false
      · rw [if_pos hp] at h
        exact rounded_bad k p c n xs SZ w hx (by omega) HS.out HE.out z hz (Lib.hid (by rw [HSD.out, if_pos hp]; exact h))
      · rw [if_neg hp] at h
        by_cases hc : chkE k xs ≠ 0
        · rw [if_pos hc] at h
          exact rounded_bad k p c n xs SZ w hx (by omega) HS.out HE.out z hz (Lib.hid (by rw [HSD.out, if_neg hp]; exact h))
        · rw [if_neg hc] at h
          cases hb : xs.any (rndBad k st) with
          | false => rw [hb, if_neg (by decide)] at h; exact absurd h.symm hz
          | true =>
            rw [hb, if_pos rfl] at h
            refine (rounded_ok k p c n xs SZ w hx (by omega) HS.out HE.out (Lib.hid (by rw [HSD.out]; simpa using hp)) (Lib.hid (Classical.not_not.1 hc))).mono ?_
            rintro e w' ⟨hb2, ⟨-, rfl⟩ | ⟨hno, -⟩⟩
            · rw [h]; exact ⟨rfl, hb2⟩
            · rw [HSD.out, hb] at hno; cases hno)
    have HR2 : Hid (∀ W, Below w.heap.size w W → Calls Tryz.prog 19 #[.int .i64 k, .slice p n c, .string SZ] W fun e w' => e = .returned (.tuple #[.slice none 0 0, .int .i64 z]) ∧ Below W.heap.size W w') := Lib.hid (fun W hW => by
      have h := HZ.out
      by_cases hp : posC st = false
      · rw [if_pos hp] at h
        exact rrounded_bad k p c n xs SZ W hx (by omega) (HS.out.below hW) z hz (Lib.hid (by rw [HSD.out, if_pos hp]; exact h))
      · rw [if_neg hp] at h
        by_cases hc : chkE k xs ≠ 0
        · rw [if_pos hc] at h
          exact rrounded_bad k p c n xs SZ W hx (by omega) (HS.out.below hW) z hz (Lib.hid (by rw [HSD.out, if_neg hp]; exact h))
        · rw [if_neg hc] at h
          cases hb : xs.any (rndBad k st) with
          | false => rw [hb, if_neg (by decide)] at h; exact absurd h.symm hz
          | true =>
            rw [hb, if_pos rfl] at h
            refine (rrounded_ok k p c n xs SZ W hx (by omega) (HS.out.below hW) (Lib.hid (by rw [HSD.out]; simpa using hp)) (Lib.hid (Classical.not_not.1 hc))).mono ?_
            rintro e w' ⟨hb2, ⟨-, rfl⟩ | ⟨hno, -⟩⟩
            · rw [h]; exact ⟨rfl, hb2⟩
            · rw [HSD.out, hb] at hno; cases hno)
    have HSM : Hid (∀ W, Calls Tryz.prog 20 #[.slice none 0 0, .slice none 0 0] W fun e w' => Below W.heap.size W w' ∧ e = .returned (.bool true)) := Lib.hid (fun W => same_any none none 0 0 0 [] W (Lib.hid rfl) (by omega) (.inl rfl) (.inl rfl))
    have gz : (z != 0) = true := by rw [bne_iff_ne]; exact hz
    have gzz : (z != z) = false := by simp
    have HZN := Lib.hid hz
    clear hz
    go_enter Tryz.func4, Tryz.ntmps4
    go_wp2_with fail
    refine (HLG.out).mono ?_
    rintro e w' ⟨rfl, rfl⟩
    go_wp2_with fail
    refine (HR1.out).mono ?_
    rintro e w1 ⟨rfl, hb1⟩
    have HB1 := Lib.hid hb1
    clear hb1
    go_wp2_with fail
    refine (HR2.out _ HB1.out).mono ?_
    rintro e w2 ⟨rfl, hb2⟩
    have HB2 := Lib.hid (HB1.out.trans (hb2.mono HB1.out.size))
    clear hb2
    go_wp2_with fail
    refine (HSM.out _).mono ?_
    rintro e w3 ⟨hb3, rfl⟩
    have HB3 := Lib.hid (HB2.out.trans (hb3.mono HB2.out.size))
    clear hb3
    go_wp2_with fail
    refine (HSANE.out _ HB3.out).mono ?_
    rintro e w9 ⟨rfl, hb9⟩
    have HB9 := Lib.hid (HB3.out.trans (hb9.mono HB3.out.size))
    clear hb9
    go_wp2_with fail
    go_ret
    exact ⟨HB9.out, rfl⟩
  subst hz
  have hall : posC st = true ∧ chkE k xs = 0 ∧ xs.any (rndBad k st) = false := by
    have h := HZ.out
    by_cases hp : posC st = false
    · rw [if_pos hp] at h; cases h
    · rw [if_neg hp] at h
      by_cases hc : chkE k xs ≠ 0
      · rw [if_pos hc] at h; exact absurd h hc
      · rw [if_neg hc] at h
        refine ⟨by simpa using hp, Classical.not_not.1 hc, ?_⟩
        cases hb : xs.any (rndBad k st) with
        | false => rfl
        | true => rw [hb, if_pos rfl] at h; cases h
  have HPO : Hid (posC SZ.data.toList = true) := Lib.hid (by rw [HSD.out]; exact hall.1)
  have HCK := Lib.hid hall.2.1
  have HAN : Hid (xs.any (rndBad k SZ.data.toList) = false) := Lib.hid (by rw [HSD.out]; exact hall.2.2)
  obtain ⟨b, hnb, hb0⟩ := posC_num hall.1
  have HNB := Lib.hid hnb
  obtain ⟨ys, HYS⟩ : ∃ ys, Hid (rndL xs st = ys) := ⟨_, rfl⟩
  have HYL : Hid (ys.length = n) := Lib.hid (by rw [← HYS.out, rndL_len, hx.out])
  have hgood : ∀ x ∈ xs, fitT k (rndT x st) = true ∧ rndT (rndT x st) st = rndT x st ∧ NearAt b x (rndT x st) := fun x hx2 =>
    round_good hnb hb0 (chk_fits hall.2.1 x hx2) (by have := List.any_eq_false.1 hall.2.2 x hx2; simpa using this)
  have HCY : Hid (chkE k ys = 0) := Lib.hid (by
    rw [← HYS.out]
    refine chk_all (chk_isT hall.2.1) (fun y hy => ?_)
    obtain ⟨x, hx2, rfl⟩ := List.mem_map.1 hy
    exact (hgood x hx2).1)
  have HRY : Hid (rndL ys st = ys) := Lib.hid (by
    rw [← HYS.out]
    unfold rndL
    rw [List.map_map]
    exact List.map_congr_left (fun x hx2 => (hgood x hx2).2.1))
  have HAY : Hid (ys.any (rndBad k SZ.data.toList) = false) := Lib.hid (by
    rw [HSD.out, ← HYS.out, List.any_eq_false]
    intro y hy
    obtain ⟨x, hx2, rfl⟩ := List.mem_map.1 hy
    obtain ⟨g1, g2, -⟩ := hgood x hx2
    unfold rndBad
    rw [g2, g1]
    by_cases h : rndT x st = []
    · rw [decide_eq_true h]; simp
    · rw [decide_eq_false h]; simp)
  have HVX : Hid (∀ j, j < n → xs.getD j [] = [] ∨ (num (xs.getD j [])).isSome = true) := Lib.hid (fun j hj => by
    have h1 : j < xs.length := by rw [hx.out]; exact hj
    rw [List.getD_eq_getElem?_getD, List.getElem?_eq_getElem h1]
    exact fit_value (chk_fits HCK.out _ (List.getElem_mem h1)))
  have HVY : Hid (∀ j, j < n → ys.getD j [] = [] ∨ (num (ys.getD j [])).isSome = true) := Lib.hid (fun j hj => by
    have h1 : j < ys.length := by rw [HYL.out]; exact hj
    rw [List.getD_eq_getElem?_getD, List.getElem?_eq_getElem h1]
    exact fit_value (chk_fits HCY.out _ (List.getElem_mem h1)))
  have HNR : Hid (∀ j, j < n → NearAt b (xs.getD j []) (ys.getD j [])) := Lib.hid (fun j hj => by
    have h1 : j < xs.length := by rw [hx.out]; exact hj
    rw [← HYS.out, rndL_at h1, List.getD_eq_getElem?_getD, List.getElem?_eq_getElem h1]
    exact (hgood _ (List.getElem_mem h1)).2.2)
  have HR1 : Hid (Calls Tryz.prog 18 #[.int .i64 k, .slice p n c, .string SZ] w fun e w' => ∃ q, e = .returned (.tuple #[.slice q n n, .int .i64 0]) ∧ Ss w' q ys ∧ Below w.heap.size w w') := Lib.hid (by
    refine (rounded_ok k p c n xs SZ w hx (by omega) HS.out HE.out HPO HCK).mono ?_
    rintro e w' ⟨hb2, ⟨hyes, -⟩ | ⟨-, q, rfl, hq⟩⟩
    · rw [HAN.out] at hyes; cases hyes
    · rw [HSD.out, HYS.out] at hq; exact ⟨q, rfl, hq, hb2⟩)
  have HR2 : Hid (∀ W, Below w.heap.size w W → Calls Tryz.prog 19 #[.int .i64 k, .slice p n c, .string SZ] W fun e w' => ∃ q d, e = .returned (.tuple #[.slice q n d, .int .i64 0]) ∧ Ss w' q ys ∧ Below W.heap.size W w') := Lib.hid (fun W hW => by
    refine (rrounded_ok k p c n xs SZ W hx (by omega) (HS.out.below hW) HPO HCK).mono ?_
    rintro e w' ⟨hb2, ⟨hyes, -⟩ | ⟨-, q, d, rfl, hq⟩⟩
    · rw [HAN.out] at hyes; cases hyes
    · rw [HSD.out, HYS.out] at hq; exact ⟨q, d, rfl, hq, hb2⟩)
  have HR3 : Hid (∀ W q, Below w.heap.size w W → Ss W q ys → Calls Tryz.prog 18 #[.int .i64 k, .slice q n n, .string SZ] W fun e w' => ∃ q2, e = .returned (.tuple #[.slice q2 n n, .int .i64 0]) ∧ Ss w' q2 ys ∧ Below W.heap.size W w') := Lib.hid (fun W q hW hq => by
    refine (rounded_ok k q n n ys SZ W HYL (by omega) hq (HE.out.below hW) HPO HCY).mono ?_
    rintro e w' ⟨hb2, ⟨hyes, -⟩ | ⟨-, q2, rfl, hq2⟩⟩
    · rw [HAY.out] at hyes; cases hyes
    · rw [HSD.out, HRY.out] at hq2; exact ⟨q2, rfl, hq2, hb2⟩)
  clear hall hnb hb0 hgood
  go_enter Tryz.func4, Tryz.ntmps4
  go_wp2_with fail
  refine (HLG.out).mono ?_
  rintro e w' ⟨rfl, rfl⟩
  go_wp2_with fail
  refine (HR1.out).mono ?_
  rintro e w1 ⟨q1, rfl, hq1, hb1⟩
  have HB1 := Lib.hid hb1
  have HQ1 := Lib.hid hq1
  clear hb1 hq1
  go_wp2_with fail
  refine (HR2.out _ HB1.out).mono ?_
  rintro e w2 ⟨q2, d2, rfl, hq2, hb2⟩
  have HB2 := Lib.hid (HB1.out.trans (hb2.mono HB1.out.size))
  have HQ12 := Lib.hid (HQ1.out.below hb2)
  have HSM := Lib.hid (same_any q1 q2 n d2 n ys w2 HYL (by omega) HQ12.out hq2)
  clear hb2 hq2
  go_wp2_with fail
  refine (HSM.out).mono ?_
  rintro e w3 ⟨hb3, rfl⟩
  have HB3 := Lib.hid (HB2.out.trans (hb3.mono HB2.out.size))
  have HQ13 := Lib.hid (HQ12.out.below hb3)
  clear hb3
  go_wp2_with fail
  refine (HSANE.out _ HB3.out).mono ?_
  rintro e w4 ⟨rfl, hb4⟩
  have HB4 := Lib.hid (HB3.out.trans (hb4.mono HB3.out.size))
  have HQ14 := Lib.hid (HQ13.out.below hb4)
  have HR3b := Lib.hid (HR3.out w4 q1 HB4.out HQ14.out)
  clear hb4
  go_wp2_with fail
  refine (HR3b.out).mono ?_
  rintro e w5 ⟨q5, rfl, hq5, hb5⟩
  have HB5 := Lib.hid (HB4.out.trans (hb5.mono HB4.out.size))
  have HQ15 := Lib.hid (HQ14.out.below hb5)
  have HSM2 := Lib.hid (same_any q5 q1 n n n ys w5 HYL (by omega) hq5 HQ15.out)
  clear hb5 hq5
  go_wp2_with fail
  refine (HSM2.out).mono ?_
  rintro e w6 ⟨hb6, rfl⟩
  have HB6 := Lib.hid (HB5.out.trans (hb6.mono HB5.out.size))
  have HNE : Hid (Calls Tryz.prog 21 #[.slice p n c, .slice q1 n n, .string SZ] w6 fun e w' => e = .returned (.bool true) ∧ Below w6.heap.size w6 w') := Lib.hid (by
    have h := near_yes p q1 c n n xs ys st b w6 hx HYL hn (HS.out.below HB6.out) (HQ15.out.below hb6) HNB.out HVX HVY HNR
    rwa [HSZ.out] at h)
  clear hb6
  go_wp2_with fail
  refine (HNE.out).mono ?_
  rintro e w7 ⟨rfl, hb7⟩
  have HB7 := Lib.hid (HB6.out.trans (hb7.mono HB6.out.size))
  clear hb7
  go_wp2_with fail
  go_ret
  exact ⟨HB7.out, rfl⟩
theorem rounds_said0 (k : Int) (p : Option Addr) (c n : Nat) (xs : List (List UInt8)) (s : ByteArray) (w : World) (he : Env w) (hx : Hid (xs.length = n)) (hs : Ss w p xs) :
    Calls Tryz.prog 4 #[.int .i64 k, .slice p n c, .string s] w fun e w' => Below w.heap.size w w' ∧ e = .returned (.bool true) := by
  have h := rounds_law k p c n xs s.data.toList w he hx hs
  have e : (⟨s.data.toList.toArray⟩ : ByteArray) = s := by cases s; simp
  rwa [e] at h
end Go.Proofs.YtpnofkefcoaojaaGreatDoor
