/- The law CodecPuts: the walk. -/
import Derived.Test.YtaedmojkoioifaaGreatDoorKL
set_option maxHeartbeats 2000000
set_option maxRecDepth 100000
namespace Go.Proofs.YtaedmojkoioifaaGreatDoor
open Go.RowKit
open Go.Lib
theorem puts_law (k : Int) (p : Option Addr) (c n : Nat) (xs : List (List UInt8)) (w : World) (he : Env w) (hx : Hid (xs.length = n)) (hs : Ss w p xs) :
    Calls Tryz.prog 3 #[.int .i64 k, .slice p n c] w fun e w' => Below w.heap.size w w' ∧ e = .returned (.bool true) := by
  have HE := Lib.hid he
  have HS := Lib.hid hs
  have HLO := Lib.hid (long_any p c n xs w hx hs)
  have HSANE : Hid (∀ W, Below w.heap.size w W → Calls Tryz.prog 6 #[] W fun e w' => e = .returned (.bool true) ∧ Below W.heap.size W w') := Lib.hid (fun W hW => sane_any W (HE.out.below hW))
  have HB0 := Lib.hid (Below.refl w.heap.size w)
  obtain ⟨b, HBL⟩ : ∃ b, Hid (longT xs = b) := ⟨_, rfl⟩
  rw [HBL.out] at HLO
  clear he hs
  cases b with
  | true =>
    go_enter Tryz.func3, Tryz.ntmps3
    go_wp2_with fail
    refine (HLO.out).mono ?_
    rintro e w' ⟨rfl, rfl⟩
    go_wp2_with fail
    refine (HSANE.out _ HB0.out).mono ?_
    rintro e w9 ⟨rfl, hb9⟩
    have HB9 := Lib.hid hb9
    clear hb9
    go_wp2_with fail
    go_ret
    exact ⟨HB9.out, rfl⟩
  | false =>
    have hn : n ≤ 100 := by
      have h := HBL.out
      unfold longT at h
      rw [Bool.or_eq_false_iff, decide_eq_false_iff_not, hx.out] at h
      omega
    obtain ⟨z, HZ⟩ : ∃ z, Hid (chkE k xs = z) := ⟨_, rfl⟩
    by_cases hz : z = 0
    case neg =>
      have HP1 := Lib.hid (put_bad k p c n xs w hx (by omega) HS.out HE.out z HZ hz)
      have HP2 : Hid (∀ W, Below w.heap.size w W → Calls Tryz.prog 8 #[.int .i64 k, .slice p n c] W fun e w' => e = .returned (.tuple #[.slice none 0 0, .int .i64 z]) ∧ Below W.heap.size W w') := Lib.hid (fun W hW => rput_bad k p c n xs W hx (by omega) (HS.out.below hW) z HZ hz)
      have gz : (z != 0) = true := by rw [bne_iff_ne]; exact hz
      have gzz : (z != z) = false := by simp
      have HCV : Hid (∀ W, (convert 25 9 (.slice none 0 0)).run Tryz.prog W = .ok (.string ⟨#[]⟩) W) := Lib.hid (fun W => conv_bytes W none 0 [] (Bs.nil _ _))
      have HZN := Lib.hid hz
      clear hz
      go_enter Tryz.func3, Tryz.ntmps3
      go_wp2_with fail
      refine (HLO.out).mono ?_
      rintro e w' ⟨rfl, rfl⟩
      go_wp2_with fail
      refine (HP1.out).mono ?_
      rintro e w1 ⟨rfl, hb1⟩
      have HB1 := Lib.hid hb1
      clear hb1
      go_wp2_with fail
      refine (HP2.out _ HB1.out).mono ?_
      rintro e w2 ⟨rfl, hb2⟩
      have HB2 : Hid (Below w.heap.size w w2) := Lib.hid (HB1.out.trans (hb2.mono HB1.out.size))
      have hcv := HCV.out w2
      clear hb2
      go_wp2_with fail
      refine (HSANE.out _ HB2.out).mono ?_
      rintro e w9 ⟨rfl, hb9⟩
      have HB9 : Hid (Below w.heap.size w w9) := Lib.hid (HB2.out.trans (hb9.mono HB2.out.size))
      clear hb9
      go_wp2_with fail
      go_ret
      exact ⟨HB9.out, rfl⟩
    subst hz
    have HP1 := Lib.hid (put_good k p c n xs w hx (by omega) HS.out HE.out HZ)
    have HP2 : Hid (∀ W, Below w.heap.size w W → Calls Tryz.prog 8 #[.int .i64 k, .slice p n c] W fun e w' => ∃ v, e = .returned (.tuple #[v, .int .i64 0]) ∧ PutG W (putT k xs) w' v) := Lib.hid (fun W hW => rput_good k p c n xs W hx (by omega) (HS.out.below hW) HZ)
    obtain ⟨m, HM⟩ : ∃ m, Hid ((putT k xs).length = m) := ⟨_, rfl⟩
    go_enter Tryz.func3, Tryz.ntmps3
    go_wp2_with fail
    refine (HLO.out).mono ?_
    rintro e w' ⟨rfl, rfl⟩
    go_wp2_with fail
    refine (HP1.out).mono ?_
    rintro e w1 ⟨v1, rfl, hg1⟩
    obtain ⟨p1, c1, rfl, hbs1, hc1⟩ := own_bytes hg1.own
    have HB1 := Lib.hid hg1.below
    have HBS1 := Lib.hid hbs1
    rw [HM.out] at hc1 ⊢
    clear hg1 hbs1
    go_wp2_with fail
    refine (HP2.out _ HB1.out).mono ?_
    rintro e w2 ⟨v2, rfl, hg2⟩
    obtain ⟨p2, c2, rfl, hbs2, hc2⟩ := own_bytes hg2.own
    have HB12 := Lib.hid hg2.below
    have HB2 : Hid (Below w.heap.size w w2) := Lib.hid (HB1.out.trans (hg2.below.mono HB1.out.size))
    have hcv1 := conv_bytes w2 p1 c1 (putT k xs) (HBS1.out.below hg2.below)
    have hcv2 := conv_bytes w2 p2 c2 (putT k xs) hbs2
    obtain ⟨X, HX⟩ : ∃ X : ByteArray, Hid (⟨(putT k xs).toArray⟩ = X) := ⟨_, rfl⟩
    rw [HM.out, HX.out] at hcv1 hcv2
    rw [HM.out]
    clear hg2 hbs2
    go_wp2_with fail
    refine (HSANE.out _ HB2.out).mono ?_
    rintro e w3 ⟨rfl, hb3⟩
    have HB3 : Hid (Below w.heap.size w w3) := Lib.hid (HB2.out.trans (hb3.mono HB2.out.size))
    have HGET := Lib.hid (get_put k p1 c1 n m xs w3 hx (by omega) HM hc1 ((HBS1.out.below HB12.out).below hb3) HZ (HE.out.below HB3.out))
    clear hb3 hcv1 hcv2
    go_wp2_with fail
    refine (HGET.out).mono ?_
    rintro e w4 ⟨q, rfl, hq, hb4⟩
    have HB4 : Hid (Below w.heap.size w w4) := Lib.hid (HB3.out.trans (hb4.mono HB3.out.size))
    have HSM := Lib.hid (same_any q p n c n xs w4 hx (by omega) hq (HS.out.below HB4.out))
    clear hq hb4
    go_wp2_with fail
    refine (HSM.out).mono ?_
    rintro e w5 ⟨hb5, rfl⟩
    have HB5 : Hid (Below w.heap.size w w5) := Lib.hid (HB4.out.trans (hb5.mono HB4.out.size))
    clear hb5
    go_wp2_with fail
    go_ret
    exact ⟨HB5.out, rfl⟩
end Go.Proofs.YtaedmojkoioifaaGreatDoor
