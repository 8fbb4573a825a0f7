/- The law CodecValid: the walk. -/
import Derived.Test.YtpnofkefcoaojaaGreatDoorYE
set_option maxHeartbeats 2000000
set_option maxRecDepth 100000
namespace Go.Proofs.YtpnofkefcoaojaaGreatDoor
open Go.RowKit
open Go.Lib
theorem valid_law (k : Int) (p : Option Addr) (c n : Nat) (l : List Sg) (w : World) (he : Env w) (hx : Hid (l.length = n)) (hs : RdG w p l) :
    Calls Tryz.prog 3 #[.int .i64 k, .slice p n c] w fun e w' => Below w.heap.size w w' ∧ e = .returned (.bool true) := by
  have HE := Lib.hid he
  have HS := Lib.hid hs
  have HSANE : Hid (∀ W, Below w.heap.size w W → Calls Tryz.prog 10 #[] W fun e w' => e = .returned (.bool true) ∧ Below W.heap.size W w') := Lib.hid (fun W hW => sane_any W (HE.out.below hW))
  have HB0 := Lib.hid (Below.refl w.heap.size w)
  have HST := Lib.hid (steep_any p c n l w hx hs)
  obtain ⟨bs, HBS⟩ : ∃ b, Hid (steepT l = b) := ⟨_, rfl⟩
  rw [HBS.out] at HST
  clear he hs
  cases bs with
  | true =>
    go_enter Tryz.func3, Tryz.ntmps3
    go_wp2_with fail
    refine (HST.out).mono ?_
    rintro e w' ⟨rfl, rfl⟩
    go_wp2_with fail
    refine (HSANE.out _ HB0.out).mono ?_
    rintro e w9 ⟨rfl, hb9⟩
    have HB9 := Lib.hid hb9
    clear hb9
    go_wp2_with fail
    go_ret
    exact ⟨HB9.out, rfl⟩
  | false =>
    obtain ⟨⟨T, z⟩, HT⟩ : ∃ t, Hid (lossT k l = t) := ⟨_, rfl⟩
    obtain ⟨X, HX⟩ : ∃ X : ByteArray, Hid (⟨T.toArray⟩ = X) := ⟨_, rfl⟩
    obtain ⟨bv, HBV⟩ : ∃ b, Hid (pipOk k l = b) := ⟨_, rfl⟩
    obtain ⟨wd, HWD⟩ : ∃ d, Hid (widT k = d) := ⟨_, rfl⟩
    have HL1 : Hid (Calls Tryz.prog 11 #[.int .i64 k, .slice p n c] w fun e w' => e = .returned (.tuple #[.string X, .int .i64 z]) ∧ Below w.heap.size w w') := Lib.hid (by
      have h := loss_any k p c n l w HE.out.tab hx HS.out
      unfold LossPost at h
      rwa [HT.out, HX.out] at h)
    have HL2 : Hid (∀ W, Below w.heap.size w W → Calls Tryz.prog 12 #[.int .i64 k, .slice p n c] W fun e w' => e = .returned (.tuple #[.string X, .int .i64 z]) ∧ Below W.heap.size W w') := Lib.hid (fun W hW => by
      have h := rloss_any k p c n l W hx (HS.out.below hW)
      unfold LossPost at h
      rwa [HT.out, HX.out] at h)
    have HV1 : Hid (∀ W, Below w.heap.size w W → Calls Tryz.prog 15 #[.int .i64 k, .slice p n c] W fun e w' => e = .returned (.bool bv) ∧ Below W.heap.size W w') := Lib.hid (fun W hW => by
      have h := pvalid_any k p c n l W (HE.out.tab.below hW) hx (HS.out.below hW)
      rwa [HBV.out] at h)
    have HV2 : Hid (∀ W, Below w.heap.size w W → Calls Tryz.prog 16 #[.int .i64 k, .slice p n c] W fun e w' => e = .returned (.bool bv) ∧ Below W.heap.size W w') := Lib.hid (fun W hW => by
      have h := rvalidp_any k p c n l W hx (HS.out.below hW)
      rwa [HBV.out] at h)
    have HW1 : Hid (∀ W, Calls Tryz.prog 13 #[.int .i64 k] W fun e w' => e = .returned (.int .i64 (wd : Int)) ∧ W = w') := Lib.hid (fun W => by
      have h := width_any k W
      rwa [HWD.out] at h)
    have HW2 : Hid (∀ W, Calls Tryz.prog 14 #[.int .i64 k] W fun e w' => e = .returned (.int .i64 (wd : Int)) ∧ W = w') := Lib.hid (fun W => by
      have h := rwidth_any k W
      rwa [HWD.out] at h)
    go_enter Tryz.func3, Tryz.ntmps3
    go_wp2_with fail
    refine (HST.out).mono ?_
    rintro e w' ⟨rfl, rfl⟩
    go_wp2_with fail
    refine (HL1.out).mono ?_
    rintro e w1 ⟨rfl, hb1⟩
    have HB1 := Lib.hid hb1
    clear hb1
    go_wp2_with fail
    refine (HL2.out _ HB1.out).mono ?_
    rintro e w2 ⟨rfl, hb2⟩
    have HB2 := Lib.hid (HB1.out.trans (hb2.mono HB1.out.size))
    clear hb2
    go_wp2_with fail
    refine (HW1.out _).mono ?_
    rintro e w' ⟨rfl, rfl⟩
    go_wp2_with fail
    refine (HW2.out _).mono ?_
    rintro e w' ⟨rfl, rfl⟩
    go_wp2_with fail
    refine (HV1.out _ HB2.out).mono ?_
    rintro e w3 ⟨rfl, hb3⟩
    have HB3 := Lib.hid (HB2.out.trans (hb3.mono HB2.out.size))
    clear hb3
    go_wp2_with fail
    refine (HV2.out _ HB3.out).mono ?_
    rintro e w4 ⟨rfl, hb4⟩
    have HB4 := Lib.hid (HB3.out.trans (hb4.mono HB3.out.size))
    clear hb4
    go_wp2_with fail
    refine (HSANE.out _ HB4.out).mono ?_
    rintro e w9 ⟨rfl, hb9⟩
    have HB9 := Lib.hid (HB4.out.trans (hb9.mono HB4.out.size))
    clear hb9
    go_wp2_with fail
    go_ret
    exact ⟨HB9.out, rfl⟩
end Go.Proofs.YtpnofkefcoaojaaGreatDoor
