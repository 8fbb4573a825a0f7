/- The sanity check: Put of three values. -/
import Derived.Test.YtpnofkefcoaojaaGreatDoorCK
import Derived.BigQuiet
import Derived.Deep.RegionHeld3
set_option maxHeartbeats 1600000
set_option maxRecDepth 100000
namespace Go.Proofs.YtpnofkefcoaojaaGreatDoor
open Go.RowKit
open Go.Lib
def saneL : Nat → List UInt8
  | 0 => [0]
  | 1 => [1, 0, 1]
  | 2 => [1, 0, 1, 0, 0]
  | _ => [5, 0, 1, 0, 0, 255, 254]
structure PutAt (w : World) (k : Nat) (wr : World) (v : Value) : Prop where
  own : wr.ownsRow w.heap.size 5 1 v (saneL k).length (ubs (saneL k))
  below : Below w.heap.size w wr
theorem presence_three (w : World) : Calls Tryz.prog 75 #[.int .i64 3] w fun e w' => e = .returned (.int .i64 1) ∧ w = w' :=
  (presence_any 3 (by omega) w).mono fun _ _ ⟨h, h2⟩ => ⟨h, h2⟩
theorem PutAt.next {w W w' : World} {v v' : Value} {k : Nat} (hB : Below w.heap.size w W) (hv : ∀ j, v.ownBlock = some j → w.heap.size ≤ j) (hg : Grew w.heap.size W v (saneL k) w' v') : PutAt w k w' v' :=
  ⟨hg.own, hB.grown hg.grown hB.size hv⟩
theorem be_one : be 2 1 = [0, 1] := by decide
theorem be_nul : be 2 0 = [0, 0] := by decide
theorem be_two : be 2 18446744073709551614 = [255, 254] := by decide
theorem wrap_two : IntKind.u64.wrap (-2) = ((18446744073709551614 : Nat) : Int) := by rw [IntKind.wrap_u64]; rfl
theorem or_a : bits .or .u8 0 1 = 1 := by decide
theorem or_c : bits .or .u8 1 4 = 5 := by decide
theorem made1 : ubs (saneL 0) = (madeCells #[Value.int .u8 0] 1).toList := by kernel_rfl
theorem put_three (p : Option Addr) (c : Nat) (w : World) (hs : Ss w p [[49], [], [45, 50]]) (he : Env w) :
    Calls Tryz.prog 34 #[.int .i64 2, .slice p 3 c] w fun e w' => ∃ v, e = .returned (.tuple #[v, .int .i64 0]) ∧ PutAt w 3 w' v := by
  have HC := Lib.hid (checkValues_two p c [[49], [], [45, 50]] w (by simp) hs (by
    intro k hk
    have : k = 0 ∨ k = 1 ∨ k = 2 := by simp at hk; omega
    rcases this with rfl | rfl | rfl
    · exact fit_a
    · exact fit_b
    · exact fit_c) he)
  have HS := Lib.hid hs
  have HV := Lib.hid he
  clear hs he
  obtain ⟨i0, hi, hz0, hz1, hz2⟩ := info_parts infoB5
  go_enter Tryz.func34, Tryz.ntmps34
  go_wp2_with fail
  refine (HC.out).mono ?_
  rintro e w1 ⟨rfl, hb1⟩
  have HB1 := Lib.hid hb1
  clear hb1
  go_wp2_with fail
  refine (presence_three _).mono ?_
  rintro e w' ⟨rfl, rfl⟩
  go_wp2_with (at_make; refine wpList_make_full _ rfl _ _ 39 rfl w.heap.size 5 i0 (.int .u8 0) 1 Tryz.underlying39 hi hz0 hz1 _ _ _ _ 1 rfl rfl (by rfl) (by rfl) ?b2 ?b3 HB1.out.size ?_)
  case b2 => rw [hz2]; omega
  case b3 => unfold maxLen; omega
  intro w2 hown hgrow
  have HP : Hid (PutAt w 0 w2 (.slice (some ⟨w1.heap.size, 0, none⟩) 1 1)) := Lib.hid ⟨(by rw [show ubs (saneL 0) = (madeCells #[Value.int .u8 0] 1).toList from made1]; exact hown), HB1.out.grown hgrow HB1.out.size (fun k h => by cases h)⟩
  clear hown hgrow
  go_wp2_with fail
  go_loopw [7, 22] (fun v i wr => ∃ (k : Nat) (z : Int), k ≤ 3 ∧ z = k ∧ i = .int .i64 z ∧ Hid (PutAt w k wr v)) (fun _ i _ => 3 - (intOf i).toNat)
  case atStart => exact ⟨0, 0, Nat.zero_le _, rfl, rfl, HP⟩
  case round =>
    obtain ⟨k, z, hk, hz, rfl, HK⟩ := hrel
    have hk4 : k = 0 ∨ k = 1 ∨ k = 2 ∨ k = 3 := by omega
    rcases hk4 with rfl | rfl | rfl | rfl
    · obtain rfl : z = 0 := hz
      obtain ⟨b1, o1, x, rfl, hb1, hc1, hx⟩ := (HS.out.below HK.out.below).at (k := 0) (by simp)
      obtain rfl : x = [49] := hx.out.symm
      rw [Nat.add_zero] at hc1
      obtain ⟨g, cap, hv5, hcap, hg, hgl, hcell, hfree, hset⟩ := own_set HK.out.own (by simp [saneL])
      rw [show (saneL 0).length = 1 from rfl] at hv5 hcap
      subst hv5
      have gc : wr.cell? ⟨g, 0, none⟩ = some (.int .u8 0) := hcell 0 (by simp [saneL])
      have gf : wr.frozen? ⟨g, 0, none⟩ = false := hfree 0
      have hw : ((wr.setCell ⟨g, 0, none⟩ (.int .u8 1)).drew).ownsRow w.heap.size 5 1 (.slice (some ⟨g, 0, none⟩) 1 cap) 1 (ubs ((saneL 0).set 0 1)) := hset 0 1 (by simp [saneL])
      have HB2 : Hid (Below w.heap.size w ((wr.setCell ⟨g, 0, none⟩ (.int .u8 1)).drew)) := Lib.hid ((HK.out.below.setCell hg _).drew)
      have HA : Hid (Calls Tryz.prog 77 #[.slice (some ⟨g, 0, none⟩) 1 cap, .string ⟨#[49]⟩, .int .i64 2] ((wr.setCell ⟨g, 0, none⟩ (.int .u8 1)).drew) (App w.heap.size ((wr.setCell ⟨g, 0, none⟩ (.int .u8 1)).drew) (.slice (some ⟨g, 0, none⟩) 1 cap) (saneL 1))) := Lib.hid (by
        have := appendInteger_ok w.heap.size _ ((saneL 0).set 0 1) [49] 1 1 2 _ (by omega) (by simp [saneL]) HB2.out.size hw (by simp) pi_a (by rw [IntKind.wrap_u64]; rfl) (by omega)
        rw [be_one] at this; exact this)
      have hor := or_a
      clear hcell hfree hset hk hw
      go_wp2_with fail
      go_region
      clear hor
      go_wp2_with fail
      refine (width_two _).mono ?_
      rintro e w' ⟨rfl, rfl⟩
      go_wp2_with fail
      refine (HA.out).mono ?_
      rintro e w3 ⟨v3, rfl, hg3⟩
      have HP3 := Lib.hid (PutAt.next HB2.out (by intro j hj; cases hj; exact hg) hg3)
      clear hg3
      go_wp2_with fail
      go_roundw
      case rel => exact ⟨1, 1, by omega, rfl, rfl, HP3⟩
      case measure => simp [intOf]
    · obtain rfl : z = 1 := hz
      obtain ⟨b1, o1, x, rfl, hb1, hc1, hx⟩ := (HS.out.below HK.out.below).at (k := 1) (by simp)
      obtain rfl : x = [] := hx.out.symm
      obtain ⟨g, cap, hv5, hcap, hg, hgl, hcell, hfree, hset⟩ := own_set HK.out.own (by simp [saneL])
      rw [show (saneL 1).length = 3 from rfl] at hv5 hcap
      subst hv5
      have HA : Hid (Calls Tryz.prog 77 #[.slice (some ⟨g, 0, none⟩) 3 cap, .string ⟨#[]⟩, .int .i64 2] wr (App w.heap.size wr (.slice (some ⟨g, 0, none⟩) 3 cap) (saneL 2))) := Lib.hid (by
        have := appendInteger_bad w.heap.size _ (saneL 1) [] 2 wr (by omega) (by simp [saneL]) HK.out.below.size HK.out.own (by simp) rfl (HV.out.below HK.out.below)
        rw [be_nul] at this; exact this)
      have HB2 := Lib.hid HK.out.below
      clear hcell hfree hset hk
      go_wp2_with fail
      refine (width_two _).mono ?_
      rintro e w' ⟨rfl, rfl⟩
      go_wp2_with fail
      refine (HA.out).mono ?_
      rintro e w3 ⟨v3, rfl, hg3⟩
      have HP3 := Lib.hid (PutAt.next HB2.out (by intro j hj; cases hj; exact hg) hg3)
      clear hg3
      go_wp2_with fail
      go_roundw
      case rel => exact ⟨2, 2, by omega, rfl, rfl, HP3⟩
      case measure => simp [intOf]
    · obtain rfl : z = 2 := hz
      obtain ⟨b1, o1, x, rfl, hb1, hc1, hx⟩ := (HS.out.below HK.out.below).at (k := 2) (by simp)
      obtain rfl : x = [45, 50] := hx.out.symm
      obtain ⟨g, cap, hv5, hcap, hg, hgl, hcell, hfree, hset⟩ := own_set HK.out.own (by simp [saneL])
      rw [show (saneL 2).length = 5 from rfl] at hv5 hcap
      subst hv5
      have gc : wr.cell? ⟨g, 0, none⟩ = some (.int .u8 1) := hcell 0 (by simp [saneL])
      have gf : wr.frozen? ⟨g, 0, none⟩ = false := hfree 0
      have hw : ((wr.setCell ⟨g, 0, none⟩ (.int .u8 5)).drew).ownsRow w.heap.size 5 1 (.slice (some ⟨g, 0, none⟩) 5 cap) 5 (ubs ((saneL 2).set 0 5)) := hset 0 5 (by simp [saneL])
      have HB2 : Hid (Below w.heap.size w ((wr.setCell ⟨g, 0, none⟩ (.int .u8 5)).drew)) := Lib.hid ((HK.out.below.setCell hg _).drew)
      have HA : Hid (Calls Tryz.prog 77 #[.slice (some ⟨g, 0, none⟩) 5 cap, .string ⟨#[45, 50]⟩, .int .i64 2] ((wr.setCell ⟨g, 0, none⟩ (.int .u8 5)).drew) (App w.heap.size ((wr.setCell ⟨g, 0, none⟩ (.int .u8 5)).drew) (.slice (some ⟨g, 0, none⟩) 5 cap) (saneL 3))) := Lib.hid (by
        have := appendInteger_ok w.heap.size _ ((saneL 2).set 0 5) [45, 50] (-2) 18446744073709551614 2 _ (by omega) (by simp [saneL]) HB2.out.size hw (by simp) pi_c wrap_two (by omega)
        rw [be_two] at this; exact this)
      have hor := or_c
      clear hcell hfree hset hk hw
      go_wp2_with fail
      go_region
      clear hor
      go_wp2_with fail
      refine (width_two _).mono ?_
      rintro e w' ⟨rfl, rfl⟩
      go_wp2_with fail
      refine (HA.out).mono ?_
      rintro e w3 ⟨v3, rfl, hg3⟩
      have HP3 := Lib.hid (PutAt.next HB2.out (by intro j hj; cases hj; exact hg) hg3)
      clear hg3
      go_wp2_with fail
      go_roundw
      case rel => exact ⟨3, 3, by omega, rfl, rfl, HP3⟩
      case measure => simp [intOf]
    · obtain rfl : z = 3 := hz
      go_wp2_with fail
      go_ret2
      exact ⟨_, rfl, HK.out⟩
end Go.Proofs.YtpnofkefcoaojaaGreatDoor
