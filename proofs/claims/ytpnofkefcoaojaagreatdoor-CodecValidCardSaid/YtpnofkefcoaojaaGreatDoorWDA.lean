/- The sanity check. -/
import Derived.Test.YtpnofkefcoaojaaGreatDoorCH
import Derived.Test.YtpnofkefcoaojaaGreatDoorCK
import Derived.Test.YtpnofkefcoaojaaGreatDoorCC
import Derived.BigQuiet
set_option maxHeartbeats 1600000
set_option maxRecDepth 100000
namespace Go.Proofs.YtpnofkefcoaojaaGreatDoor
open Go.RowKit
open Go.Lib
theorem three_cells (w : World) : Ss (w.alloc (.cells #[.string ⟨#[49]⟩, .string ⟨#[]⟩, .string ⟨#[45, 50]⟩] 9)) (some ⟨w.heap.size, 0, none⟩) [[49], [], [45, 50]] := by
  refine .inr ⟨w.heap.size, 0, rfl, by simp, fun j hj => ?_⟩
  have : j = 0 ∨ j = 1 ∨ j = 2 := by simp at hj; omega
  unfold World.cell?
  rw [heap_alloc_new]
  rcases this with rfl | rfl | rfl <;> rfl
theorem sane_any (w : World) (he : Env w) : Calls Tryz.prog 10 #[] w fun e w' => e = .returned (.bool true) ∧ Below w.heap.size w w' := by
  have hB0 : Below w.heap.size w (w.alloc (.cells #[.string ⟨#[49]⟩, .string ⟨#[]⟩, .string ⟨#[45, 50]⟩] 9)) := (Below.refl _ _).alloc (Nat.le_refl _) _
  have HP := Lib.hid (put_three (some ⟨w.heap.size, 0, none⟩) 3 _ (three_cells w) (he.below hB0))
  have HB0 := Lib.hid hB0
  clear he hB0
  go_enter Tryz.func10, Tryz.ntmps10
  go_wp2_with fail
  refine (HP.out).mono ?_
  rintro e w1 ⟨v, rfl, hp⟩
  have HB1 := Lib.hid (HB0.out.trans (hp.below.mono (by simp)))
  obtain ⟨g, cap, hv5, hcap, hg, hgl, hcell, hfree, hset⟩ := own_set hp.own (by simp [saneL])
  rw [show (saneL 3).length = 7 from rfl] at hv5 hcap
  subst hv5
  have g0 : w1.cell? ⟨g, 0, none⟩ = some (.int .u8 5) := hcell 0 (by simp [saneL])
  have g2 : w1.cell? ⟨g, 2, none⟩ = some (.int .u8 1) := hcell 2 (by simp [saneL])
  have g5 : w1.cell? ⟨g, 5, none⟩ = some (.int .u8 255) := hcell 5 (by simp [saneL])
  have g6 : w1.cell? ⟨g, 6, none⟩ = some (.int .u8 254) := hcell 6 (by simp [saneL])
  clear hcell hfree hset hp
  go_wp2_with fail
  go_ret
  exact ⟨rfl, HB1.out⟩
end Go.Proofs.YtpnofkefcoaojaaGreatDoor
set_option maxRecDepth 100000
namespace Go.Proofs.YtpnofkefcoaojaaGreatDoor
open Go.RowKit
open Go.Lib
theorem size_bad (n : Int) (w : World) (h : n < 1 ∨ 8 < n) : Calls Tryz.prog 84 #[.int .i64 n] w fun e w' => e = .returned (.bool false) ∧ w = w' := by
  by_cases h1 : n < 1
  · have h1' : decide (1 ≤ n) = false := by simp; omega
    clear h
    go_enter Tryz.func84, Tryz.ntmps84
    go_wp2_with fail
    go_ret
    exact ⟨rfl, rfl⟩
  · have h2 : decide (n ≤ 8) = false := by simp; omega
    clear h
    go_enter Tryz.func84, Tryz.ntmps84
    go_wp2_with fail
    go_ret
    exact ⟨rfl, rfl⟩
theorem size_ok (n : Nat) (w : World) (h1 : 1 ≤ n) (h2 : n ≤ 8) : Calls Tryz.prog 84 #[.int .i64 (n : Int)] w fun e w' => e = .returned (.bool true) ∧ w = w' := by
  have h1' : decide (1 ≤ (n : Int)) = true := by simp; omega
  have h2' : decide ((n : Int) ≤ 8) = true := by simp; omega
  clear h1 h2
  go_enter Tryz.func84, Tryz.ntmps84
  go_wp2_with fail
  go_ret
  exact ⟨rfl, rfl⟩
end Go.Proofs.YtpnofkefcoaojaaGreatDoor
