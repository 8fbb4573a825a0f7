/- The sanity check: its parts. -/
import Derived.Test.YtpnofkefcoaojaaGreatDoorCE
import Derived.Test.YtpnofkefcoaojaaGreatDoorTE
set_option maxHeartbeats 1600000
set_option maxRecDepth 100000
namespace Go.Proofs.YtpnofkefcoaojaaGreatDoor
open Go.RowKit
open Go.Lib
theorem fit_a : fitT 2 [49] = true := by decide +kernel
theorem fit_b : fitT 2 [] = true := by decide
theorem fit_c : fitT 2 [45, 50] = true := by decide +kernel
theorem pi_a : parseIntB 64 [49] = .ok 1 := by decide
theorem pi_c : parseIntB 64 [45, 50] = .ok (-2) := by decide
theorem width_two (w : World) : Calls Tryz.prog 13 #[.int .i64 2] w fun e w' => e = .returned (.int .i64 2) ∧ w = w' := by
  go_enter Tryz.func13, Tryz.ntmps13
  go_wp2_with fail
  go_ret
  exact ⟨rfl, rfl⟩
theorem isType_two (w : World) : Calls Tryz.prog 39 #[.int .i64 2] w fun e w' => e = .returned (.bool true) ∧ w = w' := by
  go_enter Tryz.func39, Tryz.ntmps39
  go_wp2_with fail
  refine (width_two _).mono ?_
  rintro e w' ⟨rfl, rfl⟩
  go_wp2_with fail
  go_ret
  exact ⟨rfl, rfl⟩
theorem isCount_any (n : Nat) (hn : (n : Int) ≤ 4096) (w : World) : Calls Tryz.prog 59 #[.int .i64 (n : Int)] w fun e w' => e = .returned (.bool true) ∧ w = w' := by
  go_enter Tryz.func59, Tryz.ntmps59
  go_wp2_with fail
  go_ret
  exact ⟨rfl, rfl⟩
theorem presence_any (n : Nat) (hn : (n : Int) ≤ 4096) (w : World) : Calls Tryz.prog 75 #[.int .i64 (n : Int)] w fun e w' => e = .returned (.int .i64 (((n : Int) + 7) / 8)) ∧ w = w' := by
  go_enter Tryz.func75, Tryz.ntmps75
  go_wp2_with fail
  go_ret
  exact ⟨rfl, rfl⟩
def Ss (w : World) (p : Option Addr) (xs : List (List UInt8)) : Prop := xs.length = 0 ∨ ∃ b off, p = some ⟨b, off, none⟩ ∧ b < w.heap.size ∧ ∀ j, j < xs.length → w.cell? ⟨b, off + j, none⟩ = some (.string ⟨(xs.getD j []).toArray⟩)
theorem Ss.below {w w' : World} {p : Option Addr} {xs : List (List UInt8)} (h : Ss w p xs) (hb : Below w.heap.size w w') : Ss w' p xs := by
  rcases h with h0 | ⟨b, off, hp, hlt, hc⟩
  · exact .inl h0
  · exact .inr ⟨b, off, hp, Nat.lt_of_lt_of_le hlt hb.size, fun j hj => (hb.cell (p := ⟨b, off + j, none⟩) hlt).trans (hc j hj)⟩
theorem Ss.at {w : World} {p : Option Addr} {xs : List (List UInt8)} (h : Ss w p xs) {k : Nat} (hk : k < xs.length) : ∃ (b off : Nat) (x : List UInt8), p = some ⟨b, off, none⟩ ∧ b < w.heap.size ∧ w.cell? ⟨b, off + k, none⟩ = some (.string ⟨x.toArray⟩) ∧ Hid (xs.getD k [] = x) := by
  rcases h with h0 | ⟨b, off, h1, h2, h3⟩
  · omega
  · exact ⟨b, off, _, h1, h2, h3 k hk, rfl⟩
theorem checkValues_two (p : Option Addr) (c : Nat) (xs : List (List UInt8)) (w : World) (hn : xs.length ≤ 4096) (hs : Ss w p xs) (hf : ∀ k, k < xs.length → fitT 2 (xs.getD k []) = true) (he : Env w) :
    Calls Tryz.prog 44 #[.int .i64 2, .slice p xs.length c] w fun e w' => e = .returned (.int .i64 0) ∧ Below w.heap.size w w' := by
  have HS := Lib.hid hs
  have HF := Lib.hid hf
  have HV := Lib.hid he
  clear hs hf he
  obtain ⟨n, HN⟩ : ∃ n, Hid (n = xs.length) := ⟨_, rfl⟩
  rw [← HN.out] at hn ⊢
  have hn' : (n : Int) ≤ 4096 := by omega
  go_enter Tryz.func44, Tryz.ntmps44
  go_wp2_with fail
  refine (isType_two _).mono ?_
  rintro e w' ⟨rfl, rfl⟩
  go_wp2_with fail
  refine (isCount_any n hn' _).mono ?_
  rintro e w' ⟨rfl, rfl⟩
  go_wp2_with fail
  go_loopw [16] (fun i wr => ∃ k : Nat, k ≤ n ∧ i = .int .i64 k ∧ Hid (Below w.heap.size w wr)) (fun i _ => n - (intOf i).toNat)
  case atStart => exact ⟨0, Nat.zero_le _, rfl, Lib.hid (Below.refl _ _)⟩
  case round =>
    obtain ⟨k, hk, rfl, HB⟩ := hrel
    by_cases hlt : k < n
    · obtain ⟨b1, o1, x, rfl, hb1, hc1, hx⟩ := (HS.out.below HB.out).at (k := k) (by rw [← HN.out]; exact hlt)
      have HC := Lib.hid (pfits_list 2 x wr (HV.out.below HB.out))
      have hft : Hid (fitT 2 x = true) := Lib.hid (by rw [← hx.out]; exact HF.out k (by rw [← HN.out]; exact hlt))
      rw [hft.out] at HC
      go_wp2_with fail
      refine (HC.out).mono ?_
      rintro e w2 ⟨rfl, hb2⟩
      have HB2 := Lib.hid (HB.out.trans (hb2.mono HB.out.size))
      clear hb2
      go_wp2_with fail
      go_roundw
      case rel => exact ⟨k + 1, by omega, by go_num, HB2⟩
      case measure => simp [intOf]; omega
    · obtain rfl : k = n := by omega
      go_wp2_with fail
      go_ret
      exact ⟨rfl, HB.out⟩
end Go.Proofs.YtpnofkefcoaojaaGreatDoor
