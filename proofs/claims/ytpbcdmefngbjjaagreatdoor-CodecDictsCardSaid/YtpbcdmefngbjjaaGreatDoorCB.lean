/- The document's checksum. -/
import Derived.Test.YtpbcdmefngbjjaaGreatDoorCA
namespace Go.Proofs.YtpbcdmefngbjjaaGreatDoor
open Go.RowKit
theorem odd_bits (S d j : Nat) (hS : S < 4294967296) (hd : (d : Int) ≤ 255) : bits .and .u32 (bits .xor .u32 (S : Int) (bits .and .u32 ((d : Int) / 2 ^ j % 4294967296) 1)) 1 = (((S ^^^ d / 2 ^ j % 2) % 2 : Nat) : Int) := by
  have h0 : d / 2 ^ j ≤ d := Nat.div_le_self _ _
  have h1 : (d : Int) / 2 ^ j % 4294967296 = ((d / 2 ^ j : Nat) : Int) := by
    have : ((d / 2 ^ j : Nat) : Int) = (d : Int) / 2 ^ j := by simp
    rw [← this]; generalize d / 2 ^ j = q at h0; omega
  have h2 : bits .and .u32 ((d / 2 ^ j : Nat) : Int) 1 = ((d / 2 ^ j % 2 : Nat) : Int) := by
    have := u32_and_nat (d / 2 ^ j) 1 (by generalize d / 2 ^ j = q at h0; omega) (by omega)
    rw [nat_mask1] at this; exact this
  rw [h1, h2, u32_xor_nat S _ hS (by omega)]
  have := u32_and_nat (S ^^^ d / 2 ^ j % 2) 1 (Crc.xor_lt hS (by omega)) (by omega)
  rw [nat_mask1] at this; exact this
theorem poly_bits {S : Nat} (hS : S < 4294967296) : bits .xor .u32 ((S : Int) / 2) 3988292384 = ((S / 2 ^^^ Crc.P32 : Nat) : Int) := by
  rw [show (S : Int) / 2 = ((S / 2 : Nat) : Int) by omega]
  exact u32_xor_nat (S / 2) Crc.P32 (by omega) (by decide)
theorem ra_step {l : List UInt8} {k S d : Nat} (hk : k < 8 * l.length) (hS : S = Crc.ra l k) (hd : (l.getD (k / 8) 0).toNat = d) : Crc.ra l (k + 1) = if (S ^^^ d / 2 ^ (k % 8) % 2) % 2 = 1 then S / 2 ^^^ Crc.P32 else S / 2 := by
  rw [Crc.ra_succ l k hk, hd, ← hS, Crc.odd_step]
set_option maxRecDepth 100000 in
set_option maxHeartbeats 1600000 in
theorem rchecksum_any (p : Option Addr) (c : Nat) (l : List UInt8) (w : World) (hn : l.length ≤ 1000000) (hb : Bs w p l) :
    Calls Tryz.prog 30 #[.slice p l.length c] w fun e w' => e = .returned (.int .u32 (Crc.crc l : Int)) ∧ w = w' := by
  have HB := Lib.hid hb
  clear hb
  obtain ⟨n, HN⟩ : ∃ n, Hid (n = l.length) := ⟨_, rfl⟩
  rw [← HN.out] at hn ⊢
  go_enter Tryz.func30, Tryz.ntmps30
  go_wp2_with fail
  go_loop [3, 4] (fun s i => ∃ k S : Nat, k ≤ 8 * n ∧ i = .int .i64 k ∧ s = .int .u32 (S : Int) ∧ Hid (S = Crc.ra l k)) (fun _ i => 8 * n - (intOf i).toNat)
  case atStart => exact ⟨0, 4294967295, Nat.zero_le _, rfl, rfl, Lib.hid (Crc.ra_zero l).symm⟩
  case round =>
    obtain ⟨k, S, hk, rfl, rfl, HS⟩ := hrel
    by_cases hlt : k < 8 * n
    · obtain ⟨b1, o1, d, rfl, hb1, hc1, hd, hd2⟩ := HB.out.at (k := k / 8) (by rw [← HN.out]; omega)
      have hlt' : (k : Int) < 8 * n := by omega
      have hSl : Hid (S < 4294967296) := Lib.hid (by rw [HS.out]; exact Crc.ra_lt _ _)
      have HO := Lib.hid (odd_bits S d (k % 8) hSl.out hd2)
      by_cases ho : (S ^^^ d / 2 ^ (k % 8) % 2) % 2 = 1
      · have HT := Lib.hid ((ra_step (by rw [← HN.out]; exact hlt) HS.out hd.out).trans (if_pos ho))
        have hb1 : (bits .and .u32 (bits .xor .u32 (S : Int) (bits .and .u32 ((d : Int) / 2 ^ (k % 8) % 4294967296) 1)) 1 == 1) = true := by rw [HO.out, ho]; rfl
        clear ho
        go_wp2_with fail
        clear hb1
        go_round
        case rel => exact ⟨k + 1, S / 2 ^^^ Crc.P32, by omega, by go_num, by rw [poly_bits hSl.out], Lib.hid HT.out.symm⟩
        case measure => simp [intOf]; omega
      · have HT := Lib.hid ((ra_step (by rw [← HN.out]; exact hlt) HS.out hd.out).trans (if_neg ho))
        have hb1 : (bits .and .u32 (bits .xor .u32 (S : Int) (bits .and .u32 ((d : Int) / 2 ^ (k % 8) % 4294967296) 1)) 1 == 1) = false := by
          rw [HO.out, show (S ^^^ d / 2 ^ (k % 8) % 2) % 2 = 0 by omega]; rfl
        clear ho
        go_wp2_with fail
        clear hb1
        go_round
        case rel => exact ⟨k + 1, S / 2, by omega, by go_num, by rw [show (S : Int) / 2 = ((S / 2 : Nat) : Int) by omega], Lib.hid HT.out.symm⟩
        case measure => simp [intOf]; omega
    · obtain rfl : k = 8 * n := by omega
      go_wp2_with fail
      go_ret
      refine ⟨?_, rfl⟩
      show Ending.returned (.int .u32 (bits .xor .u32 IntKind.u32.max (S : Int))) = _
      rw [not_bits (by rw [HS.out]; exact Crc.ra_lt _ _), HS.out, HN.out, Crc.ra_end]; rfl
end Go.Proofs.YtpbcdmefngbjjaaGreatDoor
