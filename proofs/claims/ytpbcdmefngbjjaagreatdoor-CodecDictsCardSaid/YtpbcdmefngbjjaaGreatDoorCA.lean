/- Slices of bytes; the program's checksum. -/
import Derived.Test.YtpbcdmefngbjjaaGreatDoorProg
import Derived.Test.YtpbcdmefngbjjaaGreatDoorMA
import Derived.WalkKit
import Derived.WalkSpells
import Derived.WalkLawsBesides
import Derived.Lib.Hide
import Derived.Laws.BitsAllLaws
namespace Go.Proofs.YtpbcdmefngbjjaaGreatDoor
open Go.RowKit
/-- The slice value with address p reads as the list l. -/
def Bs (w : World) (p : Option Addr) (l : List UInt8) : Prop := l.length = 0 ∨ ∃ b off, p = some ⟨b, off, none⟩ ∧ b < w.heap.size ∧ ∀ j, j < l.length → w.cell? ⟨b, off + j, none⟩ = some (.int .u8 (((l.getD j 0).toNat : Nat) : Int))
theorem Bs.nil (w : World) (p : Option Addr) : Bs w p [] := .inl rfl
theorem Bs.below {w w' : World} {p : Option Addr} {l : List UInt8} (h : Bs w p l) (hb : Below w.heap.size w w') : Bs w' p l := by
  rcases h with h0 | ⟨b, off, hp, hlt, hc⟩
  · exact .inl h0
  · exact .inr ⟨b, off, hp, Nat.lt_of_lt_of_le hlt hb.size, fun j hj => (hb.cell (p := ⟨b, off + j, none⟩) hlt).trans (hc j hj)⟩
theorem Bs.at {w : World} {p : Option Addr} {l : List UInt8} (h : Bs w p l) {k : Nat} (hk : k < l.length) : ∃ (b off d : Nat), p = some ⟨b, off, none⟩ ∧ b < w.heap.size ∧ w.cell? ⟨b, off + k, none⟩ = some (.int .u8 (d : Int)) ∧ Hid ((l.getD k 0).toNat = d) ∧ (d : Int) ≤ 255 := by
  rcases h with h0 | ⟨b, off, h1, h2, h3⟩
  · omega
  · exact ⟨b, off, _, h1, h2, h3 k hk, rfl, by have := (l.getD k 0).toNat_lt; omega⟩
theorem snoc_take {l : List UInt8} {k : Nat} (h : k < l.length) : l.take (k + 1) = l.take k ++ [l.getD k 0] := by
  rw [List.take_succ_eq_append_getElem h]; simp [List.getD_eq_getElem?_getD, h]
theorem st_bits {T : Nat} (h : T < 4294967296) : bits .xor .u32 ((T : Int) / 2) (bits .and .u32 (T : Int) 1 * 3988292384 % 4294967296) = ((Crc.st T : Nat) : Int) := by
  have h1 : bits .and .u32 (T : Int) 1 = ((T % 2 : Nat) : Int) := by
    have := u32_and_nat T 1 h (by omega)
    rw [nat_mask1] at this; exact this
  have h2 : ((T % 2 : Nat) : Int) * 3988292384 % 4294967296 = ((T % 2 * Crc.P32 : Nat) : Int) := by
    have : T % 2 = 0 ∨ T % 2 = 1 := by omega
    rcases this with h | h <;> rw [h] <;> rfl
  rw [h1, h2, show (T : Int) / 2 = ((T / 2 : Nat) : Int) by omega]
  exact u32_xor_nat _ _ (by omega) (Crc.mod2P T)
theorem not_bits {S : Nat} (h : S < 4294967296) : bits .xor .u32 IntKind.u32.max (S : Int) = ((4294967295 ^^^ S : Nat) : Int) := u32_xor_nat 4294967295 S (by omega) h
set_option maxRecDepth 100000 in
set_option maxHeartbeats 1600000 in
theorem checksum_any (p : Option Addr) (c : Nat) (l : List UInt8) (w : World) (hn : l.length ≤ 1000000) (hb : Bs w p l) :
    Calls Tryz.prog 29 #[.slice p l.length c] w fun e w' => e = .returned (.int .u32 (Crc.crc l : Int)) ∧ w = w' := by
  have HB := Lib.hid hb
  clear hb
  obtain ⟨n, HN⟩ : ∃ n, Hid (n = l.length) := ⟨_, rfl⟩
  rw [← HN.out] at hn ⊢
  go_enter Tryz.func29, Tryz.ntmps29
  go_wp2_with fail
  go_loop [3, 8] (fun s i => ∃ k S : Nat, k ≤ n ∧ i = .int .i64 k ∧ s = .int .u32 (S : Int) ∧ Hid (S = Crc.crcS 4294967295 (l.take k))) (fun _ i => n - (intOf i).toNat)
  case atStart => exact ⟨0, 4294967295, Nat.zero_le _, rfl, rfl, rfl⟩
  case round =>
    obtain ⟨k, S, hk, rfl, rfl, HS⟩ := hrel
    by_cases hlt : k < n
    · obtain ⟨b1, o1, d, rfl, hb1, hc1, hd, hd2⟩ := HB.out.at (k := k) (by rw [← HN.out]; exact hlt)
      obtain ⟨X, hX⟩ : ∃ X : Nat, Hid (X = S ^^^ d) := ⟨_, rfl⟩
      have hSl : Hid (S < 4294967296) := Lib.hid (by rw [HS.out]; exact Crc.crcS_lt _ (by omega))
      have hxor : bits .xor .u32 (S : Int) (d : Int) = (X : Int) := by rw [hX.out]; exact u32_xor_nat S d hSl.out (by omega)
      go_wp2_with fail
      clear hxor
      go_loop [3, 16] (fun s i => ∃ j T : Nat, j ≤ 8 ∧ i = .int .i64 j ∧ s = .int .u32 (T : Int) ∧ Hid (T = Crc.stn j X)) (fun _ i => 8 - (intOf i).toNat)
      case atStart => exact ⟨0, X, Nat.zero_le _, rfl, rfl, rfl⟩
      case round =>
        obtain ⟨j, T, hj, rfl, rfl, HT⟩ := hrel
        by_cases hjlt : j < 8
        · go_wp2_with fail
          go_round
          case rel => exact ⟨j + 1, Crc.st T, by omega, by go_num, by rw [st_bits (by rw [HT.out]; exact Crc.stn_lt (by rw [hX.out]; exact Crc.xor_lt hSl.out (by omega)) _)], Lib.hid (by rw [HT.out]; rfl)⟩
          case measure => simp [intOf]; omega
        · obtain rfl : j = 8 := by omega
          go_wp2_with fail
          go_round
          case rel => exact ⟨k + 1, T, by omega, by go_num, rfl, Lib.hid (by rw [HT.out, hX.out, HS.out, ← hd.out, snoc_take (by rw [← HN.out]; exact hlt), Crc.crcS_snoc]; rfl)⟩
          case measure => simp [intOf]; omega
    · obtain rfl : k = n := by omega
      go_wp2_with fail
      go_ret
      refine ⟨?_, rfl⟩
      show Ending.returned (.int .u32 (bits .xor .u32 IntKind.u32.max (S : Int))) = _
      rw [not_bits (by rw [HS.out]; exact Crc.crcS_lt _ (by omega)), HS.out, HN.out, List.take_length]; rfl
end Go.Proofs.YtpbcdmefngbjjaaGreatDoor
