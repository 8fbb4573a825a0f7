/- The number that bytes stand for: number of the program, read of the document. -/
import Derived.Test.YtaedmojkoioifaaGreatDoorCC
set_option maxHeartbeats 1600000
set_option maxRecDepth 100000
namespace Go.Proofs.YtaedmojkoioifaaGreatDoor
open Go.RowKit
open Go.Lib
def nb (l : List UInt8) : Nat := l.foldl (fun x c => x * 256 + c.toNat) 0
theorem nb_snoc (l : List UInt8) (c : UInt8) : nb (l ++ [c]) = nb l * 256 + c.toNat := by unfold nb; rw [List.foldl_append]; rfl
theorem nb_fold (l : List UInt8) : ∀ x, l.foldl (fun x (c : UInt8) => x * 256 + c.toNat) x < (x + 1) * 256 ^ l.length := by
  induction l with
  | nil => intro x; simp
  | cons c l ih =>
    intro x
    have h := ih (x * 256 + c.toNat)
    have h2 := c.toNat_lt
    rw [List.foldl_cons, List.length_cons, Nat.pow_succ]
    refine Nat.lt_of_lt_of_le h ?_
    rw [Nat.mul_comm (256 ^ l.length) 256, ← Nat.mul_assoc]
    exact Nat.mul_le_mul_right _ (by omega)
theorem nb_lt (l : List UInt8) : nb l < 256 ^ l.length := by
  have := nb_fold l 0
  unfold nb; omega
theorem shl_or {S d : Nat} (hS : S * 256 + 255 < 18446744073709551616) (hd : (d : Int) ≤ 255) : bits .or .u64 (IntKind.u64.wrap ((S : Int) * 256)) (d : Int) = ((S * 256 + d : Nat) : Int) := by
  have h1 : IntKind.u64.wrap ((S : Int) * 256) = ((S * 256 : Nat) : Int) := by rw [IntKind.wrap_u64]; omega
  rw [h1, u64_or_nat _ _ (by omega) (by omega), nat_join 8 (S * 256) d (by omega) (by omega)]
theorem nb_take {l : List UInt8} {k : Nat} (hk : k < l.length) (hl : l.length ≤ 8) : nb (l.take k) * 256 + 255 < 18446744073709551616 := by
  have h1 := nb_lt (l.take k)
  rw [List.length_take, Nat.min_eq_left (by omega)] at h1
  have h2 : 256 ^ k ≤ 256 ^ 7 := Nat.pow_le_pow_right (by omega) (by omega)
  have h3 : (256 : Nat) ^ 7 = 72057594037927936 := by decide
  omega
theorem bnumber_any (p : Option Addr) (c : Nat) (l : List UInt8) (w : World) (hn : l.length ≤ 8) (hb : Bs w p l) :
    Calls Tryz.prog 51 #[.slice p l.length c] w fun e w' => e = .returned (.int .u64 (nb l : Int)) ∧ w = w' := by
  have HB := Lib.hid hb
  clear hb
  obtain ⟨n, HN⟩ : ∃ n, Hid (n = l.length) := ⟨_, rfl⟩
  rw [← HN.out] at hn ⊢
  have hni : (n : Int) ≤ 8 := by omega
  go_enter Tryz.func51, Tryz.ntmps51
  go_wp2_with fail
  go_loop [3, 8] (fun s i => ∃ k S : Nat, k ≤ n ∧ i = .int .i64 k ∧ s = .int .u64 (S : Int) ∧ Hid (S = nb (l.take k))) (fun _ i => n - (intOf i).toNat)
  case atStart => exact ⟨0, 0, Nat.zero_le _, rfl, rfl, rfl⟩
  case round =>
    obtain ⟨k, S, hk, rfl, rfl, HS⟩ := hrel
    by_cases hlt : k < n
    · obtain ⟨b1, o1, d, rfl, hb1, hc1, hd, hd2⟩ := HB.out.at (k := k) (by rw [← HN.out]; exact hlt)
      go_wp2_with fail
      go_round
      case rel => exact ⟨k + 1, S * 256 + d, by omega, by go_num, by rw [shl_or (by rw [HS.out]; exact nb_take (by rw [← HN.out]; exact hlt) (by rw [← HN.out]; exact hn)) hd2], Lib.hid (by rw [HS.out, ← hd.out, snoc_take (by rw [← HN.out]; exact hlt), nb_snoc])⟩
      case measure => simp [intOf]; omega
    · obtain rfl : k = n := by omega
      go_wp2_with fail
      go_ret
      refine ⟨?_, rfl⟩
      show Ending.returned (.int .u64 (S : Int)) = _
      rw [HS.out, HN.out, List.take_length]
end Go.Proofs.YtaedmojkoioifaaGreatDoor
