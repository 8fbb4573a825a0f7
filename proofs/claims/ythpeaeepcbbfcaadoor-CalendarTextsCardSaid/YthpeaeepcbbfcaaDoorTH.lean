/- The texts of dates: the document's digits. -/
import Derived.Test.YthpeaeepcbbfcaaDoorTG
namespace Go.Proofs.YthpeaeepcbbfcaaDoor
open Go.RowKit

/-- The last j digits. -/
def lastL (n : Nat) : Nat → List UInt8
  | 0 => []
  | j + 1 => dg (n / 10 ^ j) :: lastL n j
theorem lastL_len (n : Nat) : ∀ j, (lastL n j).length = j
  | 0 => rfl
  | j + 1 => by rw [lastL, List.length_cons, lastL_len n j]
theorem byte_str (m : Nat) (W : World) : (convert 64 9 (.slice (some ⟨W.heap.size, 0, none⟩) 1 1)).run Tryd.prog (W.alloc (.cells #[.int .u8 (48 + (m : Int) % 10)] 5)) = .ok (.string ⟨[dg m].toArray⟩) (W.alloc (.cells #[.int .u8 (48 + (m : Int) % 10)] 5)) := by
  refine run_convert_bytes_back _ 64 9 5 ⟨W.heap.size, 0, none⟩ 1 [dg m] Tryd.underlying64 Tryd.underlying5 Tryd.underlying9 fun j hj => ?_
  have hj0 : j = 0 := by simpa using hj
  subst hj0
  have h := (Bk.new W #[.int .u8 (48 + (m : Int) % 10)] 5).cell 0
  have e : ((dg m).toNat : Int) = 48 + (m : Int) % 10 := by rw [dg_toNat]; omega
  show (W.alloc _).cell? ⟨W.heap.size, 0 + 0, none⟩ = some (.int .u8 ((dg m).toNat : Int))
  rw [e]; exact h
theorem step_list {n j m : Nat} {t : List UInt8} (ht : t = lastL n j) (hm : m = n / 10 ^ j) : dg m :: t = lastL n (j + 1) := by rw [lastL, ht, hm]
theorem step_num {n j m : Nat} (hm : m = n / 10 ^ j) : m / 10 = n / 10 ^ (j + 1) := by rw [hm, Nat.div_div_eq_div_mul, Nat.pow_succ]
theorem end_num {n K m : Nat} (hn : n < 10 ^ K) (hm : m = n / 10 ^ K) : m = 0 := by rw [hm, Nat.div_eq_of_lt hn]

set_option maxRecDepth 100000 in
set_option maxHeartbeats 1600000 in
theorem digitsR_any (n K : Nat) (w : World) (hK : K ≤ 4) (hn : n < 10 ^ K) (hn2 : n ≤ 9999) : Calls Tryd.prog 30 #[.int .i64 (n : Int), .int .i64 (K : Int)] w fun e w' => e = .returned (.string ⟨(lastL n K).toArray⟩) ∧ Below w.heap.size w w' := by
  have hN := Lib.hid hn
  clear hn
  go_enter Tryd.func30, Tryd.ntmps30
  go_wp2_with fail
  go_loopw [0, 1, 5] (fun v k s wr => ∃ (j m : Nat) (t : List UInt8), j ≤ K ∧ m ≤ 9999 ∧ v = .int .i64 (m : Int) ∧ k = .int .i64 ((K - j : Nat) : Int) ∧ s = .string ⟨t.toArray⟩ ∧ t.length ≤ 4 ∧ Hid (t = lastL n j) ∧ Hid (m = n / 10 ^ j) ∧ Hid (Below w.heap.size w wr)) (fun _ k _ _ => (intOf k).toNat)
  case atStart => exact ⟨0, n, [], Nat.zero_le _, hn2, rfl, rfl, rfl, by simp, Lib.hid rfl, Lib.hid (by simp), Lib.hid (Below.refl _ _)⟩
  case round =>
    obtain ⟨j, m, t, hj, hm, rfl, rfl, rfl, ht4, ht, hmn, HB⟩ := hrel
    by_cases hlt : j < K
    · have hk : 0 < K - j := by omega
      have hcv := byte_str m wr
      have hts : Hid (dg m :: t = lastL n (j + 1)) := Lib.hid (step_list ht.out hmn.out)
      have hns : Hid (m / 10 = n / 10 ^ (j + 1)) := Lib.hid (step_num hmn.out)
      have hap := Lib.hid (app_list [dg m] t)
      have HB2 := Lib.hid (kept_more (o := .cells #[.int .u8 (48 + (m : Int) % 10)] 5) HB.out)
      have hkz : IntKind.i64.wrap (((K - j : Nat) : Int) - 1) = ((K - (j + 1) : Nat) : Int) := by rw [show ((K - j : Nat) : Int) - 1 = ((K - (j + 1) : Nat) : Int) by omega]; exact IntWalk.i64_in _ (by omega)
      by_cases h0 : 0 < m
      all_goals
        go_wp2_with fail
        go_roundw
        case rel => exact ⟨j + 1, m / 10, dg m :: t, by omega, by omega, by go_num, by congr 1 <;> omega, by rw [hap.out]; rfl, by have := lastL_len n (j + 1); rw [hts.out, this]; omega, hts, hns, HB2⟩
        case measure => simp [intOf]; omega
    · obtain rfl : j = K := by omega
      have h0 : m = 0 := end_num hN.out hmn.out
      subst h0
      have hz : j - j = 0 := Nat.sub_self j
      rw [hz]
      go_wp2_with fail
      go_ret
      exact ⟨by rw [← ht.out]; rfl, HB.out⟩
end Go.Proofs.YthpeaeepcbbfcaaDoor
