/- The texts of dates: digits, value. -/
import Derived.Test.YthpeaeepcbbfcaaDoorA
import Derived.Test.YthpeaeepcbbfcaaDoorTA
import Derived.IntWalk
namespace Go.Proofs.YthpeaeepcbbfcaaDoor
open Go.RowKit

theorem all_take_succ (l : List UInt8) (k : Nat) (h : k < l.length) (ha : (l.take k).all isD = true) (hd : isD l[k] = true) : (l.take (k + 1)).all isD = true := by
  rw [List.take_succ_eq_append_getElem h, List.all_append, ha]; simp [hd]
theorem not_all (l : List UInt8) (k : Nat) (h : k < l.length) (hd : isD l[k] = false) : l.all isD = false := by
  rw [List.all_eq_false]; exact ⟨l[k], List.getElem_mem h, by simp [hd]⟩
theorem val_snoc (l : List UInt8) (c : UInt8) : valL (l ++ [c]) = valL l * 10 + (c.toNat - 48) := by unfold valL; rw [List.foldl_append]; rfl
theorem val_succ (l : List UInt8) (k : Nat) (h : k < l.length) : valL (l.take (k + 1)) = valL (l.take k) * 10 + (l[k].toNat - 48) := by
  rw [List.take_succ_eq_append_getElem h, val_snoc]
theorem val_lt : ∀ (n : Nat) (l : List UInt8), l.length = n → l.all isD = true → valL l < 10 ^ n
  | 0, l, h, _ => by rw [List.length_eq_zero_iff.1 h]; decide
  | n + 1, l, h, ha => by
    have hne : l ≠ [] := by intro e; subst e; cases h
    rw [← List.dropLast_concat_getLast hne] at ha ⊢
    rw [List.all_append, Bool.and_eq_true] at ha
    have hc : isD (l.getLast hne) = true := by simpa using ha.2
    have ih := val_lt n l.dropLast (by rw [List.length_dropLast, h]; rfl) ha.1
    obtain ⟨h1, h2⟩ := isD_iff.1 hc
    rw [val_snoc, Nat.pow_succ]
    omega
theorem val_bd {l : List UInt8} (h : l.length ≤ 4) (ha : l.all isD = true) : valL l ≤ 9999 := by
  have h1 := val_lt _ l rfl ha
  have h2 : 10 ^ l.length ≤ 10 ^ 4 := Nat.pow_le_pow_right (by decide) h
  omega

/-- What digits returns. -/
def DigPost (s : ByteArray) (w : World) (e : Ending) (w' : World) : Prop := e = .returned (.tuple #[.int .i64 (if s.data.toList.all isD then (valL s.data.toList : Int) else 0), .bool (s.data.toList.all isD)]) ∧ w = w'
theorem DigPost.no {s : ByteArray} {w : World} {e : Ending} (h : s.data.toList.all isD = false) (he : e = .returned (.tuple #[.int .i64 0, .bool false])) : DigPost s w e w := ⟨by rw [h, he]; rfl, rfl⟩
theorem DigPost.yes {s : ByteArray} {w : World} {e : Ending} {v : Nat} (h : s.data.toList.all isD = true) (hv : valL s.data.toList = v) (he : e = .returned (.tuple #[.int .i64 (v : Int), .bool true])) : DigPost s w e w := ⟨by rw [h, he, hv]; rfl, rfl⟩
set_option maxRecDepth 100000 in
set_option maxHeartbeats 1600000 in
theorem digits_any (s : ByteArray) (w : World) (hs : s.size ≤ 4) :
    Calls Tryd.prog 32 #[.string s] w (DigPost s w) := by
  go_enter Tryd.func32, Tryd.ntmps32
  go_wp2_with fail
  go_loop [4, 8] (fun n i => ∃ k v : Nat, k ≤ s.size ∧ i = .int .i64 k ∧ n = .int .i64 v ∧ v ≤ 9999 ∧ Hid ((s.data.toList.take k).all isD = true) ∧ Hid (valL (s.data.toList.take k) = v)) (fun _ i => s.size - (intOf i).toNat)
  case atStart => exact ⟨0, 0, Nat.zero_le _, rfl, rfl, by omega, Lib.hid (by simp), Lib.hid rfl⟩
  case round =>
    obtain ⟨k, v, hk, rfl, rfl, hv, hall, hval⟩ := hrel
    by_cases hlt : k < s.size
    · have hkl : k < s.data.toList.length := by simpa using hlt
      have hb : Hid (∀ d, isD s[k] = d → isD s.data.toList[k] = d) := Lib.hid (fun d h => h)
      have hbn : Hid (s.data.toList[k].toNat = s[k].toNat) := Lib.hid rfl
      by_cases h1 : (s[k].toNat : Int) < 48
      · have hf : Hid (s.data.toList.all isD = false) := Lib.hid (not_all _ k hkl (hb.out _ (by simp [isD]; omega)))
        go_wp2
        go_ret2
        exact DigPost.no hf.out rfl
      · by_cases h2 : (57 : Int) < s[k].toNat
        · have hf : Hid (s.data.toList.all isD = false) := Lib.hid (not_all _ k hkl (hb.out _ (by simp [isD]; omega)))
          go_wp2
          go_ret2
          exact DigPost.no hf.out rfl
        · have hn : Hid ((s.data.toList.take (k + 1)).all isD = true) := Lib.hid (all_take_succ _ k hkl hall.out (hb.out _ (by simp [isD]; omega)))
          have hvs : Hid (valL (s.data.toList.take (k + 1)) = v * 10 + (s[k].toNat - 48)) := Lib.hid (by rw [val_succ _ k hkl, hval.out, hbn.out])
          have hvb : v * 10 + (s[k].toNat - 48) ≤ 9999 := by
            have := val_bd (l := s.data.toList.take (k + 1)) (by rw [List.length_take]; omega) hn.out
            rw [hvs.out] at this; exact this
          go_wp2
          go_round
          case rel => exact ⟨k + 1, v * 10 + (s[k].toNat - 48), by omega, by go_num, by congr 1; omega, hvb, hn, hvs⟩
          case measure => simp [intOf]; omega
    · obtain rfl : k = s.size := by omega
      have hf : Hid (s.data.toList.all isD = true ∧ valL s.data.toList = v) := Lib.hid (by
        have h1 := hall.out
        have h2 := hval.out
        rw [List.take_of_length_le (by simp)] at h1 h2
        exact ⟨h1, h2⟩)
      go_wp2
      go_ret2
      exact DigPost.yes hf.out.1 hf.out.2 rfl

set_option maxRecDepth 100000 in
set_option maxHeartbeats 1600000 in
theorem value_any (s : ByteArray) (w : World) (hs : s.size ≤ 4) (ha : s.data.toList.all isD = true) :
    Calls Tryd.prog 16 #[.string s] w fun e w' => e = .returned (.int .i64 (valL s.data.toList : Int)) ∧ w = w' := by
  have hA := Lib.hid ha
  clear ha
  go_enter Tryd.func16, Tryd.ntmps16
  go_wp2_with fail
  go_loop [3, 4] (fun n i => ∃ k v : Nat, k ≤ s.size ∧ i = .int .i64 k ∧ n = .int .i64 v ∧ v ≤ 9999 ∧ Hid (valL (s.data.toList.take k) = v)) (fun _ i => s.size - (intOf i).toNat)
  case atStart => exact ⟨0, 0, Nat.zero_le _, rfl, rfl, by omega, Lib.hid rfl⟩
  case round =>
    obtain ⟨k, v, hk, rfl, rfl, hv, hval⟩ := hrel
    by_cases hlt : k < s.size
    · have hkl : k < s.data.toList.length := by simpa using hlt
      have hbn : Hid (s.data.toList[k].toNat = s[k].toNat) := Lib.hid rfl
      obtain ⟨q1, q2⟩ : 48 ≤ s[k].toNat ∧ s[k].toNat ≤ 57 := isD_iff.1 (List.all_eq_true.1 hA.out _ (List.getElem_mem hkl))
      have hn : Hid ((s.data.toList.take (k + 1)).all isD = true) := Lib.hid (by
        rw [List.all_eq_true]
        intro x hx
        exact List.all_eq_true.1 hA.out x (List.mem_of_mem_take hx))
      have hvs : Hid (valL (s.data.toList.take (k + 1)) = v * 10 + (s[k].toNat - 48)) := Lib.hid (by rw [val_succ _ k hkl, hval.out, hbn.out])
      have hvb : v * 10 + (s[k].toNat - 48) ≤ 9999 := by
        have := val_bd (l := s.data.toList.take (k + 1)) (by rw [List.length_take]; omega) hn.out
        rw [hvs.out] at this; exact this
      go_wp2
      go_round
      case rel => exact ⟨k + 1, v * 10 + (s[k].toNat - 48), by omega, by go_num, by congr 1; omega, hvb, hvs⟩
      case measure => simp [intOf]; omega
    · obtain rfl : k = s.size := by omega
      have hf : Hid (valL s.data.toList = v) := Lib.hid (by
        have h2 := hval.out
        rw [List.take_of_length_le (by simp)] at h2
        exact h2)
      go_wp2
      go_ret
      exact ⟨by rw [hf.out]; rfl, rfl⟩
end Go.Proofs.YthpeaeepcbbfcaaDoor
