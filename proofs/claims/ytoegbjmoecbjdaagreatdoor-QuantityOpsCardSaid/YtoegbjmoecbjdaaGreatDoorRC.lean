/- The document's trim, NatOf, NatCmp. -/
import Derived.Test.YtoegbjmoecbjdaaGreatDoorRB
set_option maxRecDepth 100000
set_option maxHeartbeats 800000
namespace Go.Proofs.YtoegbjmoecbjdaaGreatDoor
open Go.RowKit Big
theorem underlying36 : Tryz.prog.underlying 36 = some (.slice 76) := by kernel_rfl
theorem trim_any (p : Option Addr) (n c : Nat) (l : List Nat) (w : World) (hn : n ≤ maxLen) (hnc : n ≤ c) (hl : Rd w p n l) :
    Calls Tryz.prog 138 #[.slice p n c] w (Trim p n c l w) := by
  unfold maxLen at hn
  go_enter Tryz.func138, Tryz.ntmps138
  go_wp2
  go_loop [3] (fun i => ∃ k : Nat, k ≤ n ∧ i = .int .i64 k ∧ ∀ j, k ≤ j → j < n → l.getD j 0 = 0) (fun i => (intOf i).toNat)
  case atStart => exact ⟨n, Nat.le_refl _, rfl, fun j h1 h2 => by omega⟩
  case round =>
    obtain ⟨k, hk, rfl, hz⟩ := hrel
    have Hz := hiD hz
    clear hz
    by_cases h0 : k = 0
    · subst h0
      go_wp2
      go_ret
      exact ⟨0, by omega, rfl, rfl, Hz.out, .inl rfl⟩
    · obtain ⟨b, off, d, rfl, hb, hc, hd⟩ := hl.at (k := k - 1) (by omega)
      by_cases hz : d = 0
      · subst hz
        go_wp2
        go_round
        case rel => exact ⟨k - 1, by omega, by go_num, fun j h1 h2 => by
          by_cases e : j = k - 1
          · rw [e]; exact hd.out
          · exact Hz.out j (by omega) h2⟩
        case measure => simp [intOf]; omega
      · have hz' : ((d : Int) == 0) = false := by simpa using hz
        go_wp2
        go_ret
        exact ⟨k, hk, rfl, rfl, Hz.out, .inr (by rw [hd.out]; exact hz)⟩
theorem Canon.of_ge {B : Nat} {L : List Nat} {k : Nat} (hd : Dig B L) (hk : L.length = k + 1) (h : B ^ k ≤ val B L) : Canon B L := by
  refine Canon.of_last hd k hk ?_
  intro h0
  have h1 := val_take_succD B L k
  rw [List.take_of_length_le (by omega), h0, Nat.mul_zero, Nat.add_zero] at h1
  have h2 := val_lt (L.take k) (hd.take k)
  rw [List.length_take, Nat.min_eq_left (by omega)] at h2
  omega
theorem natOf_step {N k : Nat} {L : List Nat} (h : k ≤ N ∧ L.length ≤ 3 ∧ Dig B9 L ∧ val B9 L + B9 ^ L.length * k = N ∧ (k = 0 → Canon B9 L)) (hN : N < 18446744073709551616) (h0 : ¬ k = 0) :
    k / 1000000000 ≤ N ∧ (L ++ [k % 1000000000]).length ≤ 3 ∧ Dig B9 (L ++ [k % 1000000000]) ∧ val B9 (L ++ [k % 1000000000]) + B9 ^ (L ++ [k % 1000000000]).length * (k / 1000000000) = N ∧ (k / 1000000000 = 0 → Canon B9 (L ++ [k % 1000000000])) := by
  obtain ⟨h1, h2, h3, h4, h5⟩ := h
  have hd : Dig B9 (L ++ [k % 1000000000]) := h3.append (Dig.one (by rw [B9_eq]; omega))
  have hl : L.length ≤ 2 := by
    apply Nat.le_of_not_lt; intro h6
    have : L.length = 3 := by omega
    rw [this] at h4
    have h7 : B9 ^ 3 * 1 ≤ B9 ^ 3 * k := Nat.mul_le_mul_left _ (by omega)
    have h8 : B9 ^ 3 = 1000000000000000000000000000 := by rw [B9_eq]
    omega
  refine ⟨by omega, by simp; omega, hd, ?_, ?_⟩
  · rw [val_snoc, List.length_append, List.length_singleton, Nat.pow_succ, ← h4]
    have : k = k % 1000000000 + B9 * (k / 1000000000) := by rw [B9_eq]; omega
    have h9 : B9 ^ L.length * k = B9 ^ L.length * (k % 1000000000 + B9 * (k / 1000000000)) := by rw [← this]
    rw [h9]; grind
  · intro h6
    refine Canon.of_last hd L.length (by simp) ?_
    rw [List.getD_eq_getElem?_getD, List.getElem?_append_right (Nat.le_refl _), Nat.sub_self]
    simp; omega
theorem natOf_any (N : Nat) (w : World) (hN : N < 18446744073709551616) :
    Calls Tryz.prog 70 #[.int .u64 N] w (Post9 N w) := by
  obtain ⟨i0, hi, hz0, hz1, hz2⟩ := info_parts info79
  have HN := hiD hN
  clear hN
  go_enter Tryz.func70, Tryz.ntmps70
  go_wp2_with fail
  go_loopw [0, 3] (fun nv ov wr => ∃ (k : Nat) (L : List Nat), nv = .int .u64 k ∧ Hid (k ≤ N ∧ L.length ≤ 3 ∧ Dig B9 L ∧ val B9 L + B9 ^ L.length * k = N ∧ (k = 0 → Canon B9 L)) ∧ Hid (Acc w wr ov L)) (fun nv _ _ => (intOf nv).toNat)
  case atStart => exact ⟨N, [], rfl, hiD ⟨Nat.le_refl _, by simp, Dig.nil _, by simp [val], fun _ => Canon.nil _⟩, hiD (Acc.nil _ _ (Below.refl _ _))⟩
  case round =>
    obtain ⟨k, L, rfl, hinv, hacc⟩ := hrel
    obtain ⟨po, no, co, rfl⟩ : ∃ p n c, u3 = .slice p n c := by
      obtain ⟨p, c, h, _⟩ := own_rd hacc.out.own; exact ⟨_, _, _, h⟩
    by_cases h0 : k = 0
    · subst h0
      have hfin : Hid (Post9 N w (.returned (.slice po no co)) wr) := hiD (by
        have h := hacc.out.nat (hinv.out.2.2.2.2 rfl)
        have h2 := hinv.out.2.2.2.1
        rw [Nat.mul_zero, Nat.add_zero] at h2
        rw [← h2]; exact h)
      go_wp2_with fail
      go_ret
      exact hfin.out
    · have hlen : Hid (L.length + 1 ≤ maxLen ∧ (L.length + 1) * 8 ≤ 140737488355328 ∧ w.heap.size ≤ wr.heap.size + 1) := hiD (by
        have := hinv.out.2.1
        have h := hacc.out.below.size
        unfold maxLen; omega)
      have hstep := hiD (natOf_step hinv.out HN.out h0)
      have hk : (0 : Int) < k := by omega
      have hkb : (k : Int) ≤ 18446744073709551615 := by have h1 := hinv.out.1; have h2 := HN.out; omega
      go_wp2_with (at_builtin; refine wpList_append_own _ rfl (.tmp 6) (.tmp 9) 36 rfl w.heap.size 76 i0 (.int .u64 0) 1 8 underlying36 hi hz0 hz1 hz2 rfl (by decide) _ _ _ rfl ((hacc.out.own).alloc _) ⟨_, 0, none⟩ 1 1 [.int .u64 ((k : Int) % 1000000000)] rfl rfl (cell_one_new _ _ _) (by intro u hu; simp at hu; subst hu; rfl) hlen.out.1 hlen.out.2.1 (by simp; exact hlen.out.2.2) ?_)
      intro v5 w5 hown5 hgrow5 _
      have hnext := hiD (hacc.out.next (x := k % 1000000000) rfl hown5 hgrow5)
      clear hown5 hgrow5
      go_wp2_with fail
      go_roundw
      case rel => exact ⟨k / 1000000000, _, rfl, hstep, hnext⟩
      case measure => simp [intOf]; omega
end Go.Proofs.YtoegbjmoecbjdaaGreatDoor
