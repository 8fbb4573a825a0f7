/- The law QuantitySums. -/
import Derived.Test.YtoegbjmoecbjdaaGreatDoorVP
import Derived.Test.YtoegbjmoecbjdaaGreatDoorRP
import Derived.Test.YtoegbjmoecbjdaaGreatDoorSB
import Derived.Test.YtoegbjmoecbjdaaGreatDoorPart19
import Derived.OwnWalk
import Derived.Deep.RegionHeld3
import Derived.Deep.DeepCutAuto
set_option maxHeartbeats 4000000
set_option maxRecDepth 100000
namespace Go.Proofs.YtoegbjmoecbjdaaGreatDoor
open Go.RowKit Big
open Go.Lib Go.Shelf
theorem get_shape (s : ByteArray) (W : World) : Calls Tryz.prog 38 #[.string s] W fun e w' => ∃ b p n c r m d, e = .returned (.tuple #[.agg #[.bool b, .slice p n c, .slice r m d], .bool (num s.data.toList).isSome]) ∧ Below W.heap.size W w' ∧ ∀ q, num s.data.toList = some q → QAt w' (.agg #[.bool b, .slice p n c, .slice r m d]) q := by
  refine (get_any s W).mono fun e w' h => ?_
  unfold GetPost at h
  cases hq : num s.data.toList with
  | some q =>
    rw [hq] at h
    obtain ⟨b, p, n, c, p2, n2, c2, he, hb, hx⟩ := h
    exact ⟨b, p, n, c, p2, n2, c2, he, hb, fun q' h' => by cases h'; exact hx rfl⟩
  | none =>
    rw [hq] at h
    obtain ⟨q, b, p, n, c, p2, n2, c2, he, hb, hx⟩ := h
    exact ⟨b, p, n, c, p2, n2, c2, he, hb, fun q' h' => by cases h'⟩
theorem sumQ_lt : ∀ ss : List (List UInt8), QLt (6 * ss.length + 1) (sumQ (numsL ss)) := by
  intro ss
  induction ss with
  | nil => exact ⟨by decide, by decide⟩
  | cons s ss ih =>
    rw [List.length_cons]
    cases hq : num s with
    | none =>
      have e : numsL (s :: ss) = numsL ss := by unfold numsL; rw [List.filterMap_cons, hq]
      rw [e]; exact ih.mono (by omega)
    | some q =>
      have e : numsL (s :: ss) = q :: numsL ss := by unfold numsL; rw [List.filterMap_cons, hq]
      rw [e]
      exact ((num_lt9 hq).add ih).mono (by omega)
theorem rtotal_any (p : Option Addr) (n c : Nat) (ss : List (List UInt8)) (w : World) (hl : ss.length = n) (hn : n ≤ 1000) (h : RdS w p ss) :
    Calls Tryz.prog 94 #[.slice p n c] w fun e w' => ∃ s p n c r m d k, e = .returned (.tuple #[.agg #[.bool s, .slice p n c, .slice r m d], .int .i64 k]) ∧ QAt w' (.agg #[.bool s, .slice p n c, .slice r m d]) (sumQ (numsL ss)) ∧ Below w.heap.size w w' :=
  rtotal_walk p n c ss w hl hn h (hiD fun s W => get_shape s W) (hiD fun i => (sumQ_lt (ss.take i)).mono (by rw [List.length_take]; omega)) (hiD fun l q h => num_lt9 h)
theorem rsum_any (p : Option Addr) (n c : Nat) (ss : List (List UInt8)) (w : World) (hl : ss.length = n) (hn : n ≤ 1000) (h : RdS w p ss) : Calls Tryz.prog 48 #[.slice p n c] w fun e w' => e = .returned (.string ⟨(sumT ss).toArray⟩) ∧ Below w.heap.size w w' := by
  have HT := hiD (rtotal_any p n c ss w hl hn h)
  have HLT := hiD ((sumQ_lt ss).mono (show 6 * ss.length + 1 ≤ 7000 by omega))
  clear h
  go_enter Tryz.func48, Tryz.ntmps48
  go_wp2_with fail
  refine HT.out.mono ?_
  rintro e w2 ⟨s, p1, n1, c1, r1, m1, d1, k, rfl, hq, hb⟩
  have HQ := hiD hq
  have HB := hiD hb
  have HBX := hiD ((HB.out).trans ((bea w2 (.cells #[.bool s, .slice p1 n1 c1, .slice r1 m1 d1] 38)).mono HB.out.size))
  have HP := hiD (put_any _ _ 7000 (w2.alloc (.cells #[.bool s, .slice p1 n1 c1, .slice r1 m1 d1] 38)) (by omega) HLT.out (HQ.out.below (bea _ _)))
  clear hq hb
  go_wp2_with fail
  refine HP.out.mono ?_
  rintro e w3 ⟨rfl, hb3⟩
  have HB3 := hiD (HBX.out.trans (hb3.mono HBX.out.size))
  clear hb3
  go_wp2_with fail
  go_ret
  exact ⟨rfl, HB3.out⟩
theorem low0 (p : Option Addr) (c : Nat) : ∃ q, ∀ W, (Instr.sliceAt 47 (.slice p 0 c) none (some (.int .i64 0)) none).run Tryz.prog W = .ok (.slice q 0 c) W :=
  ⟨_, fun W => by rw [run_sliceAt_slice W 47 _ _ _ _ elem47, run_slice_h W 47 _ _ _ elem47 .i64 0 (by omega) (by omega), size47]; rfl⟩
theorem high0 (p : Option Addr) (c : Nat) : ∃ q, ∀ W, (Instr.sliceAt 47 (.slice p 0 c) (some (.int .i64 0)) none none).run Tryz.prog W = .ok (.slice q 0 c) W :=
  ⟨_, fun W => by rw [run_sliceAt_slice W 47 _ _ _ _ elem47, run_slice_l W 47 _ _ _ elem47 .i64 0 (by omega) (by omega), size47]; rfl⟩
theorem sums_zero (p : Option Addr) (c k : Nat) (w : World) (htab : Tab w) : Calls Tryz.prog 7 #[.slice p 0 c, .int .u8 k] w fun e w' => e = .returned (.bool true) ∧ Below w.heap.size w w' := by
  have HT := hiD htab
  clear htab
  obtain ⟨S, HSE⟩ : ∃ S : ByteArray, Hid ((⟨(sumT []).toArray⟩ : ByteArray) = S) := ⟨_, hiD rfl⟩
  have HS : Hid (∀ p c W, Below w.heap.size w W → Calls Tryz.prog 47 #[.slice p 0 c] W fun e w' => e = .returned (.string S) ∧ Below W.heap.size W w') := hiD (fun p c W hb => by rw [← HSE.out]; exact sum_any p 0 c [] W rfl (by omega) (HT.out.below hb) (.inl rfl))
  have HR : Hid (∀ p c W, Below w.heap.size w W → Calls Tryz.prog 48 #[.slice p 0 c] W fun e w' => e = .returned (.string S) ∧ Below W.heap.size W w') := hiD (fun p c W hb => by rw [← HSE.out]; exact rsum_any p 0 c [] W rfl (by omega) (.inl rfl))
  have HA : Hid (∀ W, Below w.heap.size w W → Calls Tryz.prog 21 #[] W fun e w' => e = .returned (.bool true) ∧ Below W.heap.size W w') := hiD fun W hb => awake_any W (HT.out.below hb)
  have HPQ : Hid (∀ W, Below w.heap.size w W → S.toList ≠ [] → Calls Tryz.prog 26 #[.string S, .string S] W fun e w' => e = .returned (.string S) ∧ Below W.heap.size W w') := hiD (fun W hb hs => by
    have h := add_q S S W (HT.out.below hb)
    have hne : sumT [] ≠ [] := by
      intro h; apply hs; rw [← HSE.out, ByteArray.toList_mk]; exact h
    have e : (⟨(opT (· + ·) S.data.toList S.data.toList).toArray⟩ : ByteArray) = S := by
      have hp := sum_parts [] 0 hne hne
      rw [← HSE.out]
      exact congrArg (fun l => (⟨List.toArray l⟩ : ByteArray)) hp
    unfold TxtPost at h
    rw [e] at h
    exact h)
  obtain ⟨q1, hs1⟩ := low0 p c
  obtain ⟨q2, hs2⟩ := high0 p c
  go_enter Tryz.func7, Tryz.ntmps7
  go_wp2_with fail
  go_loopw [6, 7] (fun v iv wr => v = .slice none 0 0 ∧ iv = .int .i64 (-1) ∧ w = wr) (fun _ _ _ => 0)
  case atStart => exact ⟨rfl, rfl, rfl⟩
  case round =>
    obtain ⟨rfl, rfl, rfl⟩ := hrel
    go_upto_region 11 with fail
    go_cut [6] (fun s6 wx => ∃ p6 c6, s6 = .slice p6 0 c6 ∧ w = wx)
    case first =>
      rcases q1 with _ | a1
      · go_wp2_with fail
        go_meet
        case rel => exact ⟨_, _, rfl, rfl⟩
      · go_wp2_with fail
        go_meet
        case rel => exact ⟨_, _, rfl, rfl⟩
    case rest =>
      obtain ⟨p6, c6, rfl, rfl⟩ := hcut
      go_wp2_with fail
      refine (HS.out _ _ _ (Below.refl _ _)).mono ?_
      rintro e w7 ⟨rfl, hb7⟩
      have HB7 := hiD hb7
      clear hb7
      go_upto_region 13 with fail
      go_cut [9, 10] (fun s9 s10 wx => s9 = .string S ∧ s10 = .string S ∧ Hid (Below w.heap.size w wx))
      case first =>
        go_region_with
          (first | (go_at_call 47; refine (HS.out _ _ _ HWA.out).mono ?_; rintro e wB ⟨rfl, hbB⟩; have HWB := hiD (HWA.out.trans (hbB.mono HWA.out.size)); clear hbB) | (go_at_call 47; refine (HS.out _ _ _ (HB7.out.trans (Below.refl _ _).drew)).mono ?_; rintro e wA ⟨rfl, hbA⟩; have HWA := hiD ((HB7.out.trans (Below.refl _ _).drew).trans (hbA.mono HB7.out.size)); clear hbA))
        all_goals
          go_wp2_with fail
          go_meet
          case rel => exact ⟨rfl, rfl, HWB⟩
      case rest =>
        obtain ⟨rfl, rfl, hm⟩ := hcut
        have HM := hiD hm.out
        clear hm
        go_wp2_with fail
        refine (HR.out _ _ _ HM.out).mono ?_
        rintro e w8 ⟨rfl, hb8⟩
        have HW8 := hiD (HM.out.trans (hb8.mono HM.out.size))
        clear hb8
        go_wp2_with fail
        refine (HS.out _ _ _ HW8.out).mono ?_
        rintro e w9 ⟨rfl, hb9⟩
        have HW9 := hiD (HW8.out.trans (hb9.mono HW8.out.size))
        clear hb9
        by_cases hA : S.toList = []
        · go_wp2_with fail
          refine (HA.out _ HW9.out).mono ?_
          rintro e wx ⟨rfl, hbx⟩
          have HWX := hiD (HW9.out.trans (hbx.mono HW9.out.size))
          clear hbx
          go_wp2_with fail
          go_ret
          exact ⟨rfl, HWX.out⟩
        · have HP9 := hiD (HPQ.out w9 HW9.out hA)
          go_wp2_with fail
          refine HP9.out.mono ?_
          rintro e wy ⟨rfl, hby⟩
          have HWY := hiD (HW9.out.trans (hby.mono HW9.out.size))
          clear hby HW9
          have HW9 := HWY
          clear HWY
          go_wp2_with fail
          refine (HA.out _ HW9.out).mono ?_
          rintro e wx ⟨rfl, hbx⟩
          have HWX := hiD (HW9.out.trans (hbx.mono HW9.out.size))
          clear hbx
          go_wp2_with fail
          go_ret
          exact ⟨rfl, HWX.out⟩
theorem sums_any (p : Option Addr) (n c k : Nat) (ss : List (List UInt8)) (w : World) (htab : Tab w) (hl : ss.length = n) (hc : n ≤ c) (hk : k < 256) (h : RdS w p ss) : Calls Tryz.prog 7 #[.slice p n c, .int .u8 k] w fun e w' => e = .returned (.bool true) ∧ Below w.heap.size w w' := by
  by_cases hn : 60 < n
  · exact sums_long p n c k w hn (hiD fun W hb => awake_any W (htab.below hb))
  · rcases Nat.eq_zero_or_pos n with h0 | h0
    · subst h0
      exact sums_zero p c k w htab
    · rcases id h with h1 | ⟨b, off, rfl, -⟩
      · rw [h1] at hl; simp at hl; omega
      · exact sums_short b off n c k _ ss w hl h0 (by omega) hc hk rfl h (hiD fun W hb => awake_any W (htab.below hb)) (hiD fun p n c ss W hl hn hb h => sum_any p n c ss W hl hn (htab.below hb) h) (hiD fun p n c ss W hl hn hb h => rsum_any p n c ss W hl hn h) (hiD fun x y W hb => add_q x y W (htab.below hb))
end Go.Proofs.YtoegbjmoecbjdaaGreatDoor
