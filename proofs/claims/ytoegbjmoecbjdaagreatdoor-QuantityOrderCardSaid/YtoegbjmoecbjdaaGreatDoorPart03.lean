/-  -/
import Derived.Test.YtoegbjmoecbjdaaGreatDoorPart02
import Derived.Deep.QuietTactic
import Derived.BigQuiet
import Derived.StillTailTactics
import Derived.BigRegion
set_option maxHeartbeats 1600000
set_option maxRecDepth 100000
namespace Go.Proofs.YtoegbjmoecbjdaaGreatDoor
open Go.RowKit Big
def DivPost (hi lo y : Nat) (w : World) (e : Ending) (w' : World) : Prop :=
  ∃ q r : Nat, e = .returned (.tuple #[.int .u64 (q : Int), .int .u64 (r : Int)]) ∧ w = w' ∧ q * y + r = hi * B64 + lo ∧ r < y
theorem div64_core (hi lo y s Y y1 y0 H Lq U N n1 n0 q0 r0 Q1 R1 q0' r0' Q0 R0 rem : Nat) (w : World) (h0 : 0 < hi) (hy : hi < y) (hyB : (y : Int) ≤ 18446744073709551615) (_hloB : (lo : Int) ≤ 18446744073709551615) (hs : s < 64)
    (hLZ : Hid ((64 - (Lib.bitLen y : Int)) = s))
    (hY : Hid (IntKind.u64.wrap ((y : Int) * 2 ^ s) = (Y : Int))) (hy1 : Hid ((Y : Int) / 4294967296 = y1)) (hy0 : Hid (bits .and .u64 (Y : Int) 4294967295 = y0))
    (hH : Hid (IntKind.u64.wrap ((hi : Int) * 2 ^ s) = (H : Int))) (hL : Hid ((lo : Int) / 2 ^ (64 - s) = Lq)) (hor : Hid (bits .or .u64 (H : Int) (Lq : Int) = U))
    (hN : Hid (IntKind.u64.wrap ((lo : Int) * 2 ^ s) = (N : Int))) (hn1 : Hid ((N : Int) / 4294967296 = n1)) (hn0 : Hid (bits .and .u64 (N : Int) 4294967295 = n0))
    (hq0 : Hid ((U : Int) / y1 = q0)) (hqy : (q0 : Int) * y1 ≤ 18446744073709551615) (hr0 : Hid ((U : Int) - q0 * y1 = r0)) (_hUq : (q0 : Int) * y1 ≤ U)
    (hR1 : Hid (IntKind.u64.wrap (IntKind.u64.wrap (IntKind.u64.wrap ((U : Int) * 4294967296) + n1) - IntKind.u64.wrap ((Q1 : Int) * Y)) = (R1 : Int)))
    (hq0' : Hid ((R1 : Int) / y1 = q0')) (hqy' : (q0' : Int) * y1 ≤ 18446744073709551615) (hr0' : Hid ((R1 : Int) - q0' * y1 = r0')) (hUq' : (q0' : Int) * y1 ≤ R1)
    (hR0 : Hid (IntKind.u64.wrap (IntKind.u64.wrap (IntKind.u64.wrap ((R1 : Int) * 4294967296) + n0) - IntKind.u64.wrap ((Q0 : Int) * Y)) = (R0 : Int))) (hrem : Hid ((R0 : Int) / 2 ^ s = rem))
    (b1 : (1 : Int) ≤ y1) (b2 : (y1 : Int) ≤ 4294967295) (b3 : (y0 : Int) ≤ 4294967295) (b4 : (n1 : Int) ≤ 4294967295) (b5 : (n0 : Int) ≤ 4294967295) (_b6 : (U : Int) ≤ 18446744073709551615) (b7 : (R1 : Int) ≤ 18446744073709551615)
    (b8 : (r0 : Int) ≤ 4294967295) (b9 : (r0' : Int) ≤ 4294967295) (b10 : (Q1 : Int) ≤ 4294967295) (b11 : (Q0 : Int) ≤ 4294967295)
    (b12 : (q0 : Int) ≤ 4294967297) (b13 : (q0' : Int) ≤ 4294967297)
    (g1 : Hid (Guess 4294967296 U y1 y0 n1 q0 r0)) (g2 : Hid (Guess 4294967296 R1 y1 y0 n0 q0' r0')) (e1 : Hid ((U * 4294967296 + n1) / (y1 * 4294967296 + y0) = Q1)) (e2 : Hid ((R1 * 4294967296 + n0) / (y1 * 4294967296 + y0) = Q0))
    (c1 : Hid (U < y1 * 4294967296 + y0)) (c2 : Hid (R1 < y1 * 4294967296 + y0)) (QQ : Nat) (hQQ : Hid (IntKind.u64.wrap (IntKind.u64.wrap ((Q1 : Int) * 4294967296) + Q0) = QQ)) (hfin : Hid (QQ * y + rem = hi * B64 + lo ∧ rem < y)) :
    Calls Tryz.prog 204 #[.int .u64 hi, .int .u64 lo, .int .u64 y] w (DivPost hi lo y w) := by
  go_enter Tryz.func204, Tryz.ntmps204
  go_wp2_with fail
  refine (Go.Proofs.Tryz.bits_LeadingZeros64 _ _ (by omega) (by omega)).mono ?_
  rintro e w' ⟨rfl, rfl⟩
  rw [show (64 - (Lib.bitLen (y : Int).toNat : Int)) = s from hLZ.out]
  have a1 := hY.out
  have a2 := hy1.out
  have a3 := hy0.out
  have a4 := hH.out
  have a5 := hL.out
  have a6 := hor.out
  have a7 := hN.out
  have a8 := hn1.out
  have a9 := hn0.out
  have a10 := hq0.out
  have hn0' : 0 ≤ (q0 : Int) * y1 := Int.mul_nonneg (by omega) (by omega)
  have hn1' : 0 ≤ (q0' : Int) * y1 := Int.mul_nonneg (by omega) (by omega)
  have a11 := hr0.out
  go_wp2_with fail
  have HB : Hid ((1 ≤ y1 ∧ y1 ≤ 4294967295) ∧ y0 ≤ 4294967295 ∧ n1 ≤ 4294967295 ∧ n0 ≤ 4294967295 ∧ Q1 ≤ 4294967295 ∧ Q0 ≤ 4294967295 ∧ r0 ≤ 4294967295 ∧ r0' ≤ 4294967295 ∧ q0 ≤ 4294967297 ∧ q0' ≤ 4294967297) := hiD (by omega)
  have HQ : Hid ((0 ≤ (q0' : Int) * y1 ∧ (q0' : Int) * y1 ≤ 18446744073709551615 ∧ (q0' : Int) * y1 ≤ R1) ∧ (R1 : Int) ≤ 18446744073709551615 ∧ (1 : Int) ≤ y1 ∧ (q0' : Int) ≤ 4294967297) := hiD (by omega)
  clear a1 a2 a3 a4 a5 a6 a7 a8 a9 a10 a11 hqy _hUq hqy' hUq' b1 b2 b3 b4 b5 _b6 b7 b8 b9 b10 b11 b12 b13 hyB _hloB h0 hy hn0' hn1'
  go_loop [15, 16] (fun qv rv => ∃ q r : Nat, qv = .int .u64 q ∧ rv = .int .u64 r ∧ Hid (Guess 4294967296 U y1 y0 n1 q r ∧ r ≤ 4294967295)) (fun qv _ => (intOf qv).toNat)
  case atStart => exact ⟨q0, r0, rfl, rfl, hiD ⟨g1.out, by have := HB.out; omega⟩⟩
  case round =>
    obtain ⟨q, r, rfl, rfl, hgr⟩ := hrel
    have hcase : Hid ((4294967296 ≤ q ∨ 4294967296 * r + n1 < q * y0)) ∨ Hid (q = Q1 ∧ q ≤ 4294967295 ∧ q * y0 ≤ 4294967296 * r + n1) := by
      by_cases ht : 4294967296 ≤ q ∨ 4294967296 * r + n1 < q * y0
      · exact .inl ht
      · refine .inr ⟨?_, by omega, by omega⟩
        rw [hgr.out.1.done (Nat.lt_of_le_of_lt (Nat.zero_le _) c1.out) (by omega)]
        exact e1.out
    obtain ⟨A, hA, eA⟩ : ∃ A : Nat, Hid (A = q * y0) ∧ IntKind.u64.wrap ((q : Int) * y0) = A := ⟨_, hiD rfl, by
      rw [← Int.natCast_mul, wrap_in _ (by
        have h1 : q * y0 ≤ 4294967297 * 4294967295 := Nat.mul_le_mul hgr.out.1.le HB.out.2.1
        rw [B64_eq]; omega)]⟩
    obtain ⟨C, hC, eC⟩ : ∃ C : Nat, Hid (C = 4294967296 * r + n1) ∧ IntKind.u64.wrap (IntKind.u64.wrap (4294967296 * (r : Int)) + n1) = C := ⟨4294967296 * r + n1, hiD rfl, by
      have h1 := hgr.out.2
      have h2 := HB.out
      rw [show (4294967296 : Int) * r = ((4294967296 * r : Nat) : Int) from by omega, wrap_in _ (by rw [B64_eq]; omega), ← Int.natCast_add, wrap_in _ (by rw [B64_eq]; omega)]⟩
    obtain ⟨r', hr', er'⟩ : ∃ r' : Nat, Hid (r' = r + y1) ∧ IntKind.u64.wrap ((r : Int) + y1) = r' := ⟨r + y1, hiD rfl, by
      have h1 := hgr.out.2
      have h2 := HB.out
      rw [← Int.natCast_add, wrap_in _ (by rw [B64_eq]; omega)]⟩
    rcases hcase with ht | hdone
    · obtain ⟨q', hq', eq'⟩ : ∃ q' : Nat, Hid (q = q' + 1 ∧ q' ≤ 4294967296 ∧ Guess 4294967296 U y1 y0 n1 q' r') ∧ IntKind.u64.wrap ((q : Int) - 1) = q' := by
        obtain ⟨h1, h2, h3⟩ := hgr.out.1.lower c1.out (by have := HB.out; omega) ht.out
        refine ⟨q - 1, hiD ⟨by omega, h3, by rw [hr'.out]; exact h1⟩, ?_⟩
        rw [show (q : Int) - 1 = ((q - 1 : Nat) : Int) from by omega, wrap_in _ (by rw [B64_eq]; omega)]
      have hmeas : Hid ((intOf (.int .u64 (q' : Int))).toNat < (intOf (.int .u64 (q : Int))).toNat) := by
        have := hq'.out.1; show _ < _; simp [intOf]; omega
      have hfork : (Hid (4294967296 ≤ q) ∧ decide ((4294967296 : Int) ≤ q) = true) ∨ (decide ((4294967296 : Int) ≤ q) = false ∧ decide (C < A) = true) := by
        by_cases h1 : 4294967296 ≤ q
        · exact .inl ⟨hiD h1, decide_eq_true (by omega)⟩
        · refine .inr ⟨decide_eq_false (by omega), decide_eq_true ?_⟩
          have := ht.out.resolve_left h1
          rw [hC.out, hA.out]; omega
      have hbrk : (Hid (r' ≤ 4294967295) ∧ decide ((4294967296 : Int) ≤ r') = false) ∨ (Hid (q' = Q1) ∧ decide ((4294967296 : Int) ≤ r') = true) := by
        by_cases h1 : 4294967296 ≤ r'
        · refine .inr ⟨?_, decide_eq_true (by omega)⟩
          show _ = _
          rw [hq'.out.2.2.done_break (Nat.lt_of_le_of_lt (Nat.zero_le _) c1.out) (by have := HB.out; omega) hq'.out.2.1 h1]
          exact e1.out
        · exact .inl ⟨hiD (by omega), decide_eq_false (by omega)⟩
      clear ht
      rcases hbrk with ⟨hb1, eb⟩ | ⟨hb1, eb⟩
      · rcases hfork with ⟨_, ef⟩ | ⟨ef, ef2⟩
        all_goals
          go_wp2
          go_round
          case rel => exact ⟨q', r', rfl, rfl, hiD ⟨hq'.out.2.2, hb1.out⟩⟩
          case measure => exact hmeas.out
      · rw [hb1.out] at eq' hq' hmeas
        clear hb1
        have k1 := hR1.out
        have k2 := hq0'.out
        have k3 := hr0'.out
        obtain ⟨⟨k4, k5, k6⟩, k7, k8, k9⟩ := HQ.out
        rcases hfork with ⟨_, ef⟩ | ⟨ef, ef2⟩
        all_goals
          go_wp2_with fail
          clear eq' er' eA eC eb
          try clear ef
          try clear ef2
          clear k1 k2 k3 k4 k5 k6 k7 k8 k9
          go_loop [18, 16] (fun qv rv => ∃ q r : Nat, qv = .int .u64 q ∧ rv = .int .u64 r ∧ Hid (Guess 4294967296 R1 y1 y0 n0 q r ∧ r ≤ 4294967295)) (fun qv _ => (intOf qv).toNat)
          case atStart => exact ⟨q0', r0', rfl, rfl, hiD ⟨g2.out, by have := HB.out; omega⟩⟩
          case round =>
            obtain ⟨q, r, rfl, rfl, hgr⟩ := hrel
            have hcase : Hid ((4294967296 ≤ q ∨ 4294967296 * r + n0 < q * y0)) ∨ Hid (q = Q0 ∧ q ≤ 4294967295 ∧ q * y0 ≤ 4294967296 * r + n0) := by
              by_cases ht : 4294967296 ≤ q ∨ 4294967296 * r + n0 < q * y0
              · exact .inl ht
              · refine .inr ⟨?_, by omega, by omega⟩
                rw [hgr.out.1.done (Nat.lt_of_le_of_lt (Nat.zero_le _) c2.out) (by omega)]
                exact e2.out
            obtain ⟨A, hA, eA⟩ : ∃ A : Nat, Hid (A = q * y0) ∧ IntKind.u64.wrap ((q : Int) * y0) = A := ⟨_, hiD rfl, by
              rw [← Int.natCast_mul, wrap_in _ (by
                have h1 : q * y0 ≤ 4294967297 * 4294967295 := Nat.mul_le_mul hgr.out.1.le HB.out.2.1
                rw [B64_eq]; omega)]⟩
            obtain ⟨C, hC, eC⟩ : ∃ C : Nat, Hid (C = 4294967296 * r + n0) ∧ IntKind.u64.wrap (IntKind.u64.wrap (4294967296 * (r : Int)) + n0) = C := ⟨4294967296 * r + n0, hiD rfl, by
              have h1 := hgr.out.2
              have h2 := HB.out
              rw [show (4294967296 : Int) * r = ((4294967296 * r : Nat) : Int) from by omega, wrap_in _ (by rw [B64_eq]; omega), ← Int.natCast_add, wrap_in _ (by rw [B64_eq]; omega)]⟩
            obtain ⟨r', hr', er'⟩ : ∃ r' : Nat, Hid (r' = r + y1) ∧ IntKind.u64.wrap ((r : Int) + y1) = r' := ⟨r + y1, hiD rfl, by
              have h1 := hgr.out.2
              have h2 := HB.out
              rw [← Int.natCast_add, wrap_in _ (by rw [B64_eq]; omega)]⟩
            rcases hcase with ht | hdone
            · obtain ⟨q', hq', eq'⟩ : ∃ q' : Nat, Hid (q = q' + 1 ∧ q' ≤ 4294967296 ∧ Guess 4294967296 R1 y1 y0 n0 q' r') ∧ IntKind.u64.wrap ((q : Int) - 1) = q' := by
                obtain ⟨h1, h2, h3⟩ := hgr.out.1.lower c2.out (by have := HB.out; omega) ht.out
                refine ⟨q - 1, hiD ⟨by omega, h3, by rw [hr'.out]; exact h1⟩, ?_⟩
                rw [show (q : Int) - 1 = ((q - 1 : Nat) : Int) from by omega, wrap_in _ (by rw [B64_eq]; omega)]
              have hmeas : Hid ((intOf (.int .u64 (q' : Int))).toNat < (intOf (.int .u64 (q : Int))).toNat) := by
                have := hq'.out.1; show _ < _; simp [intOf]; omega
              have hfork : (Hid (4294967296 ≤ q) ∧ decide ((4294967296 : Int) ≤ q) = true) ∨ (decide ((4294967296 : Int) ≤ q) = false ∧ decide (C < A) = true) := by
                by_cases h1 : 4294967296 ≤ q
                · exact .inl ⟨hiD h1, decide_eq_true (by omega)⟩
                · refine .inr ⟨decide_eq_false (by omega), decide_eq_true ?_⟩
                  have := ht.out.resolve_left h1
                  rw [hC.out, hA.out]; omega
              have hbrk : (Hid (r' ≤ 4294967295) ∧ decide ((4294967296 : Int) ≤ r') = false) ∨ (Hid (q' = Q0) ∧ decide ((4294967296 : Int) ≤ r') = true) := by
                by_cases h1 : 4294967296 ≤ r'
                · refine .inr ⟨?_, decide_eq_true (by omega)⟩
                  show _ = _
                  rw [hq'.out.2.2.done_break (Nat.lt_of_le_of_lt (Nat.zero_le _) c2.out) (by have := HB.out; omega) hq'.out.2.1 h1]
                  exact e2.out
                · exact .inl ⟨hiD (by omega), decide_eq_false (by omega)⟩
              clear ht
              rcases hbrk with ⟨hb1, eb⟩ | ⟨hb1, eb⟩
              · rcases hfork with ⟨_, ef⟩ | ⟨ef, ef2⟩
                all_goals
                  go_wp2
                  go_round
                  case rel => exact ⟨q', r', rfl, rfl, hiD ⟨hq'.out.2.2, hb1.out⟩⟩
                  case measure => exact hmeas.out
              · rw [hb1.out] at eq' hq' hmeas
                clear hb1
                have m1 := hR0.out
                have m2 := hrem.out
                have m3 := hQQ.out
                rcases hfork with ⟨_, ef⟩ | ⟨ef, ef2⟩
                all_goals
                  go_wp2_with fail
                  clear eq' er' eA eC eb
                  try clear ef
                  try clear ef2
                  go_ret2
                  exact ⟨QQ, rem, rfl, rfl, hfin.out⟩
            · have hfork : decide ((4294967296 : Int) ≤ q) = false ∧ decide (C < A) = false := by
                have h1 := hdone.out
                exact ⟨decide_eq_false (by omega), decide_eq_false (by rw [hC.out, hA.out]; omega)⟩
              obtain ⟨ef, ef2⟩ := hfork
              have Hq := hdone.out.1
              clear hdone er'
              subst Hq
              have m1 := hR0.out
              have m2 := hrem.out
              have m3 := hQQ.out
              go_wp2_with fail
              clear eA eC ef ef2
              go_ret2
              exact ⟨QQ, rem, rfl, rfl, hfin.out⟩
    · have hfork : decide ((4294967296 : Int) ≤ q) = false ∧ decide (C < A) = false := by
        have h1 := hdone.out
        exact ⟨decide_eq_false (by omega), decide_eq_false (by rw [hC.out, hA.out]; omega)⟩
      obtain ⟨ef, ef2⟩ := hfork
      have Hq := hdone.out.1
      clear hdone er'
      subst Hq
      have k1 := hR1.out
      have k2 := hq0'.out
      have k3 := hr0'.out
      obtain ⟨⟨k4, k5, k6⟩, k7, k8, k9⟩ := HQ.out
      go_wp2_with fail
      clear eA eC ef ef2
      clear k1 k2 k3 k4 k5 k6 k7 k8 k9
      go_loop [18, 16] (fun qv rv => ∃ q r : Nat, qv = .int .u64 q ∧ rv = .int .u64 r ∧ Hid (Guess 4294967296 R1 y1 y0 n0 q r ∧ r ≤ 4294967295)) (fun qv _ => (intOf qv).toNat)
      case atStart => exact ⟨q0', r0', rfl, rfl, hiD ⟨g2.out, by have := HB.out; omega⟩⟩
      case round =>
        obtain ⟨q, r, rfl, rfl, hgr⟩ := hrel
        have hcase : Hid ((4294967296 ≤ q ∨ 4294967296 * r + n0 < q * y0)) ∨ Hid (q = Q0 ∧ q ≤ 4294967295 ∧ q * y0 ≤ 4294967296 * r + n0) := by
          by_cases ht : 4294967296 ≤ q ∨ 4294967296 * r + n0 < q * y0
          · exact .inl ht
          · refine .inr ⟨?_, by omega, by omega⟩
            rw [hgr.out.1.done (Nat.lt_of_le_of_lt (Nat.zero_le _) c2.out) (by omega)]
            exact e2.out
        obtain ⟨A, hA, eA⟩ : ∃ A : Nat, Hid (A = q * y0) ∧ IntKind.u64.wrap ((q : Int) * y0) = A := ⟨_, hiD rfl, by
          rw [← Int.natCast_mul, wrap_in _ (by
            have h1 : q * y0 ≤ 4294967297 * 4294967295 := Nat.mul_le_mul hgr.out.1.le HB.out.2.1
            rw [B64_eq]; omega)]⟩
        obtain ⟨C, hC, eC⟩ : ∃ C : Nat, Hid (C = 4294967296 * r + n0) ∧ IntKind.u64.wrap (IntKind.u64.wrap (4294967296 * (r : Int)) + n0) = C := ⟨4294967296 * r + n0, hiD rfl, by
          have h1 := hgr.out.2
          have h2 := HB.out
          rw [show (4294967296 : Int) * r = ((4294967296 * r : Nat) : Int) from by omega, wrap_in _ (by rw [B64_eq]; omega), ← Int.natCast_add, wrap_in _ (by rw [B64_eq]; omega)]⟩
        obtain ⟨r', hr', er'⟩ : ∃ r' : Nat, Hid (r' = r + y1) ∧ IntKind.u64.wrap ((r : Int) + y1) = r' := ⟨r + y1, hiD rfl, by
          have h1 := hgr.out.2
          have h2 := HB.out
          rw [← Int.natCast_add, wrap_in _ (by rw [B64_eq]; omega)]⟩
        rcases hcase with ht | hdone
        · obtain ⟨q', hq', eq'⟩ : ∃ q' : Nat, Hid (q = q' + 1 ∧ q' ≤ 4294967296 ∧ Guess 4294967296 R1 y1 y0 n0 q' r') ∧ IntKind.u64.wrap ((q : Int) - 1) = q' := by
            obtain ⟨h1, h2, h3⟩ := hgr.out.1.lower c2.out (by have := HB.out; omega) ht.out
            refine ⟨q - 1, hiD ⟨by omega, h3, by rw [hr'.out]; exact h1⟩, ?_⟩
            rw [show (q : Int) - 1 = ((q - 1 : Nat) : Int) from by omega, wrap_in _ (by rw [B64_eq]; omega)]
          have hmeas : Hid ((intOf (.int .u64 (q' : Int))).toNat < (intOf (.int .u64 (q : Int))).toNat) := by
            have := hq'.out.1; show _ < _; simp [intOf]; omega
          have hfork : (Hid (4294967296 ≤ q) ∧ decide ((4294967296 : Int) ≤ q) = true) ∨ (decide ((4294967296 : Int) ≤ q) = false ∧ decide (C < A) = true) := by
            by_cases h1 : 4294967296 ≤ q
            · exact .inl ⟨hiD h1, decide_eq_true (by omega)⟩
            · refine .inr ⟨decide_eq_false (by omega), decide_eq_true ?_⟩
              have := ht.out.resolve_left h1
              rw [hC.out, hA.out]; omega
          have hbrk : (Hid (r' ≤ 4294967295) ∧ decide ((4294967296 : Int) ≤ r') = false) ∨ (Hid (q' = Q0) ∧ decide ((4294967296 : Int) ≤ r') = true) := by
            by_cases h1 : 4294967296 ≤ r'
            · refine .inr ⟨?_, decide_eq_true (by omega)⟩
              show _ = _
              rw [hq'.out.2.2.done_break (Nat.lt_of_le_of_lt (Nat.zero_le _) c2.out) (by have := HB.out; omega) hq'.out.2.1 h1]
              exact e2.out
            · exact .inl ⟨hiD (by omega), decide_eq_false (by omega)⟩
          clear ht
          rcases hbrk with ⟨hb1, eb⟩ | ⟨hb1, eb⟩
          · rcases hfork with ⟨_, ef⟩ | ⟨ef, ef2⟩
            all_goals
              go_wp2
              go_round
              case rel => exact ⟨q', r', rfl, rfl, hiD ⟨hq'.out.2.2, hb1.out⟩⟩
              case measure => exact hmeas.out
          · rw [hb1.out] at eq' hq' hmeas
            clear hb1
            have m1 := hR0.out
            have m2 := hrem.out
            have m3 := hQQ.out
            rcases hfork with ⟨_, ef⟩ | ⟨ef, ef2⟩
            all_goals
              go_wp2_with fail
              clear eq' er' eA eC eb
              try clear ef
              try clear ef2
              go_ret2
              exact ⟨QQ, rem, rfl, rfl, hfin.out⟩
        · have hfork : decide ((4294967296 : Int) ≤ q) = false ∧ decide (C < A) = false := by
            have h1 := hdone.out
            exact ⟨decide_eq_false (by omega), decide_eq_false (by rw [hC.out, hA.out]; omega)⟩
          obtain ⟨ef, ef2⟩ := hfork
          have Hq := hdone.out.1
          clear hdone er'
          subst Hq
          have m1 := hR0.out
          have m2 := hrem.out
          have m3 := hQQ.out
          go_wp2_with fail
          clear eA eC ef ef2
          go_ret2
          exact ⟨QQ, rem, rfl, rfl, hfin.out⟩
def DivPost' (hi lo y : Nat) (w : World) (e : Ending) (w' : World) : Prop :=
  ∃ q r : Nat, e = .returned (.tuple #[.int .u64 (q : Int), .int .u64 (r : Int)]) ∧ (∃ k, w.drewN k = w') ∧ q * y + r = hi * B64 + lo ∧ r < y
theorem ret_pair {k : IntKind} {a b c d : Int} (h : a = b) (h2 : c = d) : Ending.returned (.tuple #[.int k a, .int k c]) = .returned (.tuple #[.int k b, .int k d]) := by rw [h, h2]
theorem div64_zero (lo y : Nat) (w : World) (hy : 0 < y) (hyB : (y : Int) ≤ 18446744073709551615) (hloB : (lo : Int) ≤ 18446744073709551615) :
    Calls Tryz.prog 204 #[.int .u64 0, .int .u64 lo, .int .u64 y] w (DivPost' 0 lo y w) := by
  have hq : Hid (lo / y * y + lo % y = 0 * B64 + lo ∧ lo % y < y) := hiD ⟨by rw [Nat.mul_comm, Nat.div_add_mod]; omega, Nat.mod_lt _ hy⟩
  have hy1 : (1 : Int) ≤ y := by omega
  have hlo0 : (0 : Int) ≤ lo := by omega
  have h1 : ((y : Int) == 0) = false := by rw [beq_eq_false_iff_ne]; omega
  have e1 : IntKind.u64.wrap ((lo : Int) / y) = ((lo / y : Nat) : Int) := by
    rw [← Int.natCast_ediv, wrap_in _ (by have := Nat.div_le_self lo y; rw [B64_eq]; omega)]
  obtain ⟨q, hqq⟩ : ∃ q, Hid (q = lo / y) := ⟨_, hiD rfl⟩
  obtain ⟨r, hrr⟩ : ∃ r, Hid (r = lo % y) := ⟨_, hiD rfl⟩
  have e2 : (lo : Int) % y = (r : Int) := by rw [hrr.out]; exact (Int.natCast_emod _ _).symm
  have e3 : (lo : Int) / y = (q : Int) := by rw [hqq.out]; exact (Int.natCast_ediv _ _).symm
  have hqle : (q : Int) ≤ 18446744073709551615 := by have := Nat.div_le_self lo y; rw [hqq.out]; omega
  rw [← hqq.out, ← hrr.out] at hq
  have E2 := hiD e2
  clear e1 e2
  go_enter Tryz.func204, Tryz.ntmps204
  go_wp2_with fail
  go_quiet (fail)
  go_wp2_with fail
  go_ret2
  exact ⟨q, r, ret_pair rfl E2.out, ⟨_, rfl⟩, hq.out⟩
theorem wrap3 (a b c : Int) : IntKind.u64.wrap (IntKind.u64.wrap (IntKind.u64.wrap a + b) - IntKind.u64.wrap c) = IntKind.u64.wrap (a + b - c) := by
  simp only [IntKind.wrap_u64]; omega
theorem digit_facts (U Y y1 y0 n : Nat) (hY : Y = y1 * 4294967296 + y0) (h1 : 2147483648 ≤ y1) (h2 : y1 ≤ 4294967295) (h3 : y0 ≤ 4294967295) (hU : U < Y) (hn : n ≤ 4294967295) :
    (U : Int) / y1 = ((U / y1 : Nat) : Int) ∧ (((U / y1 : Nat) : Int) * y1 ≤ 18446744073709551615) ∧ (U : Int) - ((U / y1 : Nat) : Int) * y1 = ((U % y1 : Nat) : Int) ∧ ((U / y1 : Nat) : Int) * y1 ≤ U ∧
    IntKind.u64.wrap (IntKind.u64.wrap (IntKind.u64.wrap ((U : Int) * 4294967296) + n) - IntKind.u64.wrap ((((U * 4294967296 + n) / Y : Nat) : Int) * Y)) = (((U * 4294967296 + n) % Y : Nat) : Int) ∧
    U % y1 ≤ 4294967295 ∧ U / y1 ≤ 4294967297 ∧ (U * 4294967296 + n) / Y ≤ 4294967295 ∧ (U * 4294967296 + n) % Y < Y ∧ Guess 4294967296 U y1 y0 n (U / y1) (U % y1) := by
  have hy1 : 0 < y1 := by omega
  have hYp : 0 < Y := by omega
  have hg : Guess 4294967296 U y1 y0 n (U / y1) (U % y1) := Guess.start (by omega) hy1 (by omega) (by omega) (by omega)
  have hle : U / y1 * y1 ≤ U := Nat.div_mul_le_self _ _
  have hle' : ((U / y1 * y1 : Nat) : Int) ≤ U := by omega
  rw [Int.natCast_mul] at hle'
  have hdm := Nat.div_add_mod U y1
  have hmod : U % y1 < y1 := Nat.mod_lt _ hy1
  have hU64 : U < B64 := by rw [B64_eq]; omega
  have hRlt : (U * 4294967296 + n) % Y < Y := Nat.mod_lt _ hYp
  refine ⟨(Int.natCast_ediv _ _).symm, by rw [B64_eq] at hU64; omega, ?_, hle', ?_, by omega, hg.le, ?_, hRlt, hg⟩
  · have h4 : ((y1 * (U / y1) + U % y1 : Nat) : Int) = (U : Int) := by rw [hdm]
    rw [Int.natCast_add, Int.natCast_mul, Int.mul_comm] at h4
    omega
  · rw [wrap3]
    have h4 := Nat.div_add_mod (U * 4294967296 + n) Y
    have h5 : ((Y * ((U * 4294967296 + n) / Y) + (U * 4294967296 + n) % Y : Nat) : Int) = (U : Int) * 4294967296 + n := by rw [h4]; omega
    rw [Int.natCast_add, Int.natCast_mul, Int.mul_comm] at h5
    rw [← h5]
    have h6 : ∀ a b : Int, a + b - a = b := by intro a b; omega
    rw [h6, wrap_in _ (by rw [B64_eq]; omega)]
  · have := digit_lt_base (b := 4294967296) hU (show n < 4294967296 by omega)
    omega
theorem div64_any (hi lo y : Nat) (w : World) (hy : hi < y) (hyB : y < B64) (hloB : lo < B64) : Calls Tryz.prog 204 #[.int .u64 hi, .int .u64 lo, .int .u64 y] w (DivPost' hi lo y w) := by
  have hyB' : (y : Int) ≤ 18446744073709551615 := lt64 hyB
  have hloB' : (lo : Int) ≤ 18446744073709551615 := lt64 hloB
  by_cases h0 : hi = 0
  · subst h0
    exact div64_zero lo y w hy hyB' hloB'
  · obtain ⟨s, hLZ, hs, hYB, hY63⟩ := lz_facts y (by omega) hyB
    obtain ⟨p1, p2, p3, p4, p5, p6, p7, p8⟩ := div64_parts hi lo y s hy hs hloB hYB
    obtain ⟨Y, hY⟩ : ∃ Y, Y = y * 2 ^ s := ⟨_, rfl⟩
    obtain ⟨H, hH⟩ : ∃ H, H = hi * 2 ^ s := ⟨_, rfl⟩
    obtain ⟨Lq, hL⟩ : ∃ L, L = lo / 2 ^ (64 - s) := ⟨_, rfl⟩
    obtain ⟨U, hU⟩ : ∃ U, U = H + Lq := ⟨_, rfl⟩
    obtain ⟨Nn, hN⟩ : ∃ N, N = lo % 2 ^ (64 - s) * 2 ^ s := ⟨_, rfl⟩
    rw [← hY] at hYB hY63 p1 p7
    rw [← hH] at p2 p5 p6 p7
    rw [← hL] at p3 p5 p6 p7
    rw [← hU] at p5 p6 p7
    rw [← hN] at p4 p6 p8
    have hYs : Y = Y / 4294967296 * 4294967296 + Y % 4294967296 := by omega
    rw [B64_eq] at hYB p8
    have f1 := digit_facts U Y (Y / 4294967296) (Y % 4294967296) (Nn / 4294967296) hYs (by omega) (by omega) (by omega) p7 (by omega)
    obtain ⟨a1, a2, a3, a4, a5, a6, a7, a8, a9, a10⟩ := f1
    have f2 := digit_facts ((U * 4294967296 + Nn / 4294967296) % Y) Y (Y / 4294967296) (Y % 4294967296) (Nn % 4294967296) hYs (by omega) (by omega) (by omega) a9 (by omega)
    obtain ⟨c1, c2, c3, c4, c5, c6, c7, c8, c9, c10⟩ := f2
    have htwo := two_digits (b := 4294967296) (u := U) (Y := Y) (n1 := Nn / 4294967296) (n0 := Nn % 4294967296)
    have hNs : Nn / 4294967296 * 4294967296 + Nn % 4294967296 = Nn := Nat.div_add_mod' _ _
    rw [hNs] at htwo
    have hrem := c9
    obtain ⟨R1, hR1⟩ : ∃ R, R = (U * 4294967296 + Nn / 4294967296) % Y := ⟨_, rfl⟩
    obtain ⟨Q1, hQ1⟩ : ∃ Q, Q = (U * 4294967296 + Nn / 4294967296) / Y := ⟨_, rfl⟩
    rw [← hR1] at a5 a9 c1 c2 c3 c4 c5 c6 c7 c8 c9 c10 htwo hrem
    rw [← hQ1] at a5 a8 htwo
    obtain ⟨R0, hR0⟩ : ∃ R, R = (R1 * 4294967296 + Nn % 4294967296) % Y := ⟨_, rfl⟩
    obtain ⟨Q0, hQ0⟩ : ∃ Q, Q = (R1 * 4294967296 + Nn % 4294967296) / Y := ⟨_, rfl⟩
    rw [← hR0] at c5 c9 htwo hrem
    rw [← hQ0] at c5 c8 htwo
    have hsc : (hi * B64 + lo) * 2 ^ s = (Q1 * 4294967296 + Q0) * (y * 2 ^ s) + R0 := by
      rw [← hY, ← htwo, ← p6]; rfl
    obtain ⟨g1, g2⟩ := scaled (Nat.pow_pos (by omega)) (by omega) hsc (by rw [← hY]; exact hrem)
    have hpow : (R0 : Int) / 2 ^ s = ((R0 / 2 ^ s : Nat) : Int) := by push_cast; rfl
    have e1 : (U * 4294967296 + Nn / 4294967296) / (Y / 4294967296 * 4294967296 + Y % 4294967296) = Q1 := by rw [← hYs]; exact hQ1.symm
    have e2 : (R1 * 4294967296 + Nn % 4294967296) / (Y / 4294967296 * 4294967296 + Y % 4294967296) = Q0 := by rw [← hYs]; exact hQ0.symm
    refine (div64_core hi lo y s Y (Y / 4294967296) (Y % 4294967296) H Lq U Nn (Nn / 4294967296) (Nn % 4294967296) (U / (Y / 4294967296)) (U % (Y / 4294967296)) Q1 R1 (R1 / (Y / 4294967296)) (R1 % (Y / 4294967296)) Q0 R0 (R0 / 2 ^ s) w (by omega) hy hyB' hloB' hs hLZ
      (hiD p1) (hiD (by omega)) (hiD (and_mask Y (by rw [B64_eq]; exact hYB))) (hiD p2) (hiD p3) (hiD p5) (hiD p4) (hiD (by omega)) (hiD (and_mask Nn (by rw [B64_eq]; exact p8)))
      (hiD a1) a2 (hiD a3) a4 (hiD a5) (hiD c1) c2 (hiD c3) c4 (hiD c5) (hiD hpow) (by omega) (by omega) (by omega) (by omega) (by omega) (by omega) (by omega) (by omega) (by omega) (by omega) (by omega) (by omega) (by omega)
      (hiD a10) (hiD c10) (hiD e1) (hiD e2) (hiD (by rw [← hYs]; exact p7)) (hiD (by rw [← hYs]; exact a9)) (Q1 * 4294967296 + Q0) (hiD ?_) (hiD ⟨?_, ?_⟩)).mono ?_
    · rw [show (Q1 : Int) * 4294967296 = ((Q1 * 4294967296 : Nat) : Int) from by omega, wrap_in _ (by rw [B64_eq]; omega), ← Int.natCast_add, wrap_in _ (by rw [B64_eq]; omega)]
    · rw [g1, g2, Nat.mul_comm, Nat.div_add_mod]
    · rw [g2]; exact Nat.mod_lt _ (by omega)
    · rintro e w' ⟨q, r, h1, h2, h3⟩
      exact ⟨q, r, h1, ⟨0, by rw [← h2]; rfl⟩, h3⟩
theorem drop_succ_val (l : List Nat) (k : Nat) (hk : k < l.length) : val B64 (l.drop k) = l.getD k 0 + B64 * val B64 (l.drop (k + 1)) := by
  rw [List.drop_eq_getElem_cons hk, val_cons, List.getD_eq_getElem?_getD, List.getElem?_eq_getElem hk]; rfl
theorem limb_step {q w r r' a X Y B : Nat} (h : q * w + r' = r * B + a) (hX : Y * w + r = X) : (q + B * Y) * w + r' = a + B * X := by
  subst hX; grind
theorem quo_lt {q d r r' a B : Nat} (he : q * d + r' = r * B + a) (hr : r < d) (ha : a < B) : q < B := by
  apply Nat.lt_of_mul_lt_mul_right (a := d)
  have h2 : (r + 1) * B ≤ d * B := Nat.mul_le_mul_right _ hr
  have h3 : (r + 1) * B = r * B + B := by grind
  have h4 : B * d = d * B := Nat.mul_comm _ _
  omega
def LimbPost (x d : Nat) (w : World) (e : Ending) (w' : World) : Prop :=
  ∃ v, e = .returned (.tuple #[v, .int .u64 ((x % d : Nat) : Int)]) ∧ NatAt w' v (x / d) ∧ Below w.heap.size w w'
theorem dividedByLimb_any (p : Option Addr) (n c : Nat) (x : List Nat) (d : Nat) (w : World) (hn0 : n ≤ most) (hx : Rd w p n x) (dx : Dig B64 x) (hd : 0 < d) (hdB : d < B64) :
    Calls Tryz.prog 169 #[.slice p n c, .int .u64 d] w (LimbPost (val B64 x) d w) := by
  obtain ⟨i0, hi, hz0, hz1, hz2⟩ := info_parts info79
  have hn : (n : Int) ≤ 4294967296 := by unfold most at hn0; omega
  go_enter Tryz.func169, Tryz.ntmps169
  go_wp2_with (at_make; refine wpList_make_full _ rfl _ _ 64 rfl w.heap.size 76 i0 (.int .u64 0) 1 Tryz.underlying64 hi hz0 hz1 _ _ _ _ n rfl rfl (by omega) (by omega) ?b2 ?b3 (Nat.le_refl _) ?_)
  case b2 => rw [hz2]; unfold most at hn0; omega
  case b3 => unfold maxLen; unfold most at hn0; omega
  intro w1 hown hgrow
  have hr1 : Row w1 w.heap.size 76 (List.replicate n 0) := row_of_made hown
  have hb1 : Below w.heap.size w w1 := (Below.refl _ _).grown hgrow (Nat.le_refl _) (fun k h => by cases h)
  have hx1 := hx.below hb1
  clear hown hgrow
  have hlx : Hid (x.length = n) := hiD hx.len
  go_wp2_with fail
  go_loopw [7, 8] (fun rv i wr => ∃ (k : Nat) (z : Int) (r : Nat) (L : List Nat), k ≤ n ∧ i = .int .i64 z ∧ z + 1 = k ∧ rv = .int .u64 r ∧ Hid (r < d ∧ L.length = n ∧ Dig B64 (L.drop k) ∧ val B64 (L.drop k) * d + r = val B64 (x.drop k)) ∧ Row wr w.heap.size 76 L ∧ Below w.heap.size w wr) (fun _ i _ => (intOf i + 1).toNat)
  case atStart => exact ⟨n, (n : Int) - 1, 0, _, Nat.le_refl _, rfl, by omega, rfl, hiD ⟨hd, by simp, by rw [List.drop_of_length_le (by simp)]; exact Dig.nil _, by rw [List.drop_of_length_le (by simp), List.drop_of_length_le (by rw [hlx.out]; omega)]; simp [val]⟩, hr1, hb1⟩
  case round =>
    obtain ⟨k, z, r, L, hk, rfl, hz, rfl, hinv, hr, hb⟩ := hrel
    by_cases h0 : k = 0
    · obtain rfl : z = -1 := by omega
      subst h0
      have hfin : Hid (val B64 L = val B64 x / d ∧ r = val B64 x % d ∧ Dig B64 L ∧ L.length = n) := by
        obtain ⟨g1, g2, g3, g4⟩ := hinv.out
        rw [List.drop_zero] at g3 g4
        rw [List.drop_zero] at g4
        refine ⟨?_, ?_, g3, g2⟩
        · rw [← g4, Nat.mul_comm, Nat.mul_add_div hd, Nat.div_eq_of_lt g1]; rfl
        · rw [← g4, Nat.mul_comm, Nat.mul_add_mod, Nat.mod_eq_of_lt g1]
      have ht := trimmed_nat (some ⟨w.heap.size, 0, none⟩) n n L w wr (by unfold maxLen; omega) (Nat.le_refl _) (hr.rd0 n hfin.out.2.2.2.symm) hfin.out.2.2.1 hb
      have Ht := hiD ht
      clear ht hz
      go_wp2_with fail
      refine Ht.out.mono ?_
      rintro e w4 ⟨v, rfl, hv, hb4⟩
      rw [hfin.out.1] at hv
      rw [hfin.out.2.1]
      go_wp2_with fail
      go_ret2
      exact ⟨v, rfl, hv, hb4⟩
    · obtain ⟨j, rfl⟩ : ∃ j : Nat, z = j := ⟨z.toNat, by omega⟩
      obtain rfl : k = j + 1 := by omega
      clear hz h0
      obtain ⟨b1, o1, a, rfl, hb1', hc1, ha⟩ := hx.at (k := j) (by omega)
      have hc : wr.cell? ⟨b1, o1 + j, none⟩ = some (.int .u64 (a : Int)) := (hb.cell (p := ⟨b1, o1 + j, none⟩) hb1').trans hc1
      have hf := hr.free j
      have hcell := hr.cell j (by rw [hinv.out.2.1]; omega)
      have da : a < B64 := by rw [← ha.out]; exact dx.getD B64_pos j
      have hdiv := div64_any r a d wr hinv.out.1 hdB da
      have Hdiv := hiD hdiv
      have hj : (j : Int) < n := by omega
      clear hdiv hc1
      go_wp2_with fail
      refine Hdiv.out.mono ?_
      rintro e w3 ⟨q, r', rfl, ⟨t, rfl⟩, he, hlt⟩
      have hq : q < B64 := quo_lt he hinv.out.1 da
      have hinv' : Hid (r' < d ∧ (L.set j q).length = n ∧ Dig B64 ((L.set j q).drop j) ∧ val B64 ((L.set j q).drop j) * d + r' = val B64 (x.drop j)) := by
        obtain ⟨g1, g2, g3, g4⟩ := hinv.out
        have hjl : j < (L.set j q).length := by rw [List.length_set]; omega
        have hd1 : (L.set j q).drop (j + 1) = L.drop (j + 1) := by rw [List.drop_set_of_lt (by omega)]
        have hgj : (L.set j q).getD j 0 = q := by rw [List.getD_eq_getElem?_getD, List.getElem?_set_self (by omega)]; rfl
        refine ⟨hlt, by rw [List.length_set]; exact g2, ?_, ?_⟩
        · rw [List.drop_eq_getElem_cons hjl, hd1]
          have : (L.set j q)[j] = q := by simp
          rw [this]
          exact (Dig.one hq).append g3
        · rw [drop_succ_val _ j hjl, hd1, hgj, drop_succ_val x j (by rw [hlx.out]; omega), ha.out]
          exact limb_step he g4
      have hr3 : Row (wr.drewN t) w.heap.size 76 L := hr
      have hb3 : Below w.heap.size w (wr.drewN t) := hb.trans (below_drewN _ _ _)
      clear he hlt
      go_wp2_with fail
      go_roundw
      case rel => exact ⟨j, (j : Int) - 1, r', _, by omega, rfl, by omega, rfl, hinv', hr3.set _ _, hb3.setCell (Nat.le_refl _) _⟩
      case measure => simp [intOf]
theorem shl_digit (a b s : Nat) (hs : s < 64) (hb : b < B64) : ∃ A Bq C : Nat, IntKind.u64.wrap ((a : Int) * 2 ^ s) = A ∧ (b : Int) / 2 ^ (64 - s) = Bq ∧ bits .or .u64 (A : Int) (Bq : Int) = C ∧
    Hid (C = a % 2 ^ (64 - s) * 2 ^ s + b / 2 ^ (64 - s) ∧ A = a % 2 ^ (64 - s) * 2 ^ s ∧ C < B64 ∧ A < B64) := by
  have hpq : 2 ^ s * 2 ^ (64 - s) = B64 := by rw [← Nat.pow_add, show s + (64 - s) = 64 from by omega]; rfl
  have hq : 0 < 2 ^ (64 - s) := Nat.pow_pos (by omega)
  have hp : 0 < 2 ^ s := Nat.pow_pos (by omega)
  have hL : b / 2 ^ (64 - s) < 2 ^ s := by rw [Nat.div_lt_iff_lt_mul hq, hpq]; exact hb
  have hM : a % 2 ^ (64 - s) < 2 ^ (64 - s) := Nat.mod_lt _ hq
  have h1 : (a % 2 ^ (64 - s) + 1) * 2 ^ s ≤ 2 ^ (64 - s) * 2 ^ s := Nat.mul_le_mul_right _ hM
  rw [Nat.add_mul, Nat.one_mul, Nat.mul_comm (2 ^ (64 - s)), hpq] at h1
  refine ⟨a % 2 ^ (64 - s) * 2 ^ s, b / 2 ^ (64 - s), a % 2 ^ (64 - s) * 2 ^ s + b / 2 ^ (64 - s), ?_, by push_cast; rfl, ?_, hiD ⟨rfl, rfl, by omega, by omega⟩⟩
  · rw [cast_pow, wrap_mod]
    congr 1
    rw [← hpq, Nat.mul_comm (2 ^ s), Nat.mul_mod_mul_right]
  · exact or_parts _ _ s hL (by have := Nat.div_le_self b (2 ^ (64 - s)); omega) (by omega)
theorem pow_split (s : Nat) (hs : s < 64) : 2 ^ s * 2 ^ (64 - s) = B64 := by rw [← Nat.pow_add, show s + (64 - s) = 64 from by omega]; rfl
theorem shl_step {B P Q a bq Z X : Nat} (hB : P * Q = B) (h : Z = P * X + a / Q) : (a % Q * P + bq) + B * Z = P * (a + B * X) + bq := by
  have := Nat.div_add_mod a Q
  generalize a / Q = d at *
  generalize a % Q = m at *
  subst h
  rw [← this, ← hB]; grind
def ShlPost (x s n : Nat) (w : World) (e : Ending) (w' : World) : Prop :=
  ∃ L, e = .returned (.slice (some ⟨w.heap.size, 0, none⟩) (n + 1) (n + 1)) ∧ Row w' w.heap.size 76 L ∧ L.length = n + 1 ∧ Dig B64 L ∧ val B64 L = 2 ^ s * x ∧ Below w.heap.size w w'
theorem shifted_any (p : Option Addr) (n c : Nat) (x : List Nat) (s : Nat) (w : World) (hn0 : n ≤ most) (hx : Rd w p n x) (dx : Dig B64 x) (hs : s < 64) :
    Calls Tryz.prog 171 #[.slice p n c, .int .i64 s] w (ShlPost (val B64 x) s n w) := by
  obtain ⟨i0, hi, hz0, hz1, hz2⟩ := info_parts info79
  have hn : (n : Int) ≤ 4294967296 := by unfold most at hn0; omega
  go_enter Tryz.func171, Tryz.ntmps171
  go_wp2_with (at_make; refine wpList_make_full _ rfl _ _ 64 rfl w.heap.size 76 i0 (.int .u64 0) 1 Tryz.underlying64 hi hz0 hz1 _ _ _ _ (n + 1) rfl rfl (by omega) (by omega) ?b2 ?b3 (Nat.le_refl _) ?_)
  case b2 => rw [hz2]; unfold most at hn0; omega
  case b3 => unfold maxLen; unfold most at hn0; omega
  intro w1 hown hgrow
  have hr1 : Row w1 w.heap.size 76 (List.replicate (n + 1) 0) := row_of_made hown
  have hb1 : Below w.heap.size w w1 := (Below.refl _ _).grown hgrow (Nat.le_refl _) (fun k h => by cases h)
  have hx1 := hx.below hb1
  clear hown hgrow
  go_wp2_with (refine wpList_copy_splice (o := ⟨some 13, _, _, _, _, _⟩) rfl (.tmp 11) (.tmp 12) 64 64 rfl 76 Tryz.underlying64 (by kernel_rfl) _ _ _ _ _ _ rfl rfl w.heap.size 0 (u64s (List.replicate (n + 1) 0)) 76 hr1 (u64s x) ?c1 ?c2 ?c3 (u64s_one x) w.heap.size w hb1 (Nat.le_refl _) ?_)
  case c1 => rw [u64s_length, hx.len]; exact (Nat.min_eq_left (by omega)).symm
  case c2 => exact fun h => hx1.cells h
  case c3 => rw [u64s_length, u64s_length, hx.len, List.length_replicate]; omega
  intro w2 hr2 hb2
  have hr : Row w2 w.heap.size 76 (x ++ List.replicate (n + 1 - n) 0) := by
    have := hr2.out
    rw [u64s_splice _ x _ _ rfl, splice_head x (n + 1) (by rw [hx.len]; omega), hx.len] at this
    exact this
  have hlen : (x ++ List.replicate (n + 1 - n) 0).length = n + 1 := by rw [List.length_append, List.length_replicate, hx.len]; omega
  have hdig : Dig B64 (x ++ List.replicate (n + 1 - n) 0) := dx.append (Dig.zeros B64_pos _)
  have hval : val B64 (x ++ List.replicate (n + 1 - n) 0) = val B64 x := by rw [val_append, val_zeros]; omega
  have htop : (x ++ List.replicate (n + 1 - n) 0).getD n 0 = 0 := by
    rw [List.getD_eq_getElem?_getD, List.getElem?_append_right (by rw [hx.len]; omega), hx.len, show n + 1 - n = 1 from by omega]; simp
  obtain ⟨X, hX⟩ : ∃ X, Hid (X = x ++ List.replicate (n + 1 - n) 0) := ⟨_, hiD rfl⟩
  rw [← hX.out] at hr hlen hdig hval htop
  have Hlen := hiD hlen
  have Hval := hiD hval
  have Htop := hiD htop
  clear hr2 hlen hval htop hx1 hr1 hb1
  go_wp2_with fail
  go_loopw [6] (fun i wr => ∃ (k : Nat) (L : List Nat), k ≤ n ∧ i = .int .i64 k ∧ Row wr w.heap.size 76 L ∧ Below w.heap.size w wr ∧ Hid (L.length = n + 1 ∧ L.take (k + 1) = X.take (k + 1) ∧ Dig B64 L ∧ val B64 (L.drop (k + 1)) = 2 ^ s * val B64 (X.drop (k + 1)) + X.getD k 0 / 2 ^ (64 - s))) (fun i _ => (intOf i).toNat)
  case atStart => exact ⟨n, X, Nat.le_refl _, rfl, hr, hb2, hiD ⟨Hlen.out, rfl, hdig, by rw [Htop.out, List.drop_of_length_le (by rw [Hlen.out]; omega)]; simp [val]⟩⟩
  case round =>
    obtain ⟨k, L, hk, rfl, hrow, hbel, hinv⟩ := hrel
    have g0 := hrow.cell k (by rw [hinv.out.1]; omega)
    have f0 := hrow.free k
    obtain ⟨a, ha⟩ : ∃ a, Hid (L.getD k 0 = a) := ⟨_, hiD rfl⟩
    rw [ha.out] at g0
    have da : a < B64 := by rw [← ha.out]; exact hinv.out.2.2.1.getD B64_pos k
    by_cases h0 : k = 0
    · subst h0
      obtain ⟨A, Bq, C, e1, -, -, hC⟩ := shl_digit a 0 s hs B64_pos
      have hfin : Hid ((L.set 0 A).length = n + 1 ∧ Dig B64 (L.set 0 A) ∧ val B64 (L.set 0 A) = 2 ^ s * val B64 x) := by
        obtain ⟨i1, i2, i3, i4⟩ := hinv.out
        have haX : X.getD 0 0 = a := by
          have := congrArg (fun l => l.getD 0 0) i2
          simp [List.getD_eq_getElem?_getD] at this
          rw [List.getD_eq_getElem?_getD, ← this, ← List.getD_eq_getElem?_getD]; exact ha.out
        rw [haX] at i4
        refine ⟨by rw [List.length_set]; exact i1, i3.set 0 A hC.out.2.2.2, ?_⟩
        have h1 := drop_succ_val (L.set 0 A) 0 (by rw [List.length_set]; omega)
        have h2 := drop_succ_val X 0 (by rw [Hlen.out]; omega)
        rw [List.drop_zero, List.drop_set_of_lt (by omega)] at h1
        rw [List.drop_zero, haX] at h2
        have h3 : (L.set 0 A).getD 0 0 = A := by rw [List.getD_eq_getElem?_getD, List.getElem?_set_self (by omega)]; rfl
        rw [h1, h3, ← Hval.out, h2, hC.out.2.1]
        have := shl_step (bq := 0) (pow_split s hs) i4
        simpa using this
      go_wp2_with fail
      refine bodyPost_ret (v := .slice (some ⟨w.heap.size, 0, none⟩) (n + 1) (n + 1)) (by simp [results, Tryz.results171, go_sem]) rfl ?_
      exact ⟨L.set 0 A, rfl, hrow.set _ _, hfin.out.1, hfin.out.2.1, hfin.out.2.2, hbel.setCell (Nat.le_refl _) _⟩
    · have hk1 : (1 : Int) ≤ k := by omega
      have hkn : (k : Int) ≤ n := by omega
      have g1 := hrow.cell (k - 1) (by rw [hinv.out.1]; omega)
      obtain ⟨b, hb⟩ : ∃ b, Hid (L.getD (k - 1) 0 = b) := ⟨_, hiD rfl⟩
      rw [hb.out] at g1
      have db : b < B64 := by rw [← hb.out]; exact hinv.out.2.2.1.getD B64_pos _
      obtain ⟨A, Bq, C, e1, e2, e3, hC⟩ := shl_digit a b s hs db
      have hinv' : Hid ((L.set k C).length = n + 1 ∧ (L.set k C).take (k - 1 + 1) = X.take (k - 1 + 1) ∧ Dig B64 (L.set k C) ∧ val B64 ((L.set k C).drop (k - 1 + 1)) = 2 ^ s * val B64 (X.drop (k - 1 + 1)) + X.getD (k - 1) 0 / 2 ^ (64 - s)) := by
        obtain ⟨i1, i2, i3, i4⟩ := hinv.out
        have e : k - 1 + 1 = k := by omega
        have hget : ∀ j, j ≤ k → X.getD j 0 = L.getD j 0 := by
          intro j hj
          have h1 : ∀ M : List Nat, (M.take (k + 1)).getD j 0 = M.getD j 0 := by
            intro M; rw [List.getD_eq_getElem?_getD, List.getElem?_take_of_lt (by omega), ← List.getD_eq_getElem?_getD]
          rw [← h1 X, ← h1 L, i2]
        have haX : X.getD k 0 = a := by rw [hget k (Nat.le_refl _)]; exact ha.out
        have hbX : X.getD (k - 1) 0 = b := by rw [hget (k - 1) (by omega)]; exact hb.out
        rw [e, hbX]
        rw [haX] at i4
        refine ⟨by rw [List.length_set]; exact i1, ?_, i3.set k C hC.out.2.2.1, ?_⟩
        · rw [List.take_set_of_le (Nat.le_refl _)]
          have := congrArg (List.take k) i2
          rwa [List.take_take, List.take_take, Nat.min_eq_left (by omega)] at this
        · have h1 := drop_succ_val (L.set k C) k (by rw [List.length_set]; omega)
          have h2 := drop_succ_val X k (by rw [Hlen.out]; omega)
          have hd : (L.set k C).drop (k + 1) = L.drop (k + 1) := List.drop_set_of_lt (by omega)
          rw [hd] at h1
          have h3 : (L.set k C).getD k 0 = C := by rw [List.getD_eq_getElem?_getD, List.getElem?_set_self (by omega)]; rfl
          rw [h1, h3, h2, haX, hC.out.1]
          exact shl_step (pow_split s hs) i4
      go_wp2_with fail
      go_region
      go_wp2_with fail
      go_roundw
      case rel => exact ⟨k - 1, L.set k C, by omega, by go_num, (hrow.set k C).drew, (hbel.setCell (Nat.le_refl _) _).drew, hinv'⟩
      case measure => simp [intOf]; omega
theorem shr_digit (a b s : Nat) (hs : s < 64) (ha : a < B64) : ∃ Aq Bs C : Nat, (a : Int) / 2 ^ s = Aq ∧ IntKind.u64.wrap ((b : Int) * 2 ^ (64 - s)) = Bs ∧ bits .or .u64 (Aq : Int) (Bs : Int) = C ∧
    Hid (C = a / 2 ^ s + b % 2 ^ s * 2 ^ (64 - s) ∧ Aq = a / 2 ^ s ∧ C < B64 ∧ Aq < B64) := by
  have hpq := pow_split s hs
  have hq : 0 < 2 ^ (64 - s) := Nat.pow_pos (by omega)
  have hp : 0 < 2 ^ s := Nat.pow_pos (by omega)
  have hL : a / 2 ^ s < 2 ^ (64 - s) := by rw [Nat.div_lt_iff_lt_mul hp, Nat.mul_comm, hpq]; exact ha
  have hM : b % 2 ^ s < 2 ^ s := Nat.mod_lt _ hp
  have h1 : (b % 2 ^ s + 1) * 2 ^ (64 - s) ≤ 2 ^ s * 2 ^ (64 - s) := Nat.mul_le_mul_right _ hM
  rw [Nat.add_mul, Nat.one_mul, hpq] at h1
  have hAq : a / 2 ^ s < B64 := by have := Nat.div_le_self a (2 ^ s); omega
  refine ⟨a / 2 ^ s, b % 2 ^ s * 2 ^ (64 - s), a / 2 ^ s + b % 2 ^ s * 2 ^ (64 - s), by push_cast; rfl, ?_, ?_, hiD ⟨rfl, rfl, by omega, hAq⟩⟩
  · rw [cast_pow, wrap_mod]
    congr 1
    rw [← hpq, Nat.mul_mod_mul_right]
  · have h2 := or_parts (b % 2 ^ s) (a / 2 ^ s) (64 - s) hL hAq (by omega)
    rw [u64_or_nat _ _ (by rw [← B64_eq]; omega) (by rw [← B64_eq]; omega)] at h2 ⊢
    rw [Nat.or_comm, Nat.add_comm]; exact h2
theorem shr_step {B P Q p F x0 a b V : Nat} (hB : P * Q = B) (h : P * F + x0 = V + p * (a % P)) : P * (F + p * (a / P + b % P * Q)) + x0 = (V + p * a) + (p * B) * (b % P) := by
  have := Nat.div_add_mod a P
  generalize a / P = d at *
  generalize a % P = m at *
  generalize b % P = c at *
  rw [← this, ← hB]; grind
theorem shr_last {P p F x0 a V : Nat} (h : P * F + x0 = V + p * (a % P)) : P * (F + p * (a / P)) + x0 = V + p * a := by
  have := Nat.div_add_mod a P
  generalize a / P = d at *
  generalize a % P = m at *
  rw [← this]; grind
def ShrPost (g n s : Nat) (X : List Nat) (w : World) (e : Ending) (w' : World) : Prop :=
  ∃ L, e = .returned (.tuple #[]) ∧ Row w' g 76 L ∧ L.length = n ∧ Dig B64 L ∧ val B64 L = val B64 X / 2 ^ s ∧ Only g w w'
theorem shiftBack_any (g n c : Nat) (X : List Nat) (s : Nat) (w : World) (hn0 : n ≤ most) (hpos : 1 ≤ n) (hr : Row w g 76 X) (hlX : X.length = n) (dX : Dig B64 X) (hs : s < 64) :
    Calls Tryz.prog 173 #[.slice (some ⟨g, 0, none⟩) n c, .int .i64 s] w (ShrPost g n s X w) := by
  have hn : (n : Int) ≤ 4294967296 := by unfold most at hn0; omega
  have Hlen := hiD hlX
  clear hlX
  go_enter Tryz.func173, Tryz.ntmps173
  go_wp2_with fail
  go_loopw [10] (fun i wr => ∃ (k : Nat) (L : List Nat), k + 1 ≤ n ∧ i = .int .i64 k ∧ Row wr g 76 L ∧ Only g w wr ∧ Hid (L.length = n ∧ L.drop k = X.drop k ∧ Dig B64 L ∧ 2 ^ s * val B64 (L.take k) + X.getD 0 0 % 2 ^ s = val B64 (X.take k) + B64 ^ k * (X.getD k 0 % 2 ^ s))) (fun i _ => n - (intOf i).toNat)
  case atStart => exact ⟨0, X, by omega, rfl, hr, Only.refl _ _, hiD ⟨Hlen.out, rfl, dX, by simp [val]⟩⟩
  case round =>
    obtain ⟨k, L, hk, rfl, hrow, honly, hinv⟩ := hrel
    have g0 := hrow.cell k (by rw [hinv.out.1]; omega)
    have f0 := hrow.free k
    obtain ⟨a, ha⟩ : ∃ a, Hid (L.getD k 0 = a) := ⟨_, hiD rfl⟩
    rw [ha.out] at g0
    have da : a < B64 := by rw [← ha.out]; exact hinv.out.2.2.1.getD B64_pos k
    have hget : Hid (∀ j, k ≤ j → X.getD j 0 = L.getD j 0) := hiD (by
      intro j hj
      have h1 : ∀ M : List Nat, (M.drop k).getD (j - k) 0 = M.getD j 0 := by
        intro M; rw [List.getD_eq_getElem?_getD, List.getElem?_drop, ← List.getD_eq_getElem?_getD]; congr 1; omega
      rw [← h1 X, ← h1 L, hinv.out.2.1])
    by_cases hlt : k + 1 < n
    · have g1 := hrow.cell (k + 1) (by rw [hinv.out.1]; omega)
      obtain ⟨b, hb⟩ : ∃ b, Hid (L.getD (k + 1) 0 = b) := ⟨_, hiD rfl⟩
      rw [hb.out] at g1
      obtain ⟨A, Bs, C, e1, e2, e3, hC⟩ := shr_digit a b s hs da
      have hinv' : Hid ((L.set k C).length = n ∧ (L.set k C).drop (k + 1) = X.drop (k + 1) ∧ Dig B64 (L.set k C) ∧ 2 ^ s * val B64 ((L.set k C).take (k + 1)) + X.getD 0 0 % 2 ^ s = val B64 (X.take (k + 1)) + B64 ^ (k + 1) * (X.getD (k + 1) 0 % 2 ^ s)) := by
        obtain ⟨i1, i2, i3, i4⟩ := hinv.out
        have haX : X.getD k 0 = a := by rw [hget.out k (Nat.le_refl _)]; exact ha.out
        have hbX : X.getD (k + 1) 0 = b := by rw [hget.out (k + 1) (by omega)]; exact hb.out
        have hd : (L.set k C).drop (k + 1) = L.drop (k + 1) := List.drop_set_of_lt (by omega)
        refine ⟨by rw [List.length_set]; exact i1, ?_, i3.set k C hC.out.2.2.1, ?_⟩
        · rw [hd]
          have := congrArg (List.drop 1) i2
          rwa [List.drop_drop, List.drop_drop] at this
        · rw [val_take_succD, val_take_succD, List.take_set_of_le (Nat.le_refl _), haX, hbX]
          have h3 : (L.set k C).getD k 0 = C := by rw [List.getD_eq_getElem?_getD, List.getElem?_set_self (by omega)]; rfl
          rw [h3, hC.out.1, Nat.pow_succ]
          rw [haX] at i4
          exact shr_step (pow_split s hs) i4
      have hk1 : (k : Int) + 1 < n := by omega
      go_wp2_with fail
      go_region
      go_wp2_with fail
      go_roundw
      case rel => exact ⟨k + 1, L.set k C, by omega, by go_num, (hrow.set k C).drew, (honly.setCell _ _).drew, hinv'⟩
      case measure => simp [intOf]; omega
    · obtain rfl : k + 1 = n := by omega
      obtain ⟨A, Bs, C, e1, -, -, hC⟩ := shr_digit a 0 s hs da
      have hfin : Hid ((L.set k A).length = k + 1 ∧ Dig B64 (L.set k A) ∧ val B64 (L.set k A) = val B64 X / 2 ^ s) := by
        obtain ⟨i1, i2, i3, i4⟩ := hinv.out
        have haX : X.getD k 0 = a := by rw [hget.out k (Nat.le_refl _)]; exact ha.out
        rw [haX] at i4
        refine ⟨by rw [List.length_set]; exact i1, i3.set k A hC.out.2.2.2, ?_⟩
        have h1 := val_take_succD B64 (L.set k A) k
        have h2 := val_take_succD B64 X k
        have h3 : (L.set k A).getD k 0 = A := by rw [List.getD_eq_getElem?_getD, List.getElem?_set_self (by omega)]; rfl
        rw [List.take_of_length_le (by rw [List.length_set]; omega), List.take_set_of_le (Nat.le_refl _), h3] at h1
        rw [List.take_of_length_le (by rw [Hlen.out]; omega), haX] at h2
        have h4 := shr_last i4
        rw [← hC.out.2.1, ← h1, ← h2] at h4
        have hp : 0 < 2 ^ s := Nat.pow_pos (by omega)
        rw [← h4, Nat.mul_add_div hp, Nat.div_eq_of_lt (Nat.mod_lt _ hp)]; rfl
      go_wp2_with fail
      go_end0
      exact ⟨L.set k A, rfl, hrow.set _ _, hfin.out.1, hfin.out.2.1, hfin.out.2.2, honly.setCell _ _⟩
end Go.Proofs.YtoegbjmoecbjdaaGreatDoor
