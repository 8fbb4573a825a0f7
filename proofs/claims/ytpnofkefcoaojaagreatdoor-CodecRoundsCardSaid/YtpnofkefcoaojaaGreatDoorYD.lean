/- The document's Add, Sub, Mul on texts. -/
import Derived.Test.YtpnofkefcoaojaaGreatDoorYB
import Derived.Test.YtpnofkefcoaojaaGreatDoorX9SA
import Derived.Test.YtpnofkefcoaojaaGreatDoorX9RR
import Derived.Test.YtpnofkefcoaojaaGreatDoorKA
import Derived.BigQuiet
import Derived.Deep.QuietTactic
import Derived.StillTailTactics
import Derived.RangeFuncFrom
namespace Go.Proofs.YtpnofkefcoaojaaGreatDoor
open Go.RowKit Big
open Go.Lib
theorem two_any (s t : ByteArray) (w : World) : Calls Tryz.prog 80 #[.string s, .string t] w fun e w' => match num s.data.toList, num t.data.toList with
    | some a, some b => TwoPost a b true w e w'
    | _, _ => ∃ a b, TwoPost a b false w e w' := by
  have gs := fun W => get_any s W
  have gt := fun W => get_any t W
  have rd : ∀ (x : ByteArray) (W : World) (q : Rat), (∀ W, Calls Tryz.prog 31 #[.string x] W (GetPost none W)) → Calls Tryz.prog 31 #[.string x] W (FlagPost q false W) := fun x W q h => (h W).mono fun e w' ⟨q', b, p, n, c, p2, n2, c2, h1, h2, _⟩ => ⟨b, p, n, c, p2, n2, c2, h1, h2, fun h => by cases h⟩
  cases ha : num s.data.toList with
  | none =>
    rw [ha] at gs
    cases hb : num t.data.toList with
    | none => rw [hb] at gt; exact (two_false_false s t 0 0 w (fun W => hiD (rd s W 0 gs)) (fun W => hiD (rd t W 0 gt))).mono fun e w' h => ⟨_, _, h⟩
    | some b => rw [hb] at gt; exact (two_false_true s t 0 b w (fun W => hiD (rd s W 0 gs)) (fun W => hiD (gt W))).mono fun e w' h => ⟨_, _, h⟩
  | some a =>
    rw [ha] at gs
    cases hb : num t.data.toList with
    | none => rw [hb] at gt; exact (two_true_false s t a 0 w (fun W => hiD (gs W)) (fun W => hiD (rd t W 0 gt))).mono fun e w' h => ⟨_, _, h⟩
    | some b => rw [hb] at gt; exact two_true_true s t a b w (fun W => hiD (gs W)) (fun W => hiD (gt W))
theorem QLt.quo {K L : Nat} {a b : Rat} (ha : QLt K a) (hb : QLt L b) : QLt (K + L) (a / b) := by
  by_cases h : b.num.natAbs = 0
  · have hb0 : b = 0 := Rat.num_eq_zero.1 (by omega)
    have e : a / b = 0 := by rw [hb0]; grind
    rw [e]
    exact ⟨Nat.pow_pos B9_pos, Nat.one_lt_pow (by have := ha.2; have := a.den_pos; intro h0; have hK : K = 0 := by omega
                                                  subst hK; rw [Nat.pow_zero] at *; omega) (by rw [B9_eq]; omega)⟩
  · exact lt_of_ratv (quot_parts a b) (pow9_mul ha.1 hb.2) (pow9_mul ha.2 hb.1) (Nat.mul_pos a.den_pos (by omega))
end Go.Proofs.YtpnofkefcoaojaaGreatDoor
set_option maxHeartbeats 3200000
set_option maxRecDepth 100000
namespace Go.Proofs.YtpnofkefcoaojaaGreatDoor
open Go.RowKit Big
open Go.Lib
theorem rcmp_no (s t : ByteArray) (a b : Rat) (w : World) (htwo : ∀ W, Hid (Calls Tryz.prog 80 #[.string s, .string t] W (TwoPost a b false W))) : Calls Tryz.prog 94 #[.string s, .string t] w (CmpTPost (0, false) w) := by
  go_enter Tryz.func94, Tryz.ntmps94
  go_wp2_with fail
  refine (htwo _).out.mono ?_
  rintro e w1 ⟨b1, p, n, c, p2, n2, c2, b2, q, m, d, q2, m2, d2, rfl, hb1, -⟩
  have HB : Hid (∀ o1 o2, Below w.heap.size w ((w1.alloc o1).alloc o2)) := hiD fun o1 o2 => (hb1.alloc hb1.size o1).alloc (by have := hb1.size; simp; omega) o2
  clear hb1
  go_wp2_with fail
  go_ret2
  exact ⟨rfl, HB.out _ _⟩
theorem rcmp_yes (s t : ByteArray) (a b : Rat) (z : Int) (w : World) (hz0 : sgnQ (a - b) = z) (hab : QLt 5 a) (hbb : QLt 5 b) (htwo : ∀ W, Hid (Calls Tryz.prog 80 #[.string s, .string t] W (TwoPost a b true W))) : Calls Tryz.prog 94 #[.string s, .string t] w (CmpTPost (z, true) w) := by
  have hop : ∀ W x y, QAt W x a → QAt W y b → Hid (Calls Tryz.prog 52 #[x, y] W fun e w' => e = .returned (.int .i64 z) ∧ Below W.heap.size W w') := fun W x y hx hy => hiD (by have h := cmp_any x y a b 5 5 W (by omega) hab hbb hx hy; rw [hz0] at h; exact h)
  clear hab hbb hz0
  go_enter Tryz.func94, Tryz.ntmps94
  go_wp2_with fail
  refine (htwo _).out.mono ?_
  rintro e w1 ⟨b1, p, n, c, p2, n2, c2, b2, q, m, d, q2, m2, d2, rfl, hb1, hq⟩
  obtain ⟨hx, hz⟩ := hq rfl
  have HB : Hid (∀ o1 o2, Below w.heap.size w ((w1.alloc o1).alloc o2)) := hiD fun o1 o2 => (hb1.alloc hb1.size o1).alloc (by have := hb1.size; simp; omega) o2
  have HX : Hid (∀ o1 o2, QAt ((w1.alloc o1).alloc o2) (.agg #[.bool b1, .slice p n c, .slice p2 n2 c2]) a ∧ QAt ((w1.alloc o1).alloc o2) (.agg #[.bool b2, .slice q m d, .slice q2 m2 d2]) b) := hiD fun o1 o2 => ⟨(hx.below (below_alloc9 _ _)).below (below_alloc9 _ _), (hz.below (below_alloc9 _ _)).below (below_alloc9 _ _)⟩
  clear hb1 hq hx hz
  go_wp2_with fail
  refine (hop _ _ _ (HX.out _ _).1 (HX.out _ _).2).out.mono ?_
  rintro e w3 ⟨rfl, hb3⟩
  have Hb3 := hiD ((HB.out _ _).trans (hb3.mono (HB.out _ _).size))
  clear hb3
  go_wp2_with fail
  go_ret2
  exact ⟨rfl, Hb3.out⟩
theorem two_yes {s t : ByteArray} {a b : Rat} (ha : num s.data.toList = some a) (hb : num t.data.toList = some b) (W : World) : Hid (Calls Tryz.prog 80 #[.string s, .string t] W (TwoPost a b true W)) := hiD (by
  have h := two_any s t W
  rw [ha, hb] at h; exact h)
theorem two_not {s t : ByteArray} (hn : num s.data.toList = none ∨ num t.data.toList = none) (W : World) : Hid (Calls Tryz.prog 80 #[.string s, .string t] W (TwoPost 0 0 false W)) := hiD (by
  have h := two_any s t W
  have k : ∀ e w', (∃ a b, TwoPost a b false W e w') → TwoPost 0 0 false W e w' := by
    rintro e w' ⟨a, b, b1, p, n, c, p2, n2, c2, b2, q, m, d, q2, m2, d2, h1, h2, _⟩
    exact ⟨b1, p, n, c, p2, n2, c2, b2, q, m, d, q2, m2, d2, h1, h2, fun h => by cases h⟩
  refine h.mono fun e w' h => ?_
  rcases hn with h1 | h1
  · rw [h1] at h; exact k _ _ h
  · rw [h1] at h
    cases h2 : num s.data.toList with
    | none => rw [h2] at h; exact k _ _ h
    | some a => rw [h2] at h; exact k _ _ h)
theorem num_both (x y : List UInt8) : (∃ a b, num x = some a ∧ num y = some b) ∨ (num x = none ∨ num y = none) := by
  cases hx : num x with
  | none => exact .inr (.inl rfl)
  | some a => cases hy : num y with
    | none => exact .inr (.inr rfl)
    | some b => exact .inl ⟨a, b, rfl, rfl⟩
theorem rcompare_q (s t : ByteArray) (w : World) : Calls Tryz.prog 94 #[.string s, .string t] w (CmpTPost (cmpT s.data.toList t.data.toList) w) := by
  rcases num_both s.data.toList t.data.toList with ⟨a, b, ha, hb⟩ | hn
  · rw [cmpT_some ha hb]; exact rcmp_yes s t a b _ w (sgn_same _) (num_lt9 ha) (num_lt9 hb) (two_yes ha hb)
  · have e : cmpT s.data.toList t.data.toList = (0, false) := by
      unfold cmpT
      rcases hn with h | h
      · rw [h]
      · rw [h]; cases num s.data.toList <;> rfl
    rw [e]; exact rcmp_no s t 0 0 w (two_not hn)
end Go.Proofs.YtpnofkefcoaojaaGreatDoor
set_option maxHeartbeats 2000000
set_option maxRecDepth 100000
namespace Go.Proofs.YtpnofkefcoaojaaGreatDoor
open Go.RowKit
open Go.Lib
theorem rpositive_any (x : ByteArray) (w : World) : Calls Tryz.prog 47 #[.string x] w fun e w' => e = .returned (.bool (posC x.data.toList)) ∧ Below w.heap.size w w' := by
  have HC := Lib.hid (rcompare_q x ⟨#[48]⟩ w)
  obtain ⟨v, HV⟩ : ∃ v, Hid (posC x.data.toList = v) := ⟨_, rfl⟩
  obtain ⟨⟨z, b⟩, HZ⟩ : ∃ t : Int × Bool, Hid (cmpT x.data.toList [48] = t) := ⟨_, rfl⟩
  have HC2 : Hid (Calls Tryz.prog 94 #[.string x, .string ⟨#[48]⟩] w (CmpTPost (z, b) w)) := Lib.hid (by rw [← HZ.out]; exact HC.out)
  have HVZ : Hid ((b && decide ((0 : Int) < z)) = v) := Lib.hid (by rw [← HV.out]; unfold posC; rw [HZ.out])
  rw [HV.out]
  clear HC
  cases b with
  | false =>
    obtain rfl : v = false := by rw [← HVZ.out]; rfl
    go_enter Tryz.func47, Tryz.ntmps47
    go_wp2_with fail
    refine (HC2.out).mono ?_
    rintro e w1 ⟨rfl, hb1⟩
    have HB := Lib.hid hb1
    clear hb1
    go_wp2_with fail
    go_ret
    exact ⟨rfl, HB.out⟩
  | true =>
    by_cases hz : (0 : Int) < z
    · obtain rfl : v = true := by rw [← HVZ.out, decide_eq_true hz]; rfl
      go_enter Tryz.func47, Tryz.ntmps47
      go_wp2_with fail
      refine (HC2.out).mono ?_
      rintro e w1 ⟨rfl, hb1⟩
      have HB := Lib.hid hb1
      clear hb1
      go_wp2_with fail
      go_ret
      exact ⟨rfl, HB.out⟩
    · obtain rfl : v = false := by rw [← HVZ.out, decide_eq_false hz]; rfl
      have hzd : decide ((0 : Int) < z) = false := decide_eq_false hz
      clear hz
      go_enter Tryz.func47, Tryz.ntmps47
      go_wp2_with fail
      refine (HC2.out).mono ?_
      rintro e w1 ⟨rfl, hb1⟩
      have HB := Lib.hid hb1
      clear hb1
      go_wp2_with fail
      go_ret
      exact ⟨rfl, HB.out⟩
end Go.Proofs.YtpnofkefcoaojaaGreatDoor
