/- Units as texts and powers: products, powers and conversions; the units of texts. The contracts of the numbers in terms of rational numbers; the closure of onTexts; Add, Sub, Mul, Div. Add, Sub, Mul, Div, Compare on texts. Compare, isPositive, Floor on texts. Power of a rational number. -/
import Derived.Test.YtpnofkefcoaojaaGreatDoorVSc
import Derived.Test.YtpnofkefcoaojaaGreatDoorU09
import Derived.Outline
import Derived.Test.YtpnofkefcoaojaaGreatDoorCE
import Derived.Test.YtpnofkefcoaojaaGreatDoorCH
import Derived.Test.YtpnofkefcoaojaaGreatDoorV01
import Derived.BigQuiet
import Derived.Deep.QuietTactic
import Derived.StillTailTactics
set_option maxHeartbeats 1600000
set_option maxRecDepth 100000
namespace Go.Proofs.YtpnofkefcoaojaaGreatDoor
open Go.Lib Big
/-! Convert -/
end Go.Proofs.YtpnofkefcoaojaaGreatDoor
namespace Go.Proofs.YtpnofkefcoaojaaGreatDoor
open Go.Lib Big
end Go.Proofs.YtpnofkefcoaojaaGreatDoor
namespace Go.Proofs.YtpnofkefcoaojaaGreatDoor
open Go.Lib Big
end Go.Proofs.YtpnofkefcoaojaaGreatDoor
namespace Go.Proofs.YtpnofkefcoaojaaGreatDoor
open Go.RowKit Go.Lib Big
theorem sub_is (x y : Value) (p q : Rat) (K : Nat) (w : World) (hK : 2 * K + 1 ≤ 1073741824) (hx : RatIs w x p K) (hy : RatIs w y q K) : Calls Tryz.prog 134 #[x, y] w (IsPost (p - q) (2 * K + 1) w) := by
  obtain ⟨s, a, b, h1, rfl, h3, h4, h5⟩ := hx
  obtain ⟨t, c, d, k1, rfl, k3, k4, k5⟩ := hy
  refine (sub_any x y s t a b c d K w hK h4 h5 k4 k5 h3 k3 h1 k1).mono ?_
  rintro e w' ⟨z, r, n, m, rfl, hz, hb, hm, hv, hn, hm2⟩
  exact ⟨z, rfl, ⟨r, n, m, hz, hv, hm, hn, hm2⟩, hb⟩
end Go.Proofs.YtpnofkefcoaojaaGreatDoor
namespace Go.Proofs.YtpnofkefcoaojaaGreatDoor
open Go.RowKit Go.Lib Big
end Go.Proofs.YtpnofkefcoaojaaGreatDoor
namespace Go.Proofs.YtpnofkefcoaojaaGreatDoor
open Go.RowKit Go.Lib Big
def CmpTPost (c : Int × Bool) (w : World) (e : Ending) (w' : World) : Prop := e = .returned (.tuple #[.int .i64 c.1, .bool c.2]) ∧ Below w.heap.size w w'
theorem compare_bad1 (x y : ByteArray) (w : World) (hx : Hid (Calls Tryz.prog 130 #[.string x] w (NumPost none w))) : Calls Tryz.prog 85 #[.string x, .string y] w (CmpTPost (0, false) w) := by
  go_enter Tryz.func85, Tryz.ntmps85
  go_wp2_with fail
  refine hx.out.mono ?_
  rintro e w2 ⟨hb2, b, p, n, c, q, m, d, rfl, -⟩
  have hbw := hiD (hb2.trans ((bea w2 (.cells #[.bool b, .slice p n c, .slice q m d] 98)).mono hb2.size))
  clear hb2
  go_wp2_with fail
  go_ret2
  exact ⟨rfl, hbw.out⟩
theorem compare_bad2 (x y : ByteArray) (r : Rat) (w : World) (hx : Hid (Calls Tryz.prog 130 #[.string x] w (NumPost (some r) w))) (hy : ∀ W, Below w.heap.size w W → Hid (Calls Tryz.prog 130 #[.string y] W (NumPost none W))) : Calls Tryz.prog 85 #[.string x, .string y] w (CmpTPost (0, false) w) := by
  go_enter Tryz.func85, Tryz.ntmps85
  go_wp2_with fail
  refine hx.out.mono ?_
  rintro e w2 ⟨hb2, b, p, n, c, q, m, d, rfl, -⟩
  have hbw := hiD (hb2.trans ((bea w2 (.cells #[.bool b, .slice p n c, .slice q m d] 98)).mono hb2.size))
  have hy2 := hy _ hbw.out
  clear hb2 hy
  go_wp2_with fail
  refine hy2.out.mono ?_
  rintro e w3 ⟨hb3, b', p', n', c', q', m', d', rfl, -⟩
  have hbw3 := hiD (hbw.out.trans (hb3.mono hbw.out.size))
  have hbw4 := hiD (hbw3.out.trans ((bea w3 (.cells #[.bool b', .slice p' n' c', .slice q' m' d'] 98)).mono hbw3.out.size))
  clear hb3
  go_wp2_with fail
  go_ret2
  exact ⟨rfl, hbw4.out⟩
theorem compare_ok (x y : ByteArray) (p q : Rat) (w : World) (hx : Hid (Calls Tryz.prog 130 #[.string x] w (NumPost (some p) w))) (hy : ∀ W, Below w.heap.size w W → Hid (Calls Tryz.prog 130 #[.string y] W (NumPost (some q) W))) : Calls Tryz.prog 85 #[.string x, .string y] w (CmpTPost (sgnR (p - q), true) w) := by
  have hop : Hid (∀ W u v, RatIs W u p 20 → RatIs W v q 20 → Calls Tryz.prog 134 #[u, v] W (IsPost (p - q) 41 W)) := hiD fun W u v hu hv => sub_is u v p q 20 W (by omega) hu hv
  have hsg : Hid (∀ W z, RatIs W z (p - q) 41 → Calls Tryz.prog 135 #[z] W fun e w' => e = .returned (.int .i64 (sgnR (p - q))) ∧ Below W.heap.size W w') := hiD fun W z hz => sign_is z (p - q) 41 W hz
  generalize sgnR (p - q) = c at hsg ⊢
  go_enter Tryz.func85, Tryz.ntmps85
  go_wp2_with fail
  refine hx.out.mono ?_
  rintro e w2 ⟨hb2, b1, p1, n1, c1, q1, m1, d1, rfl, hr1⟩
  have hbw := hiD (hb2.trans ((bea w2 (.cells #[.bool b1, .slice p1 n1 c1, .slice q1 m1 d1] 98)).mono hb2.size))
  have hR1 := hiD ((hr1 _ rfl).below (bea w2 (.cells #[.bool b1, .slice p1 n1 c1, .slice q1 m1 d1] 98)))
  have hb1 := hiD (heap_new w2 (.cells #[.bool b1, .slice p1 n1 c1, .slice q1 m1 d1] 98))
  have hy2 := hy _ hbw.out
  clear hb2 hy hr1
  go_wp2_with fail
  refine hy2.out.mono ?_
  rintro e w3 ⟨hb3, b', p', n', c', q', m', d', rfl, hr3⟩
  have hbw3 := hiD (hbw.out.trans (hb3.mono hbw.out.size))
  have hbw4 := hiD (hbw3.out.trans ((bea w3 (.cells #[.bool b', .slice p' n' c', .slice q' m' d'] 98)).mono hbw3.out.size))
  have hA := hiD (bea w3 (.cells #[.bool b', .slice p' n' c', .slice q' m' d'] 98))
  have hR3 := hiD ((hr3 _ rfl).below hA.out)
  have hR2 := hiD ((hR1.out.below hb3).below hA.out)
  have hbox := (hb3.trans (hA.out.mono hb3.size)).block w2.heap.size (by simp)
  have hbx := hbox.trans hb1.out
  have e0 := ceh hbx 0
  have e1 := ceh hbx 1
  have e2 := ceh hbx 2
  have hop4 := hiD (hop.out _ _ _ hR2.out hR3.out)
  clear hb3 hy2 hr3 hbox hbx
  go_wp2_with fail
  refine hop4.out.mono ?_
  rintro e w5 ⟨z, rfl, hz, hb5⟩
  have hbw5 := hiD (hbw4.out.trans (hb5.mono hbw4.out.size))
  have ht5 := hiD (hsg.out _ _ hz)
  clear hb5 hz hop4
  go_wp2_with fail
  refine ht5.out.mono ?_
  rintro e w6 ⟨rfl, hb6⟩
  have hbw6 := hiD (hbw5.out.trans (hb6.mono hbw5.out.size))
  clear hb6
  go_wp2_with fail
  go_ret2
  exact ⟨rfl, hbw6.out⟩
theorem compare_q (x y : ByteArray) (w : World) (htab : Tab w) : Calls Tryz.prog 85 #[.string x, .string y] w (CmpTPost (cmpT x.data.toList y.data.toList) w) := by
  have hx := qread_is x w htab
  have hy := fun W (hb : Below w.heap.size w W) => qread_is y W (htab.below hb)
  unfold cmpT
  cases hnx : num x.data.toList with
  | none => rw [hnx] at hx; exact compare_bad1 x y w (hiD hx)
  | some p =>
    rw [hnx] at hx
    cases hny : num y.data.toList with
    | none => rw [hny] at hy; exact compare_bad2 x y p w (hiD hx) fun W hb => hiD (hy W hb)
    | some q => rw [hny] at hy; exact compare_ok x y p q w (hiD hx) fun W hb => hiD (hy W hb)
/-! isPositive -/
end Go.Proofs.YtpnofkefcoaojaaGreatDoor
namespace Go.Proofs.YtpnofkefcoaojaaGreatDoor
open Go.RowKit Go.Lib Big
end Go.Proofs.YtpnofkefcoaojaaGreatDoor
namespace Go.Proofs.YtpnofkefcoaojaaGreatDoor
open Go.RowKit
open Go.Lib
def nb (l : List UInt8) : Nat := l.foldl (fun x c => x * 256 + c.toNat) 0
end Go.Proofs.YtpnofkefcoaojaaGreatDoor
namespace Go.Proofs.YtpnofkefcoaojaaGreatDoor
open Go.RowKit
open Go.Lib
theorem bs_sub {w : World} {b off n : Nat} {l : List UInt8} (h : Bs w (some ⟨b, off, none⟩) l) (k m : Nat) (hk : k + m ≤ l.length) (hn : n = off + k) : Bs w (some ⟨b, n, none⟩) ((l.drop k).take m) := by
  subst hn
  rcases h with h0 | ⟨b1, o1, h1, h2, h3⟩
  · exact .inl (by simp; omega)
  · cases h1
    refine .inr ⟨b, off + k, rfl, h2, fun j hj => ?_⟩
    have hj2 : j < m := by simp at hj; omega
    rw [Nat.add_assoc, h3 (k + j) (by omega)]
    simp [List.getD_eq_getElem?_getD, hj2]
theorem bs_tail {w : World} {b off n : Nat} {l : List UInt8} (h : Bs w (some ⟨b, off, none⟩) l) (k : Nat) (hk : k ≤ l.length) (hn : n = off + k) : Bs w (some ⟨b, n, none⟩) (l.drop k) := by
  have := bs_sub h k (l.length - k) (by omega) hn
  rwa [List.take_of_length_le (by simp)] at this
end Go.Proofs.YtpnofkefcoaojaaGreatDoor
set_option maxHeartbeats 2000000
set_option maxRecDepth 100000
namespace Go.Proofs.YtpnofkefcoaojaaGreatDoor
open Go.RowKit
open Go.Lib
def posC (s : List UInt8) : Bool := (cmpT s [48]).2 && decide ((0 : Int) < (cmpT s [48]).1)
theorem ispos_any (x : ByteArray) (w : World) (htab : Tab w) : Calls Tryz.prog 43 #[.string x] w fun e w' => e = .returned (.bool (posC x.data.toList)) ∧ Below w.heap.size w w' := by
  have HC := Lib.hid (compare_q x ⟨#[48]⟩ w htab)
  obtain ⟨v, HV⟩ : ∃ v, Hid (posC x.data.toList = v) := ⟨_, rfl⟩
  obtain ⟨⟨z, b⟩, HZ⟩ : ∃ t : Int × Bool, Hid (cmpT x.data.toList [48] = t) := ⟨_, rfl⟩
  have HC2 : Hid (Calls Tryz.prog 85 #[.string x, .string ⟨#[48]⟩] w (CmpTPost (z, b) w)) := Lib.hid (by rw [← HZ.out]; exact HC.out)
  have HVZ : Hid ((b && decide ((0 : Int) < z)) = v) := Lib.hid (by rw [← HV.out]; unfold posC; rw [HZ.out])
  rw [HV.out]
  clear htab HC
  cases b with
  | false =>
    obtain rfl : v = false := by rw [← HVZ.out]; rfl
    go_enter Tryz.func43, Tryz.ntmps43
    go_wp2_with fail
    refine (HC2.out).mono ?_
    rintro e w1 ⟨rfl, hb1⟩
    have HB := Lib.hid hb1
    clear hb1
    go_wp2_with fail
    go_ret
    exact ⟨rfl, HB.out⟩
  | true =>
    by_cases hz : (0 : Int) < z
    · obtain rfl : v = true := by rw [← HVZ.out, decide_eq_true hz]; rfl
      go_enter Tryz.func43, Tryz.ntmps43
      go_wp2_with fail
      refine (HC2.out).mono ?_
      rintro e w1 ⟨rfl, hb1⟩
      have HB := Lib.hid hb1
      clear hb1
      go_wp2_with fail
      go_ret
      exact ⟨rfl, HB.out⟩
    · obtain rfl : v = false := by rw [← HVZ.out, decide_eq_false hz]; rfl
      have hzd : decide ((0 : Int) < z) = false := decide_eq_false hz
      clear hz
      go_enter Tryz.func43, Tryz.ntmps43
      go_wp2_with fail
      refine (HC2.out).mono ?_
      rintro e w1 ⟨rfl, hb1⟩
      have HB := Lib.hid hb1
      clear hb1
      go_wp2_with fail
      go_ret
      exact ⟨rfl, HB.out⟩
end Go.Proofs.YtpnofkefcoaojaaGreatDoor
