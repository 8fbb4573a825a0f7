/- The program's Round. -/
import Derived.Test.YtpnofkefcoaojaaGreatDoorYD
import Derived.Test.YtpnofkefcoaojaaGreatDoorT9Sb
import Derived.Test.YtpnofkefcoaojaaGreatDoorV01
import Derived.BigQuiet
import Derived.Deep.QuietTactic
import Derived.Deep.RegionHeld3
import Derived.StillTailTactics
import Derived.RangeFuncFrom
set_option maxHeartbeats 3200000
set_option maxRecDepth 100000
namespace Go.Proofs.YtpnofkefcoaojaaGreatDoor
open Go.RowKit Big
open Go.Lib
end Go.Proofs.YtpnofkefcoaojaaGreatDoor
namespace Go.Proofs.YtpnofkefcoaojaaGreatDoor
open Go.RowKit Big
open Go.Lib
end Go.Proofs.YtpnofkefcoaojaaGreatDoor
namespace Go.Proofs.YtpnofkefcoaojaaGreatDoor
open Go.RowKit Go.Lib Big
theorem ratv_pos1 (k : Nat) : ratv false k 1 = (((k : Int)) : Rat) := by
  have h := ratv_int (k : Int)
  rw [show decide ((k : Int) < 0) = false from by simp] at h
  exact h
theorem flo_floor (q : Rat) : floQ q = ((q.floor : Int) : Rat) := by
  have hd : (0 : Int) < q.den := by have := q.den_pos; omega
  rw [Rat.floor_def]
  unfold floQ
  by_cases hs : q.num < 0
  · have e1 : decide (q.num < 0) = true := by simpa using hs
    rw [e1]
    have e2 : ratv true (floorN true q.num.natAbs q.den) 1 = -(((floorN true q.num.natAbs q.den : Nat) : Int) : Rat) := by
      have := ratv_neg false (floorN true q.num.natAbs q.den) 1
      rw [ratv_pos1] at this
      exact this
    rw [e2, ← Rat.intCast_neg]
    congr 1
    have hn : q.num = -(q.num.natAbs : Int) := by omega
    generalize q.num.natAbs = a at hn
    rw [hn]
    have hm := Nat.div_add_mod a q.den
    have hml := Nat.mod_lt a q.den_pos
    unfold floorN
    by_cases h0 : a % q.den = 0
    · have : (a % q.den == 0) = true := by simpa using h0
      rw [this]
      symm
      refine Int.ediv_eq_of_eq_mul_right (by omega) ?_
      simp
      have : (a : Int) = (q.den : Int) * ((a / q.den : Nat) : Int) := by rw [h0, Nat.add_zero] at hm; exact_mod_cast hm.symm
      rw [Int.natCast_ediv] at this
      rw [Int.mul_neg, ← this]
    · have : (a % q.den == 0) = false := by simpa using h0
      rw [this]
      symm
      simp only [Bool.true_and, Bool.not_false, if_true]
      have hm2 : (q.den : Int) * ((a / q.den : Nat) : Int) + ((a % q.den : Nat) : Int) = (a : Int) := by exact_mod_cast hm
      have hml2 : ((a % q.den : Nat) : Int) < q.den := by exact_mod_cast hml
      have h02 : (0 : Int) < ((a % q.den : Nat) : Int) := by omega
      generalize ((a % q.den : Nat) : Int) = r at hm2 hml2 h02
      rw [Int.natCast_add]
      generalize ((a / q.den : Nat) : Int) = k at hm2
      have e : -(a : Int) = (q.den - r) + q.den * (-(k + 1)) := by
        rw [← hm2, Int.mul_neg, Int.mul_add]; omega
      rw [e, Int.add_mul_ediv_left _ _ (by omega), Int.ediv_eq_zero_of_lt (by omega) (by omega)]
      simp
  · have e1 : decide (q.num < 0) = false := by simpa using hs
    rw [e1, ratv_pos1]
    congr 1
    unfold floorN
    simp
    have hn : (q.num.natAbs : Int) = q.num := by omega
    rw [hn]
theorem half_two : halfQ + halfQ = 1 := by rw [← half_is]; grind
theorem rnd_near (a b : Rat) (hb : 0 < b) : rndQ a b - a ≤ b * halfQ ∧ -(rndQ a b - a) ≤ b * halfQ := by
  have hb0 : b ≠ 0 := by grind
  unfold rndQ
  rw [flo_floor]
  have h1 := Rat.floor_le (a / b + halfQ)
  have h2 := Rat.lt_floor_add_one (a / b + halfQ)
  rw [Rat.intCast_add] at h2
  have ht := half_two
  generalize (((a / b + halfQ).floor : Int) : Rat) = k at h1 h2
  have e : (a / b) * b = a := by rw [Rat.div_def, Rat.mul_assoc, Rat.inv_mul_cancel b hb0, Rat.mul_one]
  generalize a / b = c at h1 h2 e
  have h3 : k * b ≤ (c + halfQ) * b := Rat.mul_le_mul_of_nonneg_right h1 (by grind)
  have h4 : (c + halfQ) * b ≤ (k + 1) * b := Rat.mul_le_mul_of_nonneg_right (by simpa using Rat.le_of_lt h2) (by grind)
  have h5 : (halfQ + halfQ) * b = b := by rw [ht, Rat.one_mul]
  subst e
  generalize halfQ = h at *
  constructor <;> grind
end Go.Proofs.YtpnofkefcoaojaaGreatDoor
set_option maxRecDepth 100000
set_option maxHeartbeats 3200000
namespace Go.Proofs.YtpnofkefcoaojaaGreatDoor
open Go.RowKit
open Go.Lib
theorem plain_empty (s : ByteArray) (w : World) (hz : s.size = 0) : Calls Tryz.prog 68 #[.string s] w (FlagPost 0 false w) := by
  have hs : s.data.toList = [] := by
    have : s.data.toList.length = 0 := by rw [← hz]; simp
    exact List.eq_nil_of_length_eq_zero this
  exact plain_n0_A s 0 0 false 0 0 w (by omega) hz (fun W => Lib.hid (by
    have h := run_any s W (by omega)
    rw [hs] at h
    exact h)) rfl
theorem get_empty (s : ByteArray) (w : World) (hz : s.size = 0) : Calls Tryz.prog 31 #[.string s] w fun e w' => e = .returned (.tuple #[.agg #[.bool false, .slice none 0 0, .slice none 0 0], .bool false]) ∧ Below w.heap.size w w' := by
  have hres := hiD (Resa.start w)
  have hpl := hiD (fun W => plain_empty s W hz)
  have h82 : (s.size : Int) ≤ 82 := by omega
  clear hz
  go_enter Tryz.func31, Tryz.ntmps31
  go_wp2_with fail
  refine (hpl.out _).mono ?_
  rintro e w1 ⟨b, p, n, c, p2, n2, c2, rfl, hb1, -⟩
  have hr2 := hiD ((hres.out.next hb1).next (below_alloc9 w1 (.cells #[.bool b, .slice p n c, .slice p2 n2 c2] 59)))
  obtain ⟨z0, z1, z2, l0, l1, l2, f0, f1, f2⟩ := hr2.out.slots
  have q3 := hiD (hr2.out.put3 (Nat.le_refl _) false none none 0 0 0 0).below
  clear hb1
  go_wp2_with fail
  refine bodyPost_ret (v := .tuple #[.agg #[.bool false, .slice none 0 0, .slice none 0 0], .bool false]) ?h1 rfl ?h2
  case h1 => simp [results, Tryz.results31, go_sem, l0, l1, l2]
  exact ⟨rfl, q3.out⟩
def qv (x : List UInt8) : Rat := (num x).getD 0
def GvPost (q : Rat) (f : Bool) (w : World) (e : Ending) (w' : World) : Prop := ∃ b p n c p2 n2 c2, e = .returned (.tuple #[.agg #[.bool b, .slice p n c, .slice p2 n2 c2], .bool f]) ∧ Below w.heap.size w w' ∧ QAt w' (.agg #[.bool b, .slice p n c, .slice p2 n2 c2]) q
theorem getv (x : List UInt8) (w : World) (h : x = [] ∨ (num x).isSome = true) : Calls Tryz.prog 31 #[.string ⟨x.toArray⟩] w (GvPost (qv x) (num x).isSome w) := by
  rcases h with rfl | h
  · have e : num [] = none := num_nil
    unfold qv
    rw [e]
    refine (get_empty ⟨([] : List UInt8).toArray⟩ w rfl).mono ?_
    rintro e w' ⟨rfl, hb⟩
    exact ⟨_, _, _, _, _, _, _, rfl, hb, QAt.zero w'⟩
  · refine (get_flag ⟨x.toArray⟩ (num x) rfl w).mono ?_
    rintro e w' ⟨b, p, n, c, p2, n2, c2, rfl, hb, hq⟩
    exact ⟨b, p, n, c, p2, n2, c2, rfl, hb, hq h⟩
open Big in
theorem qv_lt (x : List UInt8) : QLt 5 (qv x) := by
  unfold qv
  cases hn : num x with
  | none => exact ⟨by rw [show ((none : Option Rat).getD 0) = 0 from rfl]; show 0 < B9 ^ 5; exact Nat.pow_pos B9_pos, by rw [show ((none : Option Rat).getD 0) = 0 from rfl]; show 1 < B9 ^ 5; rw [B9_eq]; decide⟩
  | some q => exact num_lt9 hn
theorem sgn_le {q : Rat} (h : q ≤ 0) : sgnQ q ≤ 0 := by
  rw [sgn_same]
  rcases sgnR_cases q with ⟨_, e⟩ | ⟨_, e⟩ | ⟨h2, _⟩
  · rw [e]; decide
  · rw [e]; decide
  · exact absurd h2 (Rat.not_lt.2 h)
theorem sgn_ge {q : Rat} (h : 0 ≤ q) : 0 ≤ sgnQ q := by
  rw [sgn_same]
  rcases sgnR_cases q with ⟨h2, _⟩ | ⟨_, e⟩ | ⟨_, e⟩
  · exact absurd h2 (Rat.not_lt.2 h)
  · rw [e]; decide
  · rw [e]; decide
theorem minus_lt {K L : Nat} {a b : Rat} (ha : QLt K a) (hb : QLt L b) : QLt (K + L + 1) (a - b) := by
  rw [Rat.sub_eq_add_neg]; exact ha.add hb.neg
theorem minus_bound {a b : Rat} (ha : QLt 5 a) (hb : QLt 5 b) : ∃ K, K ≤ 1000 ∧ QLt K (a - b) := ⟨5 + 5 + 1, by decide, minus_lt ha hb⟩
def NearAt (s : Rat) (x y : List UInt8) : Prop := (num x).isSome = (num y).isSome ∧ ((num x).isSome = true → qv x - qv y + (qv x - qv y) ≤ s ∧ -s ≤ qv x - qv y + (qv x - qv y))
end Go.Proofs.YtpnofkefcoaojaaGreatDoor
