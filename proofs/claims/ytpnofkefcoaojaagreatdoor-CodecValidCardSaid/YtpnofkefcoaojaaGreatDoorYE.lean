/- What a pipeline may lose; the law CodecValid. -/
import Derived.Test.YtpnofkefcoaojaaGreatDoorYD
import Derived.Test.YtpnofkefcoaojaaGreatDoorWDA
import Derived.BigQuiet
import Derived.Deep.QuietTactic
import Derived.StillTailTactics
set_option maxHeartbeats 2000000
set_option maxRecDepth 100000
namespace Go.Proofs.YtpnofkefcoaojaaGreatDoor
open Go.RowKit
open Go.Lib
def rndF (l : List Sg) : Bool := decide (0 < l.length) && decide ((l.getD 0 (0, 0, [])).1 = 1)
def stepL (l : List Sg) : List UInt8 := (l.getD 0 (0, 0, [])).2.2
def lossT (k : Int) (l : List Sg) : List UInt8 × Int := if pipOk k l = false then ([], 40) else if rndF l = false then ([48], 0) else (divT (stepL l) [50], 0)
def LossPost (t : List UInt8 × Int) (w : World) (e : Ending) (w' : World) : Prop := e = .returned (.tuple #[.string ⟨t.1.toArray⟩, .int .i64 t.2]) ∧ Below w.heap.size w w'
theorem rounds_any (p : Option Addr) (c n : Nat) (l : List Sg) (w : World) (hx : Hid (l.length = n)) (hs : RdG w p l) :
    Calls Tryz.prog 35 #[.slice p n c] w fun e w' => e = .returned (.bool (rndF l)) ∧ w = w' := by
  have HS := Lib.hid hs
  clear hs
  by_cases h0 : n = 0
  · have hr : rndF l = false := by unfold rndF; rw [hx.out, h0]; rfl
    rw [hr]
    subst h0
    clear hr
    go_enter Tryz.func35, Tryz.ntmps35
    go_wp2_with fail
    go_ret
    exact ⟨rfl, rfl⟩
  have hn0 : (0 : Int) < (n : Int) := by omega
  have hne : ((n : Int) == 0) = false := by rw [beq_eq_false_iff_ne]; omega
  obtain ⟨b1, o1, x, y, z, e1, hb1, hc1, hc2, hc3, hx1⟩ := HS.out.at (k := 0) (by rw [hx.out]; omega)
  subst e1
  rw [Nat.zero_mul, Nat.add_zero] at hc1 hc2 hc3
  have hr : rndF l = decide (x = 1) := by unfold rndF; rw [hx1.out, decide_eq_true (by rw [hx.out]; omega), Bool.true_and]
  have hst : stepL l = z := by unfold stepL; rw [hx1.out]
  obtain ⟨Z, HZ⟩ : ∃ Z : ByteArray, Hid (⟨z.toArray⟩ = Z) := ⟨_, rfl⟩
  rw [HZ.out] at hc3
  by_cases h1 : x = 1
  · subst h1
    have HR : Hid (rndF l = true) := Lib.hid (by rw [hr]; rfl)
    have HST := Lib.hid hst
    rw [HR.out]
    try rw [HST.out, HZ.out]
    clear hr hst h0
    go_enter Tryz.func35, Tryz.ntmps35
    go_wp2_with fail
    go_ret
    exact ⟨rfl, rfl⟩
  · have hxb : (x == 1) = false := by rw [beq_eq_false_iff_ne]; exact h1
    have HR : Hid (rndF l = false) := Lib.hid (by rw [hr]; exact decide_eq_false h1)
    rw [HR.out]
    clear hr hst h1 h0
    go_enter Tryz.func35, Tryz.ntmps35
    go_wp2_with fail
    go_ret
    exact ⟨rfl, rfl⟩
theorem rstep_any (p : Option Addr) (c n : Nat) (l : List Sg) (w : World) (hx : Hid (l.length = n)) (hs : RdG w p l) :
    Calls Tryz.prog 37 #[.slice p n c] w fun e w' => e = .returned (.tuple #[.string (if rndF l then ⟨(stepL l).toArray⟩ else ⟨#[]⟩), .bool (rndF l)]) ∧ w = w' := by
  have HS := Lib.hid hs
  clear hs
  by_cases h0 : n = 0
  · have hr : rndF l = false := by unfold rndF; rw [hx.out, h0]; rfl
    rw [hr]
    subst h0
    clear hr
    go_enter Tryz.func37, Tryz.ntmps37
    go_wp2_with fail
    go_ret2
    exact ⟨rfl, rfl⟩
  have hn0 : (0 : Int) < (n : Int) := by omega
  have hne : ((n : Int) == 0) = false := by rw [beq_eq_false_iff_ne]; omega
  obtain ⟨b1, o1, x, y, z, e1, hb1, hc1, hc2, hc3, hx1⟩ := HS.out.at (k := 0) (by rw [hx.out]; omega)
  subst e1
  rw [Nat.zero_mul, Nat.add_zero] at hc1 hc2 hc3
  have hr : rndF l = decide (x = 1) := by unfold rndF; rw [hx1.out, decide_eq_true (by rw [hx.out]; omega), Bool.true_and]
  have hst : stepL l = z := by unfold stepL; rw [hx1.out]
  obtain ⟨Z, HZ⟩ : ∃ Z : ByteArray, Hid (⟨z.toArray⟩ = Z) := ⟨_, rfl⟩
  rw [HZ.out] at hc3
  by_cases h1 : x = 1
  · subst h1
    have HR : Hid (rndF l = true) := Lib.hid (by rw [hr]; rfl)
    have HST := Lib.hid hst
    rw [HR.out]
    try rw [HST.out, HZ.out]
    clear hr hst h0
    go_enter Tryz.func37, Tryz.ntmps37
    go_wp2_with fail
    go_ret2
    exact ⟨rfl, rfl⟩
  · have hxb : (x == 1) = false := by rw [beq_eq_false_iff_ne]; exact h1
    have HR : Hid (rndF l = false) := Lib.hid (by rw [hr]; exact decide_eq_false h1)
    rw [HR.out]
    clear hr hst h1 h0
    go_enter Tryz.func37, Tryz.ntmps37
    go_wp2_with fail
    go_ret2
    exact ⟨rfl, rfl⟩
theorem loss_any (k : Int) (p : Option Addr) (c n : Nat) (l : List Sg) (w : World) (htab : Tab w) (hx : Hid (l.length = n)) (hs : RdG w p l) :
    Calls Tryz.prog 11 #[.int .i64 k, .slice p n c] w (LossPost (lossT k l) w) := by
  have HTAB := Lib.hid htab
  have HS := Lib.hid hs
  have HV := Lib.hid (pvalid_any k p c n l w htab hx hs)
  obtain ⟨bv, HBV⟩ : ∃ b, Hid (pipOk k l = b) := ⟨_, rfl⟩
  obtain ⟨br, HBR⟩ : ∃ b, Hid (rndF l = b) := ⟨_, rfl⟩
  obtain ⟨⟨T, z⟩, HT⟩ : ∃ t, Hid (lossT k l = t) := ⟨_, rfl⟩
  have hT := HT.out
  unfold lossT at hT
  rw [HBV.out, HBR.out] at hT
  rw [HBV.out] at HV
  rw [HT.out]
  clear htab hs
  cases bv with
  | false =>
    rw [if_pos rfl] at hT
    cases hT
    go_enter Tryz.func11, Tryz.ntmps11
    go_wp2_with fail
    refine (HV.out).mono ?_
    rintro e w1 ⟨rfl, hb1⟩
    have HB := Lib.hid hb1
    clear hb1
    go_wp2_with fail
    go_ret2
    exact ⟨rfl, HB.out⟩
  | true =>
    rw [if_neg (by decide)] at hT
    have HRA : Hid (∀ W, Below w.heap.size w W → Calls Tryz.prog 35 #[.slice p n c] W fun e w' => e = .returned (.bool br) ∧ W = w') := Lib.hid (fun W hW => by
      have h := rounds_any p c n l W hx (HS.out.below hW)
      rwa [HBR.out] at h)
    cases br with
    | false =>
      rw [if_pos rfl] at hT
      cases hT
      go_enter Tryz.func11, Tryz.ntmps11
      go_wp2_with fail
      refine (HV.out).mono ?_
      rintro e w1 ⟨rfl, hb1⟩
      have HB := Lib.hid hb1
      clear hb1
      go_wp2_with fail
      refine (HRA.out _ HB.out).mono ?_
      rintro e w' ⟨rfl, rfl⟩
      go_wp2_with fail
      go_ret2
      exact ⟨rfl, HB.out⟩
    | true =>
      rw [if_neg (by decide)] at hT
      have h0 : 0 < l.length := by
        have h := HBR.out
        unfold rndF at h
        rw [Bool.and_eq_true, decide_eq_true_eq] at h
        exact h.1
      have hn0 : (0 : Int) < (n : Int) := by rw [hx.out] at h0; omega
      obtain ⟨b1, o1, x, y, s, e1, hb1, hc1, hc2, hc3, hx1⟩ := HS.out.at (k := 0) h0
      subst e1
      rw [Nat.zero_mul, Nat.add_zero] at hc3
      have hst : stepL l = s := by unfold stepL; rw [hx1.out]
      rw [hst] at hT
      obtain ⟨Z, HZ⟩ : ∃ Z : ByteArray, Hid (⟨s.toArray⟩ = Z) := ⟨_, rfl⟩
      rw [HZ.out] at hc3
      have HD : Hid (∀ W, Below w.heap.size w W → Calls Tryz.prog 36 #[.string Z, .string ⟨#[50]⟩] W (TxtPost T W)) := Lib.hid (fun W hW => by
        have h := div_q Z ⟨#[50]⟩ W (HTAB.out.below hW)
        have e : divT Z.data.toList [50] = T := by rw [← HZ.out]; exact congrArg Prod.fst hT
        rw [← e]; exact h)
      have hz : z = 0 := (congrArg Prod.snd hT).symm
      subst hz
      have HC := Lib.hid hc3
      have HBL := Lib.hid hb1
      clear hT hst hc1 hc2 hc3 hb1 h0
      go_enter Tryz.func11, Tryz.ntmps11
      go_wp2_with fail
      refine (HV.out).mono ?_
      rintro e w1 ⟨rfl, hb1⟩
      have HB := Lib.hid hb1
      have hc3 := (hb1.cell (p := ⟨b1, o1 + 2, none⟩) HBL.out).trans HC.out
      clear hb1
      go_wp2_with fail
      refine (HRA.out _ HB.out).mono ?_
      rintro e w' ⟨rfl, rfl⟩
      go_wp2_with fail
      refine (HD.out _ HB.out).mono ?_
      rintro e w2 ⟨rfl, hb2⟩
      have HB2 := Lib.hid (HB.out.trans (hb2.mono HB.out.size))
      clear hb2
      go_wp2_with fail
      go_ret2
      exact ⟨rfl, HB2.out⟩
theorem rloss_any (k : Int) (p : Option Addr) (c n : Nat) (l : List Sg) (w : World) (hx : Hid (l.length = n)) (hs : RdG w p l) :
    Calls Tryz.prog 12 #[.int .i64 k, .slice p n c] w (LossPost (lossT k l) w) := by
  have HS := Lib.hid hs
  have HV := Lib.hid (rvalidp_any k p c n l w hx hs)
  obtain ⟨bv, HBV⟩ : ∃ b, Hid (pipOk k l = b) := ⟨_, rfl⟩
  obtain ⟨br, HBR⟩ : ∃ b, Hid (rndF l = b) := ⟨_, rfl⟩
  obtain ⟨s, HSL⟩ : ∃ s, Hid (stepL l = s) := ⟨_, rfl⟩
  obtain ⟨Z, HZ⟩ : ∃ Z : ByteArray, Hid (⟨s.toArray⟩ = Z) := ⟨_, rfl⟩
  obtain ⟨⟨T, z⟩, HT⟩ : ∃ t, Hid (lossT k l = t) := ⟨_, rfl⟩
  have hT := HT.out
  unfold lossT at hT
  rw [HBV.out, HBR.out, HSL.out] at hT
  rw [HBV.out] at HV
  rw [HT.out]
  have HRA : Hid (∀ W, Below w.heap.size w W → Calls Tryz.prog 37 #[.slice p n c] W fun e w' => e = .returned (.tuple #[.string (if br then Z else ⟨#[]⟩), .bool br]) ∧ W = w') := Lib.hid (fun W hW => by
    have h := rstep_any p c n l W hx (HS.out.below hW)
    rwa [HBR.out, HSL.out, HZ.out] at h)
  clear hs
  cases bv with
  | false =>
    rw [if_pos rfl] at hT
    cases hT
    go_enter Tryz.func12, Tryz.ntmps12
    go_wp2_with fail
    refine (HV.out).mono ?_
    rintro e w1 ⟨rfl, hb1⟩
    have HB := Lib.hid hb1
    clear hb1
    go_wp2_with fail
    go_ret2
    exact ⟨rfl, HB.out⟩
  | true =>
    rw [if_neg (by decide)] at hT
    cases br with
    | false =>
      rw [if_pos rfl] at hT
      cases hT
      rw [if_neg (by decide)] at HRA
      go_enter Tryz.func12, Tryz.ntmps12
      go_wp2_with fail
      refine (HV.out).mono ?_
      rintro e w1 ⟨rfl, hb1⟩
      have HB := Lib.hid hb1
      clear hb1
      go_wp2_with fail
      refine (HRA.out _ HB.out).mono ?_
      rintro e w' ⟨rfl, rfl⟩
      go_wp2_with fail
      go_ret2
      exact ⟨rfl, HB.out⟩
    | true =>
      rw [if_neg (by decide)] at hT
      rw [if_pos rfl] at HRA
      have HD : Hid (∀ W, Calls Tryz.prog 38 #[.string Z, .string ⟨#[50]⟩] W (TxtPost T W)) := Lib.hid (fun W => by
        have h := rdiv_q Z ⟨#[50]⟩ W
        have e : divT Z.data.toList [50] = T := by rw [← HZ.out]; exact congrArg Prod.fst hT
        rw [← e]; exact h)
      have hz : z = 0 := (congrArg Prod.snd hT).symm
      subst hz
      clear hT
      go_enter Tryz.func12, Tryz.ntmps12
      go_wp2_with fail
      refine (HV.out).mono ?_
      rintro e w1 ⟨rfl, hb1⟩
      have HB := Lib.hid hb1
      clear hb1
      go_wp2_with fail
      refine (HRA.out _ HB.out).mono ?_
      rintro e w' ⟨rfl, rfl⟩
      go_wp2_with fail
      refine (HD.out _).mono ?_
      rintro e w2 ⟨rfl, hb2⟩
      have HB2 := Lib.hid (HB.out.trans (hb2.mono HB.out.size))
      clear hb2
      go_wp2_with fail
      go_ret2
      exact ⟨rfl, HB2.out⟩
end Go.Proofs.YtpnofkefcoaojaaGreatDoor
