/- The sanity check. -/
import Derived.Test.YtaedmojkoioifaaGreatDoorCH
import Derived.Test.YtaedmojkoioifaaGreatDoorKK
import Derived.BigQuiet
import Derived.Deep.QuietTactic
set_option maxHeartbeats 1600000
set_option maxRecDepth 100000
namespace Go.Proofs.YtaedmojkoioifaaGreatDoor
open Go.RowKit
open Go.Lib
theorem three_cells (w : World) : Ss (w.alloc (.cells #[.string ⟨#[49]⟩, .string ⟨#[]⟩, .string ⟨#[45, 50]⟩] 9)) (some ⟨w.heap.size, 0, none⟩) [[49], [], [45, 50]] := by
  refine .inr ⟨w.heap.size, 0, rfl, by simp, fun j hj => ?_⟩
  have : j = 0 ∨ j = 1 ∨ j = 2 := by simp at hj; omega
  unfold World.cell?
  rw [heap_alloc_new]
  rcases this with rfl | rfl | rfl <;> rfl
theorem sane_any (w : World) (he : Env w) : Calls Tryz.prog 6 #[] w fun e w' => e = .returned (.bool true) ∧ Below w.heap.size w w' := by
  have hB0 : Below w.heap.size w (w.alloc (.cells #[.string ⟨#[49]⟩, .string ⟨#[]⟩, .string ⟨#[45, 50]⟩] 9)) := (Below.refl _ _).alloc (Nat.le_refl _) _
  have HP := Lib.hid (put_three (some ⟨w.heap.size, 0, none⟩) 3 _ (three_cells w) (he.below hB0))
  have HB0 := Lib.hid hB0
  clear he hB0
  go_enter Tryz.func6, Tryz.ntmps6
  go_wp2_with fail
  refine (HP.out).mono ?_
  rintro e w1 ⟨v, rfl, hp⟩
  have HB1 := Lib.hid (HB0.out.trans (hp.below.mono (by simp)))
  obtain ⟨g, cap, hv5, hcap, hg, hgl, hcell, hfree, hset⟩ := own_set hp.own (by simp [saneL])
  rw [show (saneL 3).length = 7 from rfl] at hv5 hcap
  subst hv5
  have g0 : w1.cell? ⟨g, 0, none⟩ = some (.int .u8 5) := hcell 0 (by simp [saneL])
  have g2 : w1.cell? ⟨g, 2, none⟩ = some (.int .u8 1) := hcell 2 (by simp [saneL])
  have g5 : w1.cell? ⟨g, 5, none⟩ = some (.int .u8 255) := hcell 5 (by simp [saneL])
  have g6 : w1.cell? ⟨g, 6, none⟩ = some (.int .u8 254) := hcell 6 (by simp [saneL])
  clear hcell hfree hset hp
  go_wp2_with fail
  go_ret
  exact ⟨rfl, HB1.out⟩
end Go.Proofs.YtaedmojkoioifaaGreatDoor
set_option maxHeartbeats 2000000
set_option maxRecDepth 100000
namespace Go.Proofs.YtaedmojkoioifaaGreatDoor
open Go.RowKit
open Go.Lib
theorem bytesEqual_same (p q : Option Addr) (c d m : Nat) (l : List UInt8) (w : World) (hm : Hid (l.length = m)) (hp : Bs w p l) (hq : Bs w q l) :
    Calls Tryz.prog 22 #[.slice p m c, .slice q m d] w fun r w' => r = .returned (.bool true) ∧ w = w' := by
  have h1 := conv_bytes w p c l hp
  have h2 := conv_bytes w q d l hq
  obtain ⟨X, HX⟩ : ∃ X : ByteArray, Hid (⟨l.toArray⟩ = X) := ⟨_, rfl⟩
  rw [hm.out, HX.out] at h1 h2
  clear hp hq
  go_enter Tryz.func22, Tryz.ntmps22
  go_wp2_with fail
  go_ret
  exact ⟨rfl, rfl⟩
theorem same_any (p q : Option Addr) (c d n : Nat) (xs : List (List UInt8)) (w : World) (hx : Hid (xs.length = n)) (hn : n ≤ 4096) (hp : Ss w p xs) (hq : Ss w q xs) :
    Calls Tryz.prog 10 #[.slice p n c, .slice q n d] w fun e w' => Below w.heap.size w w' ∧ e = .returned (.bool true) := by
  have HP := Lib.hid hp
  have HQ := Lib.hid hq
  have hni : (n : Int) ≤ 4096 := by omega
  have hnn : ((n : Int) != (n : Int)) = false := by simp
  clear hp hq
  go_enter Tryz.func10, Tryz.ntmps10
  go_wp2_with fail
  go_loopw [5] (fun iv wr => ∃ i r : Nat, i ≤ n ∧ iv = .int .i64 i ∧ wr = w.drewN r) (fun iv _ => n - (intOf iv).toNat)
  case atStart => exact ⟨0, 0, Nat.zero_le _, rfl, rfl⟩
  case round =>
    obtain ⟨i, r, hi, rfl, rfl⟩ := hrel
    have ii : (i : Int) ≤ (n : Int) := by omega
    by_cases hlt : i < n
    · have ilt : (i : Int) < (n : Int) := by omega
      obtain ⟨b1, o1, x, e1, -, hc1, hx1⟩ := HP.out.at (k := i) (by rw [hx.out]; exact hlt)
      obtain ⟨b2, o2, y, e2, -, hc2, hx2⟩ := HQ.out.at (k := i) (by rw [hx.out]; exact hlt)
      subst e1 e2
      obtain rfl : x = y := hx1.out.symm.trans hx2.out
      obtain ⟨X, HX⟩ : ∃ X : ByteArray, Hid (⟨x.toArray⟩ = X) := ⟨_, rfl⟩
      rw [HX.out] at hc1 hc2
      go_wp2_with fail
      go_quiet (fail)
      go_wp2_with fail
      go_roundw
      case rel => exact ⟨i + 1, _, by omega, by go_num, rfl⟩
      case measure => simp [intOf]; omega
    · obtain rfl : i = n := by omega
      have ilt : ¬ (i : Int) < (i : Int) := by omega
      go_wp2_with fail
      go_ret
      exact ⟨⟨rfl, rfl, rfl, Nat.le_refl _, fun _ _ => rfl⟩, rfl⟩
theorem get_put (k : Int) (p : Option Addr) (c n m : Nat) (xs : List (List UInt8)) (w : World) (hx : Hid (xs.length = n)) (hn : n ≤ 4096) (hm : Hid ((putT k xs).length = m)) (hmc : m ≤ c) (hb : Bs w p (putT k xs)) (HZ : Hid (chkE k xs = 0)) (he : Env w) :
    Calls Tryz.prog 9 #[.int .i64 k, .int .i64 (n : Int), .slice p m c] w fun e w' => ∃ q, e = .returned (.tuple #[.slice q n n, .int .i64 0]) ∧ Ss w' q xs ∧ Below w.heap.size w w' := by
  have HB := Lib.hid hb
  have HE := Lib.hid he
  have HRV := Lib.hid (readVals_put k p c n m xs w hx hn hm hmc hb HZ he)
  clear hb he
  have hkT : isT k = true := by
    have h := HZ.out
    unfold chkE at h
    by_cases h1 : isT k = false
    · rw [if_pos h1] at h; cases h
    · simpa using h1
  have HT := Lib.hid (fun W => isType_any k W)
  rw [hkT] at HT
  have hni : (n : Int) ≤ 4096 := by omega
  obtain ⟨P, HPD⟩ : ∃ P, Hid ((n + 7) / 8 = P) := ⟨_, rfl⟩
  have hPi : ((n : Int) + 7) / 8 = (P : Int) := by have := HPD.out; omega
  have HPR := Lib.hid (fun W => presence_any n hni W)
  rw [hPi] at HPR
  have hPm : P ≤ m := by
    rw [← hm.out, put_left, List.length_append, stP_len, hx.out, HPD.out]; omega
  have hlt : ¬ (m : Int) < (P : Int) := by omega
  clear hkT hPi hPm
  go_enter Tryz.func9, Tryz.ntmps9
  go_wp2_with fail
  refine (HT.out _).mono ?_
  rintro e w' ⟨rfl, rfl⟩
  go_wp2_with fail
  refine (isCount_any n hni _).mono ?_
  rintro e w' ⟨rfl, rfl⟩
  go_wp2_with fail
  refine (HPR.out _).mono ?_
  rintro e w' ⟨rfl, rfl⟩
  go_wp2_with fail
  refine (HRV.out).mono ?_
  rintro e w1 ⟨hb1, q, rfl, hq⟩
  have HB1 := Lib.hid hb1
  have HQ := Lib.hid hq
  have HPUT := Lib.hid (put_good k q n n xs w1 hx hn hq (HE.out.below hb1) HZ)
  clear hb1 hq
  go_wp2_with fail
  refine (HPUT.out).mono ?_
  rintro e w2 ⟨v2, rfl, hpg⟩
  obtain ⟨p2, c2, rfl, hbs, -⟩ := own_bytes hpg.own
  have HB12 := Lib.hid hpg.below
  have HEQ := Lib.hid (bytesEqual_same p2 p c2 c m (putT k xs) w2 hm hbs ((HB.out.below HB1.out).below hpg.below))
  rw [hm.out]
  clear hpg hbs
  go_wp2_with fail
  refine (HEQ.out).mono ?_
  rintro e w' ⟨rfl, rfl⟩
  have HFIN : Hid (Ss w2 q xs ∧ Below w.heap.size w w2) := Lib.hid ⟨HQ.out.below HB12.out, HB1.out.trans (HB12.out.mono HB1.out.size)⟩
  go_wp2_with fail
  go_ret2
  exact ⟨q, rfl, HFIN.out.1, HFIN.out.2⟩
end Go.Proofs.YtaedmojkoioifaaGreatDoor
