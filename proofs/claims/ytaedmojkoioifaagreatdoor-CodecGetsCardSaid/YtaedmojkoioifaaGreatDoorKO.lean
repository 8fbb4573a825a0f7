/- The program's Get of any bytes. -/
import Derived.Test.YtaedmojkoioifaaGreatDoorKN
set_option maxHeartbeats 2000000
set_option maxRecDepth 100000
namespace Go.Proofs.YtaedmojkoioifaaGreatDoor
open Go.RowKit
open Go.Lib
def isC (n : Int) : Bool := decide (0 ≤ n) && decide (n ≤ 4096)
theorem ba_ne {l l2 : List UInt8} (h : l ≠ l2) : (⟨l.toArray⟩ : ByteArray) ≠ ⟨l2.toArray⟩ := fun e => h (by
  injection e with e
  have := congrArg Array.toList e
  simpa using this)
theorem isCount_gen (n : Int) (w : World) : Calls Tryz.prog 20 #[.int .i64 n] w fun e w' => e = .returned (.bool (isC n)) ∧ w = w' := by
  obtain ⟨b, HB⟩ : ∃ b, Hid (isC n = b) := ⟨_, rfl⟩
  rw [HB.out]
  by_cases h0 : 0 ≤ n
  · by_cases h1 : n ≤ 4096
    · obtain rfl : b = true := by rw [← HB.out]; unfold isC; rw [decide_eq_true h0, decide_eq_true h1]; rfl
      go_enter Tryz.func20, Tryz.ntmps20
      go_wp2_with fail
      go_ret
      exact ⟨rfl, rfl⟩
    · obtain rfl : b = false := by rw [← HB.out]; unfold isC; rw [decide_eq_false h1, Bool.and_false]
      go_enter Tryz.func20, Tryz.ntmps20
      go_wp2_with fail
      go_ret
      exact ⟨rfl, rfl⟩
  · obtain rfl : b = false := by rw [← HB.out]; unfold isC; rw [decide_eq_false h0]; rfl
    go_enter Tryz.func20, Tryz.ntmps20
    go_wp2_with fail
    go_ret
    exact ⟨rfl, rfl⟩
theorem bytesEqual_ne (p q : Option Addr) (c d m m2 : Nat) (l l2 : List UInt8) (w : World) (hm : Hid (l.length = m)) (hm2 : Hid (l2.length = m2)) (hne : l ≠ l2) (hp : Bs w p l) (hq : Bs w q l2) :
    Calls Tryz.prog 22 #[.slice p m c, .slice q m2 d] w fun r w' => r = .returned (.bool false) ∧ w = w' := by
  have h1 := conv_bytes w p c l hp
  have h2 := conv_bytes w q d l2 hq
  have h3 := ba_ne hne
  obtain ⟨X, HX⟩ : ∃ X : ByteArray, Hid (⟨l.toArray⟩ = X) := ⟨_, rfl⟩
  obtain ⟨Y, HY⟩ : ∃ Y : ByteArray, Hid (⟨l2.toArray⟩ = Y) := ⟨_, rfl⟩
  rw [hm.out, HX.out] at h1
  rw [hm2.out, HY.out] at h2
  rw [HX.out, HY.out] at h3
  have h4 : ¬ X = Y := h3
  have h5 : (X.toList == Y.toList) = false := by
    rw [Bool.eq_false_iff]
    intro e
    rw [beq_iff_eq] at e
    refine h4 ?_
    rw [← HX.out, ← HY.out] at e ⊢
    simp at e
    rw [e]
  clear hp hq hne h3
  go_enter Tryz.func22, Tryz.ntmps22
  go_wp2_with fail
  go_ret
  exact ⟨rfl, rfl⟩
theorem get_nobytes (k : Int) (p : Option Addr) (c n m : Nat) (lb : List UInt8) (w : World) (HK1 : Hid (1 ≤ k ∧ k ≤ 5)) (hn : n ≤ 4096) (hm : Hid (lb.length = m)) (hmc : m ≤ c) (hb : Bs w p lb) (hml : m ≤ 1000000) (hnm : (n + 7) / 8 ≤ m) (he : Env w)
    (hno : Hid (∀ xs : List (List UInt8), xs.length = n → chkE k xs = 0 → putT k xs ≠ lb)) :
    Calls Tryz.prog 9 #[.int .i64 k, .int .i64 (n : Int), .slice p m c] w fun e w' => e = .returned (.tuple #[.slice none 0 0, .int .i64 5]) ∧ Below w.heap.size w w' := by
  have HB := Lib.hid hb
  have HE := Lib.hid he
  have HRV := Lib.hid (readVals_any k p c n m lb w HK1 hn hm hmc hb hml hnm he)
  have hkT : isT k = true := by unfold isT; rw [decide_eq_true HK1.out.1, decide_eq_true HK1.out.2]; rfl
  have HT := Lib.hid (fun W => isType_any k W)
  rw [hkT] at HT
  have hni : (n : Int) ≤ 4096 := by omega
  obtain ⟨P, HPD⟩ : ∃ P, Hid ((n + 7) / 8 = P) := ⟨_, rfl⟩
  have hPi : ((n : Int) + 7) / 8 = (P : Int) := by have := HPD.out; omega
  have HPR := Lib.hid (fun W => presence_any n hni W)
  rw [hPi] at HPR
  have hlt : ¬ (m : Int) < (P : Int) := by have := HPD.out; omega
  clear hb he hkT hPi hnm
  go_enter Tryz.func9, Tryz.ntmps9
  go_wp2_with fail
  refine (HT.out _).mono ?_
  rintro e w' ⟨rfl, rfl⟩
  go_wp2_with fail
  refine (isCount_any n hni _).mono ?_
  rintro e w' ⟨rfl, rfl⟩
  go_wp2_with fail
  refine (HPR.out _).mono ?_
  rintro e w' ⟨rfl, rfl⟩
  go_wp2_with fail
  refine (HRV.out).mono ?_
  rintro e w1 ⟨hb1, q, rfl, xs, hxl, hq⟩
  have HB1 := Lib.hid hb1
  have HXL := Lib.hid hxl
  obtain ⟨z, HZ⟩ : ∃ z, Hid (chkE k xs = z) := ⟨_, rfl⟩
  by_cases hz : z = 0
  · subst hz
    have HPUT := Lib.hid (put_good k q n n xs w1 HXL hn hq (HE.out.below hb1) HZ)
    have HNE := Lib.hid (hno.out xs hxl HZ.out)
    clear hb1 hq hxl
    go_wp2_with fail
    refine (HPUT.out).mono ?_
    rintro e w2 ⟨v2, rfl, hpg⟩
    obtain ⟨p2, c2, rfl, hbs, -⟩ := own_bytes hpg.own
    obtain ⟨m2, HM2⟩ : ∃ m2, Hid ((putT k xs).length = m2) := ⟨_, rfl⟩
    have HB12 := Lib.hid hpg.below
    have HEQ := Lib.hid (bytesEqual_ne p2 p c2 c m2 m (putT k xs) lb w2 HM2 hm HNE.out hbs ((HB.out.below HB1.out).below hpg.below))
    rw [HM2.out]
    clear hpg hbs
    go_wp2_with fail
    refine (HEQ.out).mono ?_
    rintro e w' ⟨rfl, rfl⟩
    have HFIN : Hid (Below w.heap.size w w2) := Lib.hid (HB1.out.trans (HB12.out.mono HB1.out.size))
    go_wp2_with fail
    go_ret2
    exact ⟨rfl, HFIN.out⟩
  · have HPUT := Lib.hid (put_bad k q n n xs w1 HXL hn hq (HE.out.below hb1) z HZ hz)
    have gz : (z != 0) = true := by rw [bne_iff_ne]; exact hz
    have HZN := Lib.hid hz
    clear hb1 hq hxl hz
    go_wp2_with fail
    refine (HPUT.out).mono ?_
    rintro e w2 ⟨rfl, hb2⟩
    have HFIN : Hid (Below w.heap.size w w2) := Lib.hid (HB1.out.trans (hb2.mono HB1.out.size))
    clear hb2
    go_wp2_with fail
    go_ret2
    exact ⟨rfl, HFIN.out⟩
theorem get_arg (k n : Int) (p : Option Addr) (c m : Nat) (w : World) (h : isT k = false ∨ isC n = false) :
    Calls Tryz.prog 9 #[.int .i64 k, .int .i64 n, .slice p m c] w fun e w' => e = .returned (.tuple #[.slice none 0 0, .int .i64 2]) ∧ w = w' := by
  have HT := Lib.hid (fun W => isType_any k W)
  have HC := Lib.hid (fun W => isCount_gen n W)
  obtain ⟨bt, HBT⟩ : ∃ bt, Hid (isT k = bt) := ⟨_, rfl⟩
  obtain ⟨bc, HBC⟩ : ∃ bc, Hid (isC n = bc) := ⟨_, rfl⟩
  rw [HBT.out] at HT h
  rw [HBC.out] at HC h
  cases bt with
  | false =>
    clear h
    go_enter Tryz.func9, Tryz.ntmps9
    go_wp2_with fail
    refine (HT.out _).mono ?_
    rintro e w' ⟨rfl, rfl⟩
    go_wp2_with fail
    go_ret2
    exact ⟨rfl, rfl⟩
  | true =>
    obtain rfl : bc = false := by rcases h with h | h; cases h; exact h
    go_enter Tryz.func9, Tryz.ntmps9
    go_wp2_with fail
    refine (HT.out _).mono ?_
    rintro e w' ⟨rfl, rfl⟩
    go_wp2_with fail
    refine (HC.out _).mono ?_
    rintro e w' ⟨rfl, rfl⟩
    go_wp2_with fail
    go_ret2
    exact ⟨rfl, rfl⟩
theorem get_few (k : Int) (p : Option Addr) (c n m : Nat) (w : World) (hk : isT k = true) (hn : n ≤ 4096) (hm : m < (n + 7) / 8) :
    Calls Tryz.prog 9 #[.int .i64 k, .int .i64 (n : Int), .slice p m c] w fun e w' => e = .returned (.tuple #[.slice none 0 0, .int .i64 5]) ∧ w = w' := by
  have HT := Lib.hid (fun W => isType_any k W)
  rw [hk] at HT
  have hni : (n : Int) ≤ 4096 := by omega
  obtain ⟨P, HPD⟩ : ∃ P, Hid ((n + 7) / 8 = P) := ⟨_, rfl⟩
  have hPi : ((n : Int) + 7) / 8 = (P : Int) := by have := HPD.out; omega
  have HPR := Lib.hid (fun W => presence_any n hni W)
  rw [hPi] at HPR
  have hlt : (m : Int) < (P : Int) := by have := HPD.out; omega
  clear hPi hm hk
  go_enter Tryz.func9, Tryz.ntmps9
  go_wp2_with fail
  refine (HT.out _).mono ?_
  rintro e w' ⟨rfl, rfl⟩
  go_wp2_with fail
  refine (isCount_any n hni _).mono ?_
  rintro e w' ⟨rfl, rfl⟩
  go_wp2_with fail
  refine (HPR.out _).mono ?_
  rintro e w' ⟨rfl, rfl⟩
  go_wp2_with fail
  go_ret2
  exact ⟨rfl, rfl⟩
end Go.Proofs.YtaedmojkoioifaaGreatDoor
