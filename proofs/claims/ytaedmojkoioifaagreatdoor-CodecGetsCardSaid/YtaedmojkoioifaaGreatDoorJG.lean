/- CodecGets: both sides beside each other. -/
import Derived.Test.YtaedmojkoioifaaGreatDoorJE
import Derived.Test.YtaedmojkoioifaaGreatDoorKO
import Derived.Test.YtaedmojkoioifaaGreatDoorKL
set_option maxHeartbeats 2000000
set_option maxRecDepth 100000
namespace Go.Proofs.YtaedmojkoioifaaGreatDoor
open Go.RowKit
open Go.Lib
theorem gi_ex {k : Int} {n : Nat} {lb : List UInt8} (h1 : 1 ≤ k) (h5 : k ≤ 5) : ∀ i, i ≤ n → ∃ lr ys, GI k n lb lr ys i := by
  intro i
  induction i with
  | zero => exact fun _ => ⟨_, _, gi_start rfl⟩
  | succ i ih =>
    intro hi
    obtain ⟨lr, ys, h⟩ := ih (by omega)
    by_cases hb : (lb.getD (i / 8) 0).toNat.testBit (i % 8) = true
    · by_cases hk : k = 5
      · subst hk
        exact ⟨_, _, (gi_text h (by omega) rfl hb).2.2⟩
      · exact ⟨_, _, (gi_int h (by omega) rfl hb h1 (by omega)).2⟩
    · exact ⟨_, _, (gi_skip h (by omega) rfl (by simpa using hb)).2⟩
theorem isT_of_chk {k : Int} {xs : List (List UInt8)} (h : chkE k xs = 0) : isT k = true := by
  unfold chkE at h
  by_cases h1 : isT k = false
  · rw [if_pos h1] at h; cases h
  · simpa using h1
theorem isT_range {k : Int} (h : isT k = true) : 1 ≤ k ∧ k ≤ 5 := by
  unfold isT at h
  rw [Bool.and_eq_true, decide_eq_true_eq, decide_eq_true_eq] at h
  exact h
theorem putT_inj {k : Int} {xs ys : List (List UInt8)} (hl : xs.length = ys.length) (hx : chkE k xs = 0) (hy : chkE k ys = 0) (h : putT k xs = putT k ys) : xs = ys := by
  obtain ⟨h1, h5⟩ := isT_range (isT_of_chk hx)
  obtain ⟨lr, zs, hg⟩ := gi_ex (n := ys.length) (lb := putT k ys) h1 h5 ys.length (Nat.le_refl _)
  have e1 := (hg xs hl hx h).2
  have e2 := (hg ys rfl hy rfl).2
  rw [← hl, List.take_length] at e1
  rw [List.take_length] at e2
  rw [← e1, ← e2]
theorem rget_arg (k n : Int) (p : Option Addr) (c m : Nat) (w : World) (h : isT k = false ∨ isC n = false) :
    Calls Tryz.prog 11 #[.int .i64 k, .int .i64 n, .slice p m c] w fun e w' => e = .returned (.tuple #[.slice none 0 0, .int .i64 2]) ∧ w = w' := by
  have HT := Lib.hid (fun W => risType_any k W)
  obtain ⟨bt, HBT⟩ : ∃ bt, Hid (isT k = bt) := ⟨_, rfl⟩
  rw [HBT.out] at HT h
  cases bt with
  | false =>
    clear h
    go_enter Tryz.func11, Tryz.ntmps11
    go_wp2_with fail
    refine (HT.out _).mono ?_
    rintro e w' ⟨rfl, rfl⟩
    go_wp2_with fail
    go_ret2
    exact ⟨rfl, rfl⟩
  | true =>
    have hc : isC n = false := by rcases h with h | h; cases h; exact h
    clear h
    by_cases h0 : n < 0
    · go_enter Tryz.func11, Tryz.ntmps11
      go_wp2_with fail
      refine (HT.out _).mono ?_
      rintro e w' ⟨rfl, rfl⟩
      go_wp2_with fail
      go_ret2
      exact ⟨rfl, rfl⟩
    · have h4 : 4096 < n := by
        unfold isC at hc
        rw [Bool.and_eq_false_iff, decide_eq_false_iff_not, decide_eq_false_iff_not] at hc
        omega
      go_enter Tryz.func11, Tryz.ntmps11
      go_wp2_with fail
      refine (HT.out _).mono ?_
      rintro e w' ⟨rfl, rfl⟩
      go_wp2_with fail
      go_ret2
      exact ⟨rfl, rfl⟩
theorem rget_few (k : Int) (p : Option Addr) (c n m : Nat) (w : World) (hk : isT k = true) (hn : n ≤ 4096) (hm : m < (n + 7) / 8) :
    Calls Tryz.prog 11 #[.int .i64 k, .int .i64 (n : Int), .slice p m c] w fun e w' => e = .returned (.tuple #[.slice none 0 0, .int .i64 5]) ∧ w = w' := by
  have HT := Lib.hid (fun W => risType_any k W)
  rw [hk] at HT
  have hni : (n : Int) ≤ 4096 := by omega
  have hn0 : ¬ (n : Int) < 0 := by omega
  have hn4 : ¬ (4096 : Int) < (n : Int) := by omega
  have hn4N : ¬ 4096 < n := by omega
  obtain ⟨P, HPD⟩ : ∃ P, Hid ((n + 7) / 8 = P) := ⟨_, rfl⟩
  have hPi : ((n : Int) + 7) / 8 = (P : Int) := by have := HPD.out; omega
  have hlt : (m : Int) < (P : Int) := by have := HPD.out; omega
  have hltN : m < P := by omega
  clear hm hk
  go_enter Tryz.func11, Tryz.ntmps11
  go_wp2_with fail
  refine (HT.out _).mono ?_
  rintro e w' ⟨rfl, rfl⟩
  go_wp2_with fail
  go_ret2
  exact ⟨rfl, rfl⟩
def GtPost (z : Int) (L : Nat) (xs : List (List UInt8)) (w : World) (e : Ending) (w' : World) : Prop :=
  ∃ q c, e = .returned (.tuple #[.slice q L c, .int .i64 z]) ∧ Ss w' q xs ∧ Below w.heap.size w w'
theorem ss_nil (w : World) : Ss w none [] := .inl rfl
theorem gets_pair (k n : Int) (p : Option Addr) (c m : Nat) (lb : List UInt8) (w : World) (he : Env w) (hm : Hid (lb.length = m)) (hmc : m ≤ c) (hb : Bs w p lb) (hml : m ≤ 2000) :
    ∃ z L xs, Hid (xs.length = L) ∧ L ≤ 4096 ∧ Calls Tryz.prog 9 #[.int .i64 k, .int .i64 n, .slice p m c] w (GtPost z L xs w) ∧ ∀ W, Below w.heap.size w W → Calls Tryz.prog 11 #[.int .i64 k, .int .i64 n, .slice p m c] W (GtPost z L xs W) := by
  by_cases hg : isT k = false ∨ isC n = false
  · refine ⟨2, 0, [], Lib.hid rfl, by omega, (get_arg k n p c m w hg).mono ?_, fun W hW => (rget_arg k n p c m W hg).mono ?_⟩
    · rintro e w' ⟨rfl, rfl⟩; exact ⟨_, _, rfl, ss_nil _, Below.refl _ _⟩
    · rintro e w' ⟨rfl, rfl⟩; exact ⟨_, _, rfl, ss_nil _, Below.refl _ _⟩
  have hk : isT k = true := by
    cases h : isT k with
    | true => rfl
    | false => exact absurd (.inl h) hg
  have hc : isC n = true := by
    cases h : isC n with
    | true => rfl
    | false => exact absurd (.inr h) hg
  have hc2 : 0 ≤ n ∧ n ≤ 4096 := by
    unfold isC at hc
    rw [Bool.and_eq_true, decide_eq_true_eq, decide_eq_true_eq] at hc
    exact hc
  obtain ⟨N, rfl⟩ : ∃ N : Nat, n = N := ⟨n.toNat, by omega⟩
  have hN : N ≤ 4096 := by omega
  clear hc2 hc hg
  by_cases hf : m < (N + 7) / 8
  · refine ⟨5, 0, [], Lib.hid rfl, by omega, (get_few k p c N m w hk hN hf).mono ?_, fun W hW => (rget_few k p c N m W hk hN hf).mono ?_⟩
    · rintro e w' ⟨rfl, rfl⟩; exact ⟨_, _, rfl, ss_nil _, Below.refl _ _⟩
    · rintro e w' ⟨rfl, rfl⟩; exact ⟨_, _, rfl, ss_nil _, Below.refl _ _⟩
  have HK1 := Lib.hid (isT_range hk)
  have hnm : (N + 7) / 8 ≤ m := by omega
  by_cases hex : ∃ xs : List (List UInt8), xs.length = N ∧ chkE k xs = 0 ∧ putT k xs = lb
  · obtain ⟨xs, hx, hz, hp⟩ := hex
    refine ⟨0, N, xs, Lib.hid hx, hN, (get_put k p c N m xs w (Lib.hid hx) hN (Lib.hid (by rw [hp]; exact hm.out)) hmc (by rw [hp]; exact hb) (Lib.hid hz) he).mono ?_, fun W hW => (rget_any k p c N m lb W HK1 hN hm hmc (hb.below hW) (by omega) hnm).mono ?_⟩
    · rintro e w' ⟨q, rfl, hs, hb9⟩; exact ⟨_, _, rfl, hs, hb9⟩
    · rintro e w' ⟨hb9, ⟨ys, q, d, hy, hzy, hpy, rfl, hs⟩ | ⟨hno, -⟩⟩
      · have e := putT_inj (hx.trans hy.symm) hz hzy (hp.trans hpy.symm)
        subst e
        exact ⟨_, _, rfl, hs, hb9⟩
      · exact absurd hp (hno xs hx hz)
  · have hno : ∀ xs : List (List UInt8), xs.length = N → chkE k xs = 0 → putT k xs ≠ lb := fun xs hx hz hp => hex ⟨xs, hx, hz, hp⟩
    refine ⟨5, 0, [], Lib.hid rfl, by omega, (get_nobytes k p c N m lb w HK1 hN hm hmc hb (by omega) hnm he (Lib.hid hno)).mono ?_, fun W hW => (rget_any k p c N m lb W HK1 hN hm hmc (hb.below hW) (by omega) hnm).mono ?_⟩
    · rintro e w' ⟨rfl, hb9⟩; exact ⟨_, _, rfl, ss_nil _, hb9⟩
    · rintro e w' ⟨hb9, ⟨ys, q, d, hy, hzy, hpy, -, -⟩ | ⟨-, rfl⟩⟩
      · exact absurd hpy (hno ys hy hzy)
      · exact ⟨_, _, rfl, ss_nil _, hb9⟩
end Go.Proofs.YtaedmojkoioifaaGreatDoor
set_option maxHeartbeats 2000000
set_option maxRecDepth 100000
namespace Go.Proofs.YtaedmojkoioifaaGreatDoor
open Go.RowKit
open Go.Lib
theorem gets_law (k n : Int) (p : Option Addr) (c m : Nat) (lb : List UInt8) (w : World) (he : Env w) (hm : Hid (lb.length = m)) (hmc : m ≤ c) (hb : Bs w p lb) :
    Calls Tryz.prog 4 #[.int .i64 k, .int .i64 n, .slice p m c] w fun e w' => Below w.heap.size w w' ∧ e = .returned (.bool true) := by
  have HE := Lib.hid he
  have HB := Lib.hid hb
  have HSANE : Hid (∀ W, Below w.heap.size w W → Calls Tryz.prog 6 #[] W fun e w' => e = .returned (.bool true) ∧ Below W.heap.size W w') := Lib.hid (fun W hW => sane_any W (HE.out.below hW))
  have HB0 := Lib.hid (Below.refl w.heap.size w)
  clear he hb
  by_cases hl : 2000 < m
  · have hli : (2000 : Int) < (m : Int) := by omega
    go_enter Tryz.func4, Tryz.ntmps4
    go_wp2_with fail
    refine (HSANE.out _ HB0.out).mono ?_
    rintro e w9 ⟨rfl, hb9⟩
    have HB9 := Lib.hid hb9
    clear hb9
    go_wp2_with fail
    go_ret
    exact ⟨HB9.out, rfl⟩
  · have hli : ¬ (2000 : Int) < (m : Int) := by omega
    obtain ⟨z, L, xs, HL, hL, hp1, hp2⟩ := gets_pair k n p c m lb w HE.out hm hmc HB.out (by omega)
    have HP1 := Lib.hid hp1
    have HP2 := Lib.hid hp2
    clear hp1 hp2
    go_enter Tryz.func4, Tryz.ntmps4
    go_wp2_with fail
    refine (HP1.out).mono ?_
    rintro e w1 ⟨q1, c1, rfl, hs1, hb1⟩
    have HB1 := Lib.hid hb1
    have HS1 := Lib.hid hs1
    clear hb1 hs1
    go_wp2_with fail
    refine (HP2.out _ HB1.out).mono ?_
    rintro e w2 ⟨q2, c2, rfl, hs2, hb2⟩
    have HB2 : Hid (Below w.heap.size w w2) := Lib.hid (HB1.out.trans (hb2.mono HB1.out.size))
    have HSM := Lib.hid (same_any q1 q2 c1 c2 L xs w2 HL hL (HS1.out.below hb2) hs2)
    clear hb2 hs2
    go_wp2_with fail
    refine (HSM.out).mono ?_
    rintro e w3 ⟨hb3, rfl⟩
    have HB3 : Hid (Below w.heap.size w w3) := Lib.hid (HB2.out.trans (hb3.mono HB2.out.size))
    clear hb3
    go_wp2_with fail
    refine (HSANE.out _ HB3.out).mono ?_
    rintro e w9 ⟨rfl, hb9⟩
    have HB9 : Hid (Below w.heap.size w w9) := Lib.hid (HB3.out.trans (hb9.mono HB3.out.size))
    clear hb9
    go_wp2_with fail
    go_ret
    exact ⟨HB9.out, rfl⟩
end Go.Proofs.YtaedmojkoioifaaGreatDoor
