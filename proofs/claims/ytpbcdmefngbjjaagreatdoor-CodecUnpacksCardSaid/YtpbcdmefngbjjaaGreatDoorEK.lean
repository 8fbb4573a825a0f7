/- The program's Pack. -/
import Derived.Test.YtpbcdmefngbjjaaGreatDoorEB
import Derived.BigRegion
import Derived.Test.YtpbcdmefngbjjaaGreatDoorDC
import Derived.BigQuiet
import Derived.Deep.Cut
namespace Go.Proofs.YtpbcdmefngbjjaaGreatDoor
open Go.RowKit
open Go.Lib
theorem mnL_lt' (gs : List Nat) : mnL gs < 18446744073709551616 := mnL_lt gs
theorem wdL_le (gs : List Nat) : wdL gs ≤ 64 := bl_le _
set_option maxRecDepth 100000 in
set_option maxHeartbeats 4000000 in
theorem pack_none (p : Option Addr) (c n len : Nat) (l : List UInt8) (w : World) (HL : Hid (len = l.length)) (h1 : 1 ≤ n) (h2 : n ≤ 8) (hl : len ≤ 1048576) (hc : len ≤ c) (hpc : p = none → c = 0) (hk0 : len / n = 0) (hb : Bs w p l) :
    Calls Tryz.prog 21 #[.slice p len c, .int .i64 (n : Int)] w (RowPost (be 4 0 ++ l) w) := by
  have HA := Lib.hid (check_ok_w p len c n w h1 h2 hl)
  have HN := Lib.hid (appendNumber_any w.heap.size (.slice none 0 0) [] 0 4 w (by decide) (by decide) (Nat.le_refl _) (World.ownsRow_nil w w.heap.size 5 1) (by decide))
  have HB := Lib.hid hb
  have HPC := Lib.hid hpc
  have hn1 : 1 ≤ (n : Int) := by omega
  have hn8 : (n : Int) ≤ 8 := by omega
  have hlen : (len : Int) ≤ 1048576 := by omega
  have hdiv : (len : Int) / (n : Int) = 0 := by
    have h3 : ((len / n : Nat) : Int) = 0 := by rw [hk0]; rfl
    rw [Int.natCast_ediv] at h3; exact h3
  have hquo : IntKind.i64.wrap ((len : Int) / (n : Int)) = 0 := by rw [hdiv]; rfl
  have hquo2 : IntKind.i64.wrap ((len : Int).tdiv (n : Int)) = 0 := by rw [Int.tdiv_eq_ediv_of_nonneg (by omega)]; exact hquo
  have hz : IntKind.u64.wrap 0 = 0 := rfl
  obtain ⟨R, HR⟩ : ∃ R, Hid (R = be 4 0 ++ l) := ⟨be 4 0 ++ l, Lib.hid rfl⟩
  rw [← HR.out]
  clear hb hpc
  go_enter Tryz.func21, Tryz.ntmps21
  go_wp2_with fail
  refine (HA.out).mono ?_
  rintro e w' ⟨rfl, rfl⟩
  go_wp2_with fail
  refine (HN.out).mono ?_
  rintro e w1 ⟨v1, rfl, hg1⟩
  obtain ⟨L1, HL1⟩ : ∃ L1, Hid (L1 = [] ++ be 4 0) := ⟨[] ++ be 4 0, Lib.hid rfl⟩
  rw [← HL1.out] at hg1
  have G1 := Lib.hid hg1
  have hB1 : Hid (Below w.heap.size w w1) := Lib.hid (hg1.below (Nat.le_refl _) (by intro k hk; cases hk))
  have HRest := Lib.hid (rest_any_w p c n 0 len l w1 h1 h2 HL hl hc HPC.out (by rw [hk0, Nat.zero_mul]; rfl) (HB.out.below hB1.out))
  rw [List.drop_zero, Nat.sub_zero] at HRest
  clear hg1
  go_wp2_with fail
  refine (HRest.out).mono ?_
  rintro e w2 ⟨rfl, q, d, rfl, hq⟩
  have HQ := Lib.hid hq
  have hbl : Hid (L1.length + len ≤ 140737488355328 ∧ w.heap.size ≤ w1.heap.size) := Lib.hid ⟨by rw [HL1.out]; show 4 + len ≤ _; omega, hB1.out.size⟩
  clear hq
  go_wp2_with (at_builtin; refine wpList_append_bs rfl (.tmp 48) (.tmp 51) rfl w.heap.size v1 L1.length L1 rfl rfl G1.out.own q len d l rfl HL.out.symm HQ.out hbl.out.1 hbl.out.2 ?_)
  intro v5 w5 hg5
  have G5 := Lib.hid (G1.out.trans hg5)
  rw [show L1 ++ l = R by rw [HL1.out, HR.out]; rfl] at G5
  clear hg5
  go_wp2_with fail
  go_ret2
  exact ⟨G5.out.below (Nat.le_refl _) (by intro k hk; cases hk), _, rfl, G5.out.own⟩
set_option maxRecDepth 100000 in
set_option maxHeartbeats 4000000 in
theorem pack_some (p : Option Addr) (c n len k : Nat) (l : List UInt8) (w : World) (HL : Hid (len = l.length)) (HK : Hid (k = len / n)) (h1 : 1 ≤ n) (h2 : n ≤ 8) (hl : len ≤ 1048576) (hc : len ≤ c) (hpc : p = none → c = 0) (hk0 : 0 < k) (hb : Bs w p l) :
    Calls Tryz.prog 21 #[.slice p len c, .int .i64 (n : Int)] w (RowPost (pacL n (gl n k l) (l.drop (k * n))) w) := by
  have HA := Lib.hid (check_ok_w p len c n w h1 h2 hl)
  have hkl : k ≤ len := by rw [HK.out]; exact Nat.div_le_self _ _
  have HKN : Hid (k * n ≤ len) := Lib.hid (by rw [HK.out]; exact Nat.div_mul_le_self _ _)
  have HN := Lib.hid (appendNumber_any w.heap.size (.slice none 0 0) [] k 4 w (by decide) (by decide) (Nat.le_refl _) (World.ownsRow_nil w w.heap.size 5 1) (by omega))
  have HB := Lib.hid hb
  have HPC := Lib.hid hpc
  have hn1 : 1 ≤ (n : Int) := by omega
  have hn8 : (n : Int) ≤ 8 := by omega
  have hlen : (len : Int) ≤ 1048576 := by omega
  have hdiv : (len : Int) / (n : Int) = (k : Int) := by rw [HK.out, Int.natCast_ediv]
  have hquo : IntKind.i64.wrap ((len : Int) / (n : Int)) = (k : Int) := by rw [hdiv, IntKind.wrap_i64]; omega
  have hquo2 : IntKind.i64.wrap ((len : Int).tdiv (n : Int)) = (k : Int) := by rw [Int.tdiv_eq_ediv_of_nonneg (by omega)]; exact hquo
  have hz : IntKind.u64.wrap (k : Int) = (k : Int) := by rw [IntKind.wrap_u64]; omega
  have hki : 0 < (k : Int) := by omega
  have hki2 : (k : Int) ≤ 1048576 := by omega
  obtain ⟨gs, HGS⟩ : ∃ gs, Hid (gs = gl n k l) := ⟨_, rfl⟩
  have hgl : gs.length = k := by rw [HGS.out, gl_length]
  obtain ⟨m, HM⟩ : ∃ m, Hid (m = mnL gs) := ⟨_, rfl⟩
  obtain ⟨wd, HWD⟩ : ∃ wd, Hid (wd = wdL gs) := ⟨_, rfl⟩
  have hm : m < 18446744073709551616 := by rw [HM.out]; exact mnL_lt gs
  have hwd : wd ≤ 64 := by rw [HWD.out]; exact wdL_le gs
  obtain ⟨y, HY⟩ : ∃ y : UInt8, Hid (y = UInt8.ofNat wd) := ⟨_, rfl⟩
  have hyw : y.toNat = wd := by rw [HY.out, UInt8.toNat_ofNat']; omega
  obtain ⟨PK, HPK⟩ : ∃ PK, Hid (PK = pkF gs) := ⟨_, rfl⟩
  obtain ⟨rs, HRS⟩ : ∃ rs, Hid (rs = l.drop (k * n)) := ⟨_, rfl⟩
  have hpkl : PK.length ≤ 8388608 + 1 := by
    have h5 : k * wd ≤ 1048576 * 64 := Nat.mul_le_mul (by omega) hwd
    rw [HPK.out, pkF, pkL_length, hgl, ← HWD.out]; omega
  obtain ⟨R, HR⟩ : ∃ R, Hid (R = pacL n gs rs) := ⟨_, rfl⟩
  have hR : Hid (be 4 k ++ be n m ++ [y] ++ PK ++ rs = R) := Lib.hid (by
    rw [HR.out, pacL, pkB, if_neg (by rw [hgl]; omega), hgl, ← HM.out, ← HWD.out, ← HY.out, ← HPK.out])
  rw [← HGS.out, ← HRS.out, ← HR.out]
  clear hb hpc hdiv
  go_enter Tryz.func21, Tryz.ntmps21
  go_wp2_with fail
  refine (HA.out).mono ?_
  rintro e w' ⟨rfl, rfl⟩
  go_wp2_with fail
  refine (HN.out).mono ?_
  rintro e w1 ⟨v1, rfl, hg1⟩
  obtain ⟨L1, HL1⟩ : ∃ L1, Hid (L1 = [] ++ be 4 k) := ⟨[] ++ be 4 k, Lib.hid rfl⟩
  rw [← HL1.out] at hg1
  have G1 := Lib.hid hg1
  have hB1 : Hid (Below w.heap.size w w1) := Lib.hid (hg1.below (Nat.le_refl _) (by intro k hk; cases hk))
  have HS := Lib.hid (span_any p c n len k l w1 HL HK h1 h2 hl hc hk0 (HB.out.below hB1.out))
  clear hg1
  go_wp2_with fail
  refine (HS.out).mono ?_
  rintro e w2 ⟨hb2, rfl⟩
  rw [← HGS.out, ← HM.out, ← HWD.out]
  have G2 := Lib.hid (G1.out.trans (Grew.of_below G1.out.own hb2))
  have hB2 := Lib.hid (hB1.out.trans (hb2.mono hB1.out.size))
  have HN2 := Lib.hid (appendNumber_any w.heap.size v1 L1 m n w2 h2 (by rw [HL1.out]; show 4 ≤ _; decide) hB2.out.size G2.out.own hm)
  clear hb2
  go_wp2_with fail
  refine (HN2.out).mono ?_
  rintro e w3 ⟨v3, rfl, hg3⟩
  obtain ⟨L3, HL3⟩ : ∃ L3, Hid (L3 = L1 ++ be n m) := ⟨_, rfl⟩
  rw [← HL3.out] at hg3
  have G3 := Lib.hid (G2.out.trans hg3)
  clear hg3
  have hB3 : Hid (Below w.heap.size w w3) := Lib.hid (G3.out.below (Nat.le_refl _) (by intro k hk; cases hk))
  have hL3 : Hid (L3.length = 4 + n) := Lib.hid (by rw [HL3.out, HL1.out, List.length_append, be_length]; rfl)
  have G3a := Lib.hid (G3.out.trans (Grew.of_below G3.out.own ((Below.refl _ w3).alloc (Nat.le_refl _) (.cells #[.int .u8 (wd : Int)] 5))))
  have hone : Hid (Bs (w3.alloc (.cells #[.int .u8 (wd : Int)] 5)) (some ⟨w3.heap.size, 0, none⟩) [y]) := Lib.hid (by have h := one_bs w3 y; rwa [hyw] at h)
  have hbl3 : Hid (L3.length + 1 ≤ 140737488355328 ∧ w.heap.size ≤ (w3.alloc (.cells #[.int .u8 (wd : Int)] 5)).heap.size) := Lib.hid ⟨by rw [hL3.out]; omega, by have := hB3.out.size; simp; omega⟩
  go_wp2_with (at_builtin; refine wpList_append_bs rfl (.tmp 36) (.tmp 39) rfl w.heap.size v3 L3.length L3 rfl rfl G3a.out.own _ 1 1 [y] rfl rfl hone.out hbl3.out.1 hbl3.out.2 ?_)
  intro v4 w4 hg4
  obtain ⟨L4, HL4⟩ : ∃ L4, Hid (L4 = L3 ++ [y]) := ⟨L3 ++ [y], Lib.hid rfl⟩
  rw [← HL4.out] at hg4
  have G4 := Lib.hid (G3a.out.trans hg4)
  clear hg4
  have hB4 : Hid (Below w.heap.size w w4) := Lib.hid (G4.out.below (Nat.le_refl _) (by intro k hk; cases hk))
  have HP := Lib.hid (packed_any p c n len k m wd l w4 HL HK h1 h2 hl hc (by rw [← HGS.out, HM.out]; intro g hg; exact mnL_le hg) hwd (HB.out.below hB4.out))
  have ePK : pkL (btF gs m wd) (k * wd) = PK := by rw [HPK.out, pkF, hgl, ← HM.out, ← HWD.out]
  rw [← HGS.out, ePK] at HP
  clear ePK
  go_wp2_with fail
  refine (HP.out).mono ?_
  rintro e w5 ⟨v5, rfl, hg5⟩
  have hb5 : Below w4.heap.size w4 w5 := hg5.below (Nat.le_refl _) (by intro k hk; cases hk)
  obtain ⟨p5, c5, rfl, hs5, -⟩ := own_bytes hg5.own
  obtain ⟨m5, HM5⟩ : ∃ m5, Hid (m5 = PK.length) := ⟨_, rfl⟩
  rw [← HM5.out]
  have HS5 := Lib.hid hs5
  have G5 := Lib.hid (G4.out.trans (Grew.of_below G4.out.own hb5))
  have hB5 := Lib.hid (hB4.out.trans (hb5.mono hB4.out.size))
  have hL4 : Hid (L4.length = 4 + n + 1) := Lib.hid (by rw [HL4.out, List.length_append, hL3.out]; rfl)
  have hbl5 : Hid (L4.length + m5 ≤ 140737488355328 ∧ w.heap.size ≤ w5.heap.size) := Lib.hid ⟨by rw [hL4.out, HM5.out]; omega, hB5.out.size⟩
  clear hg5 hb5 hs5
  go_wp2_with (at_builtin; refine wpList_append_bs rfl (.tmp 41) (.tmp 46) rfl w.heap.size v4 L4.length L4 rfl rfl G5.out.own p5 m5 c5 PK rfl HM5.out.symm HS5.out hbl5.out.1 hbl5.out.2 ?_)
  intro v6 w6 hg6
  obtain ⟨L6, HL6⟩ : ∃ L6, Hid (L6 = L4 ++ PK) := ⟨_, rfl⟩
  rw [← HL6.out] at hg6
  have G6 := Lib.hid (G5.out.trans hg6)
  clear hg6
  have hB6 : Hid (Below w.heap.size w w6) := Lib.hid (G6.out.below (Nat.le_refl _) (by intro k hk; cases hk))
  obtain ⟨t, HT⟩ : ∃ t, Hid (t = k * n) := ⟨_, rfl⟩
  have htl : t ≤ len := by rw [HT.out]; exact HKN.out
  have HRest := Lib.hid (rest_any_w p c n t len l w6 h1 h2 HL hl hc HPC.out (by rw [HT.out, HK.out]; rfl) (HB.out.below hB6.out))
  rw [show l.drop t = rs by rw [HRS.out, HT.out]] at HRest
  have hrl : rs.length = len - t := by rw [HRS.out, List.length_drop, ← HL.out, HT.out]
  have hL6 : Hid (L6.length ≤ 8388640) := Lib.hid (by rw [HL6.out, List.length_append, hL4.out]; omega)
  go_wp2_with fail
  refine (HRest.out).mono ?_
  rintro e w7 ⟨rfl, q, d, rfl, hq⟩
  have HQ := Lib.hid hq
  have hbl6 : Hid (L6.length + (len - t) ≤ 140737488355328 ∧ w.heap.size ≤ w6.heap.size) := Lib.hid ⟨by have := hL6.out; omega, hB6.out.size⟩
  clear hq
  go_wp2_with (at_builtin; refine wpList_append_bs rfl (.tmp 48) (.tmp 51) rfl w.heap.size v6 L6.length L6 rfl rfl G6.out.own q (len - t) d rs rfl hrl HQ.out hbl6.out.1 hbl6.out.2 ?_)
  intro v8 w8 hg8
  have G8 := Lib.hid (G6.out.trans hg8)
  rw [show L6 ++ rs = R by rw [HL6.out, HL4.out, HL3.out, HL1.out, List.nil_append]; exact hR.out] at G8
  clear hg8
  go_wp2_with fail
  go_ret2
  exact ⟨G8.out.below (Nat.le_refl _) (by intro k hk; cases hk), _, rfl, G8.out.own⟩
/-- What Pack makes of bytes. -/
def packL (l : List UInt8) (n : Nat) : List UInt8 := pacL n (gl n (l.length / n) l) (l.drop (l.length / n * n))
theorem pack_any (p : Option Addr) (c n len : Nat) (l : List UInt8) (w : World) (HL : Hid (len = l.length)) (h1 : 1 ≤ n) (h2 : n ≤ 8) (hl : len ≤ 1048576) (hc : Hid (len ≤ c)) (hpc : Hid (p = none → c = 0)) (hb : Bs w p l) :
    Calls Tryz.prog 21 #[.slice p len c, .int .i64 (n : Int)] w (RowPost (packL l n) w) := by
  have e := HL.out
  subst e
  unfold packL
  by_cases hk : l.length / n = 0
  · rw [hk, Nat.zero_mul, List.drop_zero, show pacL n (gl n 0 l) l = be 4 0 ++ l from rfl]
    exact pack_none p c n _ l w HL h1 h2 hl hc.out hpc.out hk hb
  · exact pack_some p c n _ _ l w HL (Lib.hid rfl) h1 h2 hl hc.out hpc.out (Nat.pos_of_ne_zero hk) hb
end Go.Proofs.YtpbcdmefngbjjaaGreatDoor
namespace Go.Proofs.YtpbcdmefngbjjaaGreatDoor
open Go.RowKit
open Go.Lib
set_option maxRecDepth 100000 in
set_option maxHeartbeats 1600000 in
theorem least_any (p : Option Addr) (c k : Nat) (gs : List Nat) (w : World) (hk0 : 0 < k) (hk : k ≤ 1048576) (hgs : Rd w p k gs) (hlt : ∀ g ∈ gs, g < W64) :
    Calls Tryz.prog 66 #[.slice p k c] w fun e w' => e = .returned (.int .u64 (mnL gs : Int)) ∧ w = w' := by
  have HG := Lib.hid hgs
  have hkl : Hid (gs.length = k) := Lib.hid hgs.len
  obtain ⟨m, HM⟩ : ∃ m, Hid (m = mnL gs) := ⟨_, rfl⟩
  have HF : Hid (gs.foldl min (gs.getD 0 0) = m) := Lib.hid (by
    rw [HM.out]; exact mnL_first (fun e => by rw [← List.length_eq_zero_iff, hkl.out] at e; omega) hlt)
  rw [← HM.out]
  obtain ⟨b0, o0, x0, rfl, hb0, hc0, hx0⟩ := hgs.at hk0
  rw [Nat.add_zero] at hc0
  have hki : 0 < (k : Int) := by omega
  have hki2 : (k : Int) ≤ 1048576 := by omega
  clear hgs hlt
  go_enter Tryz.func66, Tryz.ntmps66
  go_wp2_with fail
  clear hc0
  go_loop [3, 4] (fun mv iv => ∃ (i a : Nat), i ≤ k ∧ iv = .int .i64 i ∧ mv = .int .u64 (a : Int) ∧ Hid (a = (gs.take i).foldl min (gs.getD 0 0))) (fun _ iv => k - (Go.RowKit.intOf iv).toNat)
  case atStart => exact ⟨0, x0, Nat.zero_le _, rfl, rfl, Lib.hid (by rw [List.take_zero, hx0.out]; rfl)⟩
  case round =>
    obtain ⟨i, a, hik, rfl, rfl, HA⟩ := hrel
    by_cases hlt : i < k
    · obtain ⟨b1, o1, x, e1, hb1, hc1, hx⟩ := HG.out.at hlt
      cases e1
      have hlt' : (i : Int) < k := by omega
      obtain ⟨a2, HA2⟩ : ∃ a2, Hid (a2 = min a x) := ⟨_, rfl⟩
      have hmin : min (a : Int) (x : Int) = (a2 : Int) := by rw [HA2.out]; omega
      go_wp2_with fail
      go_round
      case rel => exact ⟨i + 1, a2, by omega, by go_num, by first | rfl | rw [hmin], Lib.hid (by rw [take_snoc 0 (by rw [hkl.out]; exact hlt), List.foldl_append, ← HA.out, hx.out, HA2.out]; rfl)⟩
      case measure => simp [Go.RowKit.intOf]; omega
    · obtain rfl : i = k := by omega
      go_wp2_with fail
      go_ret
      refine ⟨?_, rfl⟩
      rw [HA.out, List.take_of_length_le (by rw [hkl.out]; exact Nat.le_refl _), HF.out]
      rfl
set_option maxRecDepth 100000 in
set_option maxHeartbeats 1600000 in
theorem bits_any (x : Nat) (w : World) (hx : x < W64) : Calls Tryz.prog 67 #[.int .u64 (x : Int)] w fun e w' => e = .returned (.int .i64 (bl x : Int)) ∧ w = w' := by
  obtain ⟨B, HB⟩ : ∃ B, Hid (B = bl x) := ⟨_, rfl⟩
  have hB : B ≤ 64 := by rw [HB.out]; exact bl_le x
  rw [← HB.out]
  have HX := Lib.hid hx
  clear hx
  go_enter Tryz.func67, Tryz.ntmps67
  go_wp2_with fail
  go_loop [0, 3] (fun xv nv => ∃ (y j : Nat), xv = .int .u64 (y : Int) ∧ nv = .int .i64 j ∧ Hid (y < W64) ∧ Hid (j + bl y = B)) (fun xv _ => (Go.RowKit.intOf xv).toNat)
  case atStart => exact ⟨x, 0, rfl, rfl, HX, Lib.hid (by rw [Nat.zero_add]; exact HB.out.symm)⟩
  case round =>
    obtain ⟨y, j, rfl, rfl, HY, HJ⟩ := hrel
    have hj : (j : Int) ≤ 64 := by have := HJ.out; omega
    by_cases h0 : 0 < y
    · have h0' : 0 < (y : Int) := by omega
      obtain ⟨y2, HY2⟩ : ∃ y2, Hid (y2 = y / 2) := ⟨_, rfl⟩
      have hs : (y : Int) / 2 = (y2 : Int) := by rw [HY2.out]; omega
      have hlt : (y2 : Int) < (y : Int) := by omega
      go_wp2_with fail
      go_round
      case rel => exact ⟨y2, j + 1, by first | rfl | rw [hs], by go_num, Lib.hid (by have := HY.out; omega), Lib.hid (by have h := HJ.out; rw [bl_step (by omega) HY.out, ← HY2.out] at h; omega)⟩
      case measure => simp [Go.RowKit.intOf]; omega
    · obtain rfl : y = 0 := by omega
      go_wp2_with fail
      go_ret
      refine ⟨?_, rfl⟩
      have h := HJ.out
      rw [bl_zero] at h
      rw [← h]; rfl
/-- A field that is filled from the left. -/
def fxL (b : Nat → Nat) (T F : Nat) : List UInt8 := pkL b T ++ List.replicate (F - (T + 7) / 8) 0
theorem fxL_zero (b : Nat → Nat) (F : Nat) : fxL b 0 F = List.replicate F 0 := rfl
theorem fxL_length (b : Nat → Nat) {T F : Nat} (h : (T + 7) / 8 ≤ F) : (fxL b T F).length = F := by
  rw [fxL, List.length_append, pkL_length, List.length_replicate]; omega
theorem fxL_get (b : Nat → Nat) {T F : Nat} (h : T < 8 * F) : (fxL b T F).getD (T / 8) 0 = UInt8.ofNat (bv b (T / 8) (T % 8)) := by
  by_cases h8 : T % 8 = 0
  · rw [fxL, List.getD_eq_getElem?_getD, List.getElem?_append_right (by rw [pkL_length]; omega), pkL_length, List.getElem?_replicate, if_pos (by omega), h8]; rfl
  · rw [fxL, List.getD_eq_getElem?_getD, List.getElem?_append_left (by rw [pkL_length]; omega), ← List.getD_eq_getElem?_getD, pkL_at b (by omega), show min 8 (T - 8 * (T / 8)) = T % 8 by omega]
theorem fxL_set (b : Nat → Nat) {T F : Nat} (h : T < 8 * F) : (fxL b T F).set (T / 8) (UInt8.ofNat (bv b (T / 8) (T % 8 + 1))) = fxL b (T + 1) F := by
  by_cases h8 : T % 8 = 0
  · have e1 : F - (T + 7) / 8 = (F - (T + 1 + 7) / 8) + 1 := by omega
    rw [fxL, fxL, List.set_append_right _ _ (by rw [pkL_length]; omega), pkL_length, show T / 8 - (T + 7) / 8 = 0 by omega, e1, List.replicate_succ, List.set_cons_zero, pkL_new b h8, h8, List.append_assoc]; rfl
  · have e1 : (T + 1 + 7) / 8 = (T + 7) / 8 := by omega
    rw [fxL, fxL, List.set_append_left _ _ (by rw [pkL_length]; omega), e1, pkL_old b h8]
theorem fxL_full (b : Nat → Nat) (T : Nat) : fxL b T ((T + 7) / 8) = pkL b T := by
  rw [fxL, Nat.sub_self, List.replicate_zero, List.append_nil]
theorem and_one8 {d e : Nat} : bits .and .u8 (IntKind.u8.wrap ((d : Int) / 2 ^ e)) 1 = ((d / 2 ^ e % 2 : Nat) : Int) := by
  have h1 : (d : Int) / 2 ^ e = ((d / 2 ^ e : Nat) : Int) := by rw [Int.natCast_ediv, Int.natCast_pow]; rfl
  have h3 : IntKind.u8.wrap ((d : Int) / 2 ^ e) = ((d / 2 ^ e % 256 : Nat) : Int) := by rw [h1, IntKind.wrap_u8']; omega
  have h2 := u8_and_nat (d / 2 ^ e % 256) 1 (Nat.mod_lt _ (by decide)) (by decide)
  rw [nat_mask1] at h2
  rw [h3, show (1 : Int) = ((1 : Nat) : Int) from rfl, h2]
  omega
theorem made_own {w : World} {B g n : Nat} (h : w.ownsRow B 5 1 (.slice (some ⟨g, 0, none⟩) n n) n (madeCells #[Value.int .u8 0] n).toList) : w.ownsRow B 5 1 (.slice (some ⟨g, 0, none⟩) n n) (List.replicate n (0 : UInt8)).length (u8s (List.replicate n 0)) := by
  rw [made_bytes] at h
  rw [List.length_replicate]; exact h
end Go.Proofs.YtpbcdmefngbjjaaGreatDoor
namespace Go.Proofs.YtpbcdmefngbjjaaGreatDoor
open Go.RowKit
open Go.Lib
set_option maxRecDepth 100000 in
set_option maxHeartbeats 4000000 in
theorem rpacked_some (p : Option Addr) (c k n : Nat) (gs : List Nat) (q : Option Addr) (r d : Nat) (rs : List UInt8) (w : World) (h1 : 1 ≤ n) (h2 : n ≤ 8) (hk0 : 0 < k) (hk : k ≤ 1048576) (hr : r ≤ 1048576) (hgs : Rd w p k gs) (hlt : ∀ g ∈ gs, g < W64) (hrl : Hid (rs.length = r)) (hrs : Bs w q rs) :
    Calls Tryz.prog 44 #[.slice p k c, .int .i64 (n : Int), .slice q r d] w (App w.heap.size w (.slice none 0 0) (pacL n gs rs)) := by
  obtain ⟨i0, hi, hz0, hz1, hz2⟩ := info_parts info5
  have HGS := Lib.hid hgs
  have HRS := Lib.hid hrs
  have HLT := Lib.hid hlt
  have hgl : Hid (gs.length = k) := Lib.hid hgs.len
  have hki : 0 < (k : Int) := by omega
  have hki2 : (k : Int) ≤ 1048576 := by omega
  have hki0 : ¬ (k : Int) = 0 := by omega
  have hn1 : 1 ≤ (n : Int) := by omega
  have hn8 : (n : Int) ≤ 8 := by omega
  have hri : (r : Int) ≤ 1048576 := by omega
  have hz : IntKind.u64.wrap (k : Int) = (k : Int) := by rw [IntKind.wrap_u64]; omega
  obtain ⟨m, HM⟩ : ∃ m, Hid (m = mnL gs) := ⟨_, rfl⟩
  obtain ⟨wd, HWD⟩ : ∃ wd, Hid (wd = wdL gs) := ⟨_, rfl⟩
  have hm : m < 18446744073709551616 := by rw [HM.out]; exact mnL_lt gs
  have hwd : wd ≤ 64 := by rw [HWD.out]; exact wdL_le gs
  have HMG : Hid (∀ g ∈ gs, m ≤ g) := Lib.hid (by rw [HM.out]; intro g hg; exact mnL_le hg)
  have hmem : ∀ j, j < k → gs.getD j 0 ∈ gs := fun j hj => by
    rw [List.getD_eq_getElem?_getD, List.getElem?_eq_getElem (by rw [hgl.out]; exact hj)]
    exact List.getElem_mem _
  have HMEM := Lib.hid hmem
  obtain ⟨R, HR⟩ : ∃ R, Hid (R = pacL n gs rs) := ⟨_, rfl⟩
  obtain ⟨y, HY⟩ : ∃ y : UInt8, Hid (y = UInt8.ofNat wd) := ⟨_, rfl⟩
  have hyw : y.toNat = wd := by rw [HY.out, UInt8.toNat_ofNat']; omega
  obtain ⟨b, HB⟩ : ∃ b, Hid (b = btF gs m wd) := ⟨_, rfl⟩
  have HB2 : Hid (∀ t, b t < 2) := Lib.hid (fun t => by rw [HB.out]; exact btF_lt _ _ _ _)
  obtain ⟨TT, HTT⟩ : ∃ TT, Hid (TT = k * wd) := ⟨_, rfl⟩
  have hTT : TT ≤ 67108864 := by
    have h5 : k * wd ≤ 1048576 * 64 := Nat.mul_le_mul hk hwd
    rw [HTT.out]; omega
  obtain ⟨F, HFF⟩ : ∃ F, Hid (F = (TT + 7) / 8) := ⟨_, rfl⟩
  have hFl : F ≤ 8388609 := by rw [HFF.out]; omega
  have hmul : (k : Int) * (wd : Int) = (TT : Int) := by rw [HTT.out]; simp
  have hquo : ((TT : Int) + 7) / 8 = (F : Int) := by rw [HFF.out]; omega
  have hR : Hid (be 4 k ++ be n m ++ [y] ++ fxL b TT F ++ rs = R) := Lib.hid (by
    rw [HFF.out, fxL_full, HR.out, pacL, pkB, if_neg (by rw [hgl.out]; omega), hgl.out, ← HM.out, ← HWD.out, ← HY.out, pkF, hgl.out, ← HM.out, ← HWD.out, ← HB.out, ← HTT.out])
  rw [← HR.out]
  have HN := Lib.hid (rnumber_any k 4 w (by decide) (by omega))
  clear hgs hrs hlt hmem
  go_enter Tryz.func44, Tryz.ntmps44
  go_wp2_with fail
  refine (HN.out).mono ?_
  rintro e w1 ⟨v1, rfl, hg1⟩
  obtain ⟨L1, HL1⟩ : ∃ L1, Hid (L1 = be 4 k) := ⟨_, rfl⟩
  rw [← HL1.out] at hg1
  have G1 := Lib.hid hg1
  have hB1 : Hid (Below w.heap.size w w1) := Lib.hid (hg1.below (Nat.le_refl _) (by intro k hk; cases hk))
  have HLe := Lib.hid (least_any p c k gs w1 hk0 hk (HGS.out.below hB1.out) HLT.out)
  rw [← HM.out] at HLe
  clear hg1
  go_wp2_with fail
  refine (HLe.out).mono ?_
  rintro e w' ⟨rfl, rfl⟩
  go_wp2_with fail
  go_loop [9, 10] (fun wv iv => ∃ (i a : Nat), i ≤ k ∧ iv = .int .i64 i ∧ wv = .int .i64 (a : Int) ∧ a ≤ 64 ∧ Hid (a = (gs.take i).foldl (fun w g => max w (bl (g - m))) 0)) (fun _ iv => k - (Go.RowKit.intOf iv).toNat)
  case atStart => exact ⟨0, 0, Nat.zero_le _, rfl, rfl, by decide, Lib.hid (by rw [List.take_zero]; rfl)⟩
  case round =>
    obtain ⟨i, a, hik, rfl, rfl, ha64, HA⟩ := hrel
    by_cases hlt : i < k
    · obtain ⟨b1, o1, x, rfl, hb1, hc1, hx⟩ := (HGS.out.below hB1.out).at hlt
      have hlt' : (i : Int) < k := by omega
      have hxl : x < W64 := by rw [← hx.out]; exact HLT.out _ (HMEM.out i hlt)
      have hxm : m ≤ x := by rw [← hx.out]; exact HMG.out _ (HMEM.out i hlt)
      obtain ⟨dd, HD⟩ : ∃ dd, Hid (dd = x - m) := ⟨_, rfl⟩
      have hsub : IntKind.u64.wrap ((x : Int) - (m : Int)) = (dd : Int) := by
        rw [IntKind.wrap_u64, HD.out]; unfold W64 at hxl; omega
      have HBits := Lib.hid (bits_any dd w1 (by rw [HD.out]; omega))
      obtain ⟨B, HBL⟩ : ∃ B, Hid (B = bl dd) := ⟨_, rfl⟩
      have hB64 : B ≤ 64 := by rw [HBL.out]; exact bl_le _
      rw [← HBL.out] at HBits
      obtain ⟨a2, HA2⟩ : ∃ a2, Hid (a2 = max a B) := ⟨_, rfl⟩
      have hmax : max (a : Int) (B : Int) = (a2 : Int) := by rw [HA2.out]; omega
      have ha2 : a2 ≤ 64 := by rw [HA2.out]; omega
      clear hxl hxm
      go_wp2_with fail
      refine (HBits.out).mono ?_
      rintro e w' ⟨rfl, rfl⟩
      clear hsub
      go_wp2_with fail
      go_round
      case rel => exact ⟨i + 1, a2, by omega, by go_num, by first | rfl | rw [hmax], ha2, Lib.hid (by rw [take_snoc 0 (by rw [hgl.out]; exact hlt), List.foldl_append, ← HA.out, hx.out, HA2.out, HBL.out, HD.out]; rfl)⟩
      case measure => simp [Go.RowKit.intOf]; omega
    · obtain rfl : i = k := by omega
      obtain rfl : a = wd := by rw [HA.out, List.take_of_length_le (by rw [hgl.out]; exact Nat.le_refl _), HM.out, wdL_fold, HWD.out]
      have HN2 := Lib.hid (rnumber_any m n w1 h2 hm)
      go_wp2_with fail
      refine (HN2.out).mono ?_
      rintro e w2 ⟨v2, rfl, hg2⟩
      obtain ⟨p2, c2, rfl, hs2, -⟩ := own_bytes hg2.own
      rw [be_length]
      have hb2 : Below w1.heap.size w1 w2 := hg2.below (Nat.le_refl _) (by intro k hk; cases hk)
      have HS2 := Lib.hid hs2
      have G2 := Lib.hid (G1.out.trans (Grew.of_below G1.out.own hb2))
      have hB2 := Lib.hid (hB1.out.trans (hb2.mono hB1.out.size))
      have hL1 : Hid (L1.length = 4) := Lib.hid (by rw [HL1.out, be_length])
      have hbl2 : Hid (L1.length + n ≤ 140737488355328 ∧ w.heap.size ≤ w2.heap.size) := Lib.hid ⟨by rw [hL1.out]; omega, hB2.out.size⟩
      clear hg2 hb2 hs2
      go_wp2_with (at_builtin; refine wpList_append_bs rfl (.tmp 43) (.tmp 46) rfl w.heap.size v1 L1.length L1 rfl rfl G2.out.own p2 n c2 (be n m) rfl (be_length _ _) HS2.out hbl2.out.1 hbl2.out.2 ?_)
      intro v3 w3 hg3
      obtain ⟨L3, HL3⟩ : ∃ L3, Hid (L3 = L1 ++ be n m) := ⟨_, rfl⟩
      rw [← HL3.out] at hg3
      have G3 := Lib.hid (G2.out.trans hg3)
      clear hg3
      have hB3 : Hid (Below w.heap.size w w3) := Lib.hid (G3.out.below (Nat.le_refl _) (by intro k hk; cases hk))
      have hL3 : Hid (L3.length = 4 + n) := Lib.hid (by rw [HL3.out, List.length_append, hL1.out, be_length])
      have G3a := Lib.hid (G3.out.trans (Grew.of_below G3.out.own ((Below.refl _ w3).alloc (Nat.le_refl _) (.cells #[.int .u8 (a : Int)] 5))))
      have hone : Hid (Bs (w3.alloc (.cells #[.int .u8 (a : Int)] 5)) (some ⟨w3.heap.size, 0, none⟩) [y]) := Lib.hid (by have h := one_bs w3 y; rwa [hyw] at h)
      have hbl3 : Hid (L3.length + 1 ≤ 140737488355328 ∧ w.heap.size ≤ (w3.alloc (.cells #[.int .u8 (a : Int)] 5)).heap.size) := Lib.hid ⟨by rw [hL3.out]; omega, by have := hB3.out.size; simp; omega⟩
      go_wp2_with (at_builtin; refine wpList_append_bs rfl (.tmp 48) (.tmp 51) rfl w.heap.size v3 L3.length L3 rfl rfl G3a.out.own _ 1 1 [y] rfl rfl hone.out hbl3.out.1 hbl3.out.2 ?_)
      intro v4 w4 hg4
      obtain ⟨L4, HL4⟩ : ∃ L4, Hid (L4 = L3 ++ [y]) := ⟨L3 ++ [y], Lib.hid rfl⟩
      rw [← HL4.out] at hg4
      have G4 := Lib.hid (G3a.out.trans hg4)
      clear hg4
      have hB4 : Hid (Below w.heap.size w w4) := Lib.hid (G4.out.below (Nat.le_refl _) (by intro k hk; cases hk))
      have hL4 : Hid (L4.length = 4 + n + 1) := Lib.hid (by rw [HL4.out, List.length_append, hL3.out]; rfl)
      go_wp2_with (at_make; go_loud (refine wpList_make_full _ rfl _ _ 22 rfl w4.heap.size 5 i0 (.int .u8 0) 1 Tryz.underlying22 hi hz0 hz1 _ _ _ _ F rfl rfl (by omega) (by omega) ?b2 ?b3 (Nat.le_refl _) ?_))
      case b2 => rw [hz2]; omega
      case b3 => unfold maxLen; omega
      intro w5 hown5 hgr5
      have HO5 := Lib.hid (made_own hown5)
      have hb5 : Hid (Below w4.heap.size w4 w5) := Lib.hid ((Below.refl _ _).grown hgr5 (Nat.le_refl _) (fun k e => by cases e))
      have G5 := Lib.hid (G4.out.trans (Grew.of_below G4.out.own hb5.out))
      clear hown5 hgr5
      have hLoop0 : Hid (w5.ownsRow w4.heap.size 5 1 (.slice (some ⟨w4.heap.size, 0, none⟩) F F) (fxL b (0 * a) F).length (u8s (fxL b (0 * a) F))) := Lib.hid (by rw [Nat.zero_mul, fxL_zero]; exact HO5.out)
      go_wp2_with fail
      go_loopw [12] (fun iv wr => ∃ (t : Nat), t ≤ i ∧ iv = .int .i64 t ∧ Hid (wr.ownsRow w4.heap.size 5 1 (.slice (some ⟨w4.heap.size, 0, none⟩) F F) (fxL b (t * a) F).length (u8s (fxL b (t * a) F))) ∧ Hid (Below w4.heap.size w4 wr)) (fun iv _ => i - (Go.RowKit.intOf iv).toNat)
      case atStart => exact ⟨0, Nat.zero_le _, rfl, hLoop0, hb5⟩
      case round =>
        obtain ⟨t, hti, rfl, HO, HBw⟩ := hrel
        obtain ⟨P, HP⟩ : ∃ P, Hid (P = t * a) := ⟨_, rfl⟩
        have hmulP : (t : Int) * (a : Int) = (P : Int) := by rw [HP.out]; simp
        rw [← HP.out] at HO
        by_cases htlt : t < i
        · have htlt' : (t : Int) < i := by omega
          have hPT : P + a ≤ TT := by
            rw [HP.out, HTT.out]
            have h5 : (t + 1) * a ≤ i * a := Nat.mul_le_mul_right _ htlt
            rwa [Nat.succ_mul] at h5
          go_wp2_with fail
          go_loopw [13] (fun jv wr => ∃ (j : Nat), j ≤ a ∧ jv = .int .i64 j ∧ Hid (wr.ownsRow w4.heap.size 5 1 (.slice (some ⟨w4.heap.size, 0, none⟩) F F) (fxL b (P + j) F).length (u8s (fxL b (P + j) F))) ∧ Hid (Below w4.heap.size w4 wr)) (fun jv _ => a - (Go.RowKit.intOf jv).toNat)
          case atStart => exact ⟨0, Nat.zero_le _, rfl, HO, HBw⟩
          case round =>
            clear HO HBw
            obtain ⟨j, hja, rfl, HO, HBw⟩ := hrel
            by_cases hj : j < a
            · have hj' : (j : Int) < a := by omega
              obtain ⟨T, HT⟩ : ∃ T, Hid (T = P + j) := ⟨_, rfl⟩
              have hTs : (P : Int) + (j : Int) = (T : Int) := by rw [HT.out]; omega
              have hTT' : T < TT := by rw [HT.out]; omega
              rw [← HT.out] at HO
              obtain ⟨b1, o1, x, rfl, hb1, hc1, hx⟩ := (HGS.out.below (hB4.out.trans (HBw.out.mono hB4.out.size))).at htlt
              have hxl : x < W64 := by rw [← hx.out]; exact HLT.out _ (HMEM.out t htlt)
              have hxm : m ≤ x := by rw [← hx.out]; exact HMG.out _ (HMEM.out t htlt)
              obtain ⟨dd, HD⟩ : ∃ dd, Hid (dd = x - m) := ⟨_, rfl⟩
              have hddl : (dd : Int) ≤ 18446744073709551615 := by rw [HD.out]; unfold W64 at hxl; omega
              have hsub : IntKind.u64.wrap ((x : Int) - (m : Int)) = (dd : Int) := by
                rw [IntKind.wrap_u64, HD.out]; unfold W64 at hxl; omega
              obtain ⟨e, HE⟩ : ∃ e, Hid (e = a - 1 - j) := ⟨_, rfl⟩
              have he : (a : Int) - 1 - (j : Int) = (e : Int) := by rw [HE.out]; omega
              have hel : (e : Int) ≤ 63 := by omega
              obtain ⟨bt, HBt⟩ : ∃ bt, Hid (bt = b T) := ⟨_, rfl⟩
              have hbt2 : bt < 2 := by rw [HBt.out]; exact HB2.out T
              have hbtv : dd / 2 ^ e % 2 = bt := by rw [HBt.out, HB.out, HT.out, HP.out, btF_at _ _ hj, HE.out, HD.out, hx.out]
              have hand : bits .and .u8 (IntKind.u8.wrap ((dd : Int) / 2 ^ e)) 1 = (bt : Int) := by rw [and_one8, hbtv]
              have hand2 : bits .and .u8 ((dd : Int) / 2 ^ e % 256) 1 = (bt : Int) := by rw [← hand, IntKind.wrap_u8']
              have hbti : (bt : Int) ≤ 1 := by omega
              obtain ⟨r7, HR7⟩ : ∃ r7, Hid (r7 = 7 - T % 8) := ⟨_, rfl⟩
              have hr7l : r7 ≤ 7 := by rw [HR7.out]; omega
              have hr7 : 7 - (T : Int) % 8 = (r7 : Int) := by rw [HR7.out]; omega
              obtain ⟨q8, HQ8⟩ : ∃ q8, Hid (q8 = T / 8) := ⟨_, rfl⟩
              have hq8 : (T : Int) / 8 = (q8 : Int) := by rw [HQ8.out]; omega
              have hTF : T < 8 * F := by rw [HFF.out]; omega
              have hFi : (F : Int) ≤ 8388609 := by omega
              have hq8F : (q8 : Int) < F := by rw [HQ8.out]; omega
              obtain ⟨X, HX⟩ : ∃ X, Hid (X = bv b (T / 8) (T % 8)) := ⟨_, rfl⟩
              obtain ⟨Y, HYY⟩ : ∃ Y : UInt8, Hid (Y = UInt8.ofNat (bv b (T / 8) (T % 8 + 1))) := ⟨_, rfl⟩
              have hXl : X < 256 := by
                have h := bv_lt b HB2.out (T / 8) (T % 8) (by omega)
                have h5 : 0 < 2 ^ (8 - T % 8) := Nat.pow_pos (by decide)
                rw [HX.out]; omega
              have hXi : (X : Int) ≤ 255 := by omega
              have hpw : bt * 2 ^ r7 < 256 := by
                have h6 : 2 ^ r7 ≤ 2 ^ 7 := Nat.pow_le_pow_right (by decide) hr7l
                have h7 : bt * 2 ^ r7 ≤ 1 * 2 ^ r7 := Nat.mul_le_mul_right _ (by omega)
                omega
              have hshl : IntKind.u8.wrap ((bt : Int) * 2 ^ r7) = ((bt * 2 ^ r7 : Nat) : Int) := by
                rw [IntKind.wrap_u8', show (bt : Int) * 2 ^ r7 = ((bt * 2 ^ r7 : Nat) : Int) by rw [Int.natCast_mul, Int.natCast_pow]; rfl]; omega
              have hor : bits .or .u8 (X : Int) ((bt * 2 ^ r7 : Nat) : Int) = ((Y.toNat : Nat) : Int) := by
                rw [u8_or_nat X _ hXl hpw, HX.out, HBt.out, HR7.out, HYY.out, bv_u8 b HB2.out _ (by omega), ← bv_or b HB2.out (T / 8) (by omega), show 8 * (T / 8) + T % 8 = T by omega]
              obtain ⟨sh, HSH⟩ : ∃ sh, Hid (sh = bt * 2 ^ r7) := ⟨_, rfl⟩
              rw [← HSH.out] at hshl hor
              have hshl2 : (bt : Int) * 2 ^ r7 % 256 = (sh : Int) := by rw [← hshl, IntKind.wrap_u8']
              have hfl : (fxL b T F).length = F := fxL_length b (by omega)
              obtain ⟨g, cap, hv, hcap, hgB, hgl2, hcell, hfree, hset⟩ := own_set HO.out (by omega)
              have hge : g = w4.heap.size := by injection hv with q1; injection q1 with q1; injection q1 with q1; exact q1.symm
              subst hge
              have c33 : wr.cell? ⟨w4.heap.size, q8, none⟩ = some (.int .u8 (X : Int)) := by
                have h := hcell (T / 8) (by rw [hfl]; omega)
                rw [fxL_get b hTF, bv_u8 b HB2.out _ (by omega), ← HX.out, ← HQ8.out] at h; exact h
              have f33 : wr.frozen? ⟨w4.heap.size, q8, none⟩ = false := hfree _
              have hs := hset q8 Y (by rw [hfl]; omega)
              have HO6 : Hid ((wr.setCell ⟨w4.heap.size, q8, none⟩ (.int .u8 ((Y.toNat : Nat) : Int))).ownsRow w4.heap.size 5 1 (.slice (some ⟨w4.heap.size, 0, none⟩) F F) (fxL b (T + 1) F).length (u8s (fxL b (T + 1) F))) := Lib.hid (by
                rw [show (fxL b (T + 1) F).length = (fxL b T F).length by rw [hfl, fxL_length b (by omega)], ← fxL_set b hTF, ← HYY.out, ← HQ8.out]; exact hs)
              have HBw6 : Hid (Below w4.heap.size w4 (wr.setCell ⟨w4.heap.size, q8, none⟩ (.int .u8 ((Y.toNat : Nat) : Int)))) := Lib.hid (HBw.out.setCell (p := ⟨w4.heap.size, q8, none⟩) (Nat.le_refl _) _)
              clear hs hset hcell hfree hv hcap hgB hgl2 hxl hxm hbtv hpw hXl hbt2 hfl hTF
              go_wp2_with fail
              go_region
              have HO7 : Hid ((wr.setCell ⟨w4.heap.size, q8, none⟩ (.int .u8 ((Y.toNat : Nat) : Int))).drew.ownsRow w4.heap.size 5 1 (.slice (some ⟨w4.heap.size, 0, none⟩) F F) (fxL b (P + (j + 1)) F).length (u8s (fxL b (P + (j + 1)) F))) := Lib.hid (by rw [show P + (j + 1) = T + 1 by rw [HT.out]; omega]; exact HO6.out)
              have HBw7 : Hid (Below w4.heap.size w4 (wr.setCell ⟨w4.heap.size, q8, none⟩ (.int .u8 ((Y.toNat : Nat) : Int))).drew) := Lib.hid HBw6.out.drew
              clear HO6 HBw6 c33 f33 hc1
              go_wp2_with fail
              go_roundw
              case rel => exact ⟨j + 1, by omega, by go_num, HO7, HBw7⟩
              case measure => simp [Go.RowKit.intOf]; omega
            · obtain rfl : j = a := by omega
              go_wp2_with fail
              go_roundw
              case rel => exact ⟨t + 1, by omega, by go_num, Lib.hid (by rw [Nat.succ_mul, ← HP.out]; exact HO.out), HBw⟩
              case measure => simp [Go.RowKit.intOf]; omega
        · obtain rfl : t = i := by omega
          have ePT : P = TT := by rw [HP.out, HTT.out]
          rw [ePT] at HO
          have hfl : (fxL b TT F).length = F := fxL_length b (by rw [HFF.out]; exact Nat.le_refl _)
          obtain ⟨pf, cf, hvf, hsf, -⟩ := own_bytes HO.out
          have hpf : pf = some ⟨w4.heap.size, 0, none⟩ := by injection hvf with q1; exact q1.symm
          subst hpf
          have HSF := Lib.hid hsf
          obtain ⟨FX, HFX⟩ : ∃ FX, Hid (FX = fxL b TT F) := ⟨_, rfl⟩
          rw [← HFX.out] at HSF hfl
          have G6 := Lib.hid (G4.out.trans (Grew.of_below G4.out.own HBw.out))
          have hbl6 : Hid (L4.length + F ≤ 140737488355328 ∧ w.heap.size ≤ wr.heap.size) := Lib.hid ⟨by rw [hL4.out]; omega, Nat.le_trans hB4.out.size HBw.out.size⟩
          clear hsf hvf HO
          go_wp2_with (at_builtin; refine wpList_append_bs rfl (.tmp 104) (.tmp 105) rfl w.heap.size v4 L4.length L4 rfl rfl G6.out.own _ F F FX rfl hfl HSF.out hbl6.out.1 hbl6.out.2 ?_)
          intro v7 w7 hg7
          obtain ⟨L7, HL7⟩ : ∃ L7, Hid (L7 = L4 ++ FX) := ⟨_, rfl⟩
          rw [← HL7.out] at hg7
          have G7 := Lib.hid (G6.out.trans hg7)
          clear hg7
          have hB7 : Hid (Below w.heap.size w w7) := Lib.hid (G7.out.below (Nat.le_refl _) (by intro k hk; cases hk))
          have hbl7 : Hid (L7.length + r ≤ 140737488355328 ∧ w.heap.size ≤ w7.heap.size) := Lib.hid ⟨by rw [HL7.out, List.length_append, hL4.out, hfl]; omega, hB7.out.size⟩
          have HRS7 := Lib.hid (HRS.out.below hB7.out)
          go_wp2_with (at_builtin; refine wpList_append_bs rfl (.tmp 107) (.tmp 108) rfl w.heap.size v7 L7.length L7 rfl rfl G7.out.own q r d rs rfl hrl.out HRS7.out hbl7.out.1 hbl7.out.2 ?_)
          intro v8 w8 hg8
          have G8 := Lib.hid (G7.out.trans hg8)
          rw [show L7 ++ rs = R by rw [HL7.out, HL4.out, HL3.out, HL1.out, HFX.out]; exact hR.out] at G8
          clear hg8
          go_wp2_with fail
          go_ret
          exact ⟨_, rfl, G8.out⟩
set_option maxRecDepth 100000 in
set_option maxHeartbeats 1600000 in
theorem rpacked_none (p : Option Addr) (c n : Nat) (q : Option Addr) (r d : Nat) (rs : List UInt8) (w : World) (hr : r ≤ 1048576) (hrl : Hid (rs.length = r)) (hrs : Bs w q rs) :
    Calls Tryz.prog 44 #[.slice p 0 c, .int .i64 (n : Int), .slice q r d] w (App w.heap.size w (.slice none 0 0) (pacL n [] rs)) := by
  have HRS := Lib.hid hrs
  have HN := Lib.hid (rnumber_any 0 4 w (by decide) (by decide))
  have hz : IntKind.u64.wrap 0 = 0 := rfl
  have hri : (r : Int) ≤ 1048576 := by omega
  obtain ⟨R, HR⟩ : ∃ R, Hid (R = pacL n [] rs) := ⟨_, rfl⟩
  rw [← HR.out]
  clear hrs
  go_enter Tryz.func44, Tryz.ntmps44
  go_wp2_with fail
  refine (HN.out).mono ?_
  rintro e w1 ⟨v1, rfl, hg1⟩
  obtain ⟨L1, HL1⟩ : ∃ L1, Hid (L1 = be 4 0) := ⟨_, rfl⟩
  rw [← HL1.out] at hg1
  have G1 := Lib.hid hg1
  have hB1 : Hid (Below w.heap.size w w1) := Lib.hid (hg1.below (Nat.le_refl _) (by intro k hk; cases hk))
  have HRS1 := Lib.hid (HRS.out.below hB1.out)
  have hbl1 : Hid (L1.length + r ≤ 140737488355328 ∧ w.heap.size ≤ w1.heap.size) := Lib.hid ⟨by rw [HL1.out, be_length]; omega, hB1.out.size⟩
  clear hg1
  go_wp2_with (at_builtin; refine wpList_append_bs rfl (.tmp 23) (.tmp 24) rfl w.heap.size v1 L1.length L1 rfl rfl G1.out.own q r d rs rfl hrl.out HRS1.out hbl1.out.1 hbl1.out.2 ?_)
  intro v8 w8 hg8
  have G8 := Lib.hid (G1.out.trans hg8)
  rw [show L1 ++ rs = R by rw [HL1.out, HR.out]; rfl] at G8
  clear hg8
  go_wp2_with fail
  go_ret
  exact ⟨_, rfl, G8.out⟩
theorem rpacked_any (p : Option Addr) (c k n : Nat) (gs : List Nat) (q : Option Addr) (r d : Nat) (rs : List UInt8) (w : World) (h1 : 1 ≤ n) (h2 : n ≤ 8) (hk : k ≤ 1048576) (hr : r ≤ 1048576) (hgs : Rd w p k gs) (hlt : ∀ g ∈ gs, g < W64) (hrl : Hid (rs.length = r)) (hrs : Bs w q rs) :
    Calls Tryz.prog 44 #[.slice p k c, .int .i64 (n : Int), .slice q r d] w (App w.heap.size w (.slice none 0 0) (pacL n gs rs)) := by
  by_cases hk0 : k = 0
  · subst hk0
    obtain rfl := List.eq_nil_of_length_eq_zero hgs.len
    exact rpacked_none p c n q r d rs w hr hrl hrs
  · exact rpacked_some p c k n gs q r d rs w h1 h2 (Nat.pos_of_ne_zero hk0) hk hr hgs hlt hrl hrs
set_option maxRecDepth 100000 in
set_option maxHeartbeats 1600000 in
theorem rpack_any (p : Option Addr) (c n len : Nat) (l : List UInt8) (w : World) (HN : Hid (len = l.length)) (h1 : 1 ≤ n) (h2 : n ≤ 8) (hl : len ≤ 1048576) (hc : Hid (len ≤ c)) (hpc : Hid (p = none → c = 0)) (hb : Bs w p l) :
    Calls Tryz.prog 22 #[.slice p len c, .int .i64 (n : Int)] w (RowPost (packL l n) w) := by
  have HA := Lib.hid (asked_ok_w p len c n w h1 h2 hl)
  have HG := Lib.hid (groups_any_w p c n l w h1 h2 (by rw [← HN.out]; exact hl) (by rw [← HN.out]; exact hc.out) hpc.out hb)
  rw [← HN.out] at HG
  obtain ⟨k, HK⟩ : ∃ k, Hid (k = len / n) := ⟨_, rfl⟩
  rw [← HK.out] at HG
  have hkl : k ≤ 1048576 := by rw [HK.out]; exact Nat.le_trans (Nat.div_le_self _ _) hl
  obtain ⟨gs, HGS⟩ : ∃ gs, Hid (gs = gl n k l) := ⟨_, rfl⟩
  have hgl : Hid (gs.length = k) := Lib.hid (by rw [HGS.out, gl_length])
  have hglt : Hid (∀ x ∈ gs, x < W64) := Lib.hid (by rw [HGS.out]; exact gl_lt h2 k l)
  obtain ⟨rs, HRS⟩ : ∃ rs, Hid (rs = l.drop (k * n)) := ⟨_, rfl⟩
  rw [← HGS.out, ← HRS.out] at HG
  obtain ⟨R, HR⟩ : ∃ R, Hid (R = packL l n) := ⟨_, rfl⟩
  have hfin : Hid (pacL n gs rs = R) := Lib.hid (by rw [HR.out, packL, ← HN.out, ← HK.out, ← HGS.out, ← HRS.out])
  obtain ⟨r, HRL⟩ : ∃ r, Hid (rs.length = r) := ⟨_, rfl⟩
  have hrl : r ≤ 1048576 := by rw [← HRL.out, HRS.out, List.length_drop, ← HN.out]; omega
  have hn1 : 1 ≤ (n : Int) := by omega
  have hn8 : (n : Int) ≤ 8 := by omega
  rw [← HR.out]
  clear hb
  go_enter Tryz.func22, Tryz.ntmps22
  go_wp2_with fail
  refine (HA.out).mono ?_
  rintro e w' ⟨rfl, rfl⟩
  go_wp2_with fail
  refine (HG.out).mono ?_
  rintro e w1 ⟨hb1, p1, c1, q1, d1, rfl, hrd, hbs⟩
  rw [hgl.out] at hrd ⊢
  rw [HRL.out]
  have HB1 := Lib.hid hb1
  have HP := Lib.hid (rpacked_any p1 c1 k n gs q1 r d1 rs w1 h1 h2 hkl hrl hrd hglt.out HRL hbs)
  rw [hfin.out] at HP
  clear hb1 hrd hbs
  go_wp2_with fail
  refine (HP.out).mono ?_
  rintro e w2 ⟨v2, rfl, hg2⟩
  have HB2 := Lib.hid (HB1.out.trans ((hg2.below (Nat.le_refl _) (by intro k hk; cases hk)).mono HB1.out.size))
  obtain ⟨q2, d2, hv2, -, -⟩ := own_bytes hg2.own
  have HO : Hid (w2.ownsRow w.heap.size 5 1 v2 R.length (u8s R)) := Lib.hid (by
    obtain ⟨h1, h2 | ⟨g, cap, cur, hv, hg, h3⟩⟩ := hg2.own
    · exact ⟨h1, .inl h2⟩
    · exact ⟨h1, .inr ⟨g, cap, cur, hv, Nat.le_trans HB1.out.size hg, h3⟩⟩)
  clear hg2
  subst hv2
  obtain ⟨m, HM⟩ : ∃ m, Hid (m = R.length) := ⟨_, rfl⟩
  rw [← HM.out] at HO ⊢
  go_wp2_with fail
  go_ret2
  exact ⟨HB2.out, _, rfl, by rw [← HM.out]; exact HO.out⟩
end Go.Proofs.YtpbcdmefngbjjaaGreatDoor
namespace Go.Proofs.YtpbcdmefngbjjaaGreatDoor
open Go.RowKit
open Go.Lib
/-- Bit t of bytes. -/
def rdB (l : List UInt8) (t : Nat) : Nat := (l.getD (t / 8) 0).toNat / 2 ^ (7 - t % 8) % 2
theorem rdB_lt (l : List UInt8) (t : Nat) : rdB l t < 2 := Nat.mod_lt _ (by decide)
/-- The number of j bits from t0 on. -/
def dfB (b : Nat → Nat) (t0 : Nat) : Nat → Nat
  | 0 => 0
  | j + 1 => 2 * dfB b t0 j % W64 + b (t0 + j)
theorem dfB_lt {b : Nat → Nat} (hb : ∀ t, b t < 2) (t0 : Nat) : ∀ j, dfB b t0 j < W64
  | 0 => by rw [dfB]; decide
  | j + 1 => by
    have h1 := hb (t0 + j)
    rw [dfB]; unfold W64; omega
def unV (b : Nat → Nat) (wd m i : Nat) : Nat := (m + dfB b (i * wd) wd) % W64
def unG (b : Nat → Nat) (wd m k : Nat) : List Nat := (List.range k).map (unV b wd m)
theorem unG_length (b : Nat → Nat) (wd m k : Nat) : (unG b wd m k).length = k := by simp [unG]
theorem unG_succ (b : Nat → Nat) (wd m k : Nat) : unG b wd m (k + 1) = unG b wd m k ++ [unV b wd m k] := by rw [unG, List.range_succ, List.map_append]; rfl
theorem unG_lt (b : Nat → Nat) (wd m k : Nat) : ∀ x ∈ unG b wd m k, x < W64 := by
  intro x hx; rw [unG, List.mem_map] at hx; obtain ⟨i, _, rfl⟩ := hx; exact Nat.mod_lt _ (by decide)
theorem and_bit {v r : Nat} (hv : v < 256) : bits .and .u8 ((v : Int) / 2 ^ r) 1 = ((v / 2 ^ r % 2 : Nat) : Int) := by
  have h1 : (v : Int) / 2 ^ r = ((v / 2 ^ r : Nat) : Int) := by rw [Int.natCast_ediv, Int.natCast_pow]; rfl
  have h2 := u8_and_nat (v / 2 ^ r) 1 (Nat.lt_of_le_of_lt (Nat.div_le_self _ _) hv) (by decide)
  rw [nat_mask1] at h2
  rw [h1, show (1 : Int) = ((1 : Nat) : Int) from rfl, h2]
theorem or_bit {x bt : Nat} (hb : bt < 2) : bits .or .u64 (IntKind.u64.wrap ((x : Int) * 2)) (bt : Int) = ((2 * x % W64 + bt : Nat) : Int) := by
  have h1 : IntKind.u64.wrap ((x : Int) * 2) = ((2 * x % W64 : Nat) : Int) := by rw [IntKind.wrap_u64]; unfold W64; omega
  have h3 : 2 * x % W64 = 2 ^ 1 * (2 * x % W64 / 2) := by unfold W64; omega
  have h4 : 2 * x % W64 ||| bt = 2 * x % W64 + bt := by
    have := Nat.two_pow_add_eq_or_of_lt (i := 1) (b := bt) (by omega) (2 * x % W64 / 2)
    rw [← h3] at this; exact this.symm
  rw [h1, u64_or_nat _ _ (by unfold W64; omega) (by omega), h4]
set_option maxRecDepth 100000 in
set_option maxHeartbeats 4000000 in
theorem withoutPacking_any (p : Option Addr) (c n k m wd len : Nat) (l : List UInt8) (w : World) (HL : Hid (len = l.length)) (h1 : 1 ≤ n) (h2 : n ≤ 8) (hl : len ≤ 1048576) (hk : k * n ≤ 1048576) (hwd : wd ≤ 255) (hm : m < W64) (hbits : k * wd ≤ 8 * len) (hb : Bs w p l) :
    Calls Tryz.prog 70 #[.slice p len c, .int .i64 (n : Int), .int .i64 (k : Int), .int .u64 (m : Int), .int .i64 (wd : Int)] w (App w.heap.size w (.slice none 0 0) (jl n (unG (rdB l) wd m k))) := by
  obtain ⟨i0, hi, hz0, hz1, hz2⟩ := info_parts info5
  have HB := Lib.hid hb
  have hkl : k ≤ 1048576 := by
    have h3 : k * 1 ≤ k * n := Nat.mul_le_mul_left _ h1
    omega
  have hki : (k : Int) ≤ 1048576 := by omega
  have hn1 : 1 ≤ (n : Int) := by omega
  have hn8 : (n : Int) ≤ 8 := by omega
  have hwi : (wd : Int) ≤ 255 := by omega
  obtain ⟨C, HC⟩ : ∃ C, Hid (C = k * n) := ⟨_, rfl⟩
  have hmul : (k : Int) * (n : Int) = (C : Int) := by rw [HC.out]; simp
  have hCi : (C : Int) ≤ 1048576 := by rw [HC.out]; omega
  have HM := Lib.hid hm
  have HBI := Lib.hid hbits
  have HKN := Lib.hid hk
  have hmi : (m : Int) ≤ 18446744073709551615 := by unfold W64 at hm; omega
  obtain ⟨R, HR⟩ : ∃ R, Hid (R = jl n (unG (rdB l) wd m k)) := ⟨_, rfl⟩
  rw [← HR.out]
  clear hb hm hbits hk
  go_enter Tryz.func70, Tryz.ntmps70
  go_wp2_with (at_make; refine wpList_make_own _ rfl _ _ 22 rfl w.heap.size 5 i0 (.int .u8 0) 1 Tryz.underlying22 hi hz0 hz1 _ _ _ C rfl rfl ?b1 ?b2 ?b3 (Nat.le_refl _) ?_)
  case b1 => omega
  case b2 => rw [hz2]; omega
  case b3 => unfold maxLen; omega
  intro w1 hown hgrow
  have HG0 : Hid (Grew w.heap.size w (.slice none 0 0) (jl n (unG (rdB l) wd m 0)) w1 (.slice (some ⟨w.heap.size, 0, none⟩) 0 C)) := Lib.hid ⟨hown, hgrow, .inr ⟨_, rfl, Nat.le_refl _⟩⟩
  clear hown hgrow
  go_wp2_with fail
  go_loopw [11, 12, 19] (fun vr uv iv wr => ∃ (i T : Nat), i ≤ k ∧ iv = .int .i64 i ∧ uv = .int .i64 T ∧ Hid (T = i * wd) ∧ Hid (Grew w.heap.size w (.slice none 0 0) (jl n (unG (rdB l) wd m i)) wr vr)) (fun _ _ iv _ => k - (Go.RowKit.intOf iv).toNat)
  case atStart => exact ⟨0, 0, Nat.zero_le _, rfl, rfl, Lib.hid (by rw [Nat.zero_mul]), HG0⟩
  case round =>
    obtain ⟨i, T, hik, rfl, rfl, HT, HG⟩ := hrel
    by_cases hilt : i < k
    · have hilt' : (i : Int) < k := by omega
      have hbw : Hid (Below w.heap.size w wr) := Lib.hid (HG.out.below (Nat.le_refl _) (by intro k hk; cases hk))
      have hPT : T + wd ≤ 8 * len := by
        have h5 : (i + 1) * wd ≤ k * wd := Nat.mul_le_mul_right _ hilt
        have h6 := HBI.out
        rw [Nat.succ_mul] at h5
        rw [HT.out]; omega
      go_wp2_with fail
      go_loop [12, 13, 22] (fun uv xv jv => ∃ (j x T1 : Nat), j ≤ wd ∧ jv = .int .i64 j ∧ uv = .int .i64 T1 ∧ xv = .int .u64 (x : Int) ∧ Hid (T1 = T + j) ∧ Hid (x = dfB (rdB l) T j)) (fun _ _ jv => wd - (Go.RowKit.intOf jv).toNat)
      case atStart => exact ⟨0, 0, T, Nat.zero_le _, rfl, rfl, rfl, Lib.hid (Nat.add_zero _).symm, Lib.hid rfl⟩
      case round =>
        obtain ⟨j, x, T1, hj, rfl, rfl, rfl, HT1, HX⟩ := hrel
        by_cases hjw : j < wd
        · have hjw' : (j : Int) < wd := by omega
          have hT1 : T1 < 8 * len := by rw [HT1.out]; omega
          have hT1i : (T1 : Int) ≤ 8388608 := by omega
          obtain ⟨q8, HQ8⟩ : ∃ q8, Hid (q8 = T1 / 8) := ⟨_, rfl⟩
          have hq8 : (T1 : Int) / 8 = (q8 : Int) := by rw [HQ8.out]; omega
          have hq8l : q8 < len := by rw [HQ8.out]; omega
          have hq8i : (q8 : Int) < len := by omega
          obtain ⟨b1, o1, v, rfl, hb1, hc1, hv, hv2⟩ := (HB.out.below hbw.out).at (k := q8) (by rw [← HL.out]; exact hq8l)
          obtain ⟨r7, HR7⟩ : ∃ r7, Hid (r7 = 7 - T1 % 8) := ⟨_, rfl⟩
          have hr7l : (r7 : Int) ≤ 7 := by rw [HR7.out]; omega
          have hr7 : 7 - (T1 : Int) % 8 = (r7 : Int) := by rw [HR7.out]; omega
          obtain ⟨bt, HBT⟩ : ∃ bt, Hid (bt = v / 2 ^ r7 % 2) := ⟨_, rfl⟩
          have hbt : bt < 2 := by rw [HBT.out]; exact Nat.mod_lt _ (by decide)
          have hbti : (bt : Int) ≤ 1 := by omega
          have hand : bits .and .u8 ((v : Int) / 2 ^ r7) 1 = (bt : Int) := by rw [and_bit (by omega), HBT.out]
          have hxl : x < W64 := by rw [HX.out]; exact dfB_lt (rdB_lt l) _ _
          have hxi : (x : Int) ≤ 18446744073709551615 := by unfold W64 at hxl; omega
          obtain ⟨x2, HX2⟩ : ∃ x2, Hid (x2 = 2 * x % W64 + bt) := ⟨_, rfl⟩
          have hor : bits .or .u64 (IntKind.u64.wrap ((x : Int) * 2)) (bt : Int) = (x2 : Int) := by rw [or_bit hbt, HX2.out]
          have hx2 : Hid (x2 = dfB (rdB l) T (j + 1)) := Lib.hid (by
            rw [dfB, ← HX.out, HX2.out, HBT.out, rdB, ← HT1.out, ← HQ8.out, hv.out, ← HR7.out])
          clear hxl hbt
          go_wp2_with fail
          go_round
          case rel => exact ⟨j + 1, x2, T1 + 1, by omega, by go_num, by go_num, by first | rfl | rw [hor], Lib.hid (by rw [HT1.out]; omega), hx2⟩
          case measure => simp [Go.RowKit.intOf]; omega
        · obtain rfl : j = wd := by omega
          obtain ⟨z, HZ⟩ : ∃ z, Hid (z = (m + x) % W64) := ⟨_, rfl⟩
          have hadd : IntKind.u64.wrap ((m : Int) + (x : Int)) = (z : Int) := by rw [IntKind.wrap_u64, HZ.out]; unfold W64; omega
          have hzl : z < W64 := by rw [HZ.out]; exact Nat.mod_lt _ (by decide)
          obtain ⟨L, HLL⟩ : ∃ L, Hid (L = jl n (unG (rdB l) j m i)) := ⟨_, rfl⟩
          rw [← HLL.out] at HG
          have hLl : L.length ≤ 1048576 := by
            have h5 : i * n ≤ k * n := Nat.mul_le_mul_right _ hik
            have h6 := HKN.out
            rw [HLL.out, jl_length, unG_length]; omega
          have HN := Lib.hid (appendNumber_any w.heap.size _ L z n wr h2 (by omega) hbw.out.size HG.out.own hzl)
          have hxl : x < W64 := by rw [HX.out]; exact dfB_lt (rdB_lt l) _ _
          have hxi : (x : Int) ≤ 18446744073709551615 := by unfold W64 at hxl; omega
          clear hzl hxl
          go_wp2_with fail
          refine (HN.out).mono ?_
          rintro e w2 ⟨v2, rfl, hg2⟩
          have HG2 := Lib.hid (HG.out.trans hg2)
          rw [show L ++ be n z = jl n (unG (rdB l) j m (i + 1)) by rw [unG_succ, jl_append, ← HLL.out, unV, ← HT.out, ← HX.out, ← HZ.out, jl, jl, List.append_nil]] at HG2
          clear hg2
          go_wp2_with fail
          go_roundw
          case rel => exact ⟨i + 1, T1, by omega, by go_num, rfl, Lib.hid (by rw [HT1.out, HT.out, Nat.succ_mul]), HG2⟩
          case measure => simp [Go.RowKit.intOf]; omega
    · obtain rfl : i = k := by omega
      rw [← HR.out] at HG
      go_wp2_with fail
      go_ret
      exact ⟨_, rfl, HG.out⟩
end Go.Proofs.YtpbcdmefngbjjaaGreatDoor
namespace Go.Proofs.YtpbcdmefngbjjaaGreatDoor
open Go.RowKit
open Go.Lib
def UnpPost (L : List UInt8) (w : World) (e : Ending) (w' : World) : Prop := Below w.heap.size w w' ∧ ∃ q d, e = .returned (.tuple #[.slice q L.length d, .bool true]) ∧ Hid (L.length ≤ d) ∧ Hid (q = none → d = 0) ∧ Bs w' q L
def UnpBad (w : World) (e : Ending) (w' : World) : Prop := Below w.heap.size w w' ∧ e = .returned (.tuple #[.slice none 0 0, .bool false])
set_option maxRecDepth 100000 in
set_option maxHeartbeats 4000000 in
theorem unp_okA (b0 off len0 len1 len2 len3 c0 c1 c2 s n n1 k m wd : Nat) (l : List UInt8) (w : World) (h1 : 1 ≤ n) (h2 : n ≤ 8) (hN1 : Hid (n1 = n + 1)) (e0 : Hid (len0 = len1 + 4)) (e1 : Hid (len1 = len2 + n1)) (e2 : Hid (len2 = len3 + s)) (d0 : Hid (c0 = c1 + 4)) (d1 : Hid (c1 = c2 + n1)) (hc2 : 0 < c2) (hcs : Hid (s ≤ c2)) (hc : len0 ≤ c0) (hlm : len2 ≤ 1048576) (hl : Hid (l.length = len0)) (hk0 : 0 < k) (hk : k * n ≤ 1048576) (hwd : wd ≤ 255) (hs : Hid (s = (k * wd + 7) / 8))
    (hk4 : Hid (nb (l.take 4) = k)) (hm : Hid (nb ((l.drop 4).take n) = m)) (hwv : Hid (((l.drop 4).getD n 0).toNat = wd)) (hb : Bs w (some ⟨b0, off, none⟩) l) :
    Calls Tryz.prog 45 #[.slice (some ⟨b0, off, none⟩) len0 c0, .int .i64 (n : Int)] w (UnpPost (jl n (unG (rdB ((l.drop 4).drop n1)) wd m k) ++ ((l.drop 4).drop n1).drop s) w) := by
  have HB := Lib.hid hb
  have hn := hN1.out
  have hn0 : 1 ≤ (n : Int) := by omega
  have hn8 : (n : Int) ≤ 8 := by omega
  have hn1 : (n : Int) + 1 = (n1 : Int) := by omega
  have hn2 : 2 ≤ (n1 : Int) := by omega
  have hn9 : (n1 : Int) ≤ 9 := by omega
  have hnn : n < n1 := by omega
  have hni : (n : Int) < (n1 : Int) := by omega
  have hnle : n ≤ n1 := by omega
  have hki : 0 < (k : Int) := by omega
  have hki0 : ¬ (k : Int) = 0 := by omega
  have hkl : k ≤ 1048576 := by
    have h3 : k * 1 ≤ k * n := Nat.mul_le_mul_left _ h1
    omega
  have hki2 : (k : Int) ≤ 1048576 := by omega
  obtain ⟨D, HD⟩ : ∃ D, Hid (D = 1048576 / n) := ⟨_, rfl⟩
  have hkD : k ≤ D := by rw [HD.out, Nat.le_div_iff_mul_le (by omega)]; exact hk
  have hkDi : ¬ (D : Int) < (k : Int) := by omega
  have hkDd : decide (D < k) = false := decide_eq_false (by omega)
  have hDi : (D : Int) ≤ 1048576 := by
    have := Nat.div_le_self 1048576 n
    rw [HD.out]; omega
  have hquo : (1048576 : Int) / (n : Int) = (D : Int) := by rw [HD.out, Int.natCast_ediv]; rfl
  have hwi : (wd : Int) ≤ 255 := by omega
  obtain ⟨TT, HTT⟩ : ∃ TT, Hid (TT = k * wd) := ⟨_, rfl⟩
  have hmul : (k : Int) * (wd : Int) = (TT : Int) := by rw [HTT.out]; simp
  have hTT : (TT : Int) ≤ 267386880 := by
    have h5 : k * wd ≤ 1048576 * 255 := Nat.mul_le_mul hkl hwd
    rw [HTT.out]; omega
  have hsz : ((TT : Int) + 7) / 8 = (s : Int) := by rw [hs.out, HTT.out]; omega
  have q0 := e0.out
  have q1 := e1.out
  have qc0 := d0.out
  have qc1 := d1.out
  have hll : l.length = len0 := hl.out
  have hb1 : Hid (∀ W, Below w.heap.size w W → Bs W (some ⟨b0, off + 4, none⟩) (l.drop 4)) := Lib.hid (fun W hW => bs_tail (hb.below hW) 4 (by omega) rfl)
  have HN4 := Lib.hid (bnumber_any (some ⟨b0, off, none⟩) c0 (l.take 4) w (by rw [List.length_take]; omega) (by have h := bs_sub hb 0 4 (by omega) (Nat.add_zero off).symm; rwa [List.drop_zero] at h))
  rw [show (l.take 4).length = 4 by rw [List.length_take]; omega, hk4.out] at HN4
  have HNn : Hid (∀ W, Below w.heap.size w W → Calls Tryz.prog 68 #[.slice (some ⟨b0, off + 4, none⟩) n c1] W fun e w' => e = .returned (.int .u64 (m : Int)) ∧ W = w') := Lib.hid (fun W hW => by
    have h := bnumber_any (some ⟨b0, off + 4, none⟩) c1 ((l.drop 4).take n) W (by rw [List.length_take, List.length_drop]; omega) (by have h := bs_sub (hb1.out W hW) 0 n (by rw [List.length_drop]; omega) rfl; rwa [List.drop_zero] at h)
    rwa [show ((l.drop 4).take n).length = n by rw [List.length_take, List.length_drop]; omega, hm.out] at h)
  have hcw : Hid (∀ W, Below w.heap.size w W → W.cell? ⟨b0, off + 4 + n, none⟩ = some (.int .u8 (wd : Int))) := Lib.hid (fun W hW => by
    rcases hb1.out W hW with h0 | ⟨b, o, e, h3, h4⟩
    · rw [List.length_drop] at h0; omega
    · injection e with e; injection e with e1 e2; subst e1; subst e2
      have h5 := h4 n (by rw [List.length_drop]; omega)
      rwa [hwv.out] at h5)
  have hmi : (m : Int) ≤ 18446744073709551615 := by
    have h5 : m < 18446744073709551616 := by rw [← hm.out]; exact nb_lt8 (by rw [List.length_take]; omega)
    omega
  have hm64 : m < W64 := by unfold W64; omega
  have Q2 := e2.out
  have h2x := hcs.out
  have i0 : 4 ≤ (len0 : Int) := by omega
  have i0c : 4 < (c0 : Int) := by omega
  have i0d : (len0 : Int) ≤ (c0 : Int) := by omega
  have i0l : (len0 : Int) ≤ 1048590 := by omega
  have i1 : (n1 : Int) ≤ (len1 : Int) := by omega
  have i1n : (n : Int) < (len1 : Int) := by omega
  have i1c : (n1 : Int) < (c1 : Int) := by omega
  have i1d : (len1 : Int) ≤ (c1 : Int) := by omega
  have i1e : (n : Int) ≤ (c1 : Int) := by omega
  have i2 : (s : Int) ≤ (len2 : Int) := by omega
  have i2c : (s : Int) ≤ (c2 : Int) := by omega
  have i2d : (len2 : Int) ≤ (c2 : Int) := by omega
  have i0' : ¬ (len0 : Int) < 4 := by omega
  have i1' : ¬ (len1 : Int) < (n1 : Int) := by omega
  have i2' : ¬ (len2 : Int) < (s : Int) := by omega
  have f0 : len0 - 4 = len1 := by omega
  have f0c : c0 - 4 = c1 := by omega
  have f1 : len1 - n1 = len2 := by omega
  have f1c : c1 - n1 = c2 := by omega
  have f2 : len2 - s = len3 := by omega
  obtain ⟨l2, HL2⟩ : ∃ l2, Hid (l2 = (l.drop 4).drop n1) := ⟨_, rfl⟩
  have hl2 : Hid (len2 = l2.length) := Lib.hid (by rw [HL2.out, List.length_drop, List.length_drop]; omega)
  have hb2 : Hid (∀ W, Below w.heap.size w W → Bs W (some ⟨b0, off + 4 + n1, none⟩) l2) := Lib.hid (fun W hW => by rw [HL2.out]; exact bs_tail (hb1.out W hW) n1 (by rw [List.length_drop]; omega) rfl)
  have HW := Lib.hid (withoutPacking_any (some ⟨b0, off + 4 + n1, none⟩) c2 n k m wd len2 l2 w.drew.drew hl2 h1 h2 hlm hk hwd hm64 (by have := hs.out; omega) (hb2.out _ (Below.refl _ w).drew.drew))
  obtain ⟨G, HG⟩ : ∃ G, Hid (G = jl n (unG (rdB l2) wd m k)) := ⟨_, rfl⟩
  have hGl : G.length ≤ 1048576 := by rw [HG.out, jl_length, unG_length]; exact hk
  obtain ⟨rs, HRS⟩ : ∃ rs, Hid (rs = l2.drop s) := ⟨_, rfl⟩
  have hrl : rs.length = len3 := by rw [HRS.out, List.length_drop, ← hl2.out]; omega
  have hb3 : Hid (∀ W, Below w.heap.size w W → Bs W (if c2 = s then some ⟨b0, off + 4 + n1, none⟩ else some ⟨b0, off + 4 + n1 + s, none⟩) rs) := Lib.hid (fun W hW => by
    split
    · exact .inl (by rw [hrl]; omega)
    · rw [HRS.out]; exact bs_tail (hb2.out W hW) s (by rw [← hl2.out]; omega) rfl)
  rw [← HG.out] at HW
  rw [← HL2.out, ← HG.out, ← HRS.out]
  have hBd : Below w.heap.size w w.drew := (Below.refl _ w).drew
  have hBd2 : Below w.heap.size w w.drew.drew := hBd.drew
  have hwk : IntKind.i64.wrap (k : Int) = (k : Int) := by rw [IntKind.wrap_i64]; omega
  have hww : IntKind.i64.wrap (wd : Int) = (wd : Int) := by rw [IntKind.wrap_i64]; omega
  clear hn hb hll q0 q1 qc0 qc1 Q2 h2x
  go_enter Tryz.func45, Tryz.ntmps45
  go_wp2_with fail
  refine (HN4.out).mono ?_
  rintro e w' ⟨rfl, rfl⟩
  go_wp2_with fail
  refine wp_region_noPanic ?_
  refine wp_region_held_drew (S := fun W' => W'.cell? ⟨b0, off + 4 + n, none⟩ = some (.int .u8 (wd : Int))) (by kernel_rfl) (hcw.out _ hBd) (fun hHeld => ?_)
  refine wpAnyH_take (i := 0) (v := ?v9) rfl (by kernel_rfl) (by kernel_rfl) (by kernel_rfl) (fun _ _ _ h => h) (Or.inl ⟨by rfl, ?hy9⟩) (by assumption) ?rest9
  case hy9 =>
    intro W' hSw
    obtain e9 := hSw
    go_simp
    with_reducible rfl
  simp only [List.getElem_toArray, List.getElem_cons_zero, Act.put, List.setIfInBounds_toArray, List.set_cons_zero, List.set_cons_succ]
  refine wpAnyH_take (i := 1) (v := ?v10) rfl (by kernel_rfl) (by kernel_rfl) (by kernel_rfl) (fun _ _ _ h => h) (Or.inl ⟨by rfl, ?hy10⟩) (by assumption) ?rest10
  case hy10 =>
    intro W' hSw
    obtain e9 := hSw
    go_simp
    with_reducible rfl
  simp only [List.getElem_toArray, List.getElem_cons_zero, List.getElem_cons_succ, Act.put, List.setIfInBounds_toArray, List.set_cons_zero, List.set_cons_succ]
  refine wpAnyH_take (i := 2) (v := ?v11) rfl (by kernel_rfl) (by kernel_rfl) (by kernel_rfl) (fun _ _ _ h => h) (Or.inl ⟨by rfl, ?hy11⟩) (by assumption) ?rest11
  case hy11 =>
    intro W' hSw
    obtain e9 := hSw
    go_simp
    with_reducible rfl
  simp only [List.getElem_toArray, List.getElem_cons_zero, List.getElem_cons_succ, Act.put, List.setIfInBounds_toArray, List.set_cons_zero, List.set_cons_succ]
  refine wpAnyH_take (i := 3) (v := ?v12) rfl (by kernel_rfl) (by kernel_rfl) (by kernel_rfl) (fun _ _ _ h => h) (Or.inl ⟨by rfl, ?hy12⟩) (by assumption) ?rest12
  case hy12 =>
    intro W' hSw
    obtain e9 := hSw
    go_simp
    with_reducible rfl
  simp only [List.getElem_toArray, List.getElem_cons_zero, List.getElem_cons_succ, Act.put, List.setIfInBounds_toArray, List.set_cons_zero, List.set_cons_succ]
  refine wpAnyH_take (i := 4) (v := ?v13) rfl (by kernel_rfl) (by kernel_rfl) (by kernel_rfl) (fun _ _ _ h => h) (Or.inl ⟨by rfl, ?hy13⟩) (by assumption) ?rest13
  case hy13 =>
    intro W' hSw
    obtain e9 := hSw
    go_simp
    with_reducible rfl
  simp only [List.getElem_toArray, List.getElem_cons_zero, List.getElem_cons_succ, Act.put, List.setIfInBounds_toArray, List.set_cons_zero, List.set_cons_succ]
  refine wpAnyH_take (i := 6) (v := ?v14) rfl (by kernel_rfl) (by kernel_rfl) (by kernel_rfl) (fun _ _ _ h => h) (Or.inl ⟨by rfl, ?hy14⟩) (by assumption) ?rest14
  case hy14 =>
    intro W' hSw
    obtain e9 := hSw
    go_simp
    with_reducible rfl
  simp only [List.getElem_toArray, List.getElem_cons_zero, List.getElem_cons_succ, Act.put, List.setIfInBounds_toArray, List.set_cons_zero, List.set_cons_succ]
  refine wpAnyH_take (i := 7) (v := ?v15) rfl (by kernel_rfl) (by kernel_rfl) (by kernel_rfl) (fun _ _ _ h => h) (Or.inl ⟨by rfl, ?hy15⟩) (by assumption) ?rest15
  case hy15 =>
    intro W' hSw
    obtain e9 := hSw
    go_simp
    with_reducible rfl
  simp only [List.getElem_toArray, List.getElem_cons_zero, List.getElem_cons_succ, Act.put, List.setIfInBounds_toArray, List.set_cons_zero, List.set_cons_succ]
  refine wpAnyH_take (i := 8) (v := ?v16) rfl (by kernel_rfl) (by kernel_rfl) (by kernel_rfl) (fun _ _ _ h => h) (Or.inl ⟨by rfl, ?hy16⟩) (by assumption) ?rest16
  case hy16 =>
    intro W' hSw
    obtain e9 := hSw
    go_simp
    with_reducible rfl
  simp only [List.getElem_toArray, List.getElem_cons_zero, List.getElem_cons_succ, Act.put, List.setIfInBounds_toArray, List.set_cons_zero, List.set_cons_succ]
  refine wpAnyH_take (i := 9) (v := ?v17) rfl (by kernel_rfl) (by kernel_rfl) (by kernel_rfl) (fun _ _ _ h => h) (Or.inl ⟨by rfl, ?hy17⟩) (by assumption) ?rest17
  case hy17 =>
    intro W' hSw
    obtain e9 := hSw
    go_simp
    with_reducible rfl
  simp only [List.getElem_toArray, List.getElem_cons_zero, List.getElem_cons_succ, Act.put, List.setIfInBounds_toArray, List.set_cons_zero, List.set_cons_succ]
  refine wpAnyH_take (i := 10) (v := ?v18) rfl (by kernel_rfl) (by kernel_rfl) (by kernel_rfl) (fun _ _ _ h => h) (Or.inl ⟨by rfl, ?hy18⟩) (by assumption) ?rest18
  case hy18 =>
    intro W' hSw
    obtain e9 := hSw
    go_simp
    with_reducible rfl
  simp only [List.getElem_toArray, List.getElem_cons_zero, List.getElem_cons_succ, Act.put, List.setIfInBounds_toArray, List.set_cons_zero, List.set_cons_succ]
  refine wpAnyH_ready (rs := [5]) (by kernel_rfl) (by simp) ?_
  refine AllReadyH.cons (i := 5) rfl (fun K hK => ?_) AllReadyH.nil
  go_simp
  refine (HNn.out _ hBd).mono ?_
  rintro e W' ⟨rfl, rfl⟩
  refine hK.out _ _ (hcw.out _ hBd) (fun hHeld => ?_)
  clear hK K
  refine wpAnyH_ready (rs := [11]) (by kernel_rfl) (by simp) ?_
  refine AllReadyH.cons (i := 11) rfl (fun K hK => ?_) AllReadyH.nil
  go_simp
  refine hK.out _ _ (hcw.out _ hBd) (fun hHeld => ?_)
  clear hK K
  refine wpAnyH_ready (rs := [12]) (by kernel_rfl) (by simp) ?_
  refine AllReadyH.cons (i := 12) rfl (fun K hK => ?_) AllReadyH.nil
  go_simp
  refine hK.out _ _ (hcw.out _ hBd) (fun hHeld => ?_)
  clear hK K
  refine wpAnyH_ready (rs := [13]) (by kernel_rfl) (by simp) ?_
  refine AllReadyH.cons (i := 13) rfl (fun K hK => ?_) AllReadyH.nil
  go_simp
  refine hK.out _ _ (hcw.out _ hBd) (fun hHeld => ?_)
  clear hK K
  refine wpAnyH_done (by kernel_rfl) ?_ _
  refine NoPanic.normal ?_
  clear hHeld
  go_wp2_with fail
  (try rw [hsz])
  refine wp_region_noPanic ?_
  refine wp_region_held_drew (S := fun _ => True) (by kernel_rfl) trivial (fun hHeld => ?_)
  refine wpAnyH_take (i := 0) (v := ?v1) rfl (by kernel_rfl) (by kernel_rfl) (by kernel_rfl) (fun _ _ _ h => h) (Or.inl ⟨by rfl, ?hy1⟩) (by assumption) ?rest1
  case hy1 =>
    intro W' hSw
    obtain _ := hSw
    go_simp
    with_reducible rfl
  simp only [List.getElem_toArray, List.getElem_cons_zero, Act.put, List.setIfInBounds_toArray, List.set_cons_zero, List.set_cons_succ]
  refine wpAnyH_take (i := 1) (v := ?v2) rfl (by kernel_rfl) (by kernel_rfl) (by kernel_rfl) (fun _ _ _ h => h) (Or.inl ⟨by rfl, ?hy2⟩) (by assumption) ?rest2
  case hy2 =>
    intro W' hSw
    obtain _ := hSw
    go_simp
    with_reducible rfl
  simp only [List.getElem_toArray, List.getElem_cons_zero, List.getElem_cons_succ, Act.put, List.setIfInBounds_toArray, List.set_cons_zero, List.set_cons_succ]
  refine wpAnyH_take (i := 2) (v := ?v3) rfl (by kernel_rfl) (by kernel_rfl) (by kernel_rfl) (fun _ _ _ h => h) (Or.inl ⟨by rfl, ?hy3⟩) (by assumption) ?rest3
  case hy3 =>
    intro W' hSw
    obtain _ := hSw
    go_simp
    with_reducible rfl
  simp only [List.getElem_toArray, List.getElem_cons_zero, List.getElem_cons_succ, Act.put, List.setIfInBounds_toArray, List.set_cons_zero, List.set_cons_succ]
  refine wpAnyH_take (i := 3) (v := ?v4) rfl (by kernel_rfl) (by kernel_rfl) (by kernel_rfl) (fun _ _ _ h => h) (Or.inl ⟨by rfl, ?hy4⟩) (by assumption) ?rest4
  case hy4 =>
    intro W' hSw
    obtain _ := hSw
    go_simp
    with_reducible rfl
  simp only [List.getElem_toArray, List.getElem_cons_zero, List.getElem_cons_succ, Act.put, List.setIfInBounds_toArray, List.set_cons_zero, List.set_cons_succ]
  refine wpAnyH_take (i := 4) (v := ?v5) rfl (by kernel_rfl) (by kernel_rfl) (by kernel_rfl) (fun _ _ _ h => h) (Or.inl ⟨by rfl, ?hy5⟩) (by assumption) ?rest5
  case hy5 =>
    intro W' hSw
    obtain _ := hSw
    go_simp
    with_reducible rfl
  simp only [List.getElem_toArray, List.getElem_cons_zero, List.getElem_cons_succ, Act.put, List.setIfInBounds_toArray, List.set_cons_zero, List.set_cons_succ]
  refine wpAnyH_take (i := 6) (v := ?v6) rfl (by kernel_rfl) (by kernel_rfl) (by kernel_rfl) (fun _ _ _ h => h) (Or.inl ⟨by rfl, ?hy6⟩) (by assumption) ?rest6
  case hy6 =>
    intro W' hSw
    obtain _ := hSw
    go_simp
    with_reducible rfl
  simp only [List.getElem_toArray, List.getElem_cons_zero, List.getElem_cons_succ, Act.put, List.setIfInBounds_toArray, List.set_cons_zero, List.set_cons_succ]
  refine wpAnyH_take (i := 7) (v := ?v7) rfl (by kernel_rfl) (by kernel_rfl) (by kernel_rfl) (fun _ _ _ h => h) (Or.inl ⟨by rfl, ?hy7⟩) (by assumption) ?rest7
  case hy7 =>
    intro W' hSw
    obtain _ := hSw
    go_simp
    with_reducible rfl
  simp only [List.getElem_toArray, List.getElem_cons_zero, List.getElem_cons_succ, Act.put, List.setIfInBounds_toArray, List.set_cons_zero, List.set_cons_succ]
  refine wpAnyH_take (i := 8) (v := ?v8) rfl (by kernel_rfl) (by kernel_rfl) (by kernel_rfl) (fun _ _ _ h => h) (Or.inl ⟨by rfl, ?hy8⟩) (by assumption) ?rest8
  case hy8 =>
    intro W' hSw
    obtain _ := hSw
    go_simp
    with_reducible rfl
  simp only [List.getElem_toArray, List.getElem_cons_zero, List.getElem_cons_succ, Act.put, List.setIfInBounds_toArray, List.set_cons_zero, List.set_cons_succ]
  refine wpAnyH_ready (rs := [5]) (by kernel_rfl) (by simp) ?_
  refine AllReadyH.cons (i := 5) rfl (fun K hK => ?_) AllReadyH.nil
  go_simp
  refine (HW.out).mono ?_
  rintro e W2 ⟨v2, rfl, hg2⟩
  have G2 := Lib.hid hg2
  have hB2 : Hid (Below w.heap.size w W2) := Lib.hid (hBd2.trans (hg2.below (Nat.le_refl _) (by intro k hk; cases hk)))
  have hb3W := Lib.hid (hb3.out W2 hB2.out)
  clear hg2
  refine hK.out _ _ (trivial) (fun hHeld => ?_)
  clear hK K
  refine wpAnyH_ready (rs := [9]) (by kernel_rfl) (by simp) ?_
  refine AllReadyH.cons (i := 9) rfl (fun K hK9 => ?_) AllReadyH.nil
  rw [if_pos (by rfl)]
  refine op_append_bs (.tmp 64) (.tmp 67) rfl w.heap.size v2 G.length G rfl rfl G2.out.own _ _ _ rs rfl (by first | exact hrl | (rw [hrl]; omega)) hb3W.out (by omega) hB2.out.size ?_
  intro v5 W5 hg5
  obtain ⟨p5, c5, rfl, hs5, hd5⟩ := own_bytes hg5.own
  have hnc := own_nocap hg5.own
  have hfin : Hid (UnpPost (G ++ rs) w (.returned (.tuple #[.slice p5 (G ++ rs).length c5, .bool true])) W5) := Lib.hid ⟨hB2.out.trans (hg5.below hB2.out.size (fun k e => own_ge G2.out.own e)), p5, c5, rfl, Lib.hid hd5, Lib.hid hnc, hs5⟩
  obtain ⟨m5, HM5⟩ : ∃ m5, Hid (m5 = (G ++ rs).length) := ⟨_, rfl⟩
  rw [← HM5.out] at hfin ⊢
  clear hg5 hs5 hd5 hnc
  refine hK9.out _ _ trivial (fun hHeld => ?_)
  clear hK9 K
  simp only [List.getElem_toArray, List.getElem_cons_zero, List.getElem_cons_succ, Act.put, List.setIfInBounds_toArray, List.set_cons_zero, List.set_cons_succ]
  refine wpAnyH_ready (rs := [10]) (by kernel_rfl) (by simp) ?_
  refine AllReadyH.cons (i := 10) rfl (fun K hK => ?_) AllReadyH.nil
  go_simp
  refine hK.out _ _ (trivial) (fun hHeld => ?_)
  clear hK K
  refine wpAnyH_ready (rs := [11]) (by kernel_rfl) (by simp) ?_
  refine AllReadyH.cons (i := 11) rfl (fun K hK => ?_) AllReadyH.nil
  go_simp
  refine hK.out _ _ (trivial) (fun hHeld => ?_)
  clear hK K
  refine wpAnyH_done (by kernel_rfl) ?_ _
  refine NoPanic.normal ?_
  clear hHeld
  go_wp2_with fail
  all_goals (go_ret2; exact hfin.out)
end Go.Proofs.YtpbcdmefngbjjaaGreatDoor
namespace Go.Proofs.YtpbcdmefngbjjaaGreatDoor
open Go.RowKit
open Go.Lib
set_option maxRecDepth 100000 in
set_option maxHeartbeats 4000000 in
theorem unp_okB (b0 off len0 n n1 k m : Nat) (l : List UInt8) (w : World) (h1 : 1 ≤ n) (h2 : n ≤ 8) (hN1 : Hid (n1 = n + 1)) (e0 : Hid (len0 = n1 + 4)) (hl : Hid (l.length = len0)) (hk0 : 0 < k) (hk : k * n ≤ 1048576)
    (hk4 : Hid (nb (l.take 4) = k)) (hm : Hid (nb ((l.drop 4).take n) = m)) (hwv : Hid (((l.drop 4).getD n 0).toNat = 0)) (hb : Bs w (some ⟨b0, off, none⟩) l) :
    Calls Tryz.prog 45 #[.slice (some ⟨b0, off, none⟩) len0 len0, .int .i64 (n : Int)] w (UnpPost (jl n (unG (rdB []) 0 m k) ++ []) w) := by
  have HB := Lib.hid hb
  have hn := hN1.out
  have hn0 : 1 ≤ (n : Int) := by omega
  have hn8 : (n : Int) ≤ 8 := by omega
  have hn1 : (n : Int) + 1 = (n1 : Int) := by omega
  have hn2 : 2 ≤ (n1 : Int) := by omega
  have hn9 : (n1 : Int) ≤ 9 := by omega
  have hnn : n < n1 := by omega
  have hni : (n : Int) < (n1 : Int) := by omega
  have hnle : n ≤ n1 := by omega
  have hki : 0 < (k : Int) := by omega
  have hki0 : ¬ (k : Int) = 0 := by omega
  have hkl : k ≤ 1048576 := by
    have h3 : k * 1 ≤ k * n := Nat.mul_le_mul_left _ h1
    omega
  have hki2 : (k : Int) ≤ 1048576 := by omega
  obtain ⟨D, HD⟩ : ∃ D, Hid (D = 1048576 / n) := ⟨_, rfl⟩
  have hkD : k ≤ D := by rw [HD.out, Nat.le_div_iff_mul_le (by omega)]; exact hk
  have hkDi : ¬ (D : Int) < (k : Int) := by omega
  have hkDd : decide (D < k) = false := decide_eq_false (by omega)
  have hDi : (D : Int) ≤ 1048576 := by
    have := Nat.div_le_self 1048576 n
    rw [HD.out]; omega
  have hquo : (1048576 : Int) / (n : Int) = (D : Int) := by rw [HD.out, Int.natCast_ediv]; rfl
  have q0 := e0.out
  have hll : l.length = len0 := hl.out
  have hb1 : Hid (∀ W, Below w.heap.size w W → Bs W (some ⟨b0, off + 4, none⟩) (l.drop 4)) := Lib.hid (fun W hW => bs_tail (hb.below hW) 4 (by omega) rfl)
  have HN4 := Lib.hid (bnumber_any (some ⟨b0, off, none⟩) len0 (l.take 4) w (by rw [List.length_take]; omega) (by have h := bs_sub hb 0 4 (by omega) (Nat.add_zero off).symm; rwa [List.drop_zero] at h))
  rw [show (l.take 4).length = 4 by rw [List.length_take]; omega, hk4.out] at HN4
  have HNn : Hid (∀ W, Below w.heap.size w W → Calls Tryz.prog 68 #[.slice (some ⟨b0, off + 4, none⟩) n n1] W fun e w' => e = .returned (.int .u64 (m : Int)) ∧ W = w') := Lib.hid (fun W hW => by
    have h := bnumber_any (some ⟨b0, off + 4, none⟩) n1 ((l.drop 4).take n) W (by rw [List.length_take, List.length_drop]; omega) (by have h := bs_sub (hb1.out W hW) 0 n (by rw [List.length_drop]; omega) rfl; rwa [List.drop_zero] at h)
    rwa [show ((l.drop 4).take n).length = n by rw [List.length_take, List.length_drop]; omega, hm.out] at h)
  have hcw : Hid (∀ W, Below w.heap.size w W → W.cell? ⟨b0, off + 4 + n, none⟩ = some (.int .u8 0)) := Lib.hid (fun W hW => by
    rcases hb1.out W hW with h0 | ⟨b, o, e, h3, h4⟩
    · rw [List.length_drop] at h0; omega
    · injection e with e; injection e with e1 e2; subst e1; subst e2
      have h5 := h4 n (by rw [List.length_drop]; omega)
      rw [hwv.out] at h5; exact h5)
  have hmi : (m : Int) ≤ 18446744073709551615 := by
    have h5 : m < 18446744073709551616 := by rw [← hm.out]; exact nb_lt8 (by rw [List.length_take]; omega)
    omega
  have hm64 : m < W64 := by unfold W64; omega
  have i0 : 4 ≤ (len0 : Int) := by omega
  have i0c : 4 < (len0 : Int) := by omega
  have i0l : (len0 : Int) ≤ 13 := by omega
  have i0' : ¬ (len0 : Int) < 4 := by omega
  have f0 : len0 - 4 = n1 := by omega
  have HW := Lib.hid (withoutPacking_any (some ⟨b0, off + 4, none⟩) 0 n k m 0 0 [] w.drew.drew (Lib.hid rfl) h1 h2 (by decide) hk (by decide) hm64 (Nat.le_of_eq (Nat.mul_zero _)) (Bs.nil _ _))
  obtain ⟨G, HG⟩ : ∃ G, Hid (G = jl n (unG (rdB []) 0 m k)) := ⟨_, rfl⟩
  have hGl : G.length ≤ 1048576 := by rw [HG.out, jl_length, unG_length]; exact hk
  obtain ⟨rs, HRS⟩ : ∃ rs : List UInt8, Hid (rs = []) := ⟨[], Lib.hid rfl⟩
  have hrl : rs.length = 0 := by rw [HRS.out]; rfl
  have hb3 : Hid (∀ (W : World) (q : Option Addr), Bs W q rs) := Lib.hid (fun W q => .inl hrl)
  rw [← HG.out] at HW
  rw [← HG.out, ← HRS.out]
  have hwk : IntKind.i64.wrap (k : Int) = (k : Int) := by rw [IntKind.wrap_i64]; omega
  have hBd : Below w.heap.size w w.drew := (Below.refl _ w).drew
  have hBd2 : Below w.heap.size w w.drew.drew := hBd.drew
  clear hn hb hll q0
  go_enter Tryz.func45, Tryz.ntmps45
  go_wp2_with fail
  refine (HN4.out).mono ?_
  rintro e w' ⟨rfl, rfl⟩
  go_wp2_with fail
  refine wp_region_noPanic ?_
  refine wp_region_held_drew (S := fun W' => W'.cell? ⟨b0, off + 4 + n, none⟩ = some (.int .u8 0)) (by kernel_rfl) (hcw.out _ hBd) (fun hHeld => ?_)
  refine wpAnyH_take (i := 0) (v := ?v9) rfl (by kernel_rfl) (by kernel_rfl) (by kernel_rfl) (fun _ _ _ h => h) (Or.inl ⟨by rfl, ?hy9⟩) (by assumption) ?rest9
  case hy9 =>
    intro W' hSw
    obtain e9 := hSw
    go_simp
    with_reducible rfl
  simp only [List.getElem_toArray, List.getElem_cons_zero, Act.put, List.setIfInBounds_toArray, List.set_cons_zero, List.set_cons_succ]
  refine wpAnyH_take (i := 1) (v := ?v10) rfl (by kernel_rfl) (by kernel_rfl) (by kernel_rfl) (fun _ _ _ h => h) (Or.inl ⟨by rfl, ?hy10⟩) (by assumption) ?rest10
  case hy10 =>
    intro W' hSw
    obtain e9 := hSw
    go_simp
    with_reducible rfl
  simp only [List.getElem_toArray, List.getElem_cons_zero, List.getElem_cons_succ, Act.put, List.setIfInBounds_toArray, List.set_cons_zero, List.set_cons_succ]
  refine wpAnyH_take (i := 2) (v := ?v11) rfl (by kernel_rfl) (by kernel_rfl) (by kernel_rfl) (fun _ _ _ h => h) (Or.inl ⟨by rfl, ?hy11⟩) (by assumption) ?rest11
  case hy11 =>
    intro W' hSw
    obtain e9 := hSw
    go_simp
    with_reducible rfl
  simp only [List.getElem_toArray, List.getElem_cons_zero, List.getElem_cons_succ, Act.put, List.setIfInBounds_toArray, List.set_cons_zero, List.set_cons_succ]
  refine wpAnyH_take (i := 3) (v := ?v12) rfl (by kernel_rfl) (by kernel_rfl) (by kernel_rfl) (fun _ _ _ h => h) (Or.inl ⟨by rfl, ?hy12⟩) (by assumption) ?rest12
  case hy12 =>
    intro W' hSw
    obtain e9 := hSw
    go_simp
    with_reducible rfl
  simp only [List.getElem_toArray, List.getElem_cons_zero, List.getElem_cons_succ, Act.put, List.setIfInBounds_toArray, List.set_cons_zero, List.set_cons_succ]
  refine wpAnyH_take (i := 4) (v := ?v13) rfl (by kernel_rfl) (by kernel_rfl) (by kernel_rfl) (fun _ _ _ h => h) (Or.inl ⟨by rfl, ?hy13⟩) (by assumption) ?rest13
  case hy13 =>
    intro W' hSw
    obtain e9 := hSw
    go_simp
    with_reducible rfl
  simp only [List.getElem_toArray, List.getElem_cons_zero, List.getElem_cons_succ, Act.put, List.setIfInBounds_toArray, List.set_cons_zero, List.set_cons_succ]
  refine wpAnyH_take (i := 6) (v := ?v14) rfl (by kernel_rfl) (by kernel_rfl) (by kernel_rfl) (fun _ _ _ h => h) (Or.inl ⟨by rfl, ?hy14⟩) (by assumption) ?rest14
  case hy14 =>
    intro W' hSw
    obtain e9 := hSw
    go_simp
    with_reducible rfl
  simp only [List.getElem_toArray, List.getElem_cons_zero, List.getElem_cons_succ, Act.put, List.setIfInBounds_toArray, List.set_cons_zero, List.set_cons_succ]
  refine wpAnyH_take (i := 7) (v := ?v15) rfl (by kernel_rfl) (by kernel_rfl) (by kernel_rfl) (fun _ _ _ h => h) (Or.inl ⟨by rfl, ?hy15⟩) (by assumption) ?rest15
  case hy15 =>
    intro W' hSw
    obtain e9 := hSw
    go_simp
    with_reducible rfl
  simp only [List.getElem_toArray, List.getElem_cons_zero, List.getElem_cons_succ, Act.put, List.setIfInBounds_toArray, List.set_cons_zero, List.set_cons_succ]
  refine wpAnyH_take (i := 8) (v := ?v16) rfl (by kernel_rfl) (by kernel_rfl) (by kernel_rfl) (fun _ _ _ h => h) (Or.inl ⟨by rfl, ?hy16⟩) (by assumption) ?rest16
  case hy16 =>
    intro W' hSw
    obtain e9 := hSw
    go_simp
    with_reducible rfl
  simp only [List.getElem_toArray, List.getElem_cons_zero, List.getElem_cons_succ, Act.put, List.setIfInBounds_toArray, List.set_cons_zero, List.set_cons_succ]
  refine wpAnyH_take (i := 9) (v := ?v17) rfl (by kernel_rfl) (by kernel_rfl) (by kernel_rfl) (fun _ _ _ h => h) (Or.inl ⟨by rfl, ?hy17⟩) (by assumption) ?rest17
  case hy17 =>
    intro W' hSw
    obtain e9 := hSw
    go_simp
    with_reducible rfl
  simp only [List.getElem_toArray, List.getElem_cons_zero, List.getElem_cons_succ, Act.put, List.setIfInBounds_toArray, List.set_cons_zero, List.set_cons_succ]
  refine wpAnyH_take (i := 10) (v := ?v18) rfl (by kernel_rfl) (by kernel_rfl) (by kernel_rfl) (fun _ _ _ h => h) (Or.inl ⟨by rfl, ?hy18⟩) (by assumption) ?rest18
  case hy18 =>
    intro W' hSw
    obtain e9 := hSw
    go_simp
    with_reducible rfl
  simp only [List.getElem_toArray, List.getElem_cons_zero, List.getElem_cons_succ, Act.put, List.setIfInBounds_toArray, List.set_cons_zero, List.set_cons_succ]
  refine wpAnyH_ready (rs := [5]) (by kernel_rfl) (by simp) ?_
  refine AllReadyH.cons (i := 5) rfl (fun K hK => ?_) AllReadyH.nil
  go_simp
  refine (HNn.out _ hBd).mono ?_
  rintro e W' ⟨rfl, rfl⟩
  refine hK.out _ _ (hcw.out _ hBd) (fun hHeld => ?_)
  clear hK K
  refine wpAnyH_ready (rs := [11]) (by kernel_rfl) (by simp) ?_
  refine AllReadyH.cons (i := 11) rfl (fun K hK => ?_) AllReadyH.nil
  go_simp
  refine hK.out _ _ (hcw.out _ hBd) (fun hHeld => ?_)
  clear hK K
  refine wpAnyH_ready (rs := [12]) (by kernel_rfl) (by simp) ?_
  refine AllReadyH.cons (i := 12) rfl (fun K hK => ?_) AllReadyH.nil
  go_simp
  refine hK.out _ _ (hcw.out _ hBd) (fun hHeld => ?_)
  clear hK K
  refine wpAnyH_ready (rs := [13]) (by kernel_rfl) (by simp) ?_
  refine AllReadyH.cons (i := 13) rfl (fun K hK => ?_) AllReadyH.nil
  go_simp
  refine hK.out _ _ (hcw.out _ hBd) (fun hHeld => ?_)
  clear hK K
  refine wpAnyH_done (by kernel_rfl) ?_ _
  refine NoPanic.normal ?_
  clear hHeld
  go_wp2_with fail
  refine wp_region_noPanic ?_
  refine wp_region_held_drew (S := fun _ => True) (by kernel_rfl) trivial (fun hHeld => ?_)
  refine wpAnyH_take (i := 0) (v := ?v1) rfl (by kernel_rfl) (by kernel_rfl) (by kernel_rfl) (fun _ _ _ h => h) (Or.inl ⟨by rfl, ?hy1⟩) (by assumption) ?rest1
  case hy1 =>
    intro W' hSw
    obtain _ := hSw
    go_simp
    with_reducible rfl
  simp only [List.getElem_toArray, List.getElem_cons_zero, Act.put, List.setIfInBounds_toArray, List.set_cons_zero, List.set_cons_succ]
  refine wpAnyH_take (i := 1) (v := ?v2) rfl (by kernel_rfl) (by kernel_rfl) (by kernel_rfl) (fun _ _ _ h => h) (Or.inl ⟨by rfl, ?hy2⟩) (by assumption) ?rest2
  case hy2 =>
    intro W' hSw
    obtain _ := hSw
    go_simp
    with_reducible rfl
  simp only [List.getElem_toArray, List.getElem_cons_zero, List.getElem_cons_succ, Act.put, List.setIfInBounds_toArray, List.set_cons_zero, List.set_cons_succ]
  refine wpAnyH_take (i := 2) (v := ?v3) rfl (by kernel_rfl) (by kernel_rfl) (by kernel_rfl) (fun _ _ _ h => h) (Or.inl ⟨by rfl, ?hy3⟩) (by assumption) ?rest3
  case hy3 =>
    intro W' hSw
    obtain _ := hSw
    go_simp
    with_reducible rfl
  simp only [List.getElem_toArray, List.getElem_cons_zero, List.getElem_cons_succ, Act.put, List.setIfInBounds_toArray, List.set_cons_zero, List.set_cons_succ]
  refine wpAnyH_take (i := 3) (v := ?v4) rfl (by kernel_rfl) (by kernel_rfl) (by kernel_rfl) (fun _ _ _ h => h) (Or.inl ⟨by rfl, ?hy4⟩) (by assumption) ?rest4
  case hy4 =>
    intro W' hSw
    obtain _ := hSw
    go_simp
    with_reducible rfl
  simp only [List.getElem_toArray, List.getElem_cons_zero, List.getElem_cons_succ, Act.put, List.setIfInBounds_toArray, List.set_cons_zero, List.set_cons_succ]
  refine wpAnyH_take (i := 4) (v := ?v5) rfl (by kernel_rfl) (by kernel_rfl) (by kernel_rfl) (fun _ _ _ h => h) (Or.inl ⟨by rfl, ?hy5⟩) (by assumption) ?rest5
  case hy5 =>
    intro W' hSw
    obtain _ := hSw
    go_simp
    with_reducible rfl
  simp only [List.getElem_toArray, List.getElem_cons_zero, List.getElem_cons_succ, Act.put, List.setIfInBounds_toArray, List.set_cons_zero, List.set_cons_succ]
  refine wpAnyH_take (i := 6) (v := ?v6) rfl (by kernel_rfl) (by kernel_rfl) (by kernel_rfl) (fun _ _ _ h => h) (Or.inl ⟨by rfl, ?hy6⟩) (by assumption) ?rest6
  case hy6 =>
    intro W' hSw
    obtain _ := hSw
    go_simp
    with_reducible rfl
  simp only [List.getElem_toArray, List.getElem_cons_zero, List.getElem_cons_succ, Act.put, List.setIfInBounds_toArray, List.set_cons_zero, List.set_cons_succ]
  refine wpAnyH_take (i := 7) (v := ?v7) rfl (by kernel_rfl) (by kernel_rfl) (by kernel_rfl) (fun _ _ _ h => h) (Or.inl ⟨by rfl, ?hy7⟩) (by assumption) ?rest7
  case hy7 =>
    intro W' hSw
    obtain _ := hSw
    go_simp
    with_reducible rfl
  simp only [List.getElem_toArray, List.getElem_cons_zero, List.getElem_cons_succ, Act.put, List.setIfInBounds_toArray, List.set_cons_zero, List.set_cons_succ]
  refine wpAnyH_take (i := 8) (v := ?v8) rfl (by kernel_rfl) (by kernel_rfl) (by kernel_rfl) (fun _ _ _ h => h) (Or.inl ⟨by rfl, ?hy8⟩) (by assumption) ?rest8
  case hy8 =>
    intro W' hSw
    obtain _ := hSw
    go_simp
    with_reducible rfl
  simp only [List.getElem_toArray, List.getElem_cons_zero, List.getElem_cons_succ, Act.put, List.setIfInBounds_toArray, List.set_cons_zero, List.set_cons_succ]
  refine wpAnyH_ready (rs := [5]) (by kernel_rfl) (by simp) ?_
  refine AllReadyH.cons (i := 5) rfl (fun K hK => ?_) AllReadyH.nil
  go_simp
  refine (HW.out).mono ?_
  rintro e W2 ⟨v2, rfl, hg2⟩
  have G2 := Lib.hid hg2
  have hB2 : Hid (Below w.heap.size w W2) := Lib.hid (hBd2.trans (hg2.below (Nat.le_refl _) (by intro k hk; cases hk)))
  clear hg2
  refine hK.out _ _ (trivial) (fun hHeld => ?_)
  clear hK K
  refine wpAnyH_ready (rs := [9]) (by kernel_rfl) (by simp) ?_
  refine AllReadyH.cons (i := 9) rfl (fun K hK9 => ?_) AllReadyH.nil
  rw [if_pos (by rfl)]
  refine op_append_bs (.tmp 64) (.tmp 67) rfl w.heap.size v2 G.length G rfl rfl G2.out.own _ _ _ rs rfl (by first | exact hrl | (rw [hrl]; omega)) (hb3.out _ _) (by omega) hB2.out.size ?_
  intro v5 W5 hg5
  obtain ⟨p5, c5, rfl, hs5, hd5⟩ := own_bytes hg5.own
  have hnc := own_nocap hg5.own
  have hfin : Hid (UnpPost (G ++ rs) w (.returned (.tuple #[.slice p5 (G ++ rs).length c5, .bool true])) W5) := Lib.hid ⟨hB2.out.trans (hg5.below hB2.out.size (fun k e => own_ge G2.out.own e)), p5, c5, rfl, Lib.hid hd5, Lib.hid hnc, hs5⟩
  obtain ⟨m5, HM5⟩ : ∃ m5, Hid (m5 = (G ++ rs).length) := ⟨_, rfl⟩
  rw [← HM5.out] at hfin ⊢
  clear hg5 hs5 hd5 hnc
  refine hK9.out _ _ trivial (fun hHeld => ?_)
  clear hK9 K
  simp only [List.getElem_toArray, List.getElem_cons_zero, List.getElem_cons_succ, Act.put, List.setIfInBounds_toArray, List.set_cons_zero, List.set_cons_succ]
  refine wpAnyH_ready (rs := [10]) (by kernel_rfl) (by simp) ?_
  refine AllReadyH.cons (i := 10) rfl (fun K hK => ?_) AllReadyH.nil
  go_simp
  refine hK.out _ _ (trivial) (fun hHeld => ?_)
  clear hK K
  refine wpAnyH_ready (rs := [11]) (by kernel_rfl) (by simp) ?_
  refine AllReadyH.cons (i := 11) rfl (fun K hK => ?_) AllReadyH.nil
  go_simp
  refine hK.out _ _ (trivial) (fun hHeld => ?_)
  clear hK K
  refine wpAnyH_done (by kernel_rfl) ?_ _
  refine NoPanic.normal ?_
  clear hHeld
  go_wp2_with fail
  all_goals (go_ret2; exact hfin.out)
set_option maxRecDepth 100000 in
set_option maxHeartbeats 1600000 in
theorem clone_any (b0 off len c : Nat) (l : List UInt8) (w : World) (hl : Hid (len = l.length)) (hlm : len ≤ 1048590) (hb : Bs w (some ⟨b0, off, none⟩) l) :
    Calls Tryz.prog 69 #[.slice (some ⟨b0, off, none⟩) len c] w fun e w' => Below w.heap.size w w' ∧ ∃ q d, e = .returned (.slice q len d) ∧ Hid (len ≤ d) ∧ Hid (q = none → d = 0) ∧ Bs w' q l := by
  have HB := Lib.hid hb
  have heq : ∀ W : World, (binOp .eql 22 (.slice (some ⟨b0, off, none⟩) len c) (.slice none 0 0)).run Tryz.prog W = .ok (.bool false) W := fun W => by kernel_rfl
  have HBa : Hid (Below w.heap.size w (w.alloc (.cells #[] 5))) := Lib.hid ((Below.refl _ w).alloc (Nat.le_refl _) _)
  have hown : Hid ((w.alloc (.cells #[] 5)).ownsRow w.heap.size 5 1 (.slice (some ⟨w.heap.size, 0, none⟩) 0 0) ([] : List UInt8).length (u8s [])) := Lib.hid ⟨rfl, .inr ⟨w.heap.size, 0, #[], rfl, Nat.le_refl _, World.alloc_heap_new w _, Nat.le_refl _, Nat.zero_le _, rfl, rfl⟩⟩
  have hbl : Hid (0 + len ≤ 140737488355328 ∧ w.heap.size ≤ (w.alloc (.cells #[] 5)).heap.size) := Lib.hid ⟨by omega, by simp⟩
  clear hb
  go_enter Tryz.func69, Tryz.ntmps69
  go_wp2_with (at_builtin; refine wpList_append_bs rfl (.tmp 5) (.tmp 6) rfl w.heap.size _ 0 [] rfl rfl hown.out _ len c l rfl hl.out.symm (HB.out.below HBa.out) hbl.out.1 hbl.out.2 ?_)
  intro v5 w5 hg5
  obtain ⟨p5, c5, rfl, hs5, hd5⟩ := own_bytes hg5.own
  have hnc := own_nocap hg5.own
  rw [← hl.out] at hd5 ⊢
  have hfin := Lib.hid (And.intro (HBa.out.trans (hg5.below hbl.out.2 (fun k e => own_ge hown.out e))) (And.intro hd5 (And.intro hnc hs5)))
  clear hg5 hs5 hd5 hnc
  go_wp2_with fail
  go_ret
  exact ⟨hfin.out.1, _, _, rfl, Lib.hid hfin.out.2.1, Lib.hid hfin.out.2.2.1, hfin.out.2.2.2⟩
set_option maxRecDepth 100000 in
set_option maxHeartbeats 1600000 in
theorem unp_short (p : Option Addr) (len c : Nat) (z : Int) (w : World) (h : len < 4) : Calls Tryz.prog 45 #[.slice p len c, .int .i64 z] w (UnpBad w) := by
  have hi : (len : Int) < 4 := by omega
  clear h
  go_enter Tryz.func45, Tryz.ntmps45
  go_wp2_with fail
  go_ret2
  exact ⟨Below.refl _ _, rfl⟩
set_option maxRecDepth 100000 in
set_option maxHeartbeats 1600000 in
theorem unp_zero (b0 off len0 len1 c0 : Nat) (z : Int) (l : List UInt8) (w : World) (e0 : Hid (len0 = len1 + 4)) (hc : len0 ≤ c0) (hlm : len0 ≤ 1048590) (hl : Hid (l.length = len0)) (hk4 : Hid (nb (l.take 4) = 0)) (hb : Bs w (some ⟨b0, off, none⟩) l) :
    Calls Tryz.prog 45 #[.slice (some ⟨b0, off, none⟩) len0 c0, .int .i64 z] w (UnpPost (l.drop 4) w) := by
  have HB := Lib.hid hb
  have q0 := e0.out
  have hll := hl.out
  have i0 : 4 ≤ (len0 : Int) := by omega
  have i0' : ¬ (len0 : Int) < 4 := by omega
  have i0c : 4 ≤ (c0 : Int) := by omega
  have i0d : (len0 : Int) ≤ (c0 : Int) := by omega
  have i0l : (len0 : Int) ≤ 1048590 := by omega
  have f0 : len0 - 4 = len1 := by omega
  have HN4 := Lib.hid (bnumber_any (some ⟨b0, off, none⟩) c0 (l.take 4) w (by rw [List.length_take]; omega) (by have h := bs_sub hb 0 4 (by omega) (Nat.add_zero off).symm; rwa [List.drop_zero] at h))
  rw [show (l.take 4).length = 4 by rw [List.length_take]; omega, hk4.out] at HN4
  obtain ⟨l1, HL1⟩ : ∃ l1, Hid (l1 = l.drop 4) := ⟨_, rfl⟩
  have hl1 : Hid (len1 = l1.length) := Lib.hid (by rw [HL1.out, List.length_drop]; omega)
  have hb1 : Hid (Bs w (some ⟨b0, off + 4, none⟩) l1) := Lib.hid (by rw [HL1.out]; exact bs_tail hb 4 (by omega) rfl)
  rw [← HL1.out]
  by_cases hc4 : c0 = 4
  · have z1 : len1 = 0 := by omega
    subst z1
    have hl0 : len0 = 4 := by omega
    subst hl0
    subst hc4
    have HC := Lib.hid (clone_any b0 off 0 0 l1 w hl1 (by decide) (.inl hl1.out.symm))
    have el : l1.length = 0 := hl1.out.symm
    clear hb q0 hll f0 hlm hc hb1
    go_enter Tryz.func45, Tryz.ntmps45
    go_wp2_with fail
    refine (HN4.out).mono ?_
    rintro e w' ⟨rfl, rfl⟩
    go_wp2_with fail
    refine (HC.out).mono ?_
    rintro e w1 ⟨hb9, q, d, rfl, h5, h6, h7⟩
    have hfin : Hid (UnpPost l1 w (.returned (.tuple #[.slice q l1.length d, .bool true])) w1) := Lib.hid ⟨hb9, q, d, rfl, by rw [el]; exact h5, h6, h7⟩
    rw [el] at hfin
    clear hb9 h7
    go_wp2_with fail
    go_ret2
    exact hfin.out
  · have i0e : 4 < (c0 : Int) := by omega
    have HC := Lib.hid (clone_any b0 (off + 4) len1 (c0 - 4) l1 w hl1 (by omega) hb1.out)
    have el : l1.length = len1 := hl1.out.symm
    clear hb q0 hll hlm hc hb1
    go_enter Tryz.func45, Tryz.ntmps45
    go_wp2_with fail
    refine (HN4.out).mono ?_
    rintro e w' ⟨rfl, rfl⟩
    go_wp2_with fail
    refine (HC.out).mono ?_
    rintro e w1 ⟨hb9, q, d, rfl, h5, h6, h7⟩
    have hfin : Hid (UnpPost l1 w (.returned (.tuple #[.slice q l1.length d, .bool true])) w1) := Lib.hid ⟨hb9, q, d, rfl, by rw [el]; exact h5, h6, h7⟩
    rw [el] at hfin
    clear hb9 h7
    go_wp2_with fail
    go_ret2
    exact hfin.out
end Go.Proofs.YtpbcdmefngbjjaaGreatDoor
namespace Go.Proofs.YtpbcdmefngbjjaaGreatDoor
theorem gl_lt256 (n : Nat) : ∀ (k : Nat) (l : List UInt8), k * n ≤ l.length → ∀ x ∈ gl n k l, x < 256 ^ n
  | 0, _, _, x, h => by cases h
  | k + 1, l, hl, x, h => by
    rw [Nat.succ_mul] at hl
    rw [gl, List.mem_cons] at h
    rcases h with rfl | h
    · have h1 := nb_lt (l.take n)
      rwa [List.length_take, Nat.min_eq_left (by omega)] at h1
    · exact gl_lt256 n k _ (by rw [List.length_drop]; omega) x h
theorem jl_gl (n : Nat) : ∀ (k : Nat) (l : List UInt8), k * n ≤ l.length → jl n (gl n k l) ++ l.drop (k * n) = l
  | 0, l, _ => by rw [gl, jl, Nat.zero_mul, List.drop_zero, List.nil_append]
  | k + 1, l, hl => by
    rw [Nat.succ_mul] at hl
    have h1 := jl_gl n k (l.drop n) (by rw [List.length_drop]; omega)
    rw [List.drop_drop, Nat.add_comm n] at h1
    rw [gl, jl, be_nb n _ (by rw [List.length_take]; omega), List.append_assoc, Nat.succ_mul, h1, List.take_append_drop]
theorem dfB_bits {b : Nat → Nat} {t0 d w : Nat} (hd : d < 2 ^ w) (hd64 : d < W64) (h : ∀ j, j < w → b (t0 + j) = d / 2 ^ (w - 1 - j) % 2) : ∀ j, j ≤ w → dfB b t0 j = d / 2 ^ (w - j)
  | 0, _ => by rw [dfB, Nat.sub_zero, Nat.div_eq_of_lt hd]
  | j + 1, hj => by
    have h1 := dfB_bits hd hd64 h j (by omega)
    have h2 := bits_step d (w := w) (j := j) (by omega)
    have h3 : d / 2 ^ (w - 1 - j) < W64 := Nat.lt_of_le_of_lt (Nat.div_le_self _ _) hd64
    have e : w - (j + 1) = w - 1 - j := by omega
    rw [dfB, h1, h j (by omega), e, Nat.mod_eq_of_lt (by omega)]
    exact h2.symm
theorem unG_pk {gs : List Nat} {m w : Nat} {l2 : List UInt8} (hm : ∀ g ∈ gs, m ≤ g) (hg : ∀ g ∈ gs, g < W64) (hw : ∀ g ∈ gs, g - m < 2 ^ w) (hb : ∀ t, t < gs.length * w → rdB l2 t = btF gs m w t) : unG (rdB l2) w m gs.length = gs := by
  refine List.ext_getElem (by rw [unG_length]) fun i h1 h2 => ?_
  have hmem : gs[i] ∈ gs := List.getElem_mem h2
  have hgd : gs.getD i 0 = gs[i] := by rw [List.getD_eq_getElem?_getD, List.getElem?_eq_getElem h2]; rfl
  have hdl : gs[i] - m < W64 := Nat.lt_of_le_of_lt (Nat.sub_le _ _) (hg _ hmem)
  have h3 : dfB (rdB l2) (i * w) w = gs[i] - m := by
    rw [dfB_bits (hw _ hmem) hdl (fun j hj => ?_) w (Nat.le_refl _), Nat.sub_self, Nat.pow_zero, Nat.div_one]
    have h5 : (i + 1) * w ≤ gs.length * w := Nat.mul_le_mul_right _ h2
    rw [Nat.succ_mul] at h5
    rw [hb _ (by omega), btF_at _ _ hj, hgd]
  have h4 := hm _ hmem
  have h6 := hg _ hmem
  simp only [unG, List.getElem_map, List.getElem_range, unV, h3]
  rw [show m + (gs[i] - m) = gs[i] by omega]
  exact Nat.mod_eq_of_lt h6
theorem wdL_pow {gs : List Nat} (hg : ∀ g ∈ gs, g < W64) : ∀ g ∈ gs, g - mnL gs < 2 ^ wdL gs := by
  intro g h
  have h1 := mxL_ge h
  have h2 := mxL_lt hg
  exact Nat.lt_of_le_of_lt (Nat.sub_le_sub_right h1 _) (bl_lt (Nat.lt_of_le_of_lt (Nat.sub_le _ _) h2))
/-- The parts of packed bytes. -/
structure PkParts (l : List UInt8) (n k : Nat) (P : List UInt8) (m wd s : Nat) (rs : List UInt8) : Prop where
  len : P.length = rs.length + s + (n + 1) + 4
  hs : s = (k * wd + 7) / 8
  cnt : nb (P.take 4) = k
  lst : nb ((P.drop 4).take n) = m
  wid : ((P.drop 4).getD n 0).toNat = wd
  wdl : wd ≤ 64
  rsl : rs.length + k * n = l.length
  out : jl n (unG (rdB ((P.drop 4).drop (n + 1))) wd m k) ++ ((P.drop 4).drop (n + 1)).drop s = l
  grp : unG (rdB ((P.drop 4).drop (n + 1))) wd m k = gl n k l
  rst : ((P.drop 4).drop (n + 1)).drop s = rs
theorem packL_parts {l : List UInt8} {n : Nat} (_h1 : 1 ≤ n) (h2 : n ≤ 8) (hl : l.length ≤ 1048576) (hk0 : 0 < l.length / n) :
    PkParts l n (l.length / n) (packL l n) (mnL (gl n (l.length / n) l)) (wdL (gl n (l.length / n) l)) ((l.length / n * wdL (gl n (l.length / n) l) + 7) / 8) (l.drop (l.length / n * n)) := by
  obtain ⟨k, HK⟩ : ∃ k, k = l.length / n := ⟨_, rfl⟩
  rw [← HK] at hk0 ⊢
  have hkn : k * n ≤ l.length := by rw [HK]; exact Nat.div_mul_le_self _ _
  have hkl : k ≤ 1048576 := by rw [HK]; exact Nat.le_trans (Nat.div_le_self _ _) hl
  obtain ⟨gs, HG⟩ : ∃ gs, gs = gl n k l := ⟨_, rfl⟩
  have hgl : gs.length = k := by rw [HG, gl_length]
  have hg64 : ∀ g ∈ gs, g < W64 := by rw [HG]; exact gl_lt h2 k l
  have hg256 : ∀ g ∈ gs, g < 256 ^ n := by rw [HG]; exact gl_lt256 n k l hkn
  have hne : gs ≠ [] := fun e => by rw [← List.length_eq_zero_iff, hgl] at e; omega
  have hm256 : mnL gs < 256 ^ n := by
    cases hc : gs with
    | nil => exact absurd hc hne
    | cons x xs => rw [← hc]; exact Nat.lt_of_le_of_lt (mnL_le (by rw [hc]; exact List.mem_cons_self)) (hg256 x (by rw [hc]; exact List.mem_cons_self))
  have hw64 : wdL gs ≤ 64 := wdL_le gs
  have hP : packL l n = be 4 k ++ (be n (mnL gs) ++ ([UInt8.ofNat (wdL gs)] ++ (pkF gs ++ l.drop (k * n)))) := by
    rw [packL, ← HK, ← HG, pacL, pkB, if_neg (by rw [hgl]; omega), hgl]; simp only [List.append_assoc]
  have hpk : (pkF gs).length = (k * wdL gs + 7) / 8 := by rw [pkF, pkL_length, hgl]
  rw [← HG]
  have hd4 : (packL l n).drop 4 = be n (mnL gs) ++ ([UInt8.ofNat (wdL gs)] ++ (pkF gs ++ l.drop (k * n))) := by
    rw [hP]; exact drop_be 4 k _
  have hd5 : ((packL l n).drop 4).drop (n + 1) = pkF gs ++ l.drop (k * n) := by
    have e : ((packL l n).drop 4).drop (n + 1) = (((packL l n).drop 4).drop n).drop 1 := by
      generalize (packL l n).drop 4 = X
      rw [List.drop_drop]
    rw [e, hd4, drop_be]; rfl
  have hrst : ((packL l n).drop 4 |>.drop (n + 1)).drop ((k * wdL gs + 7) / 8) = l.drop (k * n) := by rw [hd5, ← hpk]; exact List.drop_left
  have hgrp : unG (rdB (((packL l n).drop 4).drop (n + 1))) (wdL gs) (mnL gs) k = gs := by
    have hu := unG_pk (m := mnL gs) (w := wdL gs) (l2 := pkF gs ++ l.drop (k * n)) (fun g h => mnL_le h) hg64 (wdL_pow hg64) (fun t ht => by
      rw [rdB, List.getD_eq_getElem?_getD, List.getElem?_append_left (by rw [hpk, ← hgl]; omega), ← List.getD_eq_getElem?_getD]
      exact pkL_bit _ (btF_lt gs (mnL gs) (wdL gs)) ht)
    rw [hgl] at hu
    rw [hd5, hu]
  refine ⟨?_, rfl, ?_, ?_, ?_, hw64, by rw [List.length_drop]; omega, ?_, by rw [hgrp, HG], hrst⟩
  · rw [hP]; simp only [List.length_append, be_length, List.length_cons, List.length_nil, hpk]; omega
  · rw [hP, take_be, nb_be]; exact Nat.mod_eq_of_lt (by omega)
  · rw [hd4, take_be, nb_be]; exact Nat.mod_eq_of_lt hm256
  · rw [hd4, List.getD_eq_getElem?_getD, List.getElem?_append_right (by rw [be_length]; exact Nat.le_refl _), be_length, Nat.sub_self]
    show (UInt8.ofNat (wdL gs)).toNat = _
    rw [UInt8.toNat_ofNat']; exact Nat.mod_eq_of_lt (by omega)
  · rw [hrst, hgrp, HG]
    exact jl_gl n k l hkn
end Go.Proofs.YtpbcdmefngbjjaaGreatDoor
namespace Go.Proofs.YtpbcdmefngbjjaaGreatDoor
open Go.RowKit
open Go.Lib
set_option maxRecDepth 100000 in
theorem equal_same (p q : Option Addr) (c d : Nat) (l : List UInt8) (w : World) (hp : Bs w p l) (hq : Bs w q l) :
    Calls Tryz.prog 46 #[.slice p l.length c, .slice q l.length d] w fun r w' => r = .returned (.bool true) ∧ w = w' := by
  have h1 := conv_bytes w p c l hp
  have h2 := conv_bytes w q d l hq
  clear hp hq
  obtain ⟨s, hs⟩ : ∃ s : ByteArray, s = ⟨l.toArray⟩ := ⟨_, rfl⟩
  rw [← hs] at h1 h2
  clear hs
  go_enter Tryz.func46, Tryz.ntmps46
  go_wp2_with fail
  go_ret
  exact ⟨rfl, rfl⟩
theorem bs_addr {w : World} {p : Option Addr} {l : List UInt8} (h : Bs w p l) (hl : 0 < l.length) : ∃ b off, p = some ⟨b, off, none⟩ := by
  obtain ⟨b, off, hp, -⟩ := at_cell h hl
  exact ⟨b, off, hp⟩
theorem unp_packed (p : Option Addr) (c n len0 : Nat) (l P : List UInt8) (w : World) (hP : Hid (P = packL l n)) (h1 : 1 ≤ n) (h2 : n ≤ 8) (hl : l.length ≤ 1048576) (hp0 : Hid (P.length = len0)) (hpl : len0 ≤ 1048576) (hc : len0 ≤ c) (hb : Bs w p P) :
    Calls Tryz.prog 45 #[.slice p len0 c, .int .i64 (n : Int)] w (UnpPost l w) := by
  by_cases hk : l.length / n = 0
  · have hP2 : P = be 4 0 ++ l := by rw [hP.out, packL, hk, Nat.zero_mul, List.drop_zero]; rfl
    have hl4 : P.length = l.length + 4 := by rw [hP2, List.length_append, be_length, Nat.add_comm]
    obtain ⟨b0, off, rfl⟩ := bs_addr hb (by omega)
    have h := unp_zero b0 off len0 l.length c (n : Int) P w (Lib.hid (by rw [← hp0.out]; exact hl4)) hc (by omega) hp0 (Lib.hid (by rw [hP2, take_be]; rfl)) hb
    rwa [hP2, show (be 4 0 ++ l).drop 4 = l from drop_be 4 0 l] at h
  · have hp := packL_parts h1 h2 hl (Nat.pos_of_ne_zero hk)
    rw [← hP.out] at hp
    obtain ⟨k, HK⟩ : ∃ k, k = l.length / n := ⟨_, rfl⟩
    obtain ⟨m, HM⟩ : ∃ m, m = mnL (gl n k l) := ⟨_, rfl⟩
    obtain ⟨wd, HW⟩ : ∃ wd, wd = wdL (gl n k l) := ⟨_, rfl⟩
    obtain ⟨s, HS⟩ : ∃ s, s = (k * wd + 7) / 8 := ⟨_, rfl⟩
    obtain ⟨rs, HR⟩ : ∃ rs, rs = l.drop (k * n) := ⟨_, rfl⟩
    rw [← HK, ← HM, ← HW, ← HS, ← HR] at hp
    have hlen := hp.len
    have hkn : k * n ≤ 1048576 := by have := hp.rsl; omega
    have hk0 : 0 < k := by rw [HK]; exact Nat.pos_of_ne_zero hk
    have hwd := hp.wdl
    have hpo := hp0.out
    obtain ⟨b0, off, rfl⟩ := bs_addr hb (by omega)
    by_cases hc2 : c = len0 ∧ s = 0 ∧ rs.length = 0
    · obtain ⟨rfl, hs0, hr0⟩ := hc2
      have hwd0 : wd = 0 := by
        rcases Nat.eq_zero_or_pos wd with h | h
        · exact h
        · have : 1 * 1 ≤ k * wd := Nat.mul_le_mul hk0 h
          omega
      have hw := hp.wid
      rw [hwd0] at hw
      have h := unp_okB b0 off c n (n + 1) k m P w h1 h2 (Lib.hid rfl) (Lib.hid (by omega)) hp0 hk0 hkn (Lib.hid hp.cnt) (Lib.hid hp.lst) (Lib.hid hw) hb
      have ho := hp.out
      have hn : (P.drop 4).drop (n + 1) = [] := by rw [← List.length_eq_zero_iff, List.length_drop, List.length_drop]; omega
      rw [hn, hwd0, List.drop_nil] at ho
      rwa [ho] at h
    · have h := unp_okA b0 off len0 (rs.length + s + (n + 1)) (rs.length + s) rs.length c (c - 4) (c - 4 - (n + 1)) s n (n + 1) k m wd P w h1 h2 (Lib.hid rfl) (Lib.hid (by omega)) (Lib.hid rfl) (Lib.hid rfl) (Lib.hid (by omega)) (Lib.hid (by omega)) (by omega) (Lib.hid (by omega)) hc (by omega) hp0 hk0 hkn (by omega) (Lib.hid hp.hs) (Lib.hid hp.cnt) (Lib.hid hp.lst) (Lib.hid hp.wid) hb
      rwa [hp.out] at h
set_option maxRecDepth 100000 in
set_option maxHeartbeats 1600000 in
theorem unpack_packed (p : Option Addr) (c n len0 len : Nat) (l P : List UInt8) (w : World) (hP : Hid (P = packL l n)) (h1 : 1 ≤ n) (h2 : n ≤ 8) (hlen : Hid (len = l.length)) (hl : len ≤ 1048576) (hp0 : Hid (P.length = len0)) (hpl : len0 ≤ 1048576) (hc : Hid (len0 ≤ c)) (hb : Bs w p P) :
    Calls Tryz.prog 23 #[.slice p len0 c, .int .i64 (n : Int)] w (RowB l len w) := by
  have HA := Lib.hid (check_ok_w p len0 c n w h1 h2 hpl)
  have HU := Lib.hid (unp_packed p c n len0 l P w hP h1 h2 (by rw [← hlen.out]; exact hl) hp0 hpl hc.out hb)
  have HB := Lib.hid hb
  have hn1 : 1 ≤ (n : Int) := by omega
  have hn8 : (n : Int) ≤ 8 := by omega
  clear hb
  go_enter Tryz.func23, Tryz.ntmps23
  go_wp2_with fail
  refine (HA.out).mono ?_
  rintro e w' ⟨rfl, rfl⟩
  go_wp2_with fail
  refine (HU.out).mono ?_
  rintro e w1 ⟨hb1, q, d, rfl, hd, hq, hs⟩
  rw [← hlen.out] at hd ⊢
  have HB1 := Lib.hid hb1
  have HS := Lib.hid hs
  have HPk := Lib.hid (pack_any q d n len l w1 hlen h1 h2 hl hd hq hs)
  clear hb1 hs
  go_wp2_with fail
  refine (HPk.out).mono ?_
  rintro e w2 ⟨hb2, v, rfl, ho⟩
  obtain ⟨q2, d2, rfl, hs2, -⟩ := own_bytes ho
  have HB2 := Lib.hid (HB1.out.trans (hb2.mono HB1.out.size))
  have HE := Lib.hid (equal_same q2 p d2 c P w2 (by rw [hP.out]; exact hs2) (HB.out.below HB2.out))
  have HS2 := Lib.hid (HS.out.below hb2)
  rw [← hP.out, hp0.out]
  rw [hp0.out] at HE
  clear ho hs2 hb2
  go_wp2_with fail
  refine (HE.out).mono ?_
  rintro e w3 ⟨rfl, rfl⟩
  go_wp2_with fail
  go_ret2
  exact ⟨HB2.out, _, _, rfl, hd.out, HS2.out⟩
set_option maxRecDepth 100000 in
set_option maxHeartbeats 1600000 in
theorem pack_bad (p : Option Addr) (k c : Nat) (n : Int) (w : World) (h : n < 1 ∨ 8 < n) : Calls Tryz.prog 21 #[.slice p k c, .int .i64 n] w (BadPost w) := by
  have H : Hid (∀ W, Calls Tryz.prog 38 #[.slice p k c, .int .i64 n] W fun e w' => e = .returned (.int .i64 2) ∧ W = w') := Lib.hid fun W => check_bad p k c n W h
  clear h
  go_enter Tryz.func21, Tryz.ntmps21
  go_wp2_with fail
  refine (H.out _).mono ?_
  rintro e w' ⟨rfl, rfl⟩
  go_wp2_with fail
  go_ret2
  exact ⟨Below.refl _ _, rfl⟩
set_option maxRecDepth 100000 in
set_option maxHeartbeats 1600000 in
theorem rpack_bad (p : Option Addr) (k c : Nat) (n : Int) (w : World) (h : n < 1 ∨ 8 < n) : Calls Tryz.prog 22 #[.slice p k c, .int .i64 n] w (BadPost w) := by
  have H := Lib.hid (asked_bad p k c n w h)
  clear h
  go_enter Tryz.func22, Tryz.ntmps22
  go_wp2_with fail
  refine (H.out).mono ?_
  rintro e w' ⟨rfl, rfl⟩
  go_wp2_with fail
  go_ret2
  exact ⟨Below.refl _ _, rfl⟩
theorem packL_length (l : List UInt8) {n : Nat} (h1 : 1 ≤ n) (h2 : n ≤ 8) (hl : l.length ≤ 1000) : (packL l n).length ≤ 1048576 := by
  by_cases hk : l.length / n = 0
  · rw [packL, hk, Nat.zero_mul, List.drop_zero, show pacL n (gl n 0 l) l = be 4 0 ++ l from rfl, List.length_append, be_length]; omega
  · have hp := packL_parts h1 h2 (by omega) (Nat.pos_of_ne_zero hk)
    have h3 := hp.len
    have h4 := hp.rsl
    have h5 := hp.wdl
    have h6 : l.length / n ≤ l.length := Nat.div_le_self _ _
    have h7 : l.length / n * wdL (gl n (l.length / n) l) ≤ 1000 * 64 := Nat.mul_le_mul (by omega) h5
    omega
set_option maxRecDepth 100000 in
set_option maxHeartbeats 1600000 in
theorem packs_long (p : Option Addr) (c : Nat) (l : List UInt8) (z : Int) (w : World) (hs : SaneAt w) (hl : 1000 < l.length) :
    Calls Tryz.prog 5 #[.slice p l.length c, .int .i64 z] w (SanePost w) := by
  have HS := Lib.hid (hs w (Below.refl _ _))
  clear hs
  have hl3 : (1000 : Int) < l.length := by omega
  go_enter Tryz.func5, Tryz.ntmps5
  go_wp2_with fail
  refine (HS.out).mono ?_
  rintro e w' ⟨rfl, hb⟩
  have HB := Lib.hid hb
  clear hb
  go_wp2_with fail
  go_ret
  exact ⟨rfl, HB.out⟩
set_option maxRecDepth 100000 in
set_option maxHeartbeats 4000000 in
theorem packs_bad (p : Option Addr) (c : Nat) (l : List UInt8) (z : Int) (w : World) (hs : SaneAt w) (hl : l.length ≤ 1000) (hz : z < 1 ∨ 8 < z) :
    Calls Tryz.prog 5 #[.slice p l.length c, .int .i64 z] w (SanePost w) := by
  have HS := Lib.hid hs
  have HZ := Lib.hid hz
  obtain ⟨len, HN⟩ : ∃ len, Hid (len = l.length) := ⟨_, rfl⟩
  rw [← HN.out] at hl ⊢
  clear hs hz
  have hl3 : (len : Int) ≤ 1000 := by omega
  go_enter Tryz.func5, Tryz.ntmps5
  go_wp2_with fail
  refine (pack_bad p len c z _ HZ.out).mono ?_
  rintro e w1 ⟨hb1, rfl⟩
  have HB1 := Lib.hid hb1
  clear hb1
  go_wp2_with fail
  refine (rpack_bad p len c z _ HZ.out).mono ?_
  rintro e w2 ⟨hb2, rfl⟩
  have HB2 := Lib.hid (HB1.out.trans (hb2.mono HB1.out.size))
  clear hb2
  go_wp2_with fail
  refine (is_same none none 0 0 [] 2 w2 (Bs.nil _ _) (Bs.nil _ _)).mono ?_
  rintro e w5 ⟨rfl, rfl⟩
  go_wp2_with fail
  refine (HS.out _ HB2.out).mono ?_
  rintro e w6 ⟨rfl, hb6⟩
  have HB6 := Lib.hid (HB2.out.trans (hb6.mono HB2.out.size))
  clear hb6
  go_wp2_with fail
  go_ret
  exact ⟨rfl, HB6.out⟩
set_option maxRecDepth 100000 in
set_option maxHeartbeats 4000000 in
theorem packs_ok (p : Option Addr) (c : Nat) (l : List UInt8) (n : Nat) (w : World) (hs : SaneAt w) (h1 : 1 ≤ n) (h2 : n ≤ 8) (hl : l.length ≤ 1000) (hc : l.length ≤ c) (hpc : p = none → c = 0) (hb : Bs w p l) :
    Calls Tryz.prog 5 #[.slice p l.length c, .int .i64 (n : Int)] w (SanePost w) := by
  have HS := Lib.hid hs
  have Hb := Lib.hid hb
  have Hc := Lib.hid hc
  have Hpc := Lib.hid hpc
  have H1 := Lib.hid h1
  have H2 := Lib.hid h2
  obtain ⟨P, HP⟩ : ∃ P, Hid (P = packL l n) := ⟨_, rfl⟩
  obtain ⟨pl, HPL⟩ : ∃ pl, Hid (P.length = pl) := ⟨_, rfl⟩
  have hpl : Hid (pl ≤ 1048576) := Lib.hid (by rw [← HPL.out, HP.out]; exact packL_length l h1 h2 hl)
  obtain ⟨len, HN⟩ : ∃ len, Hid (len = l.length) := ⟨_, rfl⟩
  rw [← HN.out] at hl Hc ⊢
  have HL : Hid (len ≤ 1048576) := Lib.hid (by omega)
  have hl3 : (len : Int) ≤ 1000 := by omega
  clear hs hb hpc hc h1 h2 hl
  go_enter Tryz.func5, Tryz.ntmps5
  go_wp2_with fail
  refine (pack_any p c n len l _ HN H1.out H2.out HL.out Hc Hpc Hb.out).mono ?_
  intro e w1 hr1
  obtain ⟨hb1, q1, d1, rfl, hd1, hn1, hs1⟩ := hr1.bc (len := pl) (by rw [← HP.out]; exact HPL.out)
  rw [← HP.out] at hs1
  have HB1 := Lib.hid hb1
  have S1 := Lib.hid hs1
  clear hb1 hs1 hr1
  go_wp2_with fail
  refine (rpack_any p c n len l _ HN H1.out H2.out HL.out Hc Hpc (Hb.out.below HB1.out)).mono ?_
  intro e w2 hr2
  obtain ⟨hb2, q2, d2, rfl, hd2, hn2, hs2⟩ := hr2.bc (len := pl) (by rw [← HP.out]; exact HPL.out)
  rw [← HP.out] at hs2
  have HB2 := Lib.hid (HB1.out.trans (hb2.mono HB1.out.size))
  have S1' := Lib.hid (S1.out.below hb2)
  have S2 := Lib.hid hs2
  clear hb2 hs2 S1 hr2
  go_wp2_with fail
  refine (is_b q1 q2 d1 d2 pl P 0 w2 HPL.out S1'.out S2.out).mono ?_
  rintro e w5 ⟨rfl, rfl⟩
  go_wp2_with fail
  refine (HS.out _ HB2.out).mono ?_
  rintro e w6 ⟨rfl, hb6⟩
  have HB6 := Lib.hid (HB2.out.trans (hb6.mono HB2.out.size))
  have V1 := Lib.hid (S1'.out.below hb6)
  clear hb6 S1' S2
  go_wp2_with fail
  refine (unpack_packed q1 d1 n pl len l P _ HP H1.out H2.out HN HL.out HPL hpl.out hd1 V1.out).mono ?_
  rintro e w7 ⟨hb7, q7, d7, rfl, -, hs7⟩
  have HB7 := Lib.hid (HB6.out.trans (hb7.mono HB6.out.size))
  have W7 := Lib.hid hs7
  clear hb7 hs7 V1
  go_wp2_with fail
  refine (back_b q7 p d7 c len l w7 HN.out.symm W7.out (Hb.out.below HB7.out)).mono ?_
  rintro e w9 ⟨rfl, rfl⟩
  go_wp2_with fail
  go_ret
  exact ⟨rfl, HB7.out⟩
theorem packs_any (p : Option Addr) (c : Nat) (l : List UInt8) (z : Int) (w : World) (hs : SaneAt w) (hc : l.length ≤ c) (hpc : p = none → c = 0) (hb : Bs w p l) :
    Calls Tryz.prog 5 #[.slice p l.length c, .int .i64 z] w (SanePost w) := by
  by_cases h1 : 1000 < l.length
  · exact packs_long p c l z w hs h1
  · by_cases hz : z < 1 ∨ 8 < z
    · exact packs_bad p c l z w hs (by omega) hz
    · obtain ⟨n, rfl⟩ : ∃ n : Nat, z = (n : Int) := ⟨z.toNat, by omega⟩
      exact packs_ok p c l n w hs (by omega) (by omega) (by omega) hc hpc hb
end Go.Proofs.YtpbcdmefngbjjaaGreatDoor
