/- The program's Pack. -/
import Derived.Test.YtpnofkefcoaojaaGreatDoorKC
import Derived.Test.YtpnofkefcoaojaaGreatDoorWED
set_option maxHeartbeats 4000000
set_option maxRecDepth 100000
namespace Go.Proofs.YtpnofkefcoaojaaGreatDoor
open Go.RowKit
open Go.Lib
theorem wdL_le (gs : List Nat) : wdL gs ≤ 64 := bl_le _
theorem pack_none (p : Option Addr) (c n len : Nat) (l : List UInt8) (w : World) (HL : Hid (len = l.length)) (h1 : 1 ≤ n) (h2 : n ≤ 8) (hl : len ≤ 1048576) (hc : len ≤ c) (hpc : p = none → c = 0) (hk0 : len / n = 0) (hb : Bs w p l) :
    Calls Tryz.prog 100 #[.slice p len c, .int .i64 (n : Int)] w (RowPost (be 4 0 ++ l) w) := by
  have HA := Lib.hid (check_ok_w p len c n w h1 h2 hl)
  have HN := Lib.hid (appendNumber_any w.heap.size (.slice none 0 0) [] 0 4 w (by decide) (by decide) (Nat.le_refl _) (World.ownsRow_nil w w.heap.size 5 1) (by decide))
  have HB := Lib.hid hb
  have HPC := Lib.hid hpc
  have hn1 : 1 ≤ (n : Int) := by omega
  have hn8 : (n : Int) ≤ 8 := by omega
  have hlen : (len : Int) ≤ 1048576 := by omega
  have hdiv : (len : Int) / (n : Int) = 0 := by
    have h3 : ((len / n : Nat) : Int) = 0 := by rw [hk0]; rfl
    rw [Int.natCast_ediv] at h3; exact h3
  have hquo : IntKind.i64.wrap ((len : Int) / (n : Int)) = 0 := by rw [hdiv]; rfl
  have hquo2 : IntKind.i64.wrap ((len : Int).tdiv (n : Int)) = 0 := by rw [Int.tdiv_eq_ediv_of_nonneg (by omega)]; exact hquo
  have hz : IntKind.u64.wrap 0 = 0 := rfl
  obtain ⟨R, HR⟩ : ∃ R, Hid (R = be 4 0 ++ l) := ⟨be 4 0 ++ l, Lib.hid rfl⟩
  rw [← HR.out]
  clear hb hpc
  go_enter Tryz.func100, Tryz.ntmps100
  go_wp2_with fail
  refine (HA.out).mono ?_
  rintro e w' ⟨rfl, rfl⟩
  go_wp2_with fail
  refine (HN.out).mono ?_
  rintro e w1 ⟨v1, rfl, hg1⟩
  obtain ⟨L1, HL1⟩ : ∃ L1, Hid (L1 = [] ++ be 4 0) := ⟨[] ++ be 4 0, Lib.hid rfl⟩
  rw [← HL1.out] at hg1
  have G1 := Lib.hid hg1
  have hB1 : Hid (Below w.heap.size w w1) := Lib.hid (hg1.below (Nat.le_refl _) (by intro k hk; cases hk))
  have HRest := Lib.hid (rest_any_w p c n 0 len l w1 h1 h2 HL hl hc HPC.out (by rw [hk0, Nat.zero_mul]; rfl) (HB.out.below hB1.out))
  rw [List.drop_zero, Nat.sub_zero] at HRest
  clear hg1
  go_wp2_with fail
  refine (HRest.out).mono ?_
  rintro e w2 ⟨rfl, q, d, rfl, hq⟩
  have HQ := Lib.hid hq
  have hbl : Hid (L1.length + len ≤ 140737488355328 ∧ w.heap.size ≤ w1.heap.size) := Lib.hid ⟨by rw [HL1.out]; show 4 + len ≤ _; omega, hB1.out.size⟩
  clear hq
  go_wp2_with (at_builtin; refine wpList_append_bs rfl (.tmp 48) (.tmp 51) rfl w.heap.size v1 L1.length L1 rfl rfl G1.out.own q len d l rfl HL.out.symm HQ.out hbl.out.1 hbl.out.2 ?_)
  intro v5 w5 hg5
  have G5 := Lib.hid (G1.out.trans hg5)
  rw [show L1 ++ l = R by rw [HL1.out, HR.out]; rfl] at G5
  clear hg5
  go_wp2_with fail
  go_ret2
  exact ⟨G5.out.below (Nat.le_refl _) (by intro k hk; cases hk), _, rfl, G5.out.own⟩
theorem pack_some (p : Option Addr) (c n len k : Nat) (l : List UInt8) (w : World) (HL : Hid (len = l.length)) (HK : Hid (k = len / n)) (h1 : 1 ≤ n) (h2 : n ≤ 8) (hl : len ≤ 1048576) (hc : len ≤ c) (hpc : p = none → c = 0) (hk0 : 0 < k) (hb : Bs w p l) :
    Calls Tryz.prog 100 #[.slice p len c, .int .i64 (n : Int)] w (RowPost (pacL n (gl n k l) (l.drop (k * n))) w) := by
  have HA := Lib.hid (check_ok_w p len c n w h1 h2 hl)
  have hkl : k ≤ len := by rw [HK.out]; exact Nat.div_le_self _ _
  have HKN : Hid (k * n ≤ len) := Lib.hid (by rw [HK.out]; exact Nat.div_mul_le_self _ _)
  have HN := Lib.hid (appendNumber_any w.heap.size (.slice none 0 0) [] k 4 w (by decide) (by decide) (Nat.le_refl _) (World.ownsRow_nil w w.heap.size 5 1) (by omega))
  have HB := Lib.hid hb
  have HPC := Lib.hid hpc
  have hn1 : 1 ≤ (n : Int) := by omega
  have hn8 : (n : Int) ≤ 8 := by omega
  have hlen : (len : Int) ≤ 1048576 := by omega
  have hdiv : (len : Int) / (n : Int) = (k : Int) := by rw [HK.out, Int.natCast_ediv]
  have hquo : IntKind.i64.wrap ((len : Int) / (n : Int)) = (k : Int) := by rw [hdiv, IntKind.wrap_i64]; omega
  have hquo2 : IntKind.i64.wrap ((len : Int).tdiv (n : Int)) = (k : Int) := by rw [Int.tdiv_eq_ediv_of_nonneg (by omega)]; exact hquo
  have hz : IntKind.u64.wrap (k : Int) = (k : Int) := by rw [IntKind.wrap_u64]; omega
  have hki : 0 < (k : Int) := by omega
  have hki2 : (k : Int) ≤ 1048576 := by omega
  obtain ⟨gs, HGS⟩ : ∃ gs, Hid (gs = gl n k l) := ⟨_, rfl⟩
  have hgl : gs.length = k := by rw [HGS.out, gl_length]
  obtain ⟨m, HM⟩ : ∃ m, Hid (m = mnL gs) := ⟨_, rfl⟩
  obtain ⟨wd, HWD⟩ : ∃ wd, Hid (wd = wdL gs) := ⟨_, rfl⟩
  have hm : m < 18446744073709551616 := by rw [HM.out]; exact mnL_lt gs
  have hwd : wd ≤ 64 := by rw [HWD.out]; exact wdL_le gs
  obtain ⟨y, HY⟩ : ∃ y : UInt8, Hid (y = UInt8.ofNat wd) := ⟨_, rfl⟩
  have hyw : y.toNat = wd := by rw [HY.out, UInt8.toNat_ofNat']; omega
  obtain ⟨PK, HPK⟩ : ∃ PK, Hid (PK = pkF gs) := ⟨_, rfl⟩
  obtain ⟨rs, HRS⟩ : ∃ rs, Hid (rs = l.drop (k * n)) := ⟨_, rfl⟩
  have hpkl : PK.length ≤ 8388608 + 1 := by
    have h5 : k * wd ≤ 1048576 * 64 := Nat.mul_le_mul (by omega) hwd
    rw [HPK.out, pkF, pkL_length, hgl, ← HWD.out]; omega
  obtain ⟨R, HR⟩ : ∃ R, Hid (R = pacL n gs rs) := ⟨_, rfl⟩
  have hR : Hid (be 4 k ++ be n m ++ [y] ++ PK ++ rs = R) := Lib.hid (by
    rw [HR.out, pacL, pkB, if_neg (by rw [hgl]; omega), hgl, ← HM.out, ← HWD.out, ← HY.out, ← HPK.out])
  rw [← HGS.out, ← HRS.out, ← HR.out]
  clear hb hpc hdiv
  go_enter Tryz.func100, Tryz.ntmps100
  go_wp2_with fail
  refine (HA.out).mono ?_
  rintro e w' ⟨rfl, rfl⟩
  go_wp2_with fail
  refine (HN.out).mono ?_
  rintro e w1 ⟨v1, rfl, hg1⟩
  obtain ⟨L1, HL1⟩ : ∃ L1, Hid (L1 = [] ++ be 4 k) := ⟨[] ++ be 4 k, Lib.hid rfl⟩
  rw [← HL1.out] at hg1
  have G1 := Lib.hid hg1
  have hB1 : Hid (Below w.heap.size w w1) := Lib.hid (hg1.below (Nat.le_refl _) (by intro k hk; cases hk))
  have HS := Lib.hid (span_any p c n len k l w1 HL HK h1 h2 hl hc hk0 (HB.out.below hB1.out))
  clear hg1
  go_wp2_with fail
  refine (HS.out).mono ?_
  rintro e w2 ⟨hb2, rfl⟩
  rw [← HGS.out, ← HM.out, ← HWD.out]
  have G2 := Lib.hid (G1.out.trans (Grew.of_below G1.out.own hb2))
  have hB2 := Lib.hid (hB1.out.trans (hb2.mono hB1.out.size))
  have HN2 := Lib.hid (appendNumber_any w.heap.size v1 L1 m n w2 h2 (by rw [HL1.out]; show 4 ≤ _; decide) hB2.out.size G2.out.own hm)
  clear hb2
  go_wp2_with fail
  refine (HN2.out).mono ?_
  rintro e w3 ⟨v3, rfl, hg3⟩
  obtain ⟨L3, HL3⟩ : ∃ L3, Hid (L3 = L1 ++ be n m) := ⟨_, rfl⟩
  rw [← HL3.out] at hg3
  have G3 := Lib.hid (G2.out.trans hg3)
  clear hg3
  have hB3 : Hid (Below w.heap.size w w3) := Lib.hid (G3.out.below (Nat.le_refl _) (by intro k hk; cases hk))
  have hL3 : Hid (L3.length = 4 + n) := Lib.hid (by rw [HL3.out, HL1.out, List.length_append, be_length]; rfl)
  have G3a := Lib.hid (G3.out.trans (Grew.of_below G3.out.own ((Below.refl _ w3).alloc (Nat.le_refl _) (.cells #[.int .u8 (wd : Int)] 5))))
  have hone : Hid (Bs (w3.alloc (.cells #[.int .u8 (wd : Int)] 5)) (some ⟨w3.heap.size, 0, none⟩) [y]) := Lib.hid (by have h := one_bs w3 y; rwa [hyw] at h)
  have hbl3 : Hid (L3.length + 1 ≤ 140737488355328 ∧ w.heap.size ≤ (w3.alloc (.cells #[.int .u8 (wd : Int)] 5)).heap.size) := Lib.hid ⟨by rw [hL3.out]; omega, by have := hB3.out.size; simp; omega⟩
  go_wp2_with (at_builtin; refine wpList_append_bs rfl (.tmp 36) (.tmp 39) rfl w.heap.size v3 L3.length L3 rfl rfl G3a.out.own _ 1 1 [y] rfl rfl hone.out hbl3.out.1 hbl3.out.2 ?_)
  intro v4 w4 hg4
  obtain ⟨L4, HL4⟩ : ∃ L4, Hid (L4 = L3 ++ [y]) := ⟨L3 ++ [y], Lib.hid rfl⟩
  rw [← HL4.out] at hg4
  have G4 := Lib.hid (G3a.out.trans hg4)
  clear hg4
  have hB4 : Hid (Below w.heap.size w w4) := Lib.hid (G4.out.below (Nat.le_refl _) (by intro k hk; cases hk))
  have HP := Lib.hid (packed_any p c n len k m wd l w4 HL HK h1 h2 hl hc (by rw [← HGS.out, HM.out]; intro g hg; exact mnL_le hg) hwd (HB.out.below hB4.out))
  have ePK : pkL (btF gs m wd) (k * wd) = PK := by rw [HPK.out, pkF, hgl, ← HM.out, ← HWD.out]
  rw [← HGS.out, ePK] at HP
  clear ePK
  go_wp2_with fail
  refine (HP.out).mono ?_
  rintro e w5 ⟨v5, rfl, hg5⟩
  have hb5 : Below w4.heap.size w4 w5 := hg5.below (Nat.le_refl _) (by intro k hk; cases hk)
  obtain ⟨p5, c5, rfl, hs5, -⟩ := own_bytes hg5.own
  obtain ⟨m5, HM5⟩ : ∃ m5, Hid (m5 = PK.length) := ⟨_, rfl⟩
  rw [← HM5.out]
  have HS5 := Lib.hid hs5
  have G5 := Lib.hid (G4.out.trans (Grew.of_below G4.out.own hb5))
  have hB5 := Lib.hid (hB4.out.trans (hb5.mono hB4.out.size))
  have hL4 : Hid (L4.length = 4 + n + 1) := Lib.hid (by rw [HL4.out, List.length_append, hL3.out]; rfl)
  have hbl5 : Hid (L4.length + m5 ≤ 140737488355328 ∧ w.heap.size ≤ w5.heap.size) := Lib.hid ⟨by rw [hL4.out, HM5.out]; omega, hB5.out.size⟩
  clear hg5 hb5 hs5
  go_wp2_with (at_builtin; refine wpList_append_bs rfl (.tmp 41) (.tmp 46) rfl w.heap.size v4 L4.length L4 rfl rfl G5.out.own p5 m5 c5 PK rfl HM5.out.symm HS5.out hbl5.out.1 hbl5.out.2 ?_)
  intro v6 w6 hg6
  obtain ⟨L6, HL6⟩ : ∃ L6, Hid (L6 = L4 ++ PK) := ⟨_, rfl⟩
  rw [← HL6.out] at hg6
  have G6 := Lib.hid (G5.out.trans hg6)
  clear hg6
  have hB6 : Hid (Below w.heap.size w w6) := Lib.hid (G6.out.below (Nat.le_refl _) (by intro k hk; cases hk))
  obtain ⟨t, HT⟩ : ∃ t, Hid (t = k * n) := ⟨_, rfl⟩
  have htl : t ≤ len := by rw [HT.out]; exact HKN.out
  have HRest := Lib.hid (rest_any_w p c n t len l w6 h1 h2 HL hl hc HPC.out (by rw [HT.out, HK.out]; rfl) (HB.out.below hB6.out))
  rw [show l.drop t = rs by rw [HRS.out, HT.out]] at HRest
  have hrl : rs.length = len - t := by rw [HRS.out, List.length_drop, ← HL.out, HT.out]
  have hL6 : Hid (L6.length ≤ 8388640) := Lib.hid (by rw [HL6.out, List.length_append, hL4.out]; omega)
  go_wp2_with fail
  refine (HRest.out).mono ?_
  rintro e w7 ⟨rfl, q, d, rfl, hq⟩
  have HQ := Lib.hid hq
  have hbl6 : Hid (L6.length + (len - t) ≤ 140737488355328 ∧ w.heap.size ≤ w6.heap.size) := Lib.hid ⟨by have := hL6.out; omega, hB6.out.size⟩
  clear hq
  go_wp2_with (at_builtin; refine wpList_append_bs rfl (.tmp 48) (.tmp 51) rfl w.heap.size v6 L6.length L6 rfl rfl G6.out.own q (len - t) d rs rfl hrl HQ.out hbl6.out.1 hbl6.out.2 ?_)
  intro v8 w8 hg8
  have G8 := Lib.hid (G6.out.trans hg8)
  rw [show L6 ++ rs = R by rw [HL6.out, HL4.out, HL3.out, HL1.out, List.nil_append]; exact hR.out] at G8
  clear hg8
  go_wp2_with fail
  go_ret2
  exact ⟨G8.out.below (Nat.le_refl _) (by intro k hk; cases hk), _, rfl, G8.out.own⟩
def packL (l : List UInt8) (n : Nat) : List UInt8 := pacL n (gl n (l.length / n) l) (l.drop (l.length / n * n))
theorem pack_any (p : Option Addr) (c n len : Nat) (l : List UInt8) (w : World) (HL : Hid (len = l.length)) (h1 : 1 ≤ n) (h2 : n ≤ 8) (hl : len ≤ 1048576) (hc : Hid (len ≤ c)) (hpc : Hid (p = none → c = 0)) (hb : Bs w p l) :
    Calls Tryz.prog 100 #[.slice p len c, .int .i64 (n : Int)] w (RowPost (packL l n) w) := by
  have e := HL.out
  subst e
  unfold packL
  by_cases hk : l.length / n = 0
  · rw [hk, Nat.zero_mul, List.drop_zero, show pacL n (gl n 0 l) l = be 4 0 ++ l from rfl]
    exact pack_none p c n _ l w HL h1 h2 hl hc.out hpc.out hk hb
  · exact pack_some p c n _ _ l w HL (Lib.hid rfl) h1 h2 hl hc.out hpc.out (Nat.pos_of_ne_zero hk) hb
end Go.Proofs.YtpnofkefcoaojaaGreatDoor
