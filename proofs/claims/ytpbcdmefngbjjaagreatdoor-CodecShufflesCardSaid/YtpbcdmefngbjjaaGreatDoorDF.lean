/- The law CodecShuffles: its walk. -/
import Derived.Test.YtpbcdmefngbjjaaGreatDoorDL
namespace Go.Proofs.YtpbcdmefngbjjaaGreatDoor
open Go.RowKit
open Go.Lib
set_option maxRecDepth 100000 in
set_option maxHeartbeats 1600000 in
theorem shuffles_long (p : Option Addr) (c : Nat) (l : List UInt8) (z : Int) (w : World) (hs : SaneAt w) (hl : 1000 < l.length) :
    Calls Tryz.prog 4 #[.slice p l.length c, .int .i64 z] w (SanePost w) := by
  have HS := Lib.hid (hs w (Below.refl _ _))
  clear hs
  have hl3 : (1000 : Int) < l.length := by omega
  go_enter Tryz.func4, Tryz.ntmps4
  go_wp2_with fail
  refine (HS.out).mono ?_
  rintro e w' ⟨rfl, hb⟩
  have HB := Lib.hid hb
  clear hb
  go_wp2_with fail
  go_ret
  exact ⟨rfl, HB.out⟩
set_option maxRecDepth 100000 in
set_option maxHeartbeats 4000000 in
theorem shuffles_bad (p : Option Addr) (c : Nat) (l : List UInt8) (z : Int) (w : World) (hs : SaneAt w) (hl : l.length ≤ 1000) (hz : z < 1 ∨ 8 < z) :
    Calls Tryz.prog 4 #[.slice p l.length c, .int .i64 z] w (SanePost w) := by
  have HS := Lib.hid hs
  have HZ := Lib.hid hz
  obtain ⟨len, HN⟩ : ∃ len, Hid (len = l.length) := ⟨_, rfl⟩
  rw [← HN.out] at hl ⊢
  clear hs hz
  have hl3 : (len : Int) ≤ 1000 := by omega
  go_enter Tryz.func4, Tryz.ntmps4
  go_wp2_with fail
  refine (shuffle_bad p len c z _ HZ.out).mono ?_
  rintro e w1 ⟨hb1, rfl⟩
  have HB1 := Lib.hid hb1
  clear hb1
  go_wp2_with fail
  refine (rshuffle_bad p len c z _ HZ.out).mono ?_
  rintro e w2 ⟨hb2, rfl⟩
  have HB2 := Lib.hid (HB1.out.trans (hb2.mono HB1.out.size))
  clear hb2
  go_wp2_with fail
  refine (unshuffle_bad p len c z _ HZ.out).mono ?_
  rintro e w3 ⟨hb3, rfl⟩
  have HB3 := Lib.hid (HB2.out.trans (hb3.mono HB2.out.size))
  clear hb3
  go_wp2_with fail
  refine (runshuffle_bad p len c z _ HZ.out).mono ?_
  rintro e w4 ⟨hb4, rfl⟩
  have HB4 := Lib.hid (HB3.out.trans (hb4.mono HB3.out.size))
  clear hb4
  go_wp2_with fail
  refine (is_same none none 0 0 [] 2 w4 (Bs.nil _ _) (Bs.nil _ _)).mono ?_
  rintro e w5 ⟨rfl, rfl⟩
  go_wp2_with fail
  refine (is_same none none 0 0 [] 2 w4 (Bs.nil _ _) (Bs.nil _ _)).mono ?_
  rintro e w5 ⟨rfl, rfl⟩
  go_wp2_with fail
  refine (HS.out _ HB4.out).mono ?_
  rintro e w6 ⟨rfl, hb6⟩
  have HB6 := Lib.hid (HB4.out.trans (hb6.mono HB4.out.size))
  clear hb6
  go_wp2_with fail
  go_ret
  exact ⟨rfl, HB6.out⟩
set_option maxRecDepth 100000 in
set_option maxHeartbeats 4000000 in
theorem shuffles_ok (p : Option Addr) (c : Nat) (l : List UInt8) (n : Nat) (w : World) (hs : SaneAt w) (h1 : 1 ≤ n) (h2 : n ≤ 8) (hl : l.length ≤ 1000) (hc : l.length ≤ c) (hpc : p = none → c = 0) (hb : Bs w p l) :
    Calls Tryz.prog 4 #[.slice p l.length c, .int .i64 (n : Int)] w (SanePost w) := by
  have HS := Lib.hid hs
  have Hb := Lib.hid hb
  have Hc := Lib.hid hc
  have Hpc := Lib.hid hpc
  have H1 := Lib.hid h1
  have H2 := Lib.hid h2
  obtain ⟨len, HN⟩ : ∃ len, Hid (len = l.length) := ⟨_, rfl⟩
  rw [← HN.out] at hl Hc ⊢
  have HL := Lib.hid hl
  have hl3 : (len : Int) ≤ 1000 := by omega
  clear hs hb hpc hc h1 h2 hl
  go_enter Tryz.func4, Tryz.ntmps4
  go_wp2_with fail
  refine (shuffle_b p c n len l _ HN H1.out H2.out HL.out Hb.out).mono ?_
  rintro e w1 ⟨hb1, q1, d1, rfl, hd1, hs1⟩
  have HB1 := Lib.hid hb1
  have S1 := Lib.hid hs1
  clear hb1 hd1 hs1
  go_wp2_with fail
  refine (rshuffle_b p c n len l _ HN H1.out H2.out HL.out Hc Hpc (Hb.out.below HB1.out)).mono ?_
  rintro e w2 ⟨hb2, q2, d2, rfl, hd2, hs2⟩
  have HB2 := Lib.hid (HB1.out.trans (hb2.mono HB1.out.size))
  have S1' := Lib.hid (S1.out.below hb2)
  have S2 := Lib.hid hs2
  clear hb2 hd2 hs2 S1
  go_wp2_with fail
  refine (unshuffle_b p c n len l _ HN H1.out H2.out HL.out (Hb.out.below HB2.out)).mono ?_
  rintro e w3 ⟨hb3, q3, d3, rfl, hd3, hs3⟩
  have HB3 := Lib.hid (HB2.out.trans (hb3.mono HB2.out.size))
  have T1 := Lib.hid (S1'.out.below hb3)
  have T2 := Lib.hid (S2.out.below hb3)
  have S3 := Lib.hid hs3
  clear hb3 hd3 hs3 S1' S2
  go_wp2_with fail
  refine (runshuffle_b p c n len l _ HN H1.out H2.out HL.out Hc Hpc (Hb.out.below HB3.out)).mono ?_
  rintro e w4 ⟨hb4, q4, d4, rfl, hd4, hs4⟩
  have HB4 := Lib.hid (HB3.out.trans (hb4.mono HB3.out.size))
  have U1 := Lib.hid (T1.out.below hb4)
  have U2 := Lib.hid (T2.out.below hb4)
  have U3 := Lib.hid (S3.out.below hb4)
  have U4 := Lib.hid hs4
  clear hb4 hd4 hs4 T1 T2 S3
  go_wp2_with fail
  refine (is_b q1 q2 d1 d2 len (shufL l n) 0 w4 (by rw [shufL_length]; exact HN.out.symm) U1.out U2.out).mono ?_
  rintro e w5 ⟨rfl, rfl⟩
  go_wp2_with fail
  refine (is_b q3 q4 d3 d4 len (unshL l n) 0 w4 (by rw [unshL_length]; exact HN.out.symm) U3.out U4.out).mono ?_
  rintro e w5 ⟨rfl, rfl⟩
  go_wp2_with fail
  refine (HS.out _ HB4.out).mono ?_
  rintro e w6 ⟨rfl, hb6⟩
  have HB6 := Lib.hid (HB4.out.trans (hb6.mono HB4.out.size))
  have V1 := Lib.hid (U1.out.below hb6)
  have V3 := Lib.hid (U3.out.below hb6)
  clear hb6 U1 U2 U3 U4
  go_wp2_with fail
  refine (unshuffle_b q1 d1 n len (shufL l n) _ (Lib.hid (by rw [shufL_length]; exact HN.out)) H1.out H2.out HL.out V1.out).mono ?_
  rintro e w7 ⟨hb7, q7, d7, rfl, hd7, hs7⟩
  have HB7 := Lib.hid (HB6.out.trans (hb7.mono HB6.out.size))
  have W3 := Lib.hid (V3.out.below hb7)
  have W7 := Lib.hid hs7
  clear hb7 hd7 hs7 V1 V3
  go_wp2_with fail
  refine (shuffle_b q3 d3 n len (unshL l n) _ (Lib.hid (by rw [unshL_length]; exact HN.out)) H1.out H2.out HL.out W3.out).mono ?_
  rintro e w8 ⟨hb8, q8, d8, rfl, hd8, hs8⟩
  have HB8 := Lib.hid (HB7.out.trans (hb8.mono HB7.out.size))
  have X7 : Hid (Bs w8 q7 l) := Lib.hid (by rw [← unsh_shuf l (n := n) H1.out]; exact W7.out.below hb8)
  have X8 : Hid (Bs w8 q8 l) := Lib.hid (by rw [← shuf_unsh l (n := n) H1.out]; exact hs8)
  clear hb8 hd8 hs8 W3 W7
  go_wp2_with fail
  refine (back_b q7 p d7 c len l w8 HN.out.symm X7.out (Hb.out.below HB8.out)).mono ?_
  rintro e w9 ⟨rfl, rfl⟩
  go_wp2_with fail
  refine (back_b q8 p d8 c len l w8 HN.out.symm X8.out (Hb.out.below HB8.out)).mono ?_
  rintro e w9 ⟨rfl, rfl⟩
  go_wp2_with fail
  go_ret
  exact ⟨rfl, HB8.out⟩
theorem shuffles_any (p : Option Addr) (c : Nat) (l : List UInt8) (z : Int) (w : World) (hs : SaneAt w) (hc : l.length ≤ c) (hpc : p = none → c = 0) (hb : Bs w p l) :
    Calls Tryz.prog 4 #[.slice p l.length c, .int .i64 z] w (SanePost w) := by
  by_cases h1 : 1000 < l.length
  · exact shuffles_long p c l z w hs h1
  · by_cases hz : z < 1 ∨ 8 < z
    · exact shuffles_bad p c l z w hs (by omega) hz
    · obtain ⟨n, rfl⟩ : ∃ n : Nat, z = (n : Int) := ⟨z.toNat, by omega⟩
      exact shuffles_ok p c l n w hs (by omega) (by omega) (by omega) hc hpc hb
end Go.Proofs.YtpbcdmefngbjjaaGreatDoor
