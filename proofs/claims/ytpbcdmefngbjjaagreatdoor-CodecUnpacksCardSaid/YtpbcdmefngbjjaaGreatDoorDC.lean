/- Delta and Undelta of the program; where the size is refused. -/
import Derived.Test.YtpbcdmefngbjjaaGreatDoorDV
namespace Go.Proofs.YtpbcdmefngbjjaaGreatDoor
open Go.RowKit
open Go.Lib
theorem own_nocap {w : World} {B : Nat} {q : Option Addr} {n d : Nat} {L : List UInt8} (h : w.ownsRow B 5 1 (.slice q n d) L.length (u8s L)) : q = none → d = 0 := by
  rintro rfl
  obtain ⟨-, ⟨h1, -⟩ | ⟨g, cap, cur, h1, -⟩⟩ := h
  · cases h1; rfl
  · cases h1
def RowC (L : List UInt8) (len : Nat) (w : World) (e : Ending) (w' : World) : Prop := Below w.heap.size w w' ∧ ∃ q d, e = .returned (.tuple #[.slice q len d, .int .i64 0]) ∧ Hid (len ≤ d) ∧ Hid (q = none → d = 0) ∧ Bs w' q L
theorem RowPost.bc {L : List UInt8} {len : Nat} {w w' : World} {e : Ending} (h : RowPost L w e w') (hL : L.length = len) : RowC L len w e w' := by
  obtain ⟨h1, v, he, ho⟩ := h
  obtain ⟨q, d, hv, hb, hd⟩ := own_bytes ho
  subst hL
  subst hv
  exact ⟨h1, q, d, he, Lib.hid hd, Lib.hid (own_nocap ho), hb⟩
set_option maxRecDepth 100000 in
set_option maxHeartbeats 1600000 in
theorem delta_ok (p : Option Addr) (c n : Nat) (l : List UInt8) (w : World) (h1 : 1 ≤ n) (h2 : n ≤ 8) (hl : l.length ≤ 1000) (hc : l.length ≤ c) (hpc : p = none → c = 0) (hb : Bs w p l) :
    Calls Tryz.prog 11 #[.slice p l.length c, .int .i64 (n : Int)] w (RowPost (delL l n) w) := by
  have HBW : Hid (Below w.heap.size w (w.alloc (.cells #[.int .u64 0] 38))) := Lib.hid ((Below.refl _ w).alloc (Nat.le_refl _) _)
  have HC := Lib.hid (changed_33 p c n w.heap.size l (w.alloc (.cells #[.int .u64 0] 38)) h1 h2 hl hc hpc (hb.bsN.keep HBW.out) (World.alloc_heap_new w _))
  obtain ⟨R, HR⟩ : ∃ R, Hid (R = delL l n) := ⟨_, rfl⟩
  have e : chR dStep n (l.length / n) 0 l = R := HR.out.symm
  rw [e] at HC
  rw [← HR.out]
  clear e
  obtain ⟨len, HL⟩ : ∃ len, Hid (len = l.length) := ⟨_, rfl⟩
  rw [← HL.out] at hl hc HC ⊢
  clear hb hpc
  go_enter Tryz.func11, Tryz.ntmps11
  go_wp2_with fail
  refine (HC.out).mono ?_
  rintro e w' ⟨hb1, v, rfl, ho⟩
  obtain ⟨q, d, rfl, -, -⟩ := own_bytes ho
  have HO := Lib.hid ho
  obtain ⟨m, HM⟩ : ∃ m, Hid (m = R.length) := ⟨_, rfl⟩
  rw [← HM.out] at HO ⊢
  have HB := Lib.hid (HBW.out.trans hb1)
  clear ho hb1
  go_wp2_with fail
  go_ret2
  exact ⟨HB.out, _, rfl, by rw [← HM.out]; exact HO.out⟩
theorem delta_b (p : Option Addr) (c n len : Nat) (l : List UInt8) (w : World) (HN : Hid (len = l.length)) (h1 : 1 ≤ n) (h2 : n ≤ 8) (hl : len ≤ 1000) (hc : Hid (len ≤ c)) (hpc : Hid (p = none → c = 0)) (hb : Bs w p l) :
    Calls Tryz.prog 11 #[.slice p len c, .int .i64 (n : Int)] w (RowC (delL l n) len w) := by
  have e := HN.out
  subst e
  exact (delta_ok p c n l w h1 h2 hl hc.out hpc.out hb).mono fun _ _ h => h.bc (delL_length l)
set_option maxRecDepth 100000 in
set_option maxHeartbeats 1600000 in
theorem undelta_ok (p : Option Addr) (c n : Nat) (l : List UInt8) (w : World) (h1 : 1 ≤ n) (h2 : n ≤ 8) (hl : l.length ≤ 1000) (hc : l.length ≤ c) (hpc : p = none → c = 0) (hb : Bs w p l) :
    Calls Tryz.prog 13 #[.slice p l.length c, .int .i64 (n : Int)] w (RowPost (undL l n) w) := by
  have HBW : Hid (Below w.heap.size w (w.alloc (.cells #[.int .u64 0] 38))) := Lib.hid ((Below.refl _ w).alloc (Nat.le_refl _) _)
  have HC := Lib.hid (changed_37 p c n w.heap.size l (w.alloc (.cells #[.int .u64 0] 38)) h1 h2 hl hc hpc (hb.bsN.keep HBW.out) (World.alloc_heap_new w _))
  obtain ⟨R, HR⟩ : ∃ R, Hid (R = undL l n) := ⟨_, rfl⟩
  have e : chR sStep n (l.length / n) 0 l = R := HR.out.symm
  rw [e] at HC
  rw [← HR.out]
  clear e
  obtain ⟨len, HL⟩ : ∃ len, Hid (len = l.length) := ⟨_, rfl⟩
  rw [← HL.out] at hl hc HC ⊢
  clear hb hpc
  go_enter Tryz.func13, Tryz.ntmps13
  go_wp2_with fail
  refine (HC.out).mono ?_
  rintro e w' ⟨hb1, v, rfl, ho⟩
  obtain ⟨q, d, rfl, -, -⟩ := own_bytes ho
  have HO := Lib.hid ho
  obtain ⟨m, HM⟩ : ∃ m, Hid (m = R.length) := ⟨_, rfl⟩
  rw [← HM.out] at HO ⊢
  have HB := Lib.hid (HBW.out.trans hb1)
  clear ho hb1
  go_wp2_with fail
  go_ret2
  exact ⟨HB.out, _, rfl, by rw [← HM.out]; exact HO.out⟩
theorem undelta_b (p : Option Addr) (c n len : Nat) (l : List UInt8) (w : World) (HN : Hid (len = l.length)) (h1 : 1 ≤ n) (h2 : n ≤ 8) (hl : len ≤ 1000) (hc : Hid (len ≤ c)) (hpc : Hid (p = none → c = 0)) (hb : Bs w p l) :
    Calls Tryz.prog 13 #[.slice p len c, .int .i64 (n : Int)] w (RowC (undL l n) len w) := by
  have e := HN.out
  subst e
  exact (undelta_ok p c n l w h1 h2 hl hc.out hpc.out hb).mono fun _ _ h => h.bc (undL_length l)
set_option maxRecDepth 100000 in
set_option maxHeartbeats 1600000 in
theorem changed_bad (f Bl : Nat) (p : Option Addr) (k c : Nat) (n : Int) (w : World) (h : n < 1 ∨ 8 < n) : Calls Tryz.prog 32 #[.slice p k c, .int .i64 n, .func (.func f) #[] #[.pointer (some ⟨Bl, 0, none⟩)]] w (BadPost w) := by
  have H : Hid (∀ W, Calls Tryz.prog 38 #[.slice p k c, .int .i64 n] W fun e w' => e = .returned (.int .i64 2) ∧ W = w') := Lib.hid fun W => check_bad p k c n W h
  clear h
  go_enter Tryz.func32, Tryz.ntmps32
  go_wp2_with fail
  refine (H.out _).mono ?_
  rintro e w' ⟨rfl, rfl⟩
  go_wp2_with fail
  go_ret2
  exact ⟨((Below.refl _ _).alloc (Nat.le_refl _) _).alloc (by simp) _, rfl⟩
set_option maxRecDepth 100000 in
set_option maxHeartbeats 1600000 in
theorem delta_bad (p : Option Addr) (k c : Nat) (n : Int) (w : World) (h : n < 1 ∨ 8 < n) : Calls Tryz.prog 11 #[.slice p k c, .int .i64 n] w (BadPost w) := by
  have HBW : Hid (Below w.heap.size w (w.alloc (.cells #[.int .u64 0] 38))) := Lib.hid ((Below.refl _ w).alloc (Nat.le_refl _) _)
  have H := Lib.hid (changed_bad 33 w.heap.size p k c n (w.alloc (.cells #[.int .u64 0] 38)) h)
  clear h
  go_enter Tryz.func11, Tryz.ntmps11
  go_wp2_with fail
  refine (H.out).mono ?_
  rintro e w' ⟨hb, rfl⟩
  have HB := Lib.hid (HBW.out.trans (hb.mono (by simp)))
  clear hb
  go_wp2_with fail
  go_ret2
  exact ⟨HB.out, rfl⟩
set_option maxRecDepth 100000 in
set_option maxHeartbeats 1600000 in
theorem undelta_bad (p : Option Addr) (k c : Nat) (n : Int) (w : World) (h : n < 1 ∨ 8 < n) : Calls Tryz.prog 13 #[.slice p k c, .int .i64 n] w (BadPost w) := by
  have HBW : Hid (Below w.heap.size w (w.alloc (.cells #[.int .u64 0] 38))) := Lib.hid ((Below.refl _ w).alloc (Nat.le_refl _) _)
  have H := Lib.hid (changed_bad 37 w.heap.size p k c n (w.alloc (.cells #[.int .u64 0] 38)) h)
  clear h
  go_enter Tryz.func13, Tryz.ntmps13
  go_wp2_with fail
  refine (H.out).mono ?_
  rintro e w' ⟨hb, rfl⟩
  have HB := Lib.hid (HBW.out.trans (hb.mono (by simp)))
  clear hb
  go_wp2_with fail
  go_ret2
  exact ⟨HB.out, rfl⟩
set_option maxRecDepth 100000 in
set_option maxHeartbeats 1600000 in
theorem rdelta_bad (p : Option Addr) (k c : Nat) (n : Int) (w : World) (h : n < 1 ∨ 8 < n) : Calls Tryz.prog 12 #[.slice p k c, .int .i64 n] w (BadPost w) := by
  have H := Lib.hid (asked_bad p k c n w h)
  clear h
  go_enter Tryz.func12, Tryz.ntmps12
  go_wp2_with fail
  refine (H.out).mono ?_
  rintro e w' ⟨rfl, rfl⟩
  go_wp2_with fail
  go_ret2
  exact ⟨Below.refl _ _, rfl⟩
set_option maxRecDepth 100000 in
set_option maxHeartbeats 1600000 in
theorem rundelta_bad (p : Option Addr) (k c : Nat) (n : Int) (w : World) (h : n < 1 ∨ 8 < n) : Calls Tryz.prog 14 #[.slice p k c, .int .i64 n] w (BadPost w) := by
  have H := Lib.hid (asked_bad p k c n w h)
  clear h
  go_enter Tryz.func14, Tryz.ntmps14
  go_wp2_with fail
  refine (H.out).mono ?_
  rintro e w' ⟨rfl, rfl⟩
  go_wp2_with fail
  go_ret2
  exact ⟨Below.refl _ _, rfl⟩
end Go.Proofs.YtpbcdmefngbjjaaGreatDoor
namespace Go.Proofs.YtpbcdmefngbjjaaGreatDoor
open Go.RowKit
open Go.Lib
set_option maxRecDepth 100000 in
set_option maxHeartbeats 1600000 in
theorem deltas_long (p : Option Addr) (c : Nat) (l : List UInt8) (z : Int) (w : World) (hs : SaneAt w) (hl : 1000 < l.length) :
    Calls Tryz.prog 3 #[.slice p l.length c, .int .i64 z] w (SanePost w) := by
  have HS := Lib.hid (hs w (Below.refl _ _))
  clear hs
  have hl3 : (1000 : Int) < l.length := by omega
  go_enter Tryz.func3, Tryz.ntmps3
  go_wp2_with fail
  refine (HS.out).mono ?_
  rintro e w' ⟨rfl, hb⟩
  have HB := Lib.hid hb
  clear hb
  go_wp2_with fail
  go_ret
  exact ⟨rfl, HB.out⟩
set_option maxRecDepth 100000 in
set_option maxHeartbeats 4000000 in
theorem deltas_bad (p : Option Addr) (c : Nat) (l : List UInt8) (z : Int) (w : World) (hs : SaneAt w) (hl : l.length ≤ 1000) (hz : z < 1 ∨ 8 < z) :
    Calls Tryz.prog 3 #[.slice p l.length c, .int .i64 z] w (SanePost w) := by
  have HS := Lib.hid hs
  have HZ := Lib.hid hz
  obtain ⟨len, HN⟩ : ∃ len, Hid (len = l.length) := ⟨_, rfl⟩
  rw [← HN.out] at hl ⊢
  clear hs hz
  have hl3 : (len : Int) ≤ 1000 := by omega
  go_enter Tryz.func3, Tryz.ntmps3
  go_wp2_with fail
  refine (delta_bad p len c z _ HZ.out).mono ?_
  rintro e w1 ⟨hb1, rfl⟩
  have HB1 := Lib.hid hb1
  clear hb1
  go_wp2_with fail
  refine (rdelta_bad p len c z _ HZ.out).mono ?_
  rintro e w2 ⟨hb2, rfl⟩
  have HB2 := Lib.hid (HB1.out.trans (hb2.mono HB1.out.size))
  clear hb2
  go_wp2_with fail
  refine (undelta_bad p len c z _ HZ.out).mono ?_
  rintro e w3 ⟨hb3, rfl⟩
  have HB3 := Lib.hid (HB2.out.trans (hb3.mono HB2.out.size))
  clear hb3
  go_wp2_with fail
  refine (rundelta_bad p len c z _ HZ.out).mono ?_
  rintro e w4 ⟨hb4, rfl⟩
  have HB4 := Lib.hid (HB3.out.trans (hb4.mono HB3.out.size))
  clear hb4
  go_wp2_with fail
  refine (is_same none none 0 0 [] 2 w4 (Bs.nil _ _) (Bs.nil _ _)).mono ?_
  rintro e w5 ⟨rfl, rfl⟩
  go_wp2_with fail
  refine (is_same none none 0 0 [] 2 w4 (Bs.nil _ _) (Bs.nil _ _)).mono ?_
  rintro e w5 ⟨rfl, rfl⟩
  go_wp2_with fail
  refine (HS.out _ HB4.out).mono ?_
  rintro e w6 ⟨rfl, hb6⟩
  have HB6 := Lib.hid (HB4.out.trans (hb6.mono HB4.out.size))
  clear hb6
  go_wp2_with fail
  go_ret
  exact ⟨rfl, HB6.out⟩
set_option maxRecDepth 100000 in
set_option maxHeartbeats 4000000 in
theorem deltas_ok (p : Option Addr) (c : Nat) (l : List UInt8) (n : Nat) (w : World) (hs : SaneAt w) (h1 : 1 ≤ n) (h2 : n ≤ 8) (hl : l.length ≤ 1000) (hc : l.length ≤ c) (hpc : p = none → c = 0) (hb : Bs w p l) :
    Calls Tryz.prog 3 #[.slice p l.length c, .int .i64 (n : Int)] w (SanePost w) := by
  have HS := Lib.hid hs
  have Hb := Lib.hid hb
  have Hc := Lib.hid hc
  have Hpc := Lib.hid hpc
  have H1 := Lib.hid h1
  have H2 := Lib.hid h2
  obtain ⟨len, HN⟩ : ∃ len, Hid (len = l.length) := ⟨_, rfl⟩
  rw [← HN.out] at hl Hc ⊢
  have HL := Lib.hid hl
  have hl3 : (len : Int) ≤ 1000 := by omega
  clear hs hb hpc hc h1 h2 hl
  go_enter Tryz.func3, Tryz.ntmps3
  go_wp2_with fail
  refine (delta_b p c n len l _ HN H1.out H2.out HL.out Hc Hpc Hb.out).mono ?_
  rintro e w1 ⟨hb1, q1, d1, rfl, hd1, hn1, hs1⟩
  have HB1 := Lib.hid hb1
  have S1 := Lib.hid hs1
  clear hb1 hs1
  go_wp2_with fail
  refine (rdelta_ok p c n len l _ HN H1.out H2.out HL.out Hc Hpc (Hb.out.below HB1.out)).mono ?_
  rintro e w2 ⟨hb2, q2, d2, rfl, hd2, hs2⟩
  have HB2 := Lib.hid (HB1.out.trans (hb2.mono HB1.out.size))
  have S1' := Lib.hid (S1.out.below hb2)
  have S2 := Lib.hid hs2
  clear hb2 hd2 hs2 S1
  go_wp2_with fail
  refine (undelta_b p c n len l _ HN H1.out H2.out HL.out Hc Hpc (Hb.out.below HB2.out)).mono ?_
  rintro e w3 ⟨hb3, q3, d3, rfl, hd3, hn3, hs3⟩
  have HB3 := Lib.hid (HB2.out.trans (hb3.mono HB2.out.size))
  have T1 := Lib.hid (S1'.out.below hb3)
  have T2 := Lib.hid (S2.out.below hb3)
  have S3 := Lib.hid hs3
  clear hb3 hs3 S1' S2
  go_wp2_with fail
  refine (rundelta_ok p c n len l _ HN H1.out H2.out HL.out Hc Hpc (Hb.out.below HB3.out)).mono ?_
  rintro e w4 ⟨hb4, q4, d4, rfl, hd4, hs4⟩
  have HB4 := Lib.hid (HB3.out.trans (hb4.mono HB3.out.size))
  have U1 := Lib.hid (T1.out.below hb4)
  have U2 := Lib.hid (T2.out.below hb4)
  have U3 := Lib.hid (S3.out.below hb4)
  have U4 := Lib.hid hs4
  clear hb4 hd4 hs4 T1 T2 S3
  go_wp2_with fail
  refine (is_b q1 q2 d1 d2 len (delL l n) 0 w4 (by rw [delL_length]; exact HN.out.symm) U1.out U2.out).mono ?_
  rintro e w5 ⟨rfl, rfl⟩
  go_wp2_with fail
  refine (is_b q3 q4 d3 d4 len (undL l n) 0 w4 (by rw [undL_length]; exact HN.out.symm) U3.out U4.out).mono ?_
  rintro e w5 ⟨rfl, rfl⟩
  go_wp2_with fail
  refine (HS.out _ HB4.out).mono ?_
  rintro e w6 ⟨rfl, hb6⟩
  have HB6 := Lib.hid (HB4.out.trans (hb6.mono HB4.out.size))
  have V1 := Lib.hid (U1.out.below hb6)
  have V3 := Lib.hid (U3.out.below hb6)
  clear hb6 U1 U2 U3 U4
  go_wp2_with fail
  refine (undelta_b q1 d1 n len (delL l n) _ (Lib.hid (by rw [delL_length]; exact HN.out)) H1.out H2.out HL.out hd1 hn1 V1.out).mono ?_
  rintro e w7 ⟨hb7, q7, d7, rfl, -, -, hs7⟩
  have HB7 := Lib.hid (HB6.out.trans (hb7.mono HB6.out.size))
  have W3 := Lib.hid (V3.out.below hb7)
  have W7 := Lib.hid hs7
  clear hb7 hs7 V1 V3
  go_wp2_with fail
  refine (delta_b q3 d3 n len (undL l n) _ (Lib.hid (by rw [undL_length]; exact HN.out)) H1.out H2.out HL.out hd3 hn3 W3.out).mono ?_
  rintro e w8 ⟨hb8, q8, d8, rfl, -, -, hs8⟩
  have HB8 := Lib.hid (HB7.out.trans (hb8.mono HB7.out.size))
  have X7 : Hid (Bs w8 q7 l) := Lib.hid (by rw [← und_del l (n := n) H2.out]; exact W7.out.below hb8)
  have X8 : Hid (Bs w8 q8 l) := Lib.hid (by rw [← del_und l (n := n) H2.out]; exact hs8)
  clear hb8 hs8 W3 W7
  go_wp2_with fail
  refine (back_b q7 p d7 c len l w8 HN.out.symm X7.out (Hb.out.below HB8.out)).mono ?_
  rintro e w9 ⟨rfl, rfl⟩
  go_wp2_with fail
  refine (back_b q8 p d8 c len l w8 HN.out.symm X8.out (Hb.out.below HB8.out)).mono ?_
  rintro e w9 ⟨rfl, rfl⟩
  go_wp2_with fail
  go_ret
  exact ⟨rfl, HB8.out⟩
theorem deltas_any (p : Option Addr) (c : Nat) (l : List UInt8) (z : Int) (w : World) (hs : SaneAt w) (hc : l.length ≤ c) (hpc : p = none → c = 0) (hb : Bs w p l) :
    Calls Tryz.prog 3 #[.slice p l.length c, .int .i64 z] w (SanePost w) := by
  by_cases h1 : 1000 < l.length
  · exact deltas_long p c l z w hs h1
  · by_cases hz : z < 1 ∨ 8 < z
    · exact deltas_bad p c l z w hs (by omega) hz
    · obtain ⟨n, rfl⟩ : ∃ n : Nat, z = (n : Int) := ⟨z.toNat, by omega⟩
      exact deltas_ok p c l n w hs (by omega) (by omega) (by omega) hc hpc hb
end Go.Proofs.YtpbcdmefngbjjaaGreatDoor
