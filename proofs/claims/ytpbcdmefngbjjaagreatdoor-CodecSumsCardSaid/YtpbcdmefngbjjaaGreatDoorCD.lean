/- The law CodecSums: its walk. -/
import Derived.Test.YtpbcdmefngbjjaaGreatDoorCI
namespace Go.Proofs.YtpbcdmefngbjjaaGreatDoor
open Go.RowKit
open Go.Lib
set_option maxRecDepth 100000 in
set_option maxHeartbeats 1600000 in
theorem sums_long (p : Option Addr) (c : Nat) (l : List UInt8) (a : Int) (y : Int) (w : World) (hs : SaneAt w) (hl : 2000 < l.length) :
    Calls Tryz.prog 9 #[.slice p l.length c, .int .i64 a, .int .u8 y] w (SanePost w) := by
  have HS := Lib.hid (hs w (Below.refl _ _))
  clear hs
  have hl3 : (2000 : Int) < l.length := by omega
  go_enter Tryz.func9, Tryz.ntmps9
  go_wp2_with fail
  refine (HS.out).mono ?_
  rintro e w' ⟨rfl, hb⟩
  have HB := Lib.hid hb
  clear hb
  go_wp2_with fail
  go_ret
  exact ⟨rfl, HB.out⟩
set_option maxRecDepth 100000 in
set_option maxHeartbeats 1600000 in
theorem sums_short (p : Option Addr) (c : Nat) (l : List UInt8) (a : Int) (y : UInt8) (w : World) (hs : SaneAt w) (hl : l.length ≤ 2000) (hb : Bs w p l) (h0 : l.length = 0 ∨ y = 0) :
    Calls Tryz.prog 9 #[.slice p l.length c, .int .i64 a, .int .u8 (y.toNat : Int)] w (SanePost w) := by
  have HS := Lib.hid (hs w (Below.refl _ _))
  have H1 := Lib.hid (checksum_any p c l w (by omega) hb)
  have H2 := Lib.hid (rchecksum_any p c l w (by omega) hb)
  obtain ⟨n, HN⟩ : ∃ n, Hid (n = l.length) := ⟨_, rfl⟩
  obtain ⟨x, HX⟩ : ∃ x : Nat, Hid (x = Crc.crc l) := ⟨_, rfl⟩
  rw [← HN.out] at hl H1 H2 ⊢
  rw [← HX.out] at H1 H2
  obtain ⟨yn, HY⟩ : ∃ yn : Nat, Hid (yn = y.toNat) := ⟨_, rfl⟩
  have H0 : Hid (n = 0 ∨ yn = 0) := Lib.hid (by rw [HN.out, HY.out]; rcases h0 with h | h; exact .inl h; right; rw [h]; rfl)
  rw [← HY.out]
  have hy : (yn : Int) ≤ 255 := by rw [HY.out]; have := y.toNat_lt; omega
  clear hs hb h0
  by_cases hn : n = 0
  · subst hn
    go_enter Tryz.func9, Tryz.ntmps9
    go_wp2_with fail
    refine (H1.out).mono ?_
    rintro e w' ⟨rfl, rfl⟩
    go_wp2_with fail
    refine (H2.out).mono ?_
    rintro e w' ⟨rfl, rfl⟩
    go_wp2_with fail
    refine (HS.out).mono ?_
    rintro e w' ⟨rfl, hb⟩
    have HB := Lib.hid hb
    clear hb
    go_wp2_with fail
    go_ret
    exact ⟨rfl, HB.out⟩
  · obtain rfl : yn = 0 := by have := H0.out; omega
    have hn0 : ((n : Int) == 0) = false := by simp; omega
    go_enter Tryz.func9, Tryz.ntmps9
    go_wp2_with fail
    refine (H1.out).mono ?_
    rintro e w' ⟨rfl, rfl⟩
    go_wp2_with fail
    refine (H2.out).mono ?_
    rintro e w' ⟨rfl, rfl⟩
    go_wp2_with fail
    refine (HS.out).mono ?_
    rintro e w' ⟨rfl, hb⟩
    have HB := Lib.hid hb
    clear hb
    go_wp2_with fail
    go_ret
    exact ⟨rfl, HB.out⟩
theorem at_mod (a : Int) (n : Nat) (h0 : 0 < n) (hn : n ≤ 2000) : ∃ k : Nat, k < n ∧ (IntKind.u64.wrap a).tmod (n : Int) = (k : Int) := by
  have h0' : 0 ≤ IntKind.u64.wrap a := by rw [IntKind.wrap_u64]; omega
  generalize IntKind.u64.wrap a = b at h0'
  rw [Int.tmod_eq_emod_of_nonneg h0']
  have h1 := Int.emod_nonneg b (show (n : Int) ≠ 0 by omega)
  have h2 := Int.emod_lt_of_pos b (show (0 : Int) < n by omega)
  exact ⟨(b % (n : Int)).toNat, by omega, by omega⟩
set_option maxRecDepth 100000 in
set_option maxHeartbeats 1600000 in
theorem sums_more (p : Option Addr) (c : Nat) (l : List UInt8) (a : Int) (y : UInt8) (w : World) (hs : SaneAt w) (hl : l.length ≤ 2000) (hb : Bs w p l) (hl0 : 0 < l.length) (hy0 : y ≠ 0) :
    Calls Tryz.prog 9 #[.slice p l.length c, .int .i64 a, .int .u8 (y.toNat : Int)] w (SanePost w) := by
  have HS := Lib.hid (hs w (Below.refl _ _))
  have H1 := Lib.hid (checksum_any p c l w (by omega) hb)
  have H2 := Lib.hid (rchecksum_any p c l w (by omega) hb)
  obtain ⟨ad, rfl⟩ := hb.some hl0
  have Hb := Lib.hid hb
  obtain ⟨n, HN⟩ : ∃ n, Hid (n = l.length) := ⟨_, rfl⟩
  obtain ⟨x, HX⟩ : ∃ x : Nat, Hid (x = Crc.crc l) := ⟨_, rfl⟩
  obtain ⟨k, hkn, hk⟩ := at_mod a n (by rw [HN.out]; exact hl0) (by rw [HN.out]; exact hl)
  rw [← HN.out] at hl hl0 H1 H2 ⊢
  rw [← HX.out] at H1 H2
  obtain ⟨yn, HY⟩ : ∃ yn : Nat, Hid (yn = y.toNat) := ⟨_, rfl⟩
  rw [← HY.out]
  have hy : (yn : Int) ≤ 255 := by rw [HY.out]; have := y.toNat_lt; omega
  have hy1 : ((yn : Int) == 0) = false := by
    have : y.toNat ≠ 0 := fun h => hy0 (UInt8.toNat_inj.1 h)
    rw [HY.out]; simp; omega
  have hn0 : ((n : Int) == 0) = false := by simp; omega
  have HY0 := Lib.hid hy0
  clear hs hb hy0
  obtain ⟨i0, hi, hz0, hz1, hz2⟩ := info_parts info5
  go_enter Tryz.func9, Tryz.ntmps9
  go_wp2_with fail
  refine (H1.out).mono ?_
  rintro e w' ⟨rfl, rfl⟩
  go_wp2_with fail
  refine (H2.out).mono ?_
  rintro e w' ⟨rfl, rfl⟩
  go_wp2_with fail
  refine (HS.out).mono ?_
  rintro e w1 ⟨rfl, hb1⟩
  have HB := Lib.hid hb1
  have hnews := Lib.hid (Hb.out.news hb1 ad rfl)
  have hown0 := Lib.hid (World.ownsRow_nil w1 w.heap.size 5 1)
  have hlen : Hid (0 + n ≤ maxLen ∧ (0 + n) * 1 ≤ 140737488355328 ∧ w.heap.size ≤ w1.heap.size) := Lib.hid ⟨by unfold maxLen; omega, by omega, hb1.size⟩
  have hul : Hid ((u8s l).length = n * 1) := Lib.hid (by rw [u8s_length, HN.out, Nat.mul_one])
  clear hb1
  go_wp2_with (at_builtin; refine wpList_append_own _ rfl (.tmp 31) (.tmp 32) 22 rfl w.heap.size 5 i0 (.int .u8 0) 1 1 Tryz.underlying22 hi hz0 hz1 hz2 rfl (by decide) _ _ _ rfl hown0.out ad n _ (u8s l) rfl hul.out hnews.out (u8s_one l) hlen.out.1 hlen.out.2.1 hlen.out.2.2 ?_)
  intro v5 w5 hown5 hgrow5 _
  have hown6 : w5.ownsRow w.heap.size 5 1 v5 l.length (u8s l) := by rw [← HN.out]; simpa using hown5
  obtain ⟨g, cap, hv5, hcap, hg, hgl, hcell, hfree, hset⟩ := own_set hown6 (by rw [← HN.out]; exact hl0)
  rw [← HN.out] at hv5 hcap hcell hset
  subst hv5
  obtain ⟨d, HD⟩ : ∃ d : Nat, Hid (d = (l.getD k 0).toNat) := ⟨_, rfl⟩
  obtain ⟨z, HZ⟩ : ∃ z : UInt8, Hid (z = l.getD k 0 ^^^ y) := ⟨_, rfl⟩
  have hd2 : (d : Int) ≤ 255 := by rw [HD.out]; have := (l.getD k 0).toNat_lt; omega
  have hx8 : bits .xor .u8 (d : Int) (yn : Int) = ((z.toNat : Nat) : Int) := by
    rw [HZ.out, UInt8.toNat_xor, ← HD.out, ← HY.out]; exact u8_xor_nat d yn (by omega) (by omega)
  have gc : w5.cell? ⟨g, k, none⟩ = some (.int .u8 (d : Int)) := by rw [HD.out]; exact hcell k hkn
  have gf : w5.frozen? ⟨g, k, none⟩ = false := hfree k
  have hset' := hset k z hkn
  obtain ⟨p6, c6, hv6, hb6, -⟩ := own_bytes (l := l.set k z) (by rw [List.length_set, ← HN.out]; exact hset')
  rw [List.length_set, ← HN.out] at hv6
  cases hv6
  have H3 : Hid (Calls Tryz.prog 29 #[.slice (some ⟨g, 0, none⟩) n cap] (w5.setCell ⟨g, k, none⟩ (.int .u8 ((z.toNat : Nat) : Int))) fun e w' => e = .returned (.int .u32 (Crc.crc (l.set k z) : Int)) ∧ (w5.setCell ⟨g, k, none⟩ (.int .u8 ((z.toNat : Nat) : Int))) = w') := Lib.hid (by
    have := checksum_any (some ⟨g, 0, none⟩) cap (l.set k z) _ (by rw [List.length_set, ← HN.out]; omega) hb6
    rw [List.length_set, ← HN.out] at this
    exact this)
  have HE : Hid (Below w.heap.size w (w5.setCell ⟨g, k, none⟩ (.int .u8 ((z.toNat : Nat) : Int)))) := Lib.hid ((HB.out.grown hgrow5 hlen.out.2.2 (fun k hk => by cases hk)).setCell hg _)
  have HC : Hid (Crc.crc (l.set k z) ≠ x) := Lib.hid (by
    rw [HX.out]
    refine Crc.crc_other (by rw [← HN.out]; exact hkn) ?_
    rw [HZ.out]
    intro h
    have h2 := congrArg (fun t => l.getD k 0 ^^^ t) h
    simp only [← UInt8.xor_assoc, UInt8.xor_self, UInt8.zero_xor] at h2
    exact HY0.out h2)
  obtain ⟨x6, HX6⟩ : ∃ x6 : Nat, Hid (x6 = Crc.crc (l.set k z)) := ⟨_, rfl⟩
  rw [← HX6.out] at H3 HC
  have hne : ((x6 : Int) != (x : Int)) = true := by have := HC.out; simp; omega
  clear hset hset' hfree hcell hb6 hown6 hown5 hgrow5 hnews hown0 hlen hul
  go_wp2_with fail
  refine (H3.out).mono ?_
  rintro e w' ⟨rfl, rfl⟩
  go_wp2_with fail
  go_ret
  exact ⟨rfl, HE.out⟩
theorem sums_any (p : Option Addr) (c : Nat) (l : List UInt8) (a y : Int) (w : World) (hs : SaneAt w) (hb : Bs w p l) (hy0 : 0 ≤ y) (hy1 : y ≤ 255) :
    Calls Tryz.prog 9 #[.slice p l.length c, .int .i64 a, .int .u8 y] w (SanePost w) := by
  by_cases h1 : 2000 < l.length
  · exact sums_long p c l a y w hs h1
  · obtain ⟨z, rfl⟩ : ∃ z : UInt8, y = (z.toNat : Int) := ⟨UInt8.ofNat y.toNat, by rw [UInt8.toNat_ofNat']; omega⟩
    by_cases h2 : l.length = 0 ∨ z = 0
    · exact sums_short p c l a z w hs (by omega) hb h2
    · exact sums_more p c l a z w hs (by omega) hb (by omega) (fun h => h2 (.inr h))
end Go.Proofs.YtpbcdmefngbjjaaGreatDoor
