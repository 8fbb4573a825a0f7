/- Unpacked of the program: where it refuses. -/
import Derived.Test.YtpbcdmefngbjjaaGreatDoorEK
import Derived.BigQuiet
namespace Go.Proofs.YtpbcdmefngbjjaaGreatDoor
open Go.RowKit
open Go.Lib
set_option maxRecDepth 100000 in
set_option maxHeartbeats 1600000 in
theorem unp_many (b0 off len0 len1 c0 n k : Nat) (l : List UInt8) (w : World) (h1 : 1 ≤ n) (h2 : n ≤ 8) (e0 : Hid (len0 = len1 + 4)) (hc : len0 ≤ c0) (hlm : len0 ≤ 1048590) (hl : Hid (l.length = len0)) (hk0 : 0 < k) (hk4 : Hid (nb (l.take 4) = k)) (hkD : 1048576 / n < k) (hb : Bs w (some ⟨b0, off, none⟩) l) :
    Calls Tryz.prog 45 #[.slice (some ⟨b0, off, none⟩) len0 c0, .int .i64 (n : Int)] w (UnpBad w) := by
  have q0 := e0.out
  have hll := hl.out
  have hn0 : 1 ≤ (n : Int) := by omega
  have hn8 : (n : Int) ≤ 8 := by omega
  have i0' : ¬ (len0 : Int) < 4 := by omega
  have i0 : 4 ≤ (len0 : Int) := by omega
  have i0c : 4 ≤ (c0 : Int) := by omega
  have i0d : (len0 : Int) ≤ (c0 : Int) := by omega
  have i0l : (len0 : Int) ≤ 1048590 := by omega
  have f0 : len0 - 4 = len1 := by omega
  have HN4 := Lib.hid (bnumber_any (some ⟨b0, off, none⟩) c0 (l.take 4) w (by rw [List.length_take]; omega) (by have h := bs_sub hb 0 4 (by omega) (Nat.add_zero off).symm; rwa [List.drop_zero] at h))
  rw [show (l.take 4).length = 4 by rw [List.length_take]; omega, hk4.out] at HN4
  have hkb : k < 4294967296 := by
    have h := nb_lt (l.take 4)
    rw [hk4.out, List.length_take, Nat.min_eq_left (by omega)] at h; exact h
  have hki2 : (k : Int) ≤ 4294967295 := by omega
  have hki : 0 < (k : Int) := by omega
  have hki0 : ¬ (k : Int) = 0 := by omega
  obtain ⟨D, HD⟩ : ∃ D, Hid (D = 1048576 / n) := ⟨_, rfl⟩
  have hDi : (D : Int) ≤ 1048576 := by
    have := Nat.div_le_self 1048576 n
    rw [HD.out]; omega
  have hquo : (1048576 : Int) / (n : Int) = (D : Int) := by rw [HD.out, Int.natCast_ediv]; rfl
  have hkDi : (D : Int) < (k : Int) := by rw [HD.out]; omega
  have hkDd : decide (D < k) = true := decide_eq_true (by omega)
  clear hb hll q0 hkb
  by_cases hc4 : c0 = 4
  · have z1 : len1 = 0 := by omega
    have hl0 : len0 = 4 := by omega
    subst hc4
    subst hl0
    subst z1
    clear hc hlm f0
    go_enter Tryz.func45, Tryz.ntmps45
    go_wp2_with fail
    refine (HN4.out).mono ?_
    rintro e w' ⟨rfl, rfl⟩
    go_wp2_with fail
    go_ret2
    exact ⟨Below.refl _ _, rfl⟩
  · have i0e : 4 < (c0 : Int) := by omega
    clear hc hlm
    go_enter Tryz.func45, Tryz.ntmps45
    go_wp2_with fail
    refine (HN4.out).mono ?_
    rintro e w' ⟨rfl, rfl⟩
    go_wp2_with fail
    go_ret2
    exact ⟨Below.refl _ _, rfl⟩
set_option maxRecDepth 100000 in
set_option maxHeartbeats 1600000 in
theorem unp_head (b0 off len0 len1 c0 n k : Nat) (l : List UInt8) (w : World) (h1 : 1 ≤ n) (h2 : n ≤ 8) (e0 : Hid (len0 = len1 + 4)) (hc : len0 ≤ c0) (hlm : len0 ≤ 1048590) (hl : Hid (l.length = len0)) (hk0 : 0 < k) (hk4 : Hid (nb (l.take 4) = k)) (hkD : k ≤ 1048576 / n) (hh : len1 < n + 1) (hb : Bs w (some ⟨b0, off, none⟩) l) :
    Calls Tryz.prog 45 #[.slice (some ⟨b0, off, none⟩) len0 c0, .int .i64 (n : Int)] w (UnpBad w) := by
  have q0 := e0.out
  have hll := hl.out
  have hn0 : 1 ≤ (n : Int) := by omega
  have hn8 : (n : Int) ≤ 8 := by omega
  have i0' : ¬ (len0 : Int) < 4 := by omega
  have i0 : 4 ≤ (len0 : Int) := by omega
  have i0c : 4 ≤ (c0 : Int) := by omega
  have i0d : (len0 : Int) ≤ (c0 : Int) := by omega
  have i0l : (len0 : Int) ≤ 1048590 := by omega
  have f0 : len0 - 4 = len1 := by omega
  have HN4 := Lib.hid (bnumber_any (some ⟨b0, off, none⟩) c0 (l.take 4) w (by rw [List.length_take]; omega) (by have h := bs_sub hb 0 4 (by omega) (Nat.add_zero off).symm; rwa [List.drop_zero] at h))
  rw [show (l.take 4).length = 4 by rw [List.length_take]; omega, hk4.out] at HN4
  have hkb : k < 4294967296 := by
    have h := nb_lt (l.take 4)
    rw [hk4.out, List.length_take, Nat.min_eq_left (by omega)] at h; exact h
  have hki2 : (k : Int) ≤ 4294967295 := by omega
  have hki : 0 < (k : Int) := by omega
  have hki0 : ¬ (k : Int) = 0 := by omega
  obtain ⟨D, HD⟩ : ∃ D, Hid (D = 1048576 / n) := ⟨_, rfl⟩
  have hDi : (D : Int) ≤ 1048576 := by
    have := Nat.div_le_self 1048576 n
    rw [HD.out]; omega
  have hquo : (1048576 : Int) / (n : Int) = (D : Int) := by rw [HD.out, Int.natCast_ediv]; rfl
  have hkDi : ¬ (D : Int) < (k : Int) := by rw [HD.out]; omega
  have hkDd : decide (D < k) = false := decide_eq_false (by omega)
  have hhi : (len1 : Int) < (n : Int) + 1 := by omega
  clear hb hll q0 hkb
  by_cases hc4 : c0 = 4
  · have z1 : len1 = 0 := by omega
    have hl0 : len0 = 4 := by omega
    subst hc4
    subst hl0
    subst z1
    clear hc hlm f0
    go_enter Tryz.func45, Tryz.ntmps45
    go_wp2_with fail
    refine (HN4.out).mono ?_
    rintro e w' ⟨rfl, rfl⟩
    go_wp2_with fail
    go_ret2
    exact ⟨Below.refl _ _, rfl⟩
  · have i0e : 4 < (c0 : Int) := by omega
    clear hc hlm
    go_enter Tryz.func45, Tryz.ntmps45
    go_wp2_with fail
    refine (HN4.out).mono ?_
    rintro e w' ⟨rfl, rfl⟩
    go_wp2_with fail
    go_ret2
    exact ⟨Below.refl _ _, rfl⟩
set_option maxRecDepth 100000 in
set_option maxHeartbeats 4000000 in
theorem unp_bitsA (b0 off len0 len1 len2 c0 c1 c2 s n n1 k m wd : Nat) (l : List UInt8) (w : World) (h1 : 1 ≤ n) (h2 : n ≤ 8) (hN1 : Hid (n1 = n + 1)) (e0 : Hid (len0 = len1 + 4)) (e1 : Hid (len1 = len2 + n1)) (d0 : Hid (c0 = c1 + 4)) (d1 : Hid (c1 = c2 + n1)) (hc2 : 0 < c2) (hsm : Hid (len2 < s)) (hc : len0 ≤ c0) (hlm : len2 ≤ 1048576) (hl : Hid (l.length = len0)) (hk0 : 0 < k) (hk : k * n ≤ 1048576) (hwd : wd ≤ 255) (hs : Hid (s = (k * wd + 7) / 8))
    (hk4 : Hid (nb (l.take 4) = k)) (hm : Hid (nb ((l.drop 4).take n) = m)) (hwv : Hid (((l.drop 4).getD n 0).toNat = wd)) (hb : Bs w (some ⟨b0, off, none⟩) l) :
    Calls Tryz.prog 45 #[.slice (some ⟨b0, off, none⟩) len0 c0, .int .i64 (n : Int)] w (UnpBad w) := by
  have HB := Lib.hid hb
  have hn := hN1.out
  have hn0 : 1 ≤ (n : Int) := by omega
  have hn8 : (n : Int) ≤ 8 := by omega
  have hn1 : (n : Int) + 1 = (n1 : Int) := by omega
  have hn2 : 2 ≤ (n1 : Int) := by omega
  have hn9 : (n1 : Int) ≤ 9 := by omega
  have hnn : n < n1 := by omega
  have hni : (n : Int) < (n1 : Int) := by omega
  have hnle : n ≤ n1 := by omega
  have hki : 0 < (k : Int) := by omega
  have hki0 : ¬ (k : Int) = 0 := by omega
  have hkl : k ≤ 1048576 := by
    have h3 : k * 1 ≤ k * n := Nat.mul_le_mul_left _ h1
    omega
  have hki2 : (k : Int) ≤ 1048576 := by omega
  obtain ⟨D, HD⟩ : ∃ D, Hid (D = 1048576 / n) := ⟨_, rfl⟩
  have hkD : k ≤ D := by rw [HD.out, Nat.le_div_iff_mul_le (by omega)]; exact hk
  have hkDi : ¬ (D : Int) < (k : Int) := by omega
  have hkDd : decide (D < k) = false := decide_eq_false (by omega)
  have hDi : (D : Int) ≤ 1048576 := by
    have := Nat.div_le_self 1048576 n
    rw [HD.out]; omega
  have hquo : (1048576 : Int) / (n : Int) = (D : Int) := by rw [HD.out, Int.natCast_ediv]; rfl
  have hwi : (wd : Int) ≤ 255 := by omega
  obtain ⟨TT, HTT⟩ : ∃ TT, Hid (TT = k * wd) := ⟨_, rfl⟩
  have hmul : (k : Int) * (wd : Int) = (TT : Int) := by rw [HTT.out]; simp
  have hTT : (TT : Int) ≤ 267386880 := by
    have h5 : k * wd ≤ 1048576 * 255 := Nat.mul_le_mul hkl hwd
    rw [HTT.out]; omega
  have hsz : ((TT : Int) + 7) / 8 = (s : Int) := by rw [hs.out, HTT.out]; omega
  have q0 := e0.out
  have q1 := e1.out
  have qc0 := d0.out
  have qc1 := d1.out
  have hll : l.length = len0 := hl.out
  have hb1 : Hid (∀ W, Below w.heap.size w W → Bs W (some ⟨b0, off + 4, none⟩) (l.drop 4)) := Lib.hid (fun W hW => bs_tail (hb.below hW) 4 (by omega) rfl)
  have HN4 := Lib.hid (bnumber_any (some ⟨b0, off, none⟩) c0 (l.take 4) w (by rw [List.length_take]; omega) (by have h := bs_sub hb 0 4 (by omega) (Nat.add_zero off).symm; rwa [List.drop_zero] at h))
  rw [show (l.take 4).length = 4 by rw [List.length_take]; omega, hk4.out] at HN4
  have HNn : Hid (∀ W, Below w.heap.size w W → Calls Tryz.prog 68 #[.slice (some ⟨b0, off + 4, none⟩) n c1] W fun e w' => e = .returned (.int .u64 (m : Int)) ∧ W = w') := Lib.hid (fun W hW => by
    have h := bnumber_any (some ⟨b0, off + 4, none⟩) c1 ((l.drop 4).take n) W (by rw [List.length_take, List.length_drop]; omega) (by have h := bs_sub (hb1.out W hW) 0 n (by rw [List.length_drop]; omega) rfl; rwa [List.drop_zero] at h)
    rwa [show ((l.drop 4).take n).length = n by rw [List.length_take, List.length_drop]; omega, hm.out] at h)
  have hcw : Hid (∀ W, Below w.heap.size w W → W.cell? ⟨b0, off + 4 + n, none⟩ = some (.int .u8 (wd : Int))) := Lib.hid (fun W hW => by
    rcases hb1.out W hW with h0 | ⟨b, o, e, h3, h4⟩
    · rw [List.length_drop] at h0; omega
    · injection e with e; injection e with e1 e2; subst e1; subst e2
      have h5 := h4 n (by rw [List.length_drop]; omega)
      rwa [hwv.out] at h5)
  have hmi : (m : Int) ≤ 18446744073709551615 := by
    have h5 : m < 18446744073709551616 := by rw [← hm.out]; exact nb_lt8 (by rw [List.length_take]; omega)
    omega
  have hm64 : m < W64 := by unfold W64; omega
  have Q2 := hsm.out
  have i0 : 4 ≤ (len0 : Int) := by omega
  have i0c : 4 < (c0 : Int) := by omega
  have i0d : (len0 : Int) ≤ (c0 : Int) := by omega
  have i0l : (len0 : Int) ≤ 1048590 := by omega
  have i1 : (n1 : Int) ≤ (len1 : Int) := by omega
  have i1n : (n : Int) < (len1 : Int) := by omega
  have i1d : (len1 : Int) ≤ (c1 : Int) := by omega
  have i1e : (n : Int) ≤ (c1 : Int) := by omega
  have i2' : (len2 : Int) < (s : Int) := by omega
  have i0' : ¬ (len0 : Int) < 4 := by omega
  have i1' : ¬ (len1 : Int) < (n1 : Int) := by omega
  have f0 : len0 - 4 = len1 := by omega
  have f0c : c0 - 4 = c1 := by omega
  have f1 : len1 - n1 = len2 := by omega
  have f1c : c1 - n1 = c2 := by omega
  have i1c : (n1 : Int) < (c1 : Int) := by omega
  have hwk : IntKind.i64.wrap (k : Int) = (k : Int) := by rw [IntKind.wrap_i64]; omega
  have hww : IntKind.i64.wrap (wd : Int) = (wd : Int) := by rw [IntKind.wrap_i64]; omega
  have hBd : Below w.heap.size w w.drew := (Below.refl _ w).drew
  clear hn hb hll q0 q1 qc0 qc1 Q2
  go_enter Tryz.func45, Tryz.ntmps45
  go_wp2_with fail
  refine (HN4.out).mono ?_
  rintro e w' ⟨rfl, rfl⟩
  go_wp2_with fail
  refine wp_region_noPanic ?_
  refine wp_region_held_drew (S := fun W' => W'.cell? ⟨b0, off + 4 + n, none⟩ = some (.int .u8 (wd : Int))) (by kernel_rfl) (hcw.out _ hBd) (fun hHeld => ?_)
  refine wpAnyH_take (i := 0) (v := ?v1) rfl (by kernel_rfl) (by kernel_rfl) (by kernel_rfl) (fun _ _ _ h => h) (Or.inl ⟨by rfl, ?hy1⟩) (by assumption) ?rest1
  case hy1 =>
    intro W' hSw
    obtain e9 := hSw
    go_simp
    with_reducible rfl
  simp only [List.getElem_toArray, List.getElem_cons_zero, Act.put, List.setIfInBounds_toArray, List.set_cons_zero, List.set_cons_succ]
  refine wpAnyH_take (i := 1) (v := ?v2) rfl (by kernel_rfl) (by kernel_rfl) (by kernel_rfl) (fun _ _ _ h => h) (Or.inl ⟨by rfl, ?hy2⟩) (by assumption) ?rest2
  case hy2 =>
    intro W' hSw
    obtain e9 := hSw
    go_simp
    with_reducible rfl
  simp only [List.getElem_toArray, List.getElem_cons_zero, List.getElem_cons_succ, Act.put, List.setIfInBounds_toArray, List.set_cons_zero, List.set_cons_succ]
  refine wpAnyH_take (i := 2) (v := ?v3) rfl (by kernel_rfl) (by kernel_rfl) (by kernel_rfl) (fun _ _ _ h => h) (Or.inl ⟨by rfl, ?hy3⟩) (by assumption) ?rest3
  case hy3 =>
    intro W' hSw
    obtain e9 := hSw
    go_simp
    with_reducible rfl
  simp only [List.getElem_toArray, List.getElem_cons_zero, List.getElem_cons_succ, Act.put, List.setIfInBounds_toArray, List.set_cons_zero, List.set_cons_succ]
  refine wpAnyH_take (i := 3) (v := ?v4) rfl (by kernel_rfl) (by kernel_rfl) (by kernel_rfl) (fun _ _ _ h => h) (Or.inl ⟨by rfl, ?hy4⟩) (by assumption) ?rest4
  case hy4 =>
    intro W' hSw
    obtain e9 := hSw
    go_simp
    with_reducible rfl
  simp only [List.getElem_toArray, List.getElem_cons_zero, List.getElem_cons_succ, Act.put, List.setIfInBounds_toArray, List.set_cons_zero, List.set_cons_succ]
  refine wpAnyH_take (i := 4) (v := ?v5) rfl (by kernel_rfl) (by kernel_rfl) (by kernel_rfl) (fun _ _ _ h => h) (Or.inl ⟨by rfl, ?hy5⟩) (by assumption) ?rest5
  case hy5 =>
    intro W' hSw
    obtain e9 := hSw
    go_simp
    with_reducible rfl
  simp only [List.getElem_toArray, List.getElem_cons_zero, List.getElem_cons_succ, Act.put, List.setIfInBounds_toArray, List.set_cons_zero, List.set_cons_succ]
  refine wpAnyH_take (i := 6) (v := ?v6) rfl (by kernel_rfl) (by kernel_rfl) (by kernel_rfl) (fun _ _ _ h => h) (Or.inl ⟨by rfl, ?hy6⟩) (by assumption) ?rest6
  case hy6 =>
    intro W' hSw
    obtain e9 := hSw
    go_simp
    with_reducible rfl
  simp only [List.getElem_toArray, List.getElem_cons_zero, List.getElem_cons_succ, Act.put, List.setIfInBounds_toArray, List.set_cons_zero, List.set_cons_succ]
  refine wpAnyH_take (i := 7) (v := ?v7) rfl (by kernel_rfl) (by kernel_rfl) (by kernel_rfl) (fun _ _ _ h => h) (Or.inl ⟨by rfl, ?hy7⟩) (by assumption) ?rest7
  case hy7 =>
    intro W' hSw
    obtain e9 := hSw
    go_simp
    with_reducible rfl
  simp only [List.getElem_toArray, List.getElem_cons_zero, List.getElem_cons_succ, Act.put, List.setIfInBounds_toArray, List.set_cons_zero, List.set_cons_succ]
  refine wpAnyH_take (i := 8) (v := ?v8) rfl (by kernel_rfl) (by kernel_rfl) (by kernel_rfl) (fun _ _ _ h => h) (Or.inl ⟨by rfl, ?hy8⟩) (by assumption) ?rest8
  case hy8 =>
    intro W' hSw
    obtain e9 := hSw
    go_simp
    with_reducible rfl
  simp only [List.getElem_toArray, List.getElem_cons_zero, List.getElem_cons_succ, Act.put, List.setIfInBounds_toArray, List.set_cons_zero, List.set_cons_succ]
  refine wpAnyH_take (i := 9) (v := ?v9) rfl (by kernel_rfl) (by kernel_rfl) (by kernel_rfl) (fun _ _ _ h => h) (Or.inl ⟨by rfl, ?hy9⟩) (by assumption) ?rest9
  case hy9 =>
    intro W' hSw
    obtain e9 := hSw
    go_simp
    with_reducible rfl
  simp only [List.getElem_toArray, List.getElem_cons_zero, List.getElem_cons_succ, Act.put, List.setIfInBounds_toArray, List.set_cons_zero, List.set_cons_succ]
  refine wpAnyH_take (i := 10) (v := ?v10) rfl (by kernel_rfl) (by kernel_rfl) (by kernel_rfl) (fun _ _ _ h => h) (Or.inl ⟨by rfl, ?hy10⟩) (by assumption) ?rest10
  case hy10 =>
    intro W' hSw
    obtain e9 := hSw
    go_simp
    with_reducible rfl
  simp only [List.getElem_toArray, List.getElem_cons_zero, List.getElem_cons_succ, Act.put, List.setIfInBounds_toArray, List.set_cons_zero, List.set_cons_succ]
  refine wpAnyH_ready (rs := [5]) (by kernel_rfl) (by simp) ?_
  refine AllReadyH.cons (i := 5) rfl (fun K hK => ?_) AllReadyH.nil
  go_simp
  refine (HNn.out _ hBd).mono ?_
  rintro e W' ⟨rfl, rfl⟩
  refine hK.out _ _ (hcw.out _ hBd) (fun hHeld => ?_)
  clear hK K
  refine wpAnyH_ready (rs := [11]) (by kernel_rfl) (by simp) ?_
  refine AllReadyH.cons (i := 11) rfl (fun K hK => ?_) AllReadyH.nil
  go_simp
  refine hK.out _ _ (hcw.out _ hBd) (fun hHeld => ?_)
  clear hK K
  refine wpAnyH_ready (rs := [12]) (by kernel_rfl) (by simp) ?_
  refine AllReadyH.cons (i := 12) rfl (fun K hK => ?_) AllReadyH.nil
  go_simp
  refine hK.out _ _ (hcw.out _ hBd) (fun hHeld => ?_)
  clear hK K
  refine wpAnyH_ready (rs := [13]) (by kernel_rfl) (by simp) ?_
  refine AllReadyH.cons (i := 13) rfl (fun K hK => ?_) AllReadyH.nil
  go_simp
  refine hK.out _ _ (hcw.out _ hBd) (fun hHeld => ?_)
  clear hK K
  refine wpAnyH_done (by kernel_rfl) ?_ _
  refine NoPanic.normal ?_
  clear hHeld
  go_wp2_with fail
  go_ret2
  exact ⟨(Below.refl _ _).drew, rfl⟩
set_option maxRecDepth 100000 in
set_option maxHeartbeats 4000000 in
theorem unp_bitsB (b0 off len0 s n n1 k m wd : Nat) (l : List UInt8) (w : World) (h1 : 1 ≤ n) (h2 : n ≤ 8) (hN1 : Hid (n1 = n + 1)) (e0 : Hid (len0 = n1 + 4)) (hsm : Hid (0 < s)) (hl : Hid (l.length = len0)) (hk0 : 0 < k) (hk : k * n ≤ 1048576) (hwd : wd ≤ 255) (hs : Hid (s = (k * wd + 7) / 8))
    (hk4 : Hid (nb (l.take 4) = k)) (hm : Hid (nb ((l.drop 4).take n) = m)) (hwv : Hid (((l.drop 4).getD n 0).toNat = wd)) (hb : Bs w (some ⟨b0, off, none⟩) l) :
    Calls Tryz.prog 45 #[.slice (some ⟨b0, off, none⟩) len0 len0, .int .i64 (n : Int)] w (UnpBad w) := by
  have HB := Lib.hid hb
  have hn := hN1.out
  have hn0 : 1 ≤ (n : Int) := by omega
  have hn8 : (n : Int) ≤ 8 := by omega
  have hn1 : (n : Int) + 1 = (n1 : Int) := by omega
  have hn2 : 2 ≤ (n1 : Int) := by omega
  have hn9 : (n1 : Int) ≤ 9 := by omega
  have hnn : n < n1 := by omega
  have hni : (n : Int) < (n1 : Int) := by omega
  have hnle : n ≤ n1 := by omega
  have hki : 0 < (k : Int) := by omega
  have hki0 : ¬ (k : Int) = 0 := by omega
  have hkl : k ≤ 1048576 := by
    have h3 : k * 1 ≤ k * n := Nat.mul_le_mul_left _ h1
    omega
  have hki2 : (k : Int) ≤ 1048576 := by omega
  obtain ⟨D, HD⟩ : ∃ D, Hid (D = 1048576 / n) := ⟨_, rfl⟩
  have hkD : k ≤ D := by rw [HD.out, Nat.le_div_iff_mul_le (by omega)]; exact hk
  have hkDi : ¬ (D : Int) < (k : Int) := by omega
  have hkDd : decide (D < k) = false := decide_eq_false (by omega)
  have hDi : (D : Int) ≤ 1048576 := by
    have := Nat.div_le_self 1048576 n
    rw [HD.out]; omega
  have hquo : (1048576 : Int) / (n : Int) = (D : Int) := by rw [HD.out, Int.natCast_ediv]; rfl
  have hwi : (wd : Int) ≤ 255 := by omega
  obtain ⟨TT, HTT⟩ : ∃ TT, Hid (TT = k * wd) := ⟨_, rfl⟩
  have hmul : (k : Int) * (wd : Int) = (TT : Int) := by rw [HTT.out]; simp
  have hTT : (TT : Int) ≤ 267386880 := by
    have h5 : k * wd ≤ 1048576 * 255 := Nat.mul_le_mul hkl hwd
    rw [HTT.out]; omega
  have hsz : ((TT : Int) + 7) / 8 = (s : Int) := by rw [hs.out, HTT.out]; omega
  have q0 := e0.out
  have hll : l.length = len0 := hl.out
  have hb1 : Hid (∀ W, Below w.heap.size w W → Bs W (some ⟨b0, off + 4, none⟩) (l.drop 4)) := Lib.hid (fun W hW => bs_tail (hb.below hW) 4 (by omega) rfl)
  have HN4 := Lib.hid (bnumber_any (some ⟨b0, off, none⟩) len0 (l.take 4) w (by rw [List.length_take]; omega) (by have h := bs_sub hb 0 4 (by omega) (Nat.add_zero off).symm; rwa [List.drop_zero] at h))
  rw [show (l.take 4).length = 4 by rw [List.length_take]; omega, hk4.out] at HN4
  have HNn : Hid (∀ W, Below w.heap.size w W → Calls Tryz.prog 68 #[.slice (some ⟨b0, off + 4, none⟩) n n1] W fun e w' => e = .returned (.int .u64 (m : Int)) ∧ W = w') := Lib.hid (fun W hW => by
    have h := bnumber_any (some ⟨b0, off + 4, none⟩) n1 ((l.drop 4).take n) W (by rw [List.length_take, List.length_drop]; omega) (by have h := bs_sub (hb1.out W hW) 0 n (by rw [List.length_drop]; omega) rfl; rwa [List.drop_zero] at h)
    rwa [show ((l.drop 4).take n).length = n by rw [List.length_take, List.length_drop]; omega, hm.out] at h)
  have hcw : Hid (∀ W, Below w.heap.size w W → W.cell? ⟨b0, off + 4 + n, none⟩ = some (.int .u8 (wd : Int))) := Lib.hid (fun W hW => by
    rcases hb1.out W hW with h0 | ⟨b, o, e, h3, h4⟩
    · rw [List.length_drop] at h0; omega
    · injection e with e; injection e with e1 e2; subst e1; subst e2
      have h5 := h4 n (by rw [List.length_drop]; omega)
      rwa [hwv.out] at h5)
  have hmi : (m : Int) ≤ 18446744073709551615 := by
    have h5 : m < 18446744073709551616 := by rw [← hm.out]; exact nb_lt8 (by rw [List.length_take]; omega)
    omega
  have hm64 : m < W64 := by unfold W64; omega
  have Q2 := hsm.out
  have i0 : 4 ≤ (len0 : Int) := by omega
  have i0c : 4 < (len0 : Int) := by omega
  have i0l : (len0 : Int) ≤ 13 := by omega
  have i0' : ¬ (len0 : Int) < 4 := by omega
  have i2' : 0 < (s : Int) := by omega
  have f0 : len0 - 4 = n1 := by omega
  have hwk : IntKind.i64.wrap (k : Int) = (k : Int) := by rw [IntKind.wrap_i64]; omega
  have hww : IntKind.i64.wrap (wd : Int) = (wd : Int) := by rw [IntKind.wrap_i64]; omega
  have hBd : Below w.heap.size w w.drew := (Below.refl _ w).drew
  clear hn hb hll q0 Q2
  go_enter Tryz.func45, Tryz.ntmps45
  go_wp2_with fail
  refine (HN4.out).mono ?_
  rintro e w' ⟨rfl, rfl⟩
  go_wp2_with fail
  refine wp_region_noPanic ?_
  refine wp_region_held_drew (S := fun W' => W'.cell? ⟨b0, off + 4 + n, none⟩ = some (.int .u8 (wd : Int))) (by kernel_rfl) (hcw.out _ hBd) (fun hHeld => ?_)
  refine wpAnyH_take (i := 0) (v := ?v11) rfl (by kernel_rfl) (by kernel_rfl) (by kernel_rfl) (fun _ _ _ h => h) (Or.inl ⟨by rfl, ?hy11⟩) (by assumption) ?rest11
  case hy11 =>
    intro W' hSw
    obtain e9 := hSw
    go_simp
    with_reducible rfl
  simp only [List.getElem_toArray, List.getElem_cons_zero, Act.put, List.setIfInBounds_toArray, List.set_cons_zero, List.set_cons_succ]
  refine wpAnyH_take (i := 1) (v := ?v12) rfl (by kernel_rfl) (by kernel_rfl) (by kernel_rfl) (fun _ _ _ h => h) (Or.inl ⟨by rfl, ?hy12⟩) (by assumption) ?rest12
  case hy12 =>
    intro W' hSw
    obtain e9 := hSw
    go_simp
    with_reducible rfl
  simp only [List.getElem_toArray, List.getElem_cons_zero, List.getElem_cons_succ, Act.put, List.setIfInBounds_toArray, List.set_cons_zero, List.set_cons_succ]
  refine wpAnyH_take (i := 2) (v := ?v13) rfl (by kernel_rfl) (by kernel_rfl) (by kernel_rfl) (fun _ _ _ h => h) (Or.inl ⟨by rfl, ?hy13⟩) (by assumption) ?rest13
  case hy13 =>
    intro W' hSw
    obtain e9 := hSw
    go_simp
    with_reducible rfl
  simp only [List.getElem_toArray, List.getElem_cons_zero, List.getElem_cons_succ, Act.put, List.setIfInBounds_toArray, List.set_cons_zero, List.set_cons_succ]
  refine wpAnyH_take (i := 3) (v := ?v14) rfl (by kernel_rfl) (by kernel_rfl) (by kernel_rfl) (fun _ _ _ h => h) (Or.inl ⟨by rfl, ?hy14⟩) (by assumption) ?rest14
  case hy14 =>
    intro W' hSw
    obtain e9 := hSw
    go_simp
    with_reducible rfl
  simp only [List.getElem_toArray, List.getElem_cons_zero, List.getElem_cons_succ, Act.put, List.setIfInBounds_toArray, List.set_cons_zero, List.set_cons_succ]
  refine wpAnyH_take (i := 4) (v := ?v15) rfl (by kernel_rfl) (by kernel_rfl) (by kernel_rfl) (fun _ _ _ h => h) (Or.inl ⟨by rfl, ?hy15⟩) (by assumption) ?rest15
  case hy15 =>
    intro W' hSw
    obtain e9 := hSw
    go_simp
    with_reducible rfl
  simp only [List.getElem_toArray, List.getElem_cons_zero, List.getElem_cons_succ, Act.put, List.setIfInBounds_toArray, List.set_cons_zero, List.set_cons_succ]
  refine wpAnyH_take (i := 6) (v := ?v16) rfl (by kernel_rfl) (by kernel_rfl) (by kernel_rfl) (fun _ _ _ h => h) (Or.inl ⟨by rfl, ?hy16⟩) (by assumption) ?rest16
  case hy16 =>
    intro W' hSw
    obtain e9 := hSw
    go_simp
    with_reducible rfl
  simp only [List.getElem_toArray, List.getElem_cons_zero, List.getElem_cons_succ, Act.put, List.setIfInBounds_toArray, List.set_cons_zero, List.set_cons_succ]
  refine wpAnyH_take (i := 7) (v := ?v17) rfl (by kernel_rfl) (by kernel_rfl) (by kernel_rfl) (fun _ _ _ h => h) (Or.inl ⟨by rfl, ?hy17⟩) (by assumption) ?rest17
  case hy17 =>
    intro W' hSw
    obtain e9 := hSw
    go_simp
    with_reducible rfl
  simp only [List.getElem_toArray, List.getElem_cons_zero, List.getElem_cons_succ, Act.put, List.setIfInBounds_toArray, List.set_cons_zero, List.set_cons_succ]
  refine wpAnyH_take (i := 8) (v := ?v18) rfl (by kernel_rfl) (by kernel_rfl) (by kernel_rfl) (fun _ _ _ h => h) (Or.inl ⟨by rfl, ?hy18⟩) (by assumption) ?rest18
  case hy18 =>
    intro W' hSw
    obtain e9 := hSw
    go_simp
    with_reducible rfl
  simp only [List.getElem_toArray, List.getElem_cons_zero, List.getElem_cons_succ, Act.put, List.setIfInBounds_toArray, List.set_cons_zero, List.set_cons_succ]
  refine wpAnyH_take (i := 9) (v := ?v19) rfl (by kernel_rfl) (by kernel_rfl) (by kernel_rfl) (fun _ _ _ h => h) (Or.inl ⟨by rfl, ?hy19⟩) (by assumption) ?rest19
  case hy19 =>
    intro W' hSw
    obtain e9 := hSw
    go_simp
    with_reducible rfl
  simp only [List.getElem_toArray, List.getElem_cons_zero, List.getElem_cons_succ, Act.put, List.setIfInBounds_toArray, List.set_cons_zero, List.set_cons_succ]
  refine wpAnyH_take (i := 10) (v := ?v20) rfl (by kernel_rfl) (by kernel_rfl) (by kernel_rfl) (fun _ _ _ h => h) (Or.inl ⟨by rfl, ?hy20⟩) (by assumption) ?rest20
  case hy20 =>
    intro W' hSw
    obtain e9 := hSw
    go_simp
    with_reducible rfl
  simp only [List.getElem_toArray, List.getElem_cons_zero, List.getElem_cons_succ, Act.put, List.setIfInBounds_toArray, List.set_cons_zero, List.set_cons_succ]
  refine wpAnyH_ready (rs := [5]) (by kernel_rfl) (by simp) ?_
  refine AllReadyH.cons (i := 5) rfl (fun K hK => ?_) AllReadyH.nil
  go_simp
  refine (HNn.out _ hBd).mono ?_
  rintro e W' ⟨rfl, rfl⟩
  refine hK.out _ _ (hcw.out _ hBd) (fun hHeld => ?_)
  clear hK K
  refine wpAnyH_ready (rs := [11]) (by kernel_rfl) (by simp) ?_
  refine AllReadyH.cons (i := 11) rfl (fun K hK => ?_) AllReadyH.nil
  go_simp
  refine hK.out _ _ (hcw.out _ hBd) (fun hHeld => ?_)
  clear hK K
  refine wpAnyH_ready (rs := [12]) (by kernel_rfl) (by simp) ?_
  refine AllReadyH.cons (i := 12) rfl (fun K hK => ?_) AllReadyH.nil
  go_simp
  refine hK.out _ _ (hcw.out _ hBd) (fun hHeld => ?_)
  clear hK K
  refine wpAnyH_ready (rs := [13]) (by kernel_rfl) (by simp) ?_
  refine AllReadyH.cons (i := 13) rfl (fun K hK => ?_) AllReadyH.nil
  go_simp
  refine hK.out _ _ (hcw.out _ hBd) (fun hHeld => ?_)
  clear hK K
  refine wpAnyH_done (by kernel_rfl) ?_ _
  refine NoPanic.normal ?_
  clear hHeld
  go_wp2_with fail
  go_ret2
  exact ⟨(Below.refl _ _).drew, rfl⟩
/-- Unpacked answers, for whatever bytes. -/
theorem unp_any (p : Option Addr) (c n len0 : Nat) (P : List UInt8) (w : World) (h1 : 1 ≤ n) (h2 : n ≤ 8) (hp0 : Hid (P.length = len0)) (hpl : len0 ≤ 1048576) (hc : len0 ≤ c) (hb : Bs w p P) :
    ∃ o : Option (List UInt8), (∀ L, o = some L → L.length ≤ 2097152) ∧ Calls Tryz.prog 45 #[.slice p len0 c, .int .i64 (n : Int)] w (fun e w' => match o with | none => UnpBad w e w' | some L => UnpPost L w e w') := by
  have hpo := hp0.out
  by_cases h4 : len0 < 4
  · exact ⟨none, fun L e => (by cases e), unp_short p len0 c n w h4⟩
  obtain ⟨b0, off, rfl⟩ := bs_addr hb (by omega)
  obtain ⟨k, HK⟩ : ∃ k, k = nb (P.take 4) := ⟨_, rfl⟩
  by_cases hk0 : k = 0
  · refine ⟨some (P.drop 4), fun L e => by cases e; rw [List.length_drop]; omega, ?_⟩
    exact unp_zero b0 off len0 (len0 - 4) c n P w (Lib.hid (by omega)) hc (by omega) hp0 (Lib.hid (by rw [← HK]; exact hk0)) hb
  have hk0 := Nat.pos_of_ne_zero hk0
  by_cases hkD : 1048576 / n < k
  · exact ⟨none, fun L e => (by cases e), unp_many b0 off len0 (len0 - 4) c n k P w h1 h2 (Lib.hid (by omega)) hc (by omega) hp0 hk0 (Lib.hid HK.symm) hkD hb⟩
  have hkn : k * n ≤ 1048576 := by
    have h := Nat.mul_le_mul_right n (Nat.not_lt.1 hkD)
    exact Nat.le_trans h (Nat.div_mul_le_self _ _)
  by_cases hh : len0 - 4 < n + 1
  · exact ⟨none, fun L e => (by cases e), unp_head b0 off len0 (len0 - 4) c n k P w h1 h2 (Lib.hid (by omega)) hc (by omega) hp0 hk0 (Lib.hid HK.symm) (Nat.not_lt.1 hkD) hh hb⟩
  obtain ⟨wd, HW⟩ : ∃ wd, wd = ((P.drop 4).getD n 0).toNat := ⟨_, rfl⟩
  have hwd : wd ≤ 255 := by have := ((P.drop 4).getD n 0).toNat_lt; omega
  obtain ⟨s, HS⟩ : ∃ s, s = (k * wd + 7) / 8 := ⟨_, rfl⟩
  have hjl : ∀ b, (jl n (unG b wd (nb ((P.drop 4).take n)) k)).length ≤ 1048576 := fun b => by rw [jl_length, unG_length]; exact hkn
  by_cases hc2 : c - 4 - (n + 1) = 0
  · have hcl : c = len0 := by omega
    subst hcl
    by_cases hs0 : s = 0
    · have hwd0 : wd = 0 := by
        rcases Nat.eq_zero_or_pos wd with h | h
        · exact h
        · have : 1 * 1 ≤ k * wd := Nat.mul_le_mul hk0 h
          omega
      refine ⟨some (jl n (unG (rdB []) 0 (nb ((P.drop 4).take n)) k) ++ []), fun L e => by cases e; rw [List.append_nil, ← hwd0]; exact Nat.le_trans (hjl _) (by decide), ?_⟩
      exact unp_okB b0 off c n (n + 1) k _ P w h1 h2 (Lib.hid rfl) (Lib.hid (by omega)) hp0 hk0 hkn (Lib.hid HK.symm) (Lib.hid rfl) (Lib.hid (by rw [← HW]; exact hwd0)) hb
    · exact ⟨none, fun L e => (by cases e), unp_bitsB b0 off c s n (n + 1) k _ wd P w h1 h2 (Lib.hid rfl) (Lib.hid (by omega)) (Lib.hid (by omega)) hp0 hk0 hkn hwd (Lib.hid HS) (Lib.hid HK.symm) (Lib.hid rfl) (Lib.hid HW.symm) hb⟩
  by_cases hsm : len0 - 4 - (n + 1) < s
  · exact ⟨none, fun L e => (by cases e), unp_bitsA b0 off len0 (len0 - 4) (len0 - 4 - (n + 1)) c (c - 4) (c - 4 - (n + 1)) s n (n + 1) k _ wd P w h1 h2 (Lib.hid rfl) (Lib.hid (by omega)) (Lib.hid (by omega)) (Lib.hid (by omega)) (Lib.hid (by omega)) (Nat.pos_of_ne_zero hc2) (Lib.hid hsm) hc (by omega) hp0 hk0 hkn hwd (Lib.hid HS) (Lib.hid HK.symm) (Lib.hid rfl) (Lib.hid HW.symm) hb⟩
  · refine ⟨some _, fun L e => ?_, unp_okA b0 off len0 (len0 - 4) (len0 - 4 - (n + 1)) (len0 - 4 - (n + 1) - s) c (c - 4) (c - 4 - (n + 1)) s n (n + 1) k _ wd P w h1 h2 (Lib.hid rfl) (Lib.hid (by omega)) (Lib.hid (by omega)) (Lib.hid (by omega)) (Lib.hid (by omega)) (Lib.hid (by omega)) (Nat.pos_of_ne_zero hc2) (Lib.hid (by omega)) hc (by omega) hp0 hk0 hkn hwd (Lib.hid HS) (Lib.hid HK.symm) (Lib.hid rfl) (Lib.hid HW.symm) hb⟩
    cases e
    have := hjl (rdB ((P.drop 4).drop (n + 1)))
    rw [List.length_append, List.length_drop, List.length_drop, List.length_drop]; omega
end Go.Proofs.YtpbcdmefngbjjaaGreatDoor
namespace Go.Proofs.YtpbcdmefngbjjaaGreatDoor
open Go.RowKit
open Go.Lib
/-- Bytes that nothing is packed to. -/
def NoPack (P : List UInt8) (n : Nat) : Prop := ∀ L : List UInt8, L.length ≤ 1048576 → packL L n ≠ P
def NoPost (w : World) (e : Ending) (w' : World) : Prop := Below w.heap.size w w' ∧ e = .returned (.tuple #[.slice none 0 0, .int .i64 5])
set_option maxRecDepth 100000 in
theorem check_limit (p : Option Addr) (k c n : Nat) (w : World) (h1 : 1 ≤ n) (h2 : n ≤ 8) (hk : 1048576 < k) (hk2 : k ≤ 2097152) : Calls Tryz.prog 38 #[.slice p k c, .int .i64 (n : Int)] w fun e w' => (∃ x : Int, x ≠ 0 ∧ e = .returned (.int .i64 x)) ∧ w = w' := by
  have H := Lib.hid (size_ok n w h1 h2)
  have hk' : 1048576 < (k : Int) := by omega
  have hk2' : (k : Int) ≤ 2097152 := by omega
  clear h1 h2 hk hk2
  go_enter Tryz.func38, Tryz.ntmps38
  go_wp2_with fail
  refine (H.out).mono ?_
  rintro e w' ⟨rfl, rfl⟩
  go_wp2_with fail
  go_ret
  exact ⟨⟨_, by decide, rfl⟩, rfl⟩
set_option maxRecDepth 100000 in
set_option maxHeartbeats 1600000 in
theorem pack_limit (p : Option Addr) (k c n : Nat) (w : World) (h1 : 1 ≤ n) (h2 : n ≤ 8) (hk : 1048576 < k) (hk2 : k ≤ 2097152) : Calls Tryz.prog 21 #[.slice p k c, .int .i64 (n : Int)] w fun e w' => Below w.heap.size w w' ∧ ∃ x : Int, x ≠ 0 ∧ e = .returned (.tuple #[.slice none 0 0, .int .i64 x]) := by
  have H := Lib.hid (check_limit p k c n w h1 h2 hk hk2)
  have hk2' : (k : Int) ≤ 2097152 := by omega
  clear h1 h2 hk hk2
  go_enter Tryz.func21, Tryz.ntmps21
  go_wp2_with fail
  refine (H.out).mono ?_
  rintro e w' ⟨⟨x, hx, rfl⟩, rfl⟩
  have hx' : (x == 0) = false := by simpa using hx
  go_wp2_with fail
  go_ret2
  exact ⟨Below.refl _ _, x, hx, rfl⟩
theorem beq_diff {A B : List UInt8} (h : A ≠ B) : ((⟨A.toArray⟩ : ByteArray).toList == (⟨B.toArray⟩ : ByteArray).toList) = false := by
  rw [beq_eq_false_iff_ne]
  simpa using h
set_option maxRecDepth 100000 in
theorem equal_diff (p q : Option Addr) (c d : Nat) (A B : List UInt8) (w : World) (hAB : A ≠ B) (hp : Bs w p A) (hq : Bs w q B) :
    Calls Tryz.prog 46 #[.slice p A.length c, .slice q B.length d] w fun r w' => r = .returned (.bool false) ∧ w = w' := by
  have h1 := conv_bytes w p c A hp
  have h2 := conv_bytes w q d B hq
  clear hp hq
  have h3 := beq_diff hAB
  obtain ⟨s, hs⟩ : ∃ s : ByteArray, s = ⟨A.toArray⟩ := ⟨_, rfl⟩
  obtain ⟨u, hu⟩ : ∃ u : ByteArray, u = ⟨B.toArray⟩ := ⟨_, rfl⟩
  rw [← hs] at h1 h3
  rw [← hu] at h2 h3
  clear hs hu hAB
  go_enter Tryz.func46, Tryz.ntmps46
  go_wp2_with fail
  go_ret
  refine ⟨?_, rfl⟩
  rfl
set_option maxRecDepth 100000 in
set_option maxHeartbeats 1600000 in
theorem unpack_none (p : Option Addr) (c n len0 : Nat) (w : World) (h1 : 1 ≤ n) (h2 : n ≤ 8) (hpl : len0 ≤ 1048576) (hu : Calls Tryz.prog 45 #[.slice p len0 c, .int .i64 (n : Int)] w (UnpBad w)) :
    Calls Tryz.prog 23 #[.slice p len0 c, .int .i64 (n : Int)] w (NoPost w) := by
  have HA := Lib.hid (check_ok_w p len0 c n w h1 h2 hpl)
  have HU := Lib.hid hu
  clear hu
  go_enter Tryz.func23, Tryz.ntmps23
  go_wp2_with fail
  refine (HA.out).mono ?_
  rintro e w' ⟨rfl, rfl⟩
  go_wp2_with fail
  refine (HU.out).mono ?_
  rintro e w1 ⟨hb1, rfl⟩
  have HB1 := Lib.hid hb1
  clear hb1
  go_wp2_with fail
  go_ret2
  exact ⟨HB1.out, rfl⟩
set_option maxRecDepth 100000 in
set_option maxHeartbeats 1600000 in
theorem unpack_much (p : Option Addr) (c n len0 : Nat) (L : List UInt8) (w : World) (h1 : 1 ≤ n) (h2 : n ≤ 8) (hpl : len0 ≤ 1048576) (hL1 : 1048576 < L.length) (hL2 : L.length ≤ 2097152) (hu : Calls Tryz.prog 45 #[.slice p len0 c, .int .i64 (n : Int)] w (UnpPost L w)) :
    Calls Tryz.prog 23 #[.slice p len0 c, .int .i64 (n : Int)] w (NoPost w) := by
  have HA := Lib.hid (check_ok_w p len0 c n w h1 h2 hpl)
  have HU := Lib.hid hu
  obtain ⟨ll, HLL⟩ : ∃ ll, Hid (ll = L.length) := ⟨_, rfl⟩
  rw [← HLL.out] at hL1 hL2
  have hi : (ll : Int) ≤ 2097152 := by omega
  clear hu
  go_enter Tryz.func23, Tryz.ntmps23
  go_wp2_with fail
  refine (HA.out).mono ?_
  rintro e w' ⟨rfl, rfl⟩
  go_wp2_with fail
  refine (HU.out).mono ?_
  rintro e w1 ⟨hb1, q, d, rfl, -, -, -⟩
  rw [← HLL.out]
  have HB1 := Lib.hid hb1
  have HP := Lib.hid (pack_limit q ll d n w1 h1 h2 hL1 hL2)
  clear hb1
  go_wp2_with fail
  refine (HP.out).mono ?_
  rintro e w2 ⟨hb2, x, hx, rfl⟩
  have HB2 := Lib.hid (HB1.out.trans (hb2.mono HB1.out.size))
  have hx' : (x == 0) = false := by simpa using hx
  clear hb2
  go_wp2_with fail
  go_ret2
  exact ⟨HB2.out, rfl⟩
set_option maxRecDepth 100000 in
set_option maxHeartbeats 1600000 in
theorem unpack_other (p : Option Addr) (c n len0 : Nat) (L P : List UInt8) (w : World) (h1 : 1 ≤ n) (h2 : n ≤ 8) (hp0 : Hid (P.length = len0)) (hpl : len0 ≤ 1048576) (hL1 : L.length ≤ 1048576) (hne : packL L n ≠ P) (hb : Bs w p P) (hu : Calls Tryz.prog 45 #[.slice p len0 c, .int .i64 (n : Int)] w (UnpPost L w)) :
    Calls Tryz.prog 23 #[.slice p len0 c, .int .i64 (n : Int)] w (NoPost w) := by
  have HA := Lib.hid (check_ok_w p len0 c n w h1 h2 hpl)
  have HU := Lib.hid hu
  have HB := Lib.hid hb
  have HNE := Lib.hid hne
  obtain ⟨ll, HLL⟩ : ∃ ll, Hid (ll = L.length) := ⟨_, rfl⟩
  rw [← HLL.out] at hL1
  have hi : (ll : Int) ≤ 1048576 := by omega
  clear hu hb hne
  go_enter Tryz.func23, Tryz.ntmps23
  go_wp2_with fail
  refine (HA.out).mono ?_
  rintro e w' ⟨rfl, rfl⟩
  go_wp2_with fail
  refine (HU.out).mono ?_
  rintro e w1 ⟨hb1, q, d, rfl, hd, hq, hs⟩
  rw [← HLL.out] at hd ⊢
  have HB1 := Lib.hid hb1
  have HPk := Lib.hid (pack_any q d n ll L w1 HLL h1 h2 hL1 hd hq hs)
  clear hb1 hs
  go_wp2_with fail
  refine (HPk.out).mono ?_
  rintro e w2 ⟨hb2, v, rfl, ho⟩
  obtain ⟨q2, d2, rfl, hs2, -⟩ := own_bytes ho
  have HB2 := Lib.hid (HB1.out.trans (hb2.mono HB1.out.size))
  have HE := Lib.hid (equal_diff q2 p d2 c (packL L n) P w2 HNE.out hs2 (HB.out.below HB2.out))
  obtain ⟨m2, HM2⟩ : ∃ m2, Hid (m2 = (packL L n).length) := ⟨_, rfl⟩
  rw [← HM2.out, hp0.out] at HE
  rw [← HM2.out]
  clear ho hs2 hb2
  go_wp2_with fail
  refine (HE.out).mono ?_
  rintro e w3 ⟨rfl, rfl⟩
  go_wp2_with fail
  go_ret2
  exact ⟨HB2.out, rfl⟩
theorem unpack_nopack (p : Option Addr) (c n len0 : Nat) (P : List UInt8) (w : World) (h1 : 1 ≤ n) (h2 : n ≤ 8) (hp0 : Hid (P.length = len0)) (hpl : len0 ≤ 1048576) (hc : len0 ≤ c) (hno : NoPack P n) (hb : Bs w p P) :
    Calls Tryz.prog 23 #[.slice p len0 c, .int .i64 (n : Int)] w (NoPost w) := by
  obtain ⟨o, ho, hu⟩ := unp_any p c n len0 P w h1 h2 hp0 hpl hc hb
  cases o with
  | none => exact unpack_none p c n len0 w h1 h2 hpl hu
  | some L =>
    by_cases hL : L.length ≤ 1048576
    · exact unpack_other p c n len0 L P w h1 h2 hp0 hpl hL (hno L hL) hb hu
    · exact unpack_much p c n len0 L w h1 h2 hpl (by omega) (ho L rfl) hu
end Go.Proofs.YtpbcdmefngbjjaaGreatDoor
namespace Go.Proofs.YtpbcdmefngbjjaaGreatDoor
open Go.RowKit
open Go.Lib
def RunBad (w : World) (e : Ending) (w' : World) : Prop := Below w.heap.size w w' ∧ e = .returned (.tuple #[.slice none 0 0, .slice none 0 0, .bool false])
def RunPost (gs : List Nat) (rs : List UInt8) (w : World) (e : Ending) (w' : World) : Prop := Below w.heap.size w w' ∧ ∃ p c q d, e = .returned (.tuple #[.slice p gs.length c, .slice q rs.length d, .bool true]) ∧ Rd w' p gs.length gs ∧ Bs w' q rs
set_option maxRecDepth 100000 in
set_option maxHeartbeats 1600000 in
theorem runp_short (p : Option Addr) (len c : Nat) (z : Int) (w : World) (h : len < 4) : Calls Tryz.prog 47 #[.slice p len c, .int .i64 z] w (RunBad w) := by
  have hi : (len : Int) < 4 := by omega
  clear h
  go_enter Tryz.func47, Tryz.ntmps47
  go_wp2_with fail
  go_ret3
  exact ⟨Below.refl _ _, rfl⟩
set_option maxRecDepth 100000 in
set_option maxHeartbeats 4000000 in
theorem runp_many (b0 off len0 c0 n k : Nat) (l : List UInt8) (w : World) (h1 : 1 ≤ n) (h2 : n ≤ 8) (h4 : 4 ≤ len0) (hc : len0 ≤ c0) (hlm : len0 ≤ 1048590) (hl : Hid (l.length = len0)) (hk4 : Hid (nb (l.take 4) = k)) (hk : 1048576 < k) (hb : Bs w (some ⟨b0, off, none⟩) l) :
    Calls Tryz.prog 47 #[.slice (some ⟨b0, off, none⟩) len0 c0, .int .i64 (n : Int)] w (RunBad w) := by
  have hll := hl.out
  have hn0 : 1 ≤ (n : Int) := by omega
  have hn8 : (n : Int) ≤ 8 := by omega
  have i0' : ¬ (len0 : Int) < 4 := by omega
  have i0 : 4 ≤ (len0 : Int) := by omega
  have i0c : 4 ≤ (c0 : Int) := by omega
  have i0d : (len0 : Int) ≤ (c0 : Int) := by omega
  have i0l : (len0 : Int) ≤ 1048590 := by omega
  obtain ⟨n4, HN4⟩ : ∃ n4, Hid (n4 = 4 + n) := ⟨_, rfl⟩
  obtain ⟨n5, HN5⟩ : ∃ n5, Hid (n5 = 5 + n) := ⟨_, rfl⟩
  have hn4 : 4 + (n : Int) = (n4 : Int) := by rw [HN4.out]; omega
  have hn5 : 5 + (n : Int) = (n5 : Int) := by rw [HN5.out]; omega
  have hn45 : (n4 : Int) < (n5 : Int) := by omega
  have hn4g : 4 ≤ (n4 : Int) := by omega
  have hn5l : (n5 : Int) ≤ 13 := by omega
  have HN := Lib.hid (bread_any (some ⟨b0, off, none⟩) c0 (l.take 4) w (by rw [List.length_take]; omega) (by have h := bs_sub hb 0 4 (by omega) (Nat.add_zero off).symm; rwa [List.drop_zero] at h))
  rw [show (l.take 4).length = 4 by rw [List.length_take]; omega, hk4.out] at HN
  have hkb : k < 4294967296 := by
    have h := nb_lt (l.take 4)
    rw [hk4.out, List.length_take, Nat.min_eq_left (by omega)] at h; exact h
  have hki2 : (k : Int) ≤ 4294967295 := by omega
  have hkw : IntKind.i64.wrap (k : Int) = (k : Int) := by rw [IntKind.wrap_i64]; omega
  have hki : 0 < (k : Int) := by omega
  have hki0 : ¬ (k : Int) = 0 := by omega
  have hg : 1048576 < (k : Int) := by omega
  have hgd : decide (1048576 < (k : Int)) = true := decide_eq_true hg
  clear hb hll hkb
  go_enter Tryz.func47, Tryz.ntmps47
  go_wp2_with fail
  refine (HN.out).mono ?_
  rintro e w' ⟨rfl, rfl⟩
  go_wp2_with fail
  go_ret3
  exact ⟨Below.refl _ _, rfl⟩
set_option maxRecDepth 100000 in
set_option maxHeartbeats 4000000 in
theorem runp_head (b0 off len0 c0 n k : Nat) (l : List UInt8) (w : World) (h1 : 1 ≤ n) (h2 : n ≤ 8) (h4 : 4 ≤ len0) (hc : len0 ≤ c0) (hlm : len0 ≤ 1048590) (hl : Hid (l.length = len0)) (hk4 : Hid (nb (l.take 4) = k)) (hk0 : 0 < k) (hk : k ≤ 1048576) (hh : len0 < 5 + n) (hb : Bs w (some ⟨b0, off, none⟩) l) :
    Calls Tryz.prog 47 #[.slice (some ⟨b0, off, none⟩) len0 c0, .int .i64 (n : Int)] w (RunBad w) := by
  have hll := hl.out
  have hn0 : 1 ≤ (n : Int) := by omega
  have hn8 : (n : Int) ≤ 8 := by omega
  have i0' : ¬ (len0 : Int) < 4 := by omega
  have i0 : 4 ≤ (len0 : Int) := by omega
  have i0c : 4 ≤ (c0 : Int) := by omega
  have i0d : (len0 : Int) ≤ (c0 : Int) := by omega
  have i0l : (len0 : Int) ≤ 1048590 := by omega
  obtain ⟨n4, HN4⟩ : ∃ n4, Hid (n4 = 4 + n) := ⟨_, rfl⟩
  obtain ⟨n5, HN5⟩ : ∃ n5, Hid (n5 = 5 + n) := ⟨_, rfl⟩
  have hn4 : 4 + (n : Int) = (n4 : Int) := by rw [HN4.out]; omega
  have hn5 : 5 + (n : Int) = (n5 : Int) := by rw [HN5.out]; omega
  have hn45 : (n4 : Int) < (n5 : Int) := by omega
  have hn4g : 4 ≤ (n4 : Int) := by omega
  have hn5l : (n5 : Int) ≤ 13 := by omega
  have HN := Lib.hid (bread_any (some ⟨b0, off, none⟩) c0 (l.take 4) w (by rw [List.length_take]; omega) (by have h := bs_sub hb 0 4 (by omega) (Nat.add_zero off).symm; rwa [List.drop_zero] at h))
  rw [show (l.take 4).length = 4 by rw [List.length_take]; omega, hk4.out] at HN
  have hkb : k < 4294967296 := by
    have h := nb_lt (l.take 4)
    rw [hk4.out, List.length_take, Nat.min_eq_left (by omega)] at h; exact h
  have hki2 : (k : Int) ≤ 4294967295 := by omega
  have hkw : IntKind.i64.wrap (k : Int) = (k : Int) := by rw [IntKind.wrap_i64]; omega
  have hki : 0 < (k : Int) := by omega
  have hki0 : ¬ (k : Int) = 0 := by omega
  have hg : ¬ 1048576 < (k : Int) := by omega
  have hgd : decide (1048576 < (k : Int)) = false := decide_eq_false hg
  have hhi : (len0 : Int) < (n5 : Int) := by omega
  have hhd : decide (len0 < n5) = true := decide_eq_true (by omega)
  clear hb hll hkb hh
  go_enter Tryz.func47, Tryz.ntmps47
  go_wp2_with fail
  refine (HN.out).mono ?_
  rintro e w' ⟨rfl, rfl⟩
  go_wp2_with fail
  go_ret3
  exact ⟨Below.refl _ _, rfl⟩
set_option maxRecDepth 100000 in
set_option maxHeartbeats 4000000 in
theorem runp_wide (b0 off len0 c0 n k : Nat) (l : List UInt8) (w : World) (h1 : 1 ≤ n) (h2 : n ≤ 8) (h4 : 4 ≤ len0) (hc : len0 ≤ c0) (hlm : len0 ≤ 1048590) (hl : Hid (l.length = len0)) (hk4 : Hid (nb (l.take 4) = k)) (wd : Nat) (hk0 : 0 < k) (hk : k ≤ 1048576) (hh : 5 + n ≤ len0) (hwv : Hid ((l.getD (4 + n) 0).toNat = wd)) (hw : 64 < wd) (hb : Bs w (some ⟨b0, off, none⟩) l) :
    Calls Tryz.prog 47 #[.slice (some ⟨b0, off, none⟩) len0 c0, .int .i64 (n : Int)] w (RunBad w) := by
  have hll := hl.out
  have hn0 : 1 ≤ (n : Int) := by omega
  have hn8 : (n : Int) ≤ 8 := by omega
  have i0' : ¬ (len0 : Int) < 4 := by omega
  have i0 : 4 ≤ (len0 : Int) := by omega
  have i0c : 4 ≤ (c0 : Int) := by omega
  have i0d : (len0 : Int) ≤ (c0 : Int) := by omega
  have i0l : (len0 : Int) ≤ 1048590 := by omega
  obtain ⟨n4, HN4⟩ : ∃ n4, Hid (n4 = 4 + n) := ⟨_, rfl⟩
  obtain ⟨n5, HN5⟩ : ∃ n5, Hid (n5 = 5 + n) := ⟨_, rfl⟩
  have hn4 : 4 + (n : Int) = (n4 : Int) := by rw [HN4.out]; omega
  have hn5 : 5 + (n : Int) = (n5 : Int) := by rw [HN5.out]; omega
  have hn45 : (n4 : Int) < (n5 : Int) := by omega
  have hn4g : 4 ≤ (n4 : Int) := by omega
  have hn5l : (n5 : Int) ≤ 13 := by omega
  have HN := Lib.hid (bread_any (some ⟨b0, off, none⟩) c0 (l.take 4) w (by rw [List.length_take]; omega) (by have h := bs_sub hb 0 4 (by omega) (Nat.add_zero off).symm; rwa [List.drop_zero] at h))
  rw [show (l.take 4).length = 4 by rw [List.length_take]; omega, hk4.out] at HN
  have hkb : k < 4294967296 := by
    have h := nb_lt (l.take 4)
    rw [hk4.out, List.length_take, Nat.min_eq_left (by omega)] at h; exact h
  have hki2 : (k : Int) ≤ 4294967295 := by omega
  have hkw : IntKind.i64.wrap (k : Int) = (k : Int) := by rw [IntKind.wrap_i64]; omega
  have hki : 0 < (k : Int) := by omega
  have hki0 : ¬ (k : Int) = 0 := by omega
  have hcw : Hid (∀ W, Below w.heap.size w W → W.cell? ⟨b0, off + n4, none⟩ = some (.int .u8 (wd : Int))) := Lib.hid (fun W hW => by
    rcases hb.below hW with h0 | ⟨b, o, e, h3, h4⟩
    · omega
    · injection e with e; injection e with e1 e2; subst e1; subst e2
      have h5 := h4 (4 + n) (by omega)
      rw [HN4.out]
      rwa [hwv.out] at h5)
  have hcw0 := hcw.out w (Below.refl _ _)
  have hwi : (wd : Int) ≤ 255 := by
    have := (l.getD (4 + n) 0).toNat_lt
    rw [hwv.out] at this; omega
  have hww : IntKind.i64.wrap (wd : Int) = (wd : Int) := by rw [IntKind.wrap_i64]; omega
  have hg : ¬ 1048576 < (k : Int) := by omega
  have hgd : decide (1048576 < (k : Int)) = false := decide_eq_false hg
  have hhi : ¬ (len0 : Int) < (n5 : Int) := by omega
  have hhi2 : (n4 : Int) < (len0 : Int) := by omega
  have hhd : decide (len0 < n5) = false := decide_eq_false (by omega)
  have hwg : 64 < (wd : Int) := by omega
  have hwd : decide (64 < (wd : Int)) = true := decide_eq_true hwg
  clear hb hll hkb hh
  go_enter Tryz.func47, Tryz.ntmps47
  go_wp2_with fail
  refine (HN.out).mono ?_
  rintro e w' ⟨rfl, rfl⟩
  go_wp2_with fail
  go_ret3
  exact ⟨Below.refl _ _, rfl⟩
set_option maxRecDepth 100000 in
set_option maxHeartbeats 4000000 in
theorem runp_zero (b0 off len0 c0 n k : Nat) (l : List UInt8) (w : World) (h1 : 1 ≤ n) (h2 : n ≤ 8) (h4 : 4 ≤ len0) (hc : len0 ≤ c0) (hlm : len0 ≤ 1048590) (hl : Hid (l.length = len0)) (hk4 : Hid (nb (l.take 4) = k)) (hk0 : k = 0) (hb : Bs w (some ⟨b0, off, none⟩) l) :
    Calls Tryz.prog 47 #[.slice (some ⟨b0, off, none⟩) len0 c0, .int .i64 (n : Int)] w (RunPost [] (l.drop 4) w) := by
  have hll := hl.out
  have hn0 : 1 ≤ (n : Int) := by omega
  have hn8 : (n : Int) ≤ 8 := by omega
  have i0' : ¬ (len0 : Int) < 4 := by omega
  have i0 : 4 ≤ (len0 : Int) := by omega
  have i0c : 4 ≤ (c0 : Int) := by omega
  have i0d : (len0 : Int) ≤ (c0 : Int) := by omega
  have i0l : (len0 : Int) ≤ 1048590 := by omega
  obtain ⟨n4, HN4⟩ : ∃ n4, Hid (n4 = 4 + n) := ⟨_, rfl⟩
  obtain ⟨n5, HN5⟩ : ∃ n5, Hid (n5 = 5 + n) := ⟨_, rfl⟩
  have hn4 : 4 + (n : Int) = (n4 : Int) := by rw [HN4.out]; omega
  have hn5 : 5 + (n : Int) = (n5 : Int) := by rw [HN5.out]; omega
  have hn45 : (n4 : Int) < (n5 : Int) := by omega
  have hn4g : 4 ≤ (n4 : Int) := by omega
  have hn5l : (n5 : Int) ≤ 13 := by omega
  have HN := Lib.hid (bread_any (some ⟨b0, off, none⟩) c0 (l.take 4) w (by rw [List.length_take]; omega) (by have h := bs_sub hb 0 4 (by omega) (Nat.add_zero off).symm; rwa [List.drop_zero] at h))
  rw [show (l.take 4).length = 4 by rw [List.length_take]; omega, hk4.out] at HN
  have hkb : k < 4294967296 := by
    have h := nb_lt (l.take 4)
    rw [hk4.out, List.length_take, Nat.min_eq_left (by omega)] at h; exact h
  have hki2 : (k : Int) ≤ 4294967295 := by omega
  have hkw : IntKind.i64.wrap (k : Int) = (k : Int) := by rw [IntKind.wrap_i64]; omega
  subst hk0
  obtain ⟨l1, HL1⟩ : ∃ l1, Hid (l1 = l.drop 4) := ⟨_, rfl⟩
  have hl1 : Hid (l1.length = len0 - 4) := Lib.hid (by rw [HL1.out, List.length_drop]; omega)
  have hb1 : Hid (∀ W, Below w.heap.size w W → Bs W (some ⟨b0, off + 4, none⟩) l1) := Lib.hid (fun W hW => by rw [HL1.out]; exact bs_tail (hb.below hW) 4 (by omega) rfl)
  rw [← HL1.out]
  have hfin : Hid (∀ (nq : Nat) (q : Option Addr) (d : Nat), Bs (w.drewN nq) q l1 → RunPost [] l1 w (.returned (.tuple #[.slice none 0 0, .slice q (len0 - 4) d, .bool true])) (w.drewN nq)) := Lib.hid (fun nq q d hq => ⟨below_dn (Below.refl _ _) _, none, 0, q, d, by rw [hl1.out]; rfl, Rd.nil _ _, hq⟩)
  by_cases hc4 : c0 = 4
  · have hl0 : len0 = 4 := by omega
    subst hl0
    subst hc4
    have hz : Hid (∀ nq q, Bs (w.drewN nq) q l1) := Lib.hid (fun nq q => .inl hl1.out)
    clear hb hll hkb
    go_enter Tryz.func47, Tryz.ntmps47
    go_wp2_with fail
    refine (HN.out).mono ?_
    rintro e w' ⟨rfl, rfl⟩
    go_wp2_with fail
    go_quiet (fail)
    go_wp2_with fail
    go_ret3
    exact hfin.out _ _ _ (hz.out _ _)
  · have i0e : 4 < (c0 : Int) := by omega
    have hz : Hid (∀ nq, Bs (w.drewN nq) (some ⟨b0, off + 4, none⟩) l1) := Lib.hid (fun nq => hb1.out _ (below_dn (Below.refl _ _) _))
    clear hb hll hkb
    go_enter Tryz.func47, Tryz.ntmps47
    go_wp2_with fail
    refine (HN.out).mono ?_
    rintro e w' ⟨rfl, rfl⟩
    go_wp2_with fail
    go_quiet (fail)
    go_wp2_with fail
    go_ret3
    exact hfin.out _ _ _ (hz.out _)
end Go.Proofs.YtpbcdmefngbjjaaGreatDoor
namespace Go.Proofs.YtpbcdmefngbjjaaGreatDoor
open Go.RowKit
open Go.Lib
set_option maxRecDepth 100000 in
set_option maxHeartbeats 4000000 in
theorem runp_bitsA (b0 off len0 c0 n k : Nat) (l : List UInt8) (w : World) (h1 : 1 ≤ n) (h2 : n ≤ 8) (h4 : 4 ≤ len0) (hc : len0 ≤ c0) (hlm : len0 ≤ 1048590) (hl : Hid (l.length = len0)) (hk4 : Hid (nb (l.take 4) = k)) (hcap : 5 + n < c0) (wd : Nat) (hk0 : 0 < k) (hk : k ≤ 1048576) (hh : 5 + n ≤ len0) (hwv : Hid ((l.getD (4 + n) 0).toNat = wd)) (hw : wd ≤ 64) (hs : len0 - (5 + n) < (k * wd + 7) / 8) (hb : Bs w (some ⟨b0, off, none⟩) l) :
    Calls Tryz.prog 47 #[.slice (some ⟨b0, off, none⟩) len0 c0, .int .i64 (n : Int)] w (RunBad w) := by
  have hll := hl.out
  have hn0 : 1 ≤ (n : Int) := by omega
  have hn8 : (n : Int) ≤ 8 := by omega
  have i0' : ¬ (len0 : Int) < 4 := by omega
  have i0 : 4 ≤ (len0 : Int) := by omega
  have i0c : 4 ≤ (c0 : Int) := by omega
  have i0d : (len0 : Int) ≤ (c0 : Int) := by omega
  have i0l : (len0 : Int) ≤ 1048590 := by omega
  obtain ⟨n4, HN4⟩ : ∃ n4, Hid (n4 = 4 + n) := ⟨_, rfl⟩
  obtain ⟨n5, HN5⟩ : ∃ n5, Hid (n5 = 5 + n) := ⟨_, rfl⟩
  have hn4 : 4 + (n : Int) = (n4 : Int) := by rw [HN4.out]; omega
  have hn5 : 5 + (n : Int) = (n5 : Int) := by rw [HN5.out]; omega
  have hn45 : (n4 : Int) < (n5 : Int) := by omega
  have hn4g : 4 ≤ (n4 : Int) := by omega
  have hn5l : (n5 : Int) ≤ 13 := by omega
  have HN := Lib.hid (bread_any (some ⟨b0, off, none⟩) c0 (l.take 4) w (by rw [List.length_take]; omega) (by have h := bs_sub hb 0 4 (by omega) (Nat.add_zero off).symm; rwa [List.drop_zero] at h))
  rw [show (l.take 4).length = 4 by rw [List.length_take]; omega, hk4.out] at HN
  have hkb : k < 4294967296 := by
    have h := nb_lt (l.take 4)
    rw [hk4.out, List.length_take, Nat.min_eq_left (by omega)] at h; exact h
  have hki2 : (k : Int) ≤ 4294967295 := by omega
  have hkw : IntKind.i64.wrap (k : Int) = (k : Int) := by rw [IntKind.wrap_i64]; omega
  have hki : 0 < (k : Int) := by omega
  have hki0 : ¬ (k : Int) = 0 := by omega
  have hcw : Hid (∀ W, Below w.heap.size w W → W.cell? ⟨b0, off + n4, none⟩ = some (.int .u8 (wd : Int))) := Lib.hid (fun W hW => by
    rcases hb.below hW with h0 | ⟨b, o, e, h3, h4⟩
    · omega
    · injection e with e; injection e with e1 e2; subst e1; subst e2
      have h5 := h4 (4 + n) (by omega)
      rw [HN4.out]
      rwa [hwv.out] at h5)
  have hcw0 := hcw.out w (Below.refl _ _)
  have hwi : (wd : Int) ≤ 255 := by
    have := (l.getD (4 + n) 0).toNat_lt
    rw [hwv.out] at this; omega
  have hww : IntKind.i64.wrap (wd : Int) = (wd : Int) := by rw [IntKind.wrap_i64]; omega
  have hg : ¬ 1048576 < (k : Int) := by omega
  have hgd : decide (1048576 < (k : Int)) = false := decide_eq_false hg
  have hhi : ¬ (len0 : Int) < (n5 : Int) := by omega
  have hhi2 : (n4 : Int) < (len0 : Int) := by omega
  have hhd : decide (len0 < n5) = false := decide_eq_false (by omega)
  have hwg : ¬ 64 < (wd : Int) := by omega
  have hwd : decide (64 < (wd : Int)) = false := decide_eq_false hwg
  have hn44 : n4 - 4 = n := by rw [HN4.out]; omega
  have i4 : (n4 : Int) ≤ (c0 : Int) := by omega
  have i0e : 4 < (c0 : Int) := by omega
  have hc4' : ¬ c0 = 4 := by omega
  have hw4 : IntKind.i64.wrap (n4 : Int) = (n4 : Int) := by rw [IntKind.wrap_i64]; omega
  have hmx : max (n4 : Int) 0 = (n4 : Int) := by omega
  obtain ⟨m, HM⟩ : ∃ m, Hid (m = nb ((l.drop 4).take n)) := ⟨_, rfl⟩
  have hmi : (m : Int) ≤ 18446744073709551615 := by
    have h5 : m < 18446744073709551616 := by rw [HM.out]; exact nb_lt8 (by rw [List.length_take]; omega)
    omega
  have HNn : Hid (∀ W, Below w.heap.size w W → Calls Tryz.prog 61 #[.slice (some ⟨b0, off + 4, none⟩) n (c0 - 4)] W fun e w' => e = .returned (.int .u64 (m : Int)) ∧ W = w') := Lib.hid (fun W hW => by
    have h := bread_any (some ⟨b0, off + 4, none⟩) (c0 - 4) ((l.drop 4).take n) W (by rw [List.length_take, List.length_drop]; omega) (bs_sub (hb.below hW) 4 n (by omega) rfl)
    rwa [show ((l.drop 4).take n).length = n by rw [List.length_take, List.length_drop]; omega, ← HM.out] at h)
  obtain ⟨TT, HTT⟩ : ∃ TT, Hid (TT = k * wd) := ⟨_, rfl⟩
  have hmul : (k : Int) * (wd : Int) = (TT : Int) := by rw [HTT.out]; simp
  have hTT : (TT : Int) ≤ 67108864 := by
    have h5 : k * wd ≤ 1048576 * 64 := Nat.mul_le_mul hk (by omega)
    rw [HTT.out]; omega
  obtain ⟨s, HS⟩ : ∃ s, Hid (s = (k * wd + 7) / 8) := ⟨_, rfl⟩
  have hsz : ((TT : Int) + 7) / 8 = (s : Int) := by rw [HS.out, HTT.out]; omega
  obtain ⟨l2, HL2⟩ : ∃ l2, Hid (l2 = l.drop (5 + n)) := ⟨_, rfl⟩
  obtain ⟨len2, HE2⟩ : ∃ len2, Hid (len2 = len0 - n5) := ⟨_, rfl⟩
  have hl2 : Hid (l2.length = len2) := Lib.hid (by rw [HL2.out, List.length_drop, HE2.out, HN5.out]; omega)
  have f1 : len0 - n5 = len2 := HE2.out.symm
  have i2l : (len2 : Int) ≤ 1048590 := by rw [HE2.out]; omega
  have i5 : (n5 : Int) ≤ (len0 : Int) := by omega
  have hBd : Below w.heap.size w w.drew := (Below.refl _ w).drew
  obtain ⟨c2, HC2⟩ : ∃ c2, Hid (c2 = c0 - n5) := ⟨_, rfl⟩
  have f1c : c0 - n5 = c2 := HC2.out.symm
  have i5c : (n5 : Int) < (c0 : Int) := by have := HN5.out; omega
  have i2c : (len2 : Int) ≤ (c2 : Int) := by rw [HE2.out, HC2.out]; omega
  have hb2 : Hid (∀ W, Below w.heap.size w W → Bs W (some ⟨b0, off + n5, none⟩) l2) := Lib.hid (fun W hW => by rw [HL2.out]; exact bs_tail (hb.below hW) (5 + n) (by omega) (by rw [HN5.out]))
  have i2' : (len2 : Int) < (s : Int) := by rw [HE2.out, HS.out, HN5.out]; omega
  clear hb hll hkb hh hcap hs HM
  go_enter Tryz.func47, Tryz.ntmps47
  go_wp2_with fail
  refine (HN.out).mono ?_
  rintro e w' ⟨rfl, rfl⟩
  go_wp2_with fail
  refine wp_region_noPanic ?_
  refine wp_region_held_drew (S := fun W' => W'.cell? ⟨b0, off + n4, none⟩ = some (.int .u8 (wd : Int))) (by kernel_rfl) (hcw.out _ hBd) (fun hHeld => ?_)
  refine wpAnyH_take (i := 0) (v := ?v1) rfl (by kernel_rfl) (by kernel_rfl) (by kernel_rfl) (fun _ _ _ h => h) (Or.inl ⟨by rfl, ?hy1⟩) (by assumption) ?rest1
  case hy1 =>
    intro W' hSw
    obtain e9 := hSw
    go_simp
    with_reducible rfl
  simp only [List.getElem_toArray, List.getElem_cons_zero, Act.put, List.setIfInBounds_toArray, List.set_cons_zero, List.set_cons_succ]
  refine wpAnyH_take (i := 1) (v := ?v2) rfl (by kernel_rfl) (by kernel_rfl) (by kernel_rfl) (fun _ _ _ h => h) (Or.inl ⟨by rfl, ?hy2⟩) (by assumption) ?rest2
  case hy2 =>
    intro W' hSw
    obtain e9 := hSw
    go_simp
    with_reducible rfl
  simp only [List.getElem_toArray, List.getElem_cons_zero, List.getElem_cons_succ, Act.put, List.setIfInBounds_toArray, List.set_cons_zero, List.set_cons_succ]
  refine wpAnyH_take (i := 2) (v := ?v3) rfl (by kernel_rfl) (by kernel_rfl) (by kernel_rfl) (fun _ _ _ h => h) (Or.inl ⟨by rfl, ?hy3⟩) (by assumption) ?rest3
  case hy3 =>
    intro W' hSw
    obtain e9 := hSw
    go_simp
    with_reducible rfl
  simp only [List.getElem_toArray, List.getElem_cons_zero, List.getElem_cons_succ, Act.put, List.setIfInBounds_toArray, List.set_cons_zero, List.set_cons_succ]
  refine wpAnyH_take (i := 3) (v := ?v4) rfl (by kernel_rfl) (by kernel_rfl) (by kernel_rfl) (fun _ _ _ h => h) (Or.inl ⟨by rfl, ?hy4⟩) (by assumption) ?rest4
  case hy4 =>
    intro W' hSw
    obtain e9 := hSw
    go_simp
    with_reducible rfl
  simp only [List.getElem_toArray, List.getElem_cons_zero, List.getElem_cons_succ, Act.put, List.setIfInBounds_toArray, List.set_cons_zero, List.set_cons_succ]
  refine wpAnyH_take (i := 5) (v := ?v5) rfl (by kernel_rfl) (by kernel_rfl) (by kernel_rfl) (fun _ _ _ h => h) (Or.inl ⟨by rfl, ?hy5⟩) (by assumption) ?rest5
  case hy5 =>
    intro W' hSw
    obtain e9 := hSw
    go_simp
    with_reducible rfl
  simp only [List.getElem_toArray, List.getElem_cons_zero, List.getElem_cons_succ, Act.put, List.setIfInBounds_toArray, List.set_cons_zero, List.set_cons_succ]
  refine wpAnyH_take (i := 6) (v := ?v6) rfl (by kernel_rfl) (by kernel_rfl) (by kernel_rfl) (fun _ _ _ h => h) (Or.inl ⟨by rfl, ?hy6⟩) (by assumption) ?rest6
  case hy6 =>
    intro W' hSw
    obtain e9 := hSw
    go_simp
    with_reducible rfl
  simp only [List.getElem_toArray, List.getElem_cons_zero, List.getElem_cons_succ, Act.put, List.setIfInBounds_toArray, List.set_cons_zero, List.set_cons_succ]
  refine wpAnyH_take (i := 7) (v := ?v7) rfl (by kernel_rfl) (by kernel_rfl) (by kernel_rfl) (fun _ _ _ h => h) (Or.inl ⟨by rfl, ?hy7⟩) (by assumption) ?rest7
  case hy7 =>
    intro W' hSw
    obtain e9 := hSw
    go_simp
    with_reducible rfl
  simp only [List.getElem_toArray, List.getElem_cons_zero, List.getElem_cons_succ, Act.put, List.setIfInBounds_toArray, List.set_cons_zero, List.set_cons_succ]
  refine wpAnyH_take (i := 8) (v := ?v8) rfl (by kernel_rfl) (by kernel_rfl) (by kernel_rfl) (fun _ _ _ h => h) (Or.inl ⟨by rfl, ?hy8⟩) (by assumption) ?rest8
  case hy8 =>
    intro W' hSw
    obtain e9 := hSw
    go_simp
    with_reducible rfl
  simp only [List.getElem_toArray, List.getElem_cons_zero, List.getElem_cons_succ, Act.put, List.setIfInBounds_toArray, List.set_cons_zero, List.set_cons_succ]
  refine wpAnyH_take (i := 9) (v := ?v9) rfl (by kernel_rfl) (by kernel_rfl) (by kernel_rfl) (fun _ _ _ h => h) (Or.inl ⟨by rfl, ?hy9⟩) (by assumption) ?rest9
  case hy9 =>
    intro W' hSw
    obtain e9 := hSw
    go_simp
    with_reducible rfl
  simp only [List.getElem_toArray, List.getElem_cons_zero, List.getElem_cons_succ, Act.put, List.setIfInBounds_toArray, List.set_cons_zero, List.set_cons_succ]
  refine wpAnyH_take (i := 10) (v := ?v10) rfl (by kernel_rfl) (by kernel_rfl) (by kernel_rfl) (fun _ _ _ h => h) (Or.inl ⟨by rfl, ?hy10⟩) (by assumption) ?rest10
  case hy10 =>
    intro W' hSw
    obtain e9 := hSw
    go_simp
    with_reducible rfl
  simp only [List.getElem_toArray, List.getElem_cons_zero, List.getElem_cons_succ, Act.put, List.setIfInBounds_toArray, List.set_cons_zero, List.set_cons_succ]
  refine wpAnyH_ready (rs := [4]) (by kernel_rfl) (by simp) ?_
  refine AllReadyH.cons (i := 4) rfl (fun K hK => ?_) AllReadyH.nil
  go_simp
  refine (HNn.out _ hBd).mono ?_
  rintro e W' ⟨rfl, rfl⟩
  refine hK.out _ _ (hcw.out _ hBd) (fun hHeld => ?_)
  clear hK K
  refine wpAnyH_ready (rs := [11]) (by kernel_rfl) (by simp) ?_
  refine AllReadyH.cons (i := 11) rfl (fun K hK => ?_) AllReadyH.nil
  go_simp
  refine hK.out _ _ (hcw.out _ hBd) (fun hHeld => ?_)
  clear hK K
  refine wpAnyH_ready (rs := [12]) (by kernel_rfl) (by simp) ?_
  refine AllReadyH.cons (i := 12) rfl (fun K hK => ?_) AllReadyH.nil
  go_simp
  refine hK.out _ _ (hcw.out _ hBd) (fun hHeld => ?_)
  clear hK K
  refine wpAnyH_done (by kernel_rfl) ?_ _
  refine NoPanic.normal ?_
  clear hHeld
  go_wp2_with fail
  go_ret3
  exact ⟨(Below.refl _ _).drew, rfl⟩
set_option maxRecDepth 100000 in
set_option maxHeartbeats 4000000 in
theorem runp_okA (b0 off len0 c0 n k : Nat) (l : List UInt8) (w : World) (h1 : 1 ≤ n) (h2 : n ≤ 8) (h4 : 4 ≤ len0) (hc : len0 ≤ c0) (hlm : len0 ≤ 1048590) (hl : Hid (l.length = len0)) (hk4 : Hid (nb (l.take 4) = k)) (hcap : 5 + n < c0) (wd : Nat) (hk0 : 0 < k) (hk : k ≤ 1048576) (hh : 5 + n ≤ len0) (hwv : Hid ((l.getD (4 + n) 0).toNat = wd)) (hw : wd ≤ 64) (hs : (k * wd + 7) / 8 ≤ len0 - (5 + n)) (hb : Bs w (some ⟨b0, off, none⟩) l) :
    Calls Tryz.prog 47 #[.slice (some ⟨b0, off, none⟩) len0 c0, .int .i64 (n : Int)] w (RunPost (unG (rdB (l.drop (5 + n))) wd (nb ((l.drop 4).take n)) k) ((l.drop (5 + n)).drop ((k * wd + 7) / 8)) w) := by
  have hll := hl.out
  have hn0 : 1 ≤ (n : Int) := by omega
  have hn8 : (n : Int) ≤ 8 := by omega
  have i0' : ¬ (len0 : Int) < 4 := by omega
  have i0 : 4 ≤ (len0 : Int) := by omega
  have i0c : 4 ≤ (c0 : Int) := by omega
  have i0d : (len0 : Int) ≤ (c0 : Int) := by omega
  have i0l : (len0 : Int) ≤ 1048590 := by omega
  obtain ⟨n4, HN4⟩ : ∃ n4, Hid (n4 = 4 + n) := ⟨_, rfl⟩
  obtain ⟨n5, HN5⟩ : ∃ n5, Hid (n5 = 5 + n) := ⟨_, rfl⟩
  have hn4 : 4 + (n : Int) = (n4 : Int) := by rw [HN4.out]; omega
  have hn5 : 5 + (n : Int) = (n5 : Int) := by rw [HN5.out]; omega
  have hn45 : (n4 : Int) < (n5 : Int) := by omega
  have hn4g : 4 ≤ (n4 : Int) := by omega
  have hn5l : (n5 : Int) ≤ 13 := by omega
  have HN := Lib.hid (bread_any (some ⟨b0, off, none⟩) c0 (l.take 4) w (by rw [List.length_take]; omega) (by have h := bs_sub hb 0 4 (by omega) (Nat.add_zero off).symm; rwa [List.drop_zero] at h))
  rw [show (l.take 4).length = 4 by rw [List.length_take]; omega, hk4.out] at HN
  have hkb : k < 4294967296 := by
    have h := nb_lt (l.take 4)
    rw [hk4.out, List.length_take, Nat.min_eq_left (by omega)] at h; exact h
  have hki2 : (k : Int) ≤ 4294967295 := by omega
  have hkw : IntKind.i64.wrap (k : Int) = (k : Int) := by rw [IntKind.wrap_i64]; omega
  have hki : 0 < (k : Int) := by omega
  have hki0 : ¬ (k : Int) = 0 := by omega
  have hcw : Hid (∀ W, Below w.heap.size w W → W.cell? ⟨b0, off + n4, none⟩ = some (.int .u8 (wd : Int))) := Lib.hid (fun W hW => by
    rcases hb.below hW with h0 | ⟨b, o, e, h3, h4⟩
    · omega
    · injection e with e; injection e with e1 e2; subst e1; subst e2
      have h5 := h4 (4 + n) (by omega)
      rw [HN4.out]
      rwa [hwv.out] at h5)
  have hcw0 := hcw.out w (Below.refl _ _)
  have hwi : (wd : Int) ≤ 255 := by
    have := (l.getD (4 + n) 0).toNat_lt
    rw [hwv.out] at this; omega
  have hww : IntKind.i64.wrap (wd : Int) = (wd : Int) := by rw [IntKind.wrap_i64]; omega
  have hg : ¬ 1048576 < (k : Int) := by omega
  have hgd : decide (1048576 < (k : Int)) = false := decide_eq_false hg
  have hhi : ¬ (len0 : Int) < (n5 : Int) := by omega
  have hhi2 : (n4 : Int) < (len0 : Int) := by omega
  have hhd : decide (len0 < n5) = false := decide_eq_false (by omega)
  have hwg : ¬ 64 < (wd : Int) := by omega
  have hwd : decide (64 < (wd : Int)) = false := decide_eq_false hwg
  have hn44 : n4 - 4 = n := by rw [HN4.out]; omega
  have i4 : (n4 : Int) ≤ (c0 : Int) := by omega
  have i0e : 4 < (c0 : Int) := by omega
  have hc4' : ¬ c0 = 4 := by omega
  have hw4 : IntKind.i64.wrap (n4 : Int) = (n4 : Int) := by rw [IntKind.wrap_i64]; omega
  have hmx : max (n4 : Int) 0 = (n4 : Int) := by omega
  obtain ⟨m, HM⟩ : ∃ m, Hid (m = nb ((l.drop 4).take n)) := ⟨_, rfl⟩
  have hmi : (m : Int) ≤ 18446744073709551615 := by
    have h5 : m < 18446744073709551616 := by rw [HM.out]; exact nb_lt8 (by rw [List.length_take]; omega)
    omega
  have HNn : Hid (∀ W, Below w.heap.size w W → Calls Tryz.prog 61 #[.slice (some ⟨b0, off + 4, none⟩) n (c0 - 4)] W fun e w' => e = .returned (.int .u64 (m : Int)) ∧ W = w') := Lib.hid (fun W hW => by
    have h := bread_any (some ⟨b0, off + 4, none⟩) (c0 - 4) ((l.drop 4).take n) W (by rw [List.length_take, List.length_drop]; omega) (bs_sub (hb.below hW) 4 n (by omega) rfl)
    rwa [show ((l.drop 4).take n).length = n by rw [List.length_take, List.length_drop]; omega, ← HM.out] at h)
  obtain ⟨TT, HTT⟩ : ∃ TT, Hid (TT = k * wd) := ⟨_, rfl⟩
  have hmul : (k : Int) * (wd : Int) = (TT : Int) := by rw [HTT.out]; simp
  have hTT : (TT : Int) ≤ 67108864 := by
    have h5 : k * wd ≤ 1048576 * 64 := Nat.mul_le_mul hk (by omega)
    rw [HTT.out]; omega
  obtain ⟨s, HS⟩ : ∃ s, Hid (s = (k * wd + 7) / 8) := ⟨_, rfl⟩
  have hsz : ((TT : Int) + 7) / 8 = (s : Int) := by rw [HS.out, HTT.out]; omega
  obtain ⟨l2, HL2⟩ : ∃ l2, Hid (l2 = l.drop (5 + n)) := ⟨_, rfl⟩
  obtain ⟨len2, HE2⟩ : ∃ len2, Hid (len2 = len0 - n5) := ⟨_, rfl⟩
  have hl2 : Hid (l2.length = len2) := Lib.hid (by rw [HL2.out, List.length_drop, HE2.out, HN5.out]; omega)
  have f1 : len0 - n5 = len2 := HE2.out.symm
  have i2l : (len2 : Int) ≤ 1048590 := by rw [HE2.out]; omega
  have i5 : (n5 : Int) ≤ (len0 : Int) := by omega
  have hBd : Below w.heap.size w w.drew := (Below.refl _ w).drew
  obtain ⟨c2, HC2⟩ : ∃ c2, Hid (c2 = c0 - n5) := ⟨_, rfl⟩
  have f1c : c0 - n5 = c2 := HC2.out.symm
  have i5c : (n5 : Int) < (c0 : Int) := by have := HN5.out; omega
  have i2c : (len2 : Int) ≤ (c2 : Int) := by rw [HE2.out, HC2.out]; omega
  have hb2 : Hid (∀ W, Below w.heap.size w W → Bs W (some ⟨b0, off + n5, none⟩) l2) := Lib.hid (fun W hW => by rw [HL2.out]; exact bs_tail (hb.below hW) (5 + n) (by omega) (by rw [HN5.out]))
  have hsl : s ≤ len2 := by rw [HE2.out, HS.out, HN5.out]; omega
  have i2 : (s : Int) ≤ (len2 : Int) := by omega
  have i2' : ¬ (len2 : Int) < (s : Int) := by omega
  have hdd : decide (len2 < s) = false := decide_eq_false (by omega)
  obtain ⟨len3, HE3⟩ : ∃ len3, Hid (len3 = len2 - s) := ⟨_, rfl⟩
  have f2 : len2 - s = len3 := HE3.out.symm
  obtain ⟨rs, HRS⟩ : ∃ rs, Hid (rs = l2.drop s) := ⟨_, rfl⟩
  have hrl : Hid (rs.length = len3) := Lib.hid (by rw [HRS.out, List.length_drop, hl2.out, HE3.out])
  obtain ⟨ti, hi, hz0, hz1, hz2⟩ := info_parts info79
  have e0 : nb ((l.drop 4).take n) = m := HM.out.symm
  have HTL : Hid (k * wd ≤ 8 * len2) := Lib.hid (by have := HS.out; omega)
  rw [e0, ← HL2.out, ← HS.out, ← HRS.out]
  have hb3 : Hid (∀ W, Below w.heap.size w W → Bs W (if c2 = s then some ⟨b0, off + n5, none⟩ else some ⟨b0, off + n5 + s, none⟩) rs) := Lib.hid (fun W hW => by
    split
    · exact .inl (by rw [hrl.out, HE3.out]; omega)
    · rw [HRS.out]; exact bs_tail (hb2.out W hW) s (by rw [hl2.out]; exact hsl) rfl)
  clear hb hll hkb hh hcap hs HM e0 hsl
  go_enter Tryz.func47, Tryz.ntmps47
  go_wp2_with fail
  refine (HN.out).mono ?_
  rintro e w' ⟨rfl, rfl⟩
  go_wp2_with fail
  refine wp_region_noPanic ?_
  refine wp_region_held_drew (S := fun W' => W'.cell? ⟨b0, off + n4, none⟩ = some (.int .u8 (wd : Int))) (by kernel_rfl) (hcw.out _ hBd) (fun hHeld => ?_)
  refine wpAnyH_take (i := 0) (v := ?v11) rfl (by kernel_rfl) (by kernel_rfl) (by kernel_rfl) (fun _ _ _ h => h) (Or.inl ⟨by rfl, ?hy11⟩) (by assumption) ?rest11
  case hy11 =>
    intro W' hSw
    obtain e9 := hSw
    go_simp
    with_reducible rfl
  simp only [List.getElem_toArray, List.getElem_cons_zero, Act.put, List.setIfInBounds_toArray, List.set_cons_zero, List.set_cons_succ]
  refine wpAnyH_take (i := 1) (v := ?v12) rfl (by kernel_rfl) (by kernel_rfl) (by kernel_rfl) (fun _ _ _ h => h) (Or.inl ⟨by rfl, ?hy12⟩) (by assumption) ?rest12
  case hy12 =>
    intro W' hSw
    obtain e9 := hSw
    go_simp
    with_reducible rfl
  simp only [List.getElem_toArray, List.getElem_cons_zero, List.getElem_cons_succ, Act.put, List.setIfInBounds_toArray, List.set_cons_zero, List.set_cons_succ]
  refine wpAnyH_take (i := 2) (v := ?v13) rfl (by kernel_rfl) (by kernel_rfl) (by kernel_rfl) (fun _ _ _ h => h) (Or.inl ⟨by rfl, ?hy13⟩) (by assumption) ?rest13
  case hy13 =>
    intro W' hSw
    obtain e9 := hSw
    go_simp
    with_reducible rfl
  simp only [List.getElem_toArray, List.getElem_cons_zero, List.getElem_cons_succ, Act.put, List.setIfInBounds_toArray, List.set_cons_zero, List.set_cons_succ]
  refine wpAnyH_take (i := 3) (v := ?v14) rfl (by kernel_rfl) (by kernel_rfl) (by kernel_rfl) (fun _ _ _ h => h) (Or.inl ⟨by rfl, ?hy14⟩) (by assumption) ?rest14
  case hy14 =>
    intro W' hSw
    obtain e9 := hSw
    go_simp
    with_reducible rfl
  simp only [List.getElem_toArray, List.getElem_cons_zero, List.getElem_cons_succ, Act.put, List.setIfInBounds_toArray, List.set_cons_zero, List.set_cons_succ]
  refine wpAnyH_take (i := 5) (v := ?v15) rfl (by kernel_rfl) (by kernel_rfl) (by kernel_rfl) (fun _ _ _ h => h) (Or.inl ⟨by rfl, ?hy15⟩) (by assumption) ?rest15
  case hy15 =>
    intro W' hSw
    obtain e9 := hSw
    go_simp
    with_reducible rfl
  simp only [List.getElem_toArray, List.getElem_cons_zero, List.getElem_cons_succ, Act.put, List.setIfInBounds_toArray, List.set_cons_zero, List.set_cons_succ]
  refine wpAnyH_take (i := 6) (v := ?v16) rfl (by kernel_rfl) (by kernel_rfl) (by kernel_rfl) (fun _ _ _ h => h) (Or.inl ⟨by rfl, ?hy16⟩) (by assumption) ?rest16
  case hy16 =>
    intro W' hSw
    obtain e9 := hSw
    go_simp
    with_reducible rfl
  simp only [List.getElem_toArray, List.getElem_cons_zero, List.getElem_cons_succ, Act.put, List.setIfInBounds_toArray, List.set_cons_zero, List.set_cons_succ]
  refine wpAnyH_take (i := 7) (v := ?v17) rfl (by kernel_rfl) (by kernel_rfl) (by kernel_rfl) (fun _ _ _ h => h) (Or.inl ⟨by rfl, ?hy17⟩) (by assumption) ?rest17
  case hy17 =>
    intro W' hSw
    obtain e9 := hSw
    go_simp
    with_reducible rfl
  simp only [List.getElem_toArray, List.getElem_cons_zero, List.getElem_cons_succ, Act.put, List.setIfInBounds_toArray, List.set_cons_zero, List.set_cons_succ]
  refine wpAnyH_take (i := 8) (v := ?v18) rfl (by kernel_rfl) (by kernel_rfl) (by kernel_rfl) (fun _ _ _ h => h) (Or.inl ⟨by rfl, ?hy18⟩) (by assumption) ?rest18
  case hy18 =>
    intro W' hSw
    obtain e9 := hSw
    go_simp
    with_reducible rfl
  simp only [List.getElem_toArray, List.getElem_cons_zero, List.getElem_cons_succ, Act.put, List.setIfInBounds_toArray, List.set_cons_zero, List.set_cons_succ]
  refine wpAnyH_take (i := 9) (v := ?v19) rfl (by kernel_rfl) (by kernel_rfl) (by kernel_rfl) (fun _ _ _ h => h) (Or.inl ⟨by rfl, ?hy19⟩) (by assumption) ?rest19
  case hy19 =>
    intro W' hSw
    obtain e9 := hSw
    go_simp
    with_reducible rfl
  simp only [List.getElem_toArray, List.getElem_cons_zero, List.getElem_cons_succ, Act.put, List.setIfInBounds_toArray, List.set_cons_zero, List.set_cons_succ]
  refine wpAnyH_take (i := 10) (v := ?v20) rfl (by kernel_rfl) (by kernel_rfl) (by kernel_rfl) (fun _ _ _ h => h) (Or.inl ⟨by rfl, ?hy20⟩) (by assumption) ?rest20
  case hy20 =>
    intro W' hSw
    obtain e9 := hSw
    go_simp
    with_reducible rfl
  simp only [List.getElem_toArray, List.getElem_cons_zero, List.getElem_cons_succ, Act.put, List.setIfInBounds_toArray, List.set_cons_zero, List.set_cons_succ]
  refine wpAnyH_ready (rs := [4]) (by kernel_rfl) (by simp) ?_
  refine AllReadyH.cons (i := 4) rfl (fun K hK => ?_) AllReadyH.nil
  go_simp
  refine (HNn.out _ hBd).mono ?_
  rintro e W' ⟨rfl, rfl⟩
  refine hK.out _ _ (hcw.out _ hBd) (fun hHeld => ?_)
  clear hK K
  refine wpAnyH_ready (rs := [11]) (by kernel_rfl) (by simp) ?_
  refine AllReadyH.cons (i := 11) rfl (fun K hK => ?_) AllReadyH.nil
  go_simp
  refine hK.out _ _ (hcw.out _ hBd) (fun hHeld => ?_)
  clear hK K
  refine wpAnyH_ready (rs := [12]) (by kernel_rfl) (by simp) ?_
  refine AllReadyH.cons (i := 12) rfl (fun K hK => ?_) AllReadyH.nil
  go_simp
  refine hK.out _ _ (hcw.out _ hBd) (fun hHeld => ?_)
  clear hK K
  refine wpAnyH_done (by kernel_rfl) ?_ _
  refine NoPanic.normal ?_
  clear hHeld
  go_wp2_with fail
  have HG0 : Hid (GrewU w.heap.size w.drew (.slice none 0 0) (unG (rdB l2) wd m 0) w.drew (.slice none 0 0)) := Lib.hid (GrewU.refl (l := []) (World.ownsRow_nil w.drew w.heap.size 38 1))
  (try simp only [hsz])
  go_loopw [12, 13] (fun vr iv wr => ∃ (i : Nat), i ≤ k ∧ iv = .int .i64 i ∧ Hid (GrewU w.heap.size w.drew (.slice none 0 0) (unG (rdB l2) wd m i) wr vr)) (fun _ iv _ => k - (Go.RowKit.intOf iv).toNat)
  case atStart => exact ⟨0, Nat.zero_le _, rfl, HG0⟩
  case round =>
    obtain ⟨i, hik, rfl, HG⟩ := hrel
    have hbw : Hid (Below w.heap.size w wr) := Lib.hid (hBd.trans (HG.out.below (Nat.le_refl _) (by intro k hk; cases hk)))
    by_cases hilt : i < k
    · have hilt' : (i : Int) < k := by omega
      obtain ⟨P, HP⟩ : ∃ P, Hid (P = i * wd) := ⟨_, rfl⟩
      have hmulP : (i : Int) * (wd : Int) = (P : Int) := by rw [HP.out]; simp
      have hPT : P + wd ≤ 8 * len2 := by
        have h5 : (i + 1) * wd ≤ k * wd := Nat.mul_le_mul_right _ hilt
        have h6 := HTL.out
        rw [Nat.succ_mul] at h5
        rw [HP.out]; omega
      go_wp2_with fail
      go_loop [14, 15] (fun xv jv => ∃ (j x : Nat), j ≤ wd ∧ jv = .int .i64 j ∧ xv = .int .u64 (x : Int) ∧ Hid (x = dfB (rdB l2) P j)) (fun _ jv => wd - (Go.RowKit.intOf jv).toNat)
      case atStart => exact ⟨0, 0, Nat.zero_le _, rfl, rfl, Lib.hid rfl⟩
      case round =>
        obtain ⟨j, x, hj, rfl, rfl, HX⟩ := hrel
        by_cases hjw : j < wd
        · have hjw' : (j : Int) < wd := by omega
          obtain ⟨T1, HT1⟩ : ∃ T1, Hid (T1 = P + j) := ⟨_, rfl⟩
          have hTs : (P : Int) + (j : Int) = (T1 : Int) := by rw [HT1.out]; omega
          have hT1 : T1 < 8 * len2 := by rw [HT1.out]; omega
          have hT1i : (T1 : Int) ≤ 8388720 := by omega
          obtain ⟨q8, HQ8⟩ : ∃ q8, Hid (q8 = T1 / 8) := ⟨_, rfl⟩
          have hq8 : (T1 : Int) / 8 = (q8 : Int) := by rw [HQ8.out]; omega
          have hq8l : q8 < len2 := by rw [HQ8.out]; omega
          have hq8i : (q8 : Int) < len2 := by omega
          obtain ⟨b1, o1, v, e1, hb1, hc1, hv, hv2⟩ := (hb2.out wr hbw.out).at (k := q8) (by rw [hl2.out]; exact hq8l)
          cases e1
          obtain ⟨r7, HR7⟩ : ∃ r7, Hid (r7 = 7 - T1 % 8) := ⟨_, rfl⟩
          have hr7l : (r7 : Int) ≤ 7 := by rw [HR7.out]; omega
          have hr7 : 7 - (T1 : Int) % 8 = (r7 : Int) := by rw [HR7.out]; omega
          obtain ⟨bt, HBT⟩ : ∃ bt, Hid (bt = v / 2 ^ r7 % 2) := ⟨_, rfl⟩
          have hbt : bt < 2 := by rw [HBT.out]; exact Nat.mod_lt _ (by decide)
          have hbti : (bt : Int) ≤ 1 := by omega
          have hand : bits .and .u8 ((v : Int) / 2 ^ r7) 1 = (bt : Int) := by rw [and_bit (by omega), HBT.out]
          have hxl : x < W64 := by rw [HX.out]; exact dfB_lt (rdB_lt l2) _ _
          have hxi : (x : Int) ≤ 18446744073709551615 := by unfold W64 at hxl; omega
          obtain ⟨x2, HX2⟩ : ∃ x2, Hid (x2 = 2 * x % W64 + bt) := ⟨_, rfl⟩
          have hor : bits .or .u64 (IntKind.u64.wrap ((x : Int) * 2)) (bt : Int) = (x2 : Int) := by rw [or_bit hbt, HX2.out]
          have hx2 : Hid (x2 = dfB (rdB l2) P (j + 1)) := Lib.hid (by
            rw [dfB, ← HX.out, HX2.out, HBT.out, rdB, ← HT1.out, ← HQ8.out, hv.out, ← HR7.out])
          clear hxl hbt
          go_wp2_with fail
          go_round
          case rel => exact ⟨j + 1, x2, by omega, by go_num, by first | rfl | rw [hor], hx2⟩
          case measure => simp [Go.RowKit.intOf]; omega
        · obtain rfl : j = wd := by omega
          obtain ⟨z, HZ⟩ : ∃ z, Hid (z = (m + x) % W64) := ⟨_, rfl⟩
          have hadd : IntKind.u64.wrap ((m : Int) + (x : Int)) = (z : Int) := by rw [IntKind.wrap_u64, HZ.out]; unfold W64; omega
          have hxl : x < W64 := by rw [HX.out]; exact dfB_lt (rdB_lt l2) _ _
          have hxi : (x : Int) ≤ 18446744073709551615 := by unfold W64 at hxl; omega
          obtain ⟨G, HGG⟩ : ∃ G, Hid (G = unG (rdB l2) j m i) := ⟨_, rfl⟩
          rw [← HGG.out] at HG
          have hbl : Hid (G.length + 1 ≤ maxLen ∧ (G.length + 1) * 8 ≤ 140737488355328 ∧ w.heap.size ≤ wr.heap.size + 1) := Lib.hid (by
            have h3 := hbw.out.size
            rw [HGG.out, unG_length]; unfold maxLen
            omega)
          clear hxl
          go_wp2_with (at_builtin; refine wpList_append_own_at _ rfl (.tmp 98) (.tmp 102) 42 rfl w.heap.size 38 ti (.int .u64 0) 1 8 Tryz.underlying42 hi hz0 hz1 hz2 rfl (by decide) _ _ _ rfl ((HG.out.own).alloc _) ⟨_, 0, none⟩ 1 1 [.int .u64 (z : Int)] rfl rfl (cell_one_new _ _ _) (by intro u hu; simp at hu; subst hu; rfl) hbl.out.1 hbl.out.2.1 (by simp; exact hbl.out.2.2) ?_)
          intro v5 w5 hown5 hgrow5 _ hat5
          have HG5 := Lib.hid (HG.out.next rfl hown5 hgrow5 hat5)
          rw [show G ++ [z] = unG (rdB l2) j m (i + 1) by rw [unG_succ, ← HGG.out, unV, ← HP.out, ← HX.out, ← HZ.out]] at HG5
          clear hown5 hgrow5 hat5
          go_wp2_with fail
          go_roundw
          case rel => exact ⟨i + 1, by omega, by go_num, HG5⟩
          case measure => simp [Go.RowKit.intOf]; omega
    · obtain rfl : i = k := by omega
      obtain ⟨qo, co, hvv, hrd, -⟩ := own_rd64 HG.out.own
      subst hvv
      have hlg : (unG (rdB l2) wd m i).length = i := unG_length _ _ _ _
      have HFIN : Hid (∀ (q : Option Addr) (d : Nat), Bs wr.drew q rs → RunPost (unG (rdB l2) wd m i) rs w (.returned (.tuple #[.slice qo i co, .slice q len3 d, .bool true])) wr.drew) := Lib.hid (fun q d hq => ⟨hbw.out.drew, qo, co, q, d, by rw [hlg, hrl.out], by rw [hlg] at hrd ⊢; exact hrd.below (Below.refl _ _).drew, hq⟩)
      rw [hlg]
      clear hrd HG
      have hBwd : Below w.heap.size w wr.drew := hbw.out.drew
      go_wp2_with fail
      refine wp_region_noPanic ?_
      refine wp_region_held_drew (S := fun _ => True) (by kernel_rfl) trivial (fun hHeld => ?_)
      refine wpAnyH_take (i := 0) (v := ?v21) rfl (by kernel_rfl) (by kernel_rfl) (by kernel_rfl) (fun _ _ _ h => h) (Or.inl ⟨by rfl, ?hy21⟩) (by assumption) ?rest21
      case hy21 =>
        intro W' hSw
        obtain _ := hSw
        go_simp
        with_reducible rfl
      simp only [List.getElem_toArray, List.getElem_cons_zero, Act.put, List.setIfInBounds_toArray, List.set_cons_zero, List.set_cons_succ]
      refine wpAnyH_take (i := 1) (v := ?v22) rfl (by kernel_rfl) (by kernel_rfl) (by kernel_rfl) (fun _ _ _ h => h) (Or.inl ⟨by rfl, ?hy22⟩) (by assumption) ?rest22
      case hy22 =>
        intro W' hSw
        obtain _ := hSw
        go_simp
        with_reducible rfl
      simp only [List.getElem_toArray, List.getElem_cons_zero, List.getElem_cons_succ, Act.put, List.setIfInBounds_toArray, List.set_cons_zero, List.set_cons_succ]
      refine wpAnyH_take (i := 2) (v := ?v23) rfl (by kernel_rfl) (by kernel_rfl) (by kernel_rfl) (fun _ _ _ h => h) (Or.inl ⟨by rfl, ?hy23⟩) (by assumption) ?rest23
      case hy23 =>
        intro W' hSw
        obtain _ := hSw
        go_simp
        with_reducible rfl
      simp only [List.getElem_toArray, List.getElem_cons_zero, List.getElem_cons_succ, Act.put, List.setIfInBounds_toArray, List.set_cons_zero, List.set_cons_succ]
      refine wpAnyH_take (i := 3) (v := ?v24) rfl (by kernel_rfl) (by kernel_rfl) (by kernel_rfl) (fun _ _ _ h => h) (Or.inl ⟨by rfl, ?hy24⟩) (by assumption) ?rest24
      case hy24 =>
        intro W' hSw
        obtain _ := hSw
        go_simp
        with_reducible rfl
      simp only [List.getElem_toArray, List.getElem_cons_zero, List.getElem_cons_succ, Act.put, List.setIfInBounds_toArray, List.set_cons_zero, List.set_cons_succ]
      refine wpAnyH_ready (rs := [4]) (by kernel_rfl) (by simp) ?_
      refine AllReadyH.cons (i := 4) rfl (fun K hK => ?_) AllReadyH.nil
      go_simp
      refine hK.out _ _ (trivial) (fun hHeld => ?_)
      clear hK K
      refine wpAnyH_ready (rs := [5]) (by kernel_rfl) (by simp) ?_
      refine AllReadyH.cons (i := 5) rfl (fun K hK => ?_) AllReadyH.nil
      go_simp
      refine hK.out _ _ (trivial) (fun hHeld => ?_)
      clear hK K
      refine wpAnyH_ready (rs := [6]) (by kernel_rfl) (by simp) ?_
      refine AllReadyH.cons (i := 6) rfl (fun K hK => ?_) AllReadyH.nil
      go_simp
      refine hK.out _ _ (trivial) (fun hHeld => ?_)
      clear hK K
      refine wpAnyH_done (by kernel_rfl) ?_ _
      refine NoPanic.normal ?_
      clear hHeld
      have hq3 := Lib.hid (hb3.out _ hBwd)
      go_wp2_with fail
      all_goals (go_ret3; first | exact HFIN.out _ _ hq3.out | (have h := hq3.out; rw [if_pos (by assumption)] at h; exact HFIN.out _ _ h) | (have h := hq3.out; rw [if_neg (by assumption)] at h; exact HFIN.out _ _ h))
set_option maxRecDepth 100000 in
set_option maxHeartbeats 4000000 in
theorem runp_bitsB (b0 off len0 c0 n k : Nat) (l : List UInt8) (w : World) (h1 : 1 ≤ n) (h2 : n ≤ 8) (_h4 : 4 ≤ len0) (hc : len0 ≤ c0) (_hlm : len0 ≤ 1048590) (hl : Hid (l.length = len0)) (hk4 : Hid (nb (l.take 4) = k)) (hcap : c0 = 5 + n) (wd : Nat) (hk0 : 0 < k) (hk : k ≤ 1048576) (hh : 5 + n ≤ len0) (hwv : Hid ((l.getD (4 + n) 0).toNat = wd)) (hw : wd ≤ 64) (hs : len0 - (5 + n) < (k * wd + 7) / 8) (hb : Bs w (some ⟨b0, off, none⟩) l) :
    Calls Tryz.prog 47 #[.slice (some ⟨b0, off, none⟩) len0 c0, .int .i64 (n : Int)] w (RunBad w) := by
  have hll := hl.out
  have hn0 : 1 ≤ (n : Int) := by omega
  have hn8 : (n : Int) ≤ 8 := by omega
  have i0' : ¬ (len0 : Int) < 4 := by omega
  have i0 : 4 ≤ (len0 : Int) := by omega
  have i0c : 4 ≤ (c0 : Int) := by omega
  have i0d : (len0 : Int) ≤ (c0 : Int) := by omega
  have i0l : (len0 : Int) ≤ 1048590 := by omega
  obtain ⟨n4, HN4⟩ : ∃ n4, Hid (n4 = 4 + n) := ⟨_, rfl⟩
  obtain ⟨n5, HN5⟩ : ∃ n5, Hid (n5 = 5 + n) := ⟨_, rfl⟩
  have hn4 : 4 + (n : Int) = (n4 : Int) := by rw [HN4.out]; omega
  have hn5 : 5 + (n : Int) = (n5 : Int) := by rw [HN5.out]; omega
  have hn45 : (n4 : Int) < (n5 : Int) := by omega
  have hn4g : 4 ≤ (n4 : Int) := by omega
  have hn5l : (n5 : Int) ≤ 13 := by omega
  have HN := Lib.hid (bread_any (some ⟨b0, off, none⟩) c0 (l.take 4) w (by rw [List.length_take]; omega) (by have h := bs_sub hb 0 4 (by omega) (Nat.add_zero off).symm; rwa [List.drop_zero] at h))
  rw [show (l.take 4).length = 4 by rw [List.length_take]; omega, hk4.out] at HN
  have hkb : k < 4294967296 := by
    have h := nb_lt (l.take 4)
    rw [hk4.out, List.length_take, Nat.min_eq_left (by omega)] at h; exact h
  have hki2 : (k : Int) ≤ 4294967295 := by omega
  have hkw : IntKind.i64.wrap (k : Int) = (k : Int) := by rw [IntKind.wrap_i64]; omega
  have hki : 0 < (k : Int) := by omega
  have hki0 : ¬ (k : Int) = 0 := by omega
  have hcw : Hid (∀ W, Below w.heap.size w W → W.cell? ⟨b0, off + n4, none⟩ = some (.int .u8 (wd : Int))) := Lib.hid (fun W hW => by
    rcases hb.below hW with h0 | ⟨b, o, e, h3, h4⟩
    · omega
    · injection e with e; injection e with e1 e2; subst e1; subst e2
      have h5 := h4 (4 + n) (by omega)
      rw [HN4.out]
      rwa [hwv.out] at h5)
  have hcw0 := hcw.out w (Below.refl _ _)
  have hwi : (wd : Int) ≤ 255 := by
    have := (l.getD (4 + n) 0).toNat_lt
    rw [hwv.out] at this; omega
  have hww : IntKind.i64.wrap (wd : Int) = (wd : Int) := by rw [IntKind.wrap_i64]; omega
  have hg : ¬ 1048576 < (k : Int) := by omega
  have hgd : decide (1048576 < (k : Int)) = false := decide_eq_false hg
  have hhi : ¬ (len0 : Int) < (n5 : Int) := by omega
  have hhi2 : (n4 : Int) < (len0 : Int) := by omega
  have hhd : decide (len0 < n5) = false := decide_eq_false (by omega)
  have hwg : ¬ 64 < (wd : Int) := by omega
  have hwd : decide (64 < (wd : Int)) = false := decide_eq_false hwg
  have hn44 : n4 - 4 = n := by rw [HN4.out]; omega
  have i4 : (n4 : Int) ≤ (c0 : Int) := by omega
  have i0e : 4 < (c0 : Int) := by omega
  have hc4' : ¬ c0 = 4 := by omega
  have hw4 : IntKind.i64.wrap (n4 : Int) = (n4 : Int) := by rw [IntKind.wrap_i64]; omega
  have hmx : max (n4 : Int) 0 = (n4 : Int) := by omega
  obtain ⟨m, HM⟩ : ∃ m, Hid (m = nb ((l.drop 4).take n)) := ⟨_, rfl⟩
  have hmi : (m : Int) ≤ 18446744073709551615 := by
    have h5 : m < 18446744073709551616 := by rw [HM.out]; exact nb_lt8 (by rw [List.length_take]; omega)
    omega
  have HNn : Hid (∀ W, Below w.heap.size w W → Calls Tryz.prog 61 #[.slice (some ⟨b0, off + 4, none⟩) n (c0 - 4)] W fun e w' => e = .returned (.int .u64 (m : Int)) ∧ W = w') := Lib.hid (fun W hW => by
    have h := bread_any (some ⟨b0, off + 4, none⟩) (c0 - 4) ((l.drop 4).take n) W (by rw [List.length_take, List.length_drop]; omega) (bs_sub (hb.below hW) 4 n (by omega) rfl)
    rwa [show ((l.drop 4).take n).length = n by rw [List.length_take, List.length_drop]; omega, ← HM.out] at h)
  obtain ⟨TT, HTT⟩ : ∃ TT, Hid (TT = k * wd) := ⟨_, rfl⟩
  have hmul : (k : Int) * (wd : Int) = (TT : Int) := by rw [HTT.out]; simp
  have hTT : (TT : Int) ≤ 67108864 := by
    have h5 : k * wd ≤ 1048576 * 64 := Nat.mul_le_mul hk (by omega)
    rw [HTT.out]; omega
  obtain ⟨s, HS⟩ : ∃ s, Hid (s = (k * wd + 7) / 8) := ⟨_, rfl⟩
  have hsz : ((TT : Int) + 7) / 8 = (s : Int) := by rw [HS.out, HTT.out]; omega
  obtain ⟨l2, HL2⟩ : ∃ l2, Hid (l2 = l.drop (5 + n)) := ⟨_, rfl⟩
  obtain ⟨len2, HE2⟩ : ∃ len2, Hid (len2 = len0 - n5) := ⟨_, rfl⟩
  have hl2 : Hid (l2.length = len2) := Lib.hid (by rw [HL2.out, List.length_drop, HE2.out, HN5.out]; omega)
  have f1 : len0 - n5 = len2 := HE2.out.symm
  have i2l : (len2 : Int) ≤ 1048590 := by rw [HE2.out]; omega
  have i5 : (n5 : Int) ≤ (len0 : Int) := by omega
  have hBd : Below w.heap.size w w.drew := (Below.refl _ w).drew
  have hb2 : Hid (∀ (W : World) (q : Option Addr), Bs W q l2) := Lib.hid (fun W q => .inl (by rw [hl2.out, HE2.out, HN5.out]; omega))
  have z5 : len0 = n5 := by rw [HN5.out]; omega
  have zc : len0 = c0 := by omega
  have z2 : len2 = 0 := by rw [HE2.out, HN5.out]; omega
  clear f1
  subst z5
  subst zc
  subst z2
  have zs : 0 < (s : Int) := by rw [HS.out]; omega
  clear hb hll hkb hh hcap hs HM i5
  go_enter Tryz.func47, Tryz.ntmps47
  go_wp2_with fail
  refine (HN.out).mono ?_
  rintro e w' ⟨rfl, rfl⟩
  go_wp2_with fail
  refine wp_region_noPanic ?_
  refine wp_region_held_drew (S := fun W' => W'.cell? ⟨b0, off + n4, none⟩ = some (.int .u8 (wd : Int))) (by kernel_rfl) (hcw.out _ hBd) (fun hHeld => ?_)
  refine wpAnyH_take (i := 0) (v := ?v25) rfl (by kernel_rfl) (by kernel_rfl) (by kernel_rfl) (fun _ _ _ h => h) (Or.inl ⟨by rfl, ?hy25⟩) (by assumption) ?rest25
  case hy25 =>
    intro W' hSw
    obtain e9 := hSw
    go_simp
    with_reducible rfl
  simp only [List.getElem_toArray, List.getElem_cons_zero, Act.put, List.setIfInBounds_toArray, List.set_cons_zero, List.set_cons_succ]
  refine wpAnyH_take (i := 1) (v := ?v26) rfl (by kernel_rfl) (by kernel_rfl) (by kernel_rfl) (fun _ _ _ h => h) (Or.inl ⟨by rfl, ?hy26⟩) (by assumption) ?rest26
  case hy26 =>
    intro W' hSw
    obtain e9 := hSw
    go_simp
    with_reducible rfl
  simp only [List.getElem_toArray, List.getElem_cons_zero, List.getElem_cons_succ, Act.put, List.setIfInBounds_toArray, List.set_cons_zero, List.set_cons_succ]
  refine wpAnyH_take (i := 2) (v := ?v27) rfl (by kernel_rfl) (by kernel_rfl) (by kernel_rfl) (fun _ _ _ h => h) (Or.inl ⟨by rfl, ?hy27⟩) (by assumption) ?rest27
  case hy27 =>
    intro W' hSw
    obtain e9 := hSw
    go_simp
    with_reducible rfl
  simp only [List.getElem_toArray, List.getElem_cons_zero, List.getElem_cons_succ, Act.put, List.setIfInBounds_toArray, List.set_cons_zero, List.set_cons_succ]
  refine wpAnyH_take (i := 3) (v := ?v28) rfl (by kernel_rfl) (by kernel_rfl) (by kernel_rfl) (fun _ _ _ h => h) (Or.inl ⟨by rfl, ?hy28⟩) (by assumption) ?rest28
  case hy28 =>
    intro W' hSw
    obtain e9 := hSw
    go_simp
    with_reducible rfl
  simp only [List.getElem_toArray, List.getElem_cons_zero, List.getElem_cons_succ, Act.put, List.setIfInBounds_toArray, List.set_cons_zero, List.set_cons_succ]
  refine wpAnyH_take (i := 5) (v := ?v29) rfl (by kernel_rfl) (by kernel_rfl) (by kernel_rfl) (fun _ _ _ h => h) (Or.inl ⟨by rfl, ?hy29⟩) (by assumption) ?rest29
  case hy29 =>
    intro W' hSw
    obtain e9 := hSw
    go_simp
    with_reducible rfl
  simp only [List.getElem_toArray, List.getElem_cons_zero, List.getElem_cons_succ, Act.put, List.setIfInBounds_toArray, List.set_cons_zero, List.set_cons_succ]
  refine wpAnyH_take (i := 6) (v := ?v30) rfl (by kernel_rfl) (by kernel_rfl) (by kernel_rfl) (fun _ _ _ h => h) (Or.inl ⟨by rfl, ?hy30⟩) (by assumption) ?rest30
  case hy30 =>
    intro W' hSw
    obtain e9 := hSw
    go_simp
    with_reducible rfl
  simp only [List.getElem_toArray, List.getElem_cons_zero, List.getElem_cons_succ, Act.put, List.setIfInBounds_toArray, List.set_cons_zero, List.set_cons_succ]
  refine wpAnyH_take (i := 7) (v := ?v31) rfl (by kernel_rfl) (by kernel_rfl) (by kernel_rfl) (fun _ _ _ h => h) (Or.inl ⟨by rfl, ?hy31⟩) (by assumption) ?rest31
  case hy31 =>
    intro W' hSw
    obtain e9 := hSw
    go_simp
    with_reducible rfl
  simp only [List.getElem_toArray, List.getElem_cons_zero, List.getElem_cons_succ, Act.put, List.setIfInBounds_toArray, List.set_cons_zero, List.set_cons_succ]
  refine wpAnyH_take (i := 8) (v := ?v32) rfl (by kernel_rfl) (by kernel_rfl) (by kernel_rfl) (fun _ _ _ h => h) (Or.inl ⟨by rfl, ?hy32⟩) (by assumption) ?rest32
  case hy32 =>
    intro W' hSw
    obtain e9 := hSw
    go_simp
    with_reducible rfl
  simp only [List.getElem_toArray, List.getElem_cons_zero, List.getElem_cons_succ, Act.put, List.setIfInBounds_toArray, List.set_cons_zero, List.set_cons_succ]
  refine wpAnyH_take (i := 9) (v := ?v33) rfl (by kernel_rfl) (by kernel_rfl) (by kernel_rfl) (fun _ _ _ h => h) (Or.inl ⟨by rfl, ?hy33⟩) (by assumption) ?rest33
  case hy33 =>
    intro W' hSw
    obtain e9 := hSw
    go_simp
    with_reducible rfl
  simp only [List.getElem_toArray, List.getElem_cons_zero, List.getElem_cons_succ, Act.put, List.setIfInBounds_toArray, List.set_cons_zero, List.set_cons_succ]
  refine wpAnyH_take (i := 10) (v := ?v34) rfl (by kernel_rfl) (by kernel_rfl) (by kernel_rfl) (fun _ _ _ h => h) (Or.inl ⟨by rfl, ?hy34⟩) (by assumption) ?rest34
  case hy34 =>
    intro W' hSw
    obtain e9 := hSw
    go_simp
    with_reducible rfl
  simp only [List.getElem_toArray, List.getElem_cons_zero, List.getElem_cons_succ, Act.put, List.setIfInBounds_toArray, List.set_cons_zero, List.set_cons_succ]
  refine wpAnyH_ready (rs := [4]) (by kernel_rfl) (by simp) ?_
  refine AllReadyH.cons (i := 4) rfl (fun K hK => ?_) AllReadyH.nil
  go_simp
  refine (HNn.out _ hBd).mono ?_
  rintro e W' ⟨rfl, rfl⟩
  refine hK.out _ _ (hcw.out _ hBd) (fun hHeld => ?_)
  clear hK K
  refine wpAnyH_ready (rs := [11]) (by kernel_rfl) (by simp) ?_
  refine AllReadyH.cons (i := 11) rfl (fun K hK => ?_) AllReadyH.nil
  go_simp
  refine hK.out _ _ (hcw.out _ hBd) (fun hHeld => ?_)
  clear hK K
  refine wpAnyH_ready (rs := [12]) (by kernel_rfl) (by simp) ?_
  refine AllReadyH.cons (i := 12) rfl (fun K hK => ?_) AllReadyH.nil
  go_simp
  refine hK.out _ _ (hcw.out _ hBd) (fun hHeld => ?_)
  clear hK K
  refine wpAnyH_done (by kernel_rfl) ?_ _
  refine NoPanic.normal ?_
  clear hHeld
  go_wp2_with fail
  go_ret3
  exact ⟨(Below.refl _ _).drew, rfl⟩
set_option maxRecDepth 100000 in
set_option maxHeartbeats 4000000 in
theorem runp_okB (b0 off len0 c0 n k : Nat) (l : List UInt8) (w : World) (h1 : 1 ≤ n) (h2 : n ≤ 8) (_h4 : 4 ≤ len0) (hc : len0 ≤ c0) (_hlm : len0 ≤ 1048590) (hl : Hid (l.length = len0)) (hk4 : Hid (nb (l.take 4) = k)) (hcap : c0 = 5 + n) (wd : Nat) (hk0 : 0 < k) (hk : k ≤ 1048576) (hh : 5 + n ≤ len0) (hwv : Hid ((l.getD (4 + n) 0).toNat = wd)) (hw : wd ≤ 64) (hs : (k * wd + 7) / 8 ≤ len0 - (5 + n)) (hb : Bs w (some ⟨b0, off, none⟩) l) :
    Calls Tryz.prog 47 #[.slice (some ⟨b0, off, none⟩) len0 c0, .int .i64 (n : Int)] w (RunPost (unG (rdB (l.drop (5 + n))) wd (nb ((l.drop 4).take n)) k) ((l.drop (5 + n)).drop ((k * wd + 7) / 8)) w) := by
  have hll := hl.out
  have hn0 : 1 ≤ (n : Int) := by omega
  have hn8 : (n : Int) ≤ 8 := by omega
  have i0' : ¬ (len0 : Int) < 4 := by omega
  have i0 : 4 ≤ (len0 : Int) := by omega
  have i0c : 4 ≤ (c0 : Int) := by omega
  have i0d : (len0 : Int) ≤ (c0 : Int) := by omega
  have i0l : (len0 : Int) ≤ 1048590 := by omega
  obtain ⟨n4, HN4⟩ : ∃ n4, Hid (n4 = 4 + n) := ⟨_, rfl⟩
  obtain ⟨n5, HN5⟩ : ∃ n5, Hid (n5 = 5 + n) := ⟨_, rfl⟩
  have hn4 : 4 + (n : Int) = (n4 : Int) := by rw [HN4.out]; omega
  have hn5 : 5 + (n : Int) = (n5 : Int) := by rw [HN5.out]; omega
  have hn45 : (n4 : Int) < (n5 : Int) := by omega
  have hn4g : 4 ≤ (n4 : Int) := by omega
  have hn5l : (n5 : Int) ≤ 13 := by omega
  have HN := Lib.hid (bread_any (some ⟨b0, off, none⟩) c0 (l.take 4) w (by rw [List.length_take]; omega) (by have h := bs_sub hb 0 4 (by omega) (Nat.add_zero off).symm; rwa [List.drop_zero] at h))
  rw [show (l.take 4).length = 4 by rw [List.length_take]; omega, hk4.out] at HN
  have hkb : k < 4294967296 := by
    have h := nb_lt (l.take 4)
    rw [hk4.out, List.length_take, Nat.min_eq_left (by omega)] at h; exact h
  have hki2 : (k : Int) ≤ 4294967295 := by omega
  have hkw : IntKind.i64.wrap (k : Int) = (k : Int) := by rw [IntKind.wrap_i64]; omega
  have hki : 0 < (k : Int) := by omega
  have hki0 : ¬ (k : Int) = 0 := by omega
  have hcw : Hid (∀ W, Below w.heap.size w W → W.cell? ⟨b0, off + n4, none⟩ = some (.int .u8 (wd : Int))) := Lib.hid (fun W hW => by
    rcases hb.below hW with h0 | ⟨b, o, e, h3, h4⟩
    · omega
    · injection e with e; injection e with e1 e2; subst e1; subst e2
      have h5 := h4 (4 + n) (by omega)
      rw [HN4.out]
      rwa [hwv.out] at h5)
  have hcw0 := hcw.out w (Below.refl _ _)
  have hwi : (wd : Int) ≤ 255 := by
    have := (l.getD (4 + n) 0).toNat_lt
    rw [hwv.out] at this; omega
  have hww : IntKind.i64.wrap (wd : Int) = (wd : Int) := by rw [IntKind.wrap_i64]; omega
  have hg : ¬ 1048576 < (k : Int) := by omega
  have hgd : decide (1048576 < (k : Int)) = false := decide_eq_false hg
  have hhi : ¬ (len0 : Int) < (n5 : Int) := by omega
  have hhi2 : (n4 : Int) < (len0 : Int) := by omega
  have hhd : decide (len0 < n5) = false := decide_eq_false (by omega)
  have hwg : ¬ 64 < (wd : Int) := by omega
  have hwd : decide (64 < (wd : Int)) = false := decide_eq_false hwg
  have hn44 : n4 - 4 = n := by rw [HN4.out]; omega
  have i4 : (n4 : Int) ≤ (c0 : Int) := by omega
  have i0e : 4 < (c0 : Int) := by omega
  have hc4' : ¬ c0 = 4 := by omega
  have hw4 : IntKind.i64.wrap (n4 : Int) = (n4 : Int) := by rw [IntKind.wrap_i64]; omega
  have hmx : max (n4 : Int) 0 = (n4 : Int) := by omega
  obtain ⟨m, HM⟩ : ∃ m, Hid (m = nb ((l.drop 4).take n)) := ⟨_, rfl⟩
  have hmi : (m : Int) ≤ 18446744073709551615 := by
    have h5 : m < 18446744073709551616 := by rw [HM.out]; exact nb_lt8 (by rw [List.length_take]; omega)
    omega
  have HNn : Hid (∀ W, Below w.heap.size w W → Calls Tryz.prog 61 #[.slice (some ⟨b0, off + 4, none⟩) n (c0 - 4)] W fun e w' => e = .returned (.int .u64 (m : Int)) ∧ W = w') := Lib.hid (fun W hW => by
    have h := bread_any (some ⟨b0, off + 4, none⟩) (c0 - 4) ((l.drop 4).take n) W (by rw [List.length_take, List.length_drop]; omega) (bs_sub (hb.below hW) 4 n (by omega) rfl)
    rwa [show ((l.drop 4).take n).length = n by rw [List.length_take, List.length_drop]; omega, ← HM.out] at h)
  obtain ⟨TT, HTT⟩ : ∃ TT, Hid (TT = k * wd) := ⟨_, rfl⟩
  have hmul : (k : Int) * (wd : Int) = (TT : Int) := by rw [HTT.out]; simp
  have hTT : (TT : Int) ≤ 67108864 := by
    have h5 : k * wd ≤ 1048576 * 64 := Nat.mul_le_mul hk (by omega)
    rw [HTT.out]; omega
  obtain ⟨s, HS⟩ : ∃ s, Hid (s = (k * wd + 7) / 8) := ⟨_, rfl⟩
  have hsz : ((TT : Int) + 7) / 8 = (s : Int) := by rw [HS.out, HTT.out]; omega
  obtain ⟨l2, HL2⟩ : ∃ l2, Hid (l2 = l.drop (5 + n)) := ⟨_, rfl⟩
  obtain ⟨len2, HE2⟩ : ∃ len2, Hid (len2 = len0 - n5) := ⟨_, rfl⟩
  have hl2 : Hid (l2.length = len2) := Lib.hid (by rw [HL2.out, List.length_drop, HE2.out, HN5.out]; omega)
  have f1 : len0 - n5 = len2 := HE2.out.symm
  have i2l : (len2 : Int) ≤ 1048590 := by rw [HE2.out]; omega
  have i5 : (n5 : Int) ≤ (len0 : Int) := by omega
  have hBd : Below w.heap.size w w.drew := (Below.refl _ w).drew
  have hb2 : Hid (∀ (W : World) (q : Option Addr), Bs W q l2) := Lib.hid (fun W q => .inl (by rw [hl2.out, HE2.out, HN5.out]; omega))
  have z5 : len0 = n5 := by rw [HN5.out]; omega
  have zc : len0 = c0 := by omega
  have z2 : len2 = 0 := by rw [HE2.out, HN5.out]; omega
  clear f1
  subst z5
  subst zc
  subst z2
  have zs : s = 0 := by rw [HS.out]; omega
  have zt : TT = 0 := by have h7 := HS.out; rw [HTT.out]; omega
  have HS0 : Hid (0 = (k * wd + 7) / 8) := Lib.hid (by rw [← zs]; exact HS.out)
  obtain ⟨rs, HRS⟩ : ∃ rs, Hid (rs = l2.drop s) := ⟨_, rfl⟩
  have hrl : Hid (rs.length = 0) := Lib.hid (by rw [HRS.out, List.length_drop, hl2.out]; omega)
  obtain ⟨ti, hi, hz0, hz1, hz2⟩ := info_parts info79
  have e0 : nb ((l.drop 4).take n) = m := HM.out.symm
  have HTL : Hid (k * wd ≤ 8 * 0) := Lib.hid (by have := HS.out; omega)
  rw [e0, ← HL2.out, ← HS.out, ← HRS.out]
  have hb3 : Hid (∀ (W : World) (q : Option Addr), Bs W q rs) := Lib.hid (fun W q => .inl hrl.out)
  clear hb hll hkb hh hcap hs HM e0 i5 HS HTT
  subst zs
  subst zt
  go_enter Tryz.func47, Tryz.ntmps47
  go_wp2_with fail
  refine (HN.out).mono ?_
  rintro e w' ⟨rfl, rfl⟩
  go_wp2_with fail
  refine wp_region_noPanic ?_
  refine wp_region_held_drew (S := fun W' => W'.cell? ⟨b0, off + n4, none⟩ = some (.int .u8 (wd : Int))) (by kernel_rfl) (hcw.out _ hBd) (fun hHeld => ?_)
  refine wpAnyH_take (i := 0) (v := ?v35) rfl (by kernel_rfl) (by kernel_rfl) (by kernel_rfl) (fun _ _ _ h => h) (Or.inl ⟨by rfl, ?hy35⟩) (by assumption) ?rest35
  case hy35 =>
    intro W' hSw
    obtain e9 := hSw
    go_simp
    with_reducible rfl
  simp only [List.getElem_toArray, List.getElem_cons_zero, Act.put, List.setIfInBounds_toArray, List.set_cons_zero, List.set_cons_succ]
  refine wpAnyH_take (i := 1) (v := ?v36) rfl (by kernel_rfl) (by kernel_rfl) (by kernel_rfl) (fun _ _ _ h => h) (Or.inl ⟨by rfl, ?hy36⟩) (by assumption) ?rest36
  case hy36 =>
    intro W' hSw
    obtain e9 := hSw
    go_simp
    with_reducible rfl
  simp only [List.getElem_toArray, List.getElem_cons_zero, List.getElem_cons_succ, Act.put, List.setIfInBounds_toArray, List.set_cons_zero, List.set_cons_succ]
  refine wpAnyH_take (i := 2) (v := ?v37) rfl (by kernel_rfl) (by kernel_rfl) (by kernel_rfl) (fun _ _ _ h => h) (Or.inl ⟨by rfl, ?hy37⟩) (by assumption) ?rest37
  case hy37 =>
    intro W' hSw
    obtain e9 := hSw
    go_simp
    with_reducible rfl
  simp only [List.getElem_toArray, List.getElem_cons_zero, List.getElem_cons_succ, Act.put, List.setIfInBounds_toArray, List.set_cons_zero, List.set_cons_succ]
  refine wpAnyH_take (i := 3) (v := ?v38) rfl (by kernel_rfl) (by kernel_rfl) (by kernel_rfl) (fun _ _ _ h => h) (Or.inl ⟨by rfl, ?hy38⟩) (by assumption) ?rest38
  case hy38 =>
    intro W' hSw
    obtain e9 := hSw
    go_simp
    with_reducible rfl
  simp only [List.getElem_toArray, List.getElem_cons_zero, List.getElem_cons_succ, Act.put, List.setIfInBounds_toArray, List.set_cons_zero, List.set_cons_succ]
  refine wpAnyH_take (i := 5) (v := ?v39) rfl (by kernel_rfl) (by kernel_rfl) (by kernel_rfl) (fun _ _ _ h => h) (Or.inl ⟨by rfl, ?hy39⟩) (by assumption) ?rest39
  case hy39 =>
    intro W' hSw
    obtain e9 := hSw
    go_simp
    with_reducible rfl
  simp only [List.getElem_toArray, List.getElem_cons_zero, List.getElem_cons_succ, Act.put, List.setIfInBounds_toArray, List.set_cons_zero, List.set_cons_succ]
  refine wpAnyH_take (i := 6) (v := ?v40) rfl (by kernel_rfl) (by kernel_rfl) (by kernel_rfl) (fun _ _ _ h => h) (Or.inl ⟨by rfl, ?hy40⟩) (by assumption) ?rest40
  case hy40 =>
    intro W' hSw
    obtain e9 := hSw
    go_simp
    with_reducible rfl
  simp only [List.getElem_toArray, List.getElem_cons_zero, List.getElem_cons_succ, Act.put, List.setIfInBounds_toArray, List.set_cons_zero, List.set_cons_succ]
  refine wpAnyH_take (i := 7) (v := ?v41) rfl (by kernel_rfl) (by kernel_rfl) (by kernel_rfl) (fun _ _ _ h => h) (Or.inl ⟨by rfl, ?hy41⟩) (by assumption) ?rest41
  case hy41 =>
    intro W' hSw
    obtain e9 := hSw
    go_simp
    with_reducible rfl
  simp only [List.getElem_toArray, List.getElem_cons_zero, List.getElem_cons_succ, Act.put, List.setIfInBounds_toArray, List.set_cons_zero, List.set_cons_succ]
  refine wpAnyH_take (i := 8) (v := ?v42) rfl (by kernel_rfl) (by kernel_rfl) (by kernel_rfl) (fun _ _ _ h => h) (Or.inl ⟨by rfl, ?hy42⟩) (by assumption) ?rest42
  case hy42 =>
    intro W' hSw
    obtain e9 := hSw
    go_simp
    with_reducible rfl
  simp only [List.getElem_toArray, List.getElem_cons_zero, List.getElem_cons_succ, Act.put, List.setIfInBounds_toArray, List.set_cons_zero, List.set_cons_succ]
  refine wpAnyH_take (i := 9) (v := ?v43) rfl (by kernel_rfl) (by kernel_rfl) (by kernel_rfl) (fun _ _ _ h => h) (Or.inl ⟨by rfl, ?hy43⟩) (by assumption) ?rest43
  case hy43 =>
    intro W' hSw
    obtain e9 := hSw
    go_simp
    with_reducible rfl
  simp only [List.getElem_toArray, List.getElem_cons_zero, List.getElem_cons_succ, Act.put, List.setIfInBounds_toArray, List.set_cons_zero, List.set_cons_succ]
  refine wpAnyH_take (i := 10) (v := ?v44) rfl (by kernel_rfl) (by kernel_rfl) (by kernel_rfl) (fun _ _ _ h => h) (Or.inl ⟨by rfl, ?hy44⟩) (by assumption) ?rest44
  case hy44 =>
    intro W' hSw
    obtain e9 := hSw
    go_simp
    with_reducible rfl
  simp only [List.getElem_toArray, List.getElem_cons_zero, List.getElem_cons_succ, Act.put, List.setIfInBounds_toArray, List.set_cons_zero, List.set_cons_succ]
  refine wpAnyH_ready (rs := [4]) (by kernel_rfl) (by simp) ?_
  refine AllReadyH.cons (i := 4) rfl (fun K hK => ?_) AllReadyH.nil
  go_simp
  refine (HNn.out _ hBd).mono ?_
  rintro e W' ⟨rfl, rfl⟩
  refine hK.out _ _ (hcw.out _ hBd) (fun hHeld => ?_)
  clear hK K
  refine wpAnyH_ready (rs := [11]) (by kernel_rfl) (by simp) ?_
  refine AllReadyH.cons (i := 11) rfl (fun K hK => ?_) AllReadyH.nil
  go_simp
  refine hK.out _ _ (hcw.out _ hBd) (fun hHeld => ?_)
  clear hK K
  refine wpAnyH_ready (rs := [12]) (by kernel_rfl) (by simp) ?_
  refine AllReadyH.cons (i := 12) rfl (fun K hK => ?_) AllReadyH.nil
  go_simp
  refine hK.out _ _ (hcw.out _ hBd) (fun hHeld => ?_)
  clear hK K
  refine wpAnyH_done (by kernel_rfl) ?_ _
  refine NoPanic.normal ?_
  clear hHeld
  go_wp2_with fail
  have HG0 : Hid (GrewU w.heap.size w.drew (.slice none 0 0) (unG (rdB l2) wd m 0) w.drew (.slice none 0 0)) := Lib.hid (GrewU.refl (l := []) (World.ownsRow_nil w.drew w.heap.size 38 1))
  (try simp only [hsz])
  go_loopw [12, 13] (fun vr iv wr => ∃ (i : Nat), i ≤ k ∧ iv = .int .i64 i ∧ Hid (GrewU w.heap.size w.drew (.slice none 0 0) (unG (rdB l2) wd m i) wr vr)) (fun _ iv _ => k - (Go.RowKit.intOf iv).toNat)
  case atStart => exact ⟨0, Nat.zero_le _, rfl, HG0⟩
  case round =>
    obtain ⟨i, hik, rfl, HG⟩ := hrel
    have hbw : Hid (Below w.heap.size w wr) := Lib.hid (hBd.trans (HG.out.below (Nat.le_refl _) (by intro k hk; cases hk)))
    by_cases hilt : i < k
    · have hilt' : (i : Int) < k := by omega
      obtain ⟨P, HP⟩ : ∃ P, Hid (P = i * wd) := ⟨_, rfl⟩
      have hmulP : (i : Int) * (wd : Int) = (P : Int) := by rw [HP.out]; simp
      have hPT : P + wd ≤ 8 * 0 := by
        have h5 : (i + 1) * wd ≤ k * wd := Nat.mul_le_mul_right _ hilt
        have h6 := HTL.out
        rw [Nat.succ_mul] at h5
        rw [HP.out]; omega
      go_wp2_with fail
      go_loop [14, 15] (fun xv jv => ∃ (j x : Nat), j ≤ wd ∧ jv = .int .i64 j ∧ xv = .int .u64 (x : Int) ∧ Hid (x = dfB (rdB l2) P j)) (fun _ jv => wd - (Go.RowKit.intOf jv).toNat)
      case atStart => exact ⟨0, 0, Nat.zero_le _, rfl, rfl, Lib.hid rfl⟩
      case round =>
        obtain ⟨j, x, hj, rfl, rfl, HX⟩ := hrel
        by_cases hjw : j < wd
        · omega
        · obtain rfl : j = wd := by omega
          obtain ⟨z, HZ⟩ : ∃ z, Hid (z = (m + x) % W64) := ⟨_, rfl⟩
          have hadd : IntKind.u64.wrap ((m : Int) + (x : Int)) = (z : Int) := by rw [IntKind.wrap_u64, HZ.out]; unfold W64; omega
          have hxl : x < W64 := by rw [HX.out]; exact dfB_lt (rdB_lt l2) _ _
          have hxi : (x : Int) ≤ 18446744073709551615 := by unfold W64 at hxl; omega
          obtain ⟨G, HGG⟩ : ∃ G, Hid (G = unG (rdB l2) j m i) := ⟨_, rfl⟩
          rw [← HGG.out] at HG
          have hbl : Hid (G.length + 1 ≤ maxLen ∧ (G.length + 1) * 8 ≤ 140737488355328 ∧ w.heap.size ≤ wr.heap.size + 1) := Lib.hid (by
            have h3 := hbw.out.size
            rw [HGG.out, unG_length]; unfold maxLen
            omega)
          clear hxl
          go_wp2_with (at_builtin; refine wpList_append_own_at _ rfl (.tmp 98) (.tmp 102) 42 rfl w.heap.size 38 ti (.int .u64 0) 1 8 Tryz.underlying42 hi hz0 hz1 hz2 rfl (by decide) _ _ _ rfl ((HG.out.own).alloc _) ⟨_, 0, none⟩ 1 1 [.int .u64 (z : Int)] rfl rfl (cell_one_new _ _ _) (by intro u hu; simp at hu; subst hu; rfl) hbl.out.1 hbl.out.2.1 (by simp; exact hbl.out.2.2) ?_)
          intro v5 w5 hown5 hgrow5 _ hat5
          have HG5 := Lib.hid (HG.out.next rfl hown5 hgrow5 hat5)
          rw [show G ++ [z] = unG (rdB l2) j m (i + 1) by rw [unG_succ, ← HGG.out, unV, ← HP.out, ← HX.out, ← HZ.out]] at HG5
          clear hown5 hgrow5 hat5
          go_wp2_with fail
          go_roundw
          case rel => exact ⟨i + 1, by omega, by go_num, HG5⟩
          case measure => simp [Go.RowKit.intOf]; omega
    · obtain rfl : i = k := by omega
      obtain ⟨qo, co, hvv, hrd, -⟩ := own_rd64 HG.out.own
      subst hvv
      have hlg : (unG (rdB l2) wd m i).length = i := unG_length _ _ _ _
      have HFIN : Hid (∀ (q : Option Addr) (d : Nat), Bs wr.drew q rs → RunPost (unG (rdB l2) wd m i) rs w (.returned (.tuple #[.slice qo i co, .slice q 0 d, .bool true])) wr.drew) := Lib.hid (fun q d hq => ⟨hbw.out.drew, qo, co, q, d, by rw [hlg, hrl.out], by rw [hlg] at hrd ⊢; exact hrd.below (Below.refl _ _).drew, hq⟩)
      rw [hlg]
      clear hrd HG
      have hBwd : Below w.heap.size w wr.drew := hbw.out.drew
      go_wp2_with fail
      refine wp_region_noPanic ?_
      refine wp_region_held_drew (S := fun _ => True) (by kernel_rfl) trivial (fun hHeld => ?_)
      refine wpAnyH_take (i := 0) (v := ?v45) rfl (by kernel_rfl) (by kernel_rfl) (by kernel_rfl) (fun _ _ _ h => h) (Or.inl ⟨by rfl, ?hy45⟩) (by assumption) ?rest45
      case hy45 =>
        intro W' hSw
        obtain _ := hSw
        go_simp
        with_reducible rfl
      simp only [List.getElem_toArray, List.getElem_cons_zero, Act.put, List.setIfInBounds_toArray, List.set_cons_zero, List.set_cons_succ]
      refine wpAnyH_take (i := 1) (v := ?v46) rfl (by kernel_rfl) (by kernel_rfl) (by kernel_rfl) (fun _ _ _ h => h) (Or.inl ⟨by rfl, ?hy46⟩) (by assumption) ?rest46
      case hy46 =>
        intro W' hSw
        obtain _ := hSw
        go_simp
        with_reducible rfl
      simp only [List.getElem_toArray, List.getElem_cons_zero, List.getElem_cons_succ, Act.put, List.setIfInBounds_toArray, List.set_cons_zero, List.set_cons_succ]
      refine wpAnyH_take (i := 2) (v := ?v47) rfl (by kernel_rfl) (by kernel_rfl) (by kernel_rfl) (fun _ _ _ h => h) (Or.inl ⟨by rfl, ?hy47⟩) (by assumption) ?rest47
      case hy47 =>
        intro W' hSw
        obtain _ := hSw
        go_simp
        with_reducible rfl
      simp only [List.getElem_toArray, List.getElem_cons_zero, List.getElem_cons_succ, Act.put, List.setIfInBounds_toArray, List.set_cons_zero, List.set_cons_succ]
      refine wpAnyH_take (i := 3) (v := ?v48) rfl (by kernel_rfl) (by kernel_rfl) (by kernel_rfl) (fun _ _ _ h => h) (Or.inl ⟨by rfl, ?hy48⟩) (by assumption) ?rest48
      case hy48 =>
        intro W' hSw
        obtain _ := hSw
        go_simp
        with_reducible rfl
      simp only [List.getElem_toArray, List.getElem_cons_zero, List.getElem_cons_succ, Act.put, List.setIfInBounds_toArray, List.set_cons_zero, List.set_cons_succ]
      refine wpAnyH_ready (rs := [4]) (by kernel_rfl) (by simp) ?_
      refine AllReadyH.cons (i := 4) rfl (fun K hK => ?_) AllReadyH.nil
      go_simp
      refine hK.out _ _ (trivial) (fun hHeld => ?_)
      clear hK K
      refine wpAnyH_ready (rs := [5]) (by kernel_rfl) (by simp) ?_
      refine AllReadyH.cons (i := 5) rfl (fun K hK => ?_) AllReadyH.nil
      go_simp
      refine hK.out _ _ (trivial) (fun hHeld => ?_)
      clear hK K
      refine wpAnyH_ready (rs := [6]) (by kernel_rfl) (by simp) ?_
      refine AllReadyH.cons (i := 6) rfl (fun K hK => ?_) AllReadyH.nil
      go_simp
      refine hK.out _ _ (trivial) (fun hHeld => ?_)
      clear hK K
      refine wpAnyH_done (by kernel_rfl) ?_ _
      refine NoPanic.normal ?_
      clear hHeld
      go_wp2_with fail
      all_goals (go_ret3; exact HFIN.out _ _ (hb3.out _ _))
end Go.Proofs.YtpbcdmefngbjjaaGreatDoor
namespace Go.Proofs.YtpbcdmefngbjjaaGreatDoor
open Go.RowKit
open Go.Lib
set_option maxRecDepth 100000 in
set_option maxHeartbeats 1600000 in
theorem joined_any_w (p : Option Addr) (c k n : Nat) (gs : List Nat) (q : Option Addr) (r d : Nat) (rs : List UInt8) (w : World) (h1 : 1 ≤ n) (h2 : n ≤ 8) (hk : k * n ≤ 1048576) (hr : r ≤ 1048576) (hgs : Rd w p k gs) (hlt : ∀ x ∈ gs, x < W64) (hrl : Hid (rs.length = r)) (hrs : Bs w q rs) :
    Calls Tryz.prog 36 #[.slice p k c, .int .i64 (n : Int), .slice q r d] w (App w.heap.size w (.slice none 0 0) (jl n gs ++ rs)) := by
  obtain ⟨i0, hi, hz0, hz1, hz2⟩ := info_parts info5
  have HK := Lib.hid hgs
  have HR := Lib.hid hrs
  have HLT := Lib.hid hlt
  have HK8 := Lib.hid hk
  have hkk : k ≤ 1048576 := by have : k * 1 ≤ k * n := Nat.mul_le_mul_left _ h1; omega
  have hki : (k : Int) ≤ 1048576 := by omega
  have hn1 : 1 ≤ (n : Int) := by omega
  have hn8 : (n : Int) ≤ 8 := by omega
  have hri : (r : Int) ≤ 1048576 := by omega
  obtain ⟨t, HT⟩ : ∃ t : Nat, Hid (t = k * n) := ⟨_, rfl⟩
  have hmul : (k : Int) * (n : Int) = (t : Int) := by rw [HT.out]; simp
  have hti : (t : Int) ≤ 1048576 := by rw [HT.out]; omega
  clear hgs hrs hlt hk
  go_enter Tryz.func36, Tryz.ntmps36
  go_wp2_with (at_make; refine wpList_make_own _ rfl _ _ 22 rfl w.heap.size 5 i0 (.int .u8 0) 1 Tryz.underlying22 hi hz0 hz1 _ _ _ (t + r) rfl rfl ?b1 ?b2 ?b3 (Nat.le_refl _) ?_)
  case b1 => omega
  case b2 => rw [hz2]; omega
  case b3 => unfold maxLen; omega
  intro w1 hown hgrow
  have HG0 : Hid (Grew w.heap.size w (.slice none 0 0) [] w1 (.slice (some ⟨w.heap.size, 0, none⟩) 0 (t + r))) := Lib.hid ⟨hown, hgrow, .inr ⟨_, rfl, Nat.le_refl _⟩⟩
  clear hown hgrow
  go_wp2_with fail
  go_loopw [7, 8] (fun vr iv wr => ∃ (i : Nat), i ≤ k ∧ iv = .int .i64 i ∧ Hid (Grew w.heap.size w (.slice none 0 0) (jl n (gs.take i)) wr vr)) (fun _ iv _ => k - (Go.RowKit.intOf iv).toNat)
  case atStart => exact ⟨0, Nat.zero_le _, rfl, Lib.hid (by rw [List.take_zero]; exact HG0.out)⟩
  case round =>
    obtain ⟨i, hik, rfl, HG⟩ := hrel
    have hbw : Hid (Below w.heap.size w wr) := Lib.hid (HG.out.below (Nat.le_refl _) (by intro k hk; cases hk))
    by_cases hilt : i < k
    · obtain ⟨b1, o1, x, rfl, hb1, hc1, hx⟩ := (HK.out.below hbw.out).at hilt
      have hxl : x < W64 := by
        rw [← hx.out]
        have hlen : i < gs.length := by rw [HK.out.len]; exact hilt
        rw [List.getD_eq_getElem?_getD, List.getElem?_eq_getElem hlen]
        exact HLT.out _ (List.getElem_mem hlen)
      have HN := Lib.hid (rnumber_any x n wr h2 hxl)
      have hxi : (x : Int) ≤ 18446744073709551615 := by unfold W64 at hxl; omega
      clear hxl
      go_wp2_with fail
      refine (HN.out).mono ?_
      rintro e w2 ⟨v2, rfl, hg2⟩
      obtain ⟨p2, c2, rfl, hb2, -⟩ := own_bytes hg2.own
      rw [be_length]
      have hbel : Below wr.heap.size wr w2 := hg2.below (Nat.le_refl _) (by intro k hk; cases hk)
      have HG2 := Lib.hid (HG.out.trans (Grew.of_below HG.out.own hbel))
      have HB2 := Lib.hid hb2
      have hbl : Hid ((jl n (gs.take i)).length + n ≤ 140737488355328 ∧ w.heap.size ≤ w2.heap.size) := Lib.hid (by
        have h3 := hbw.out.size
        have h4 := hbel.size
        have h5 : (gs.take i).length ≤ k := by rw [List.length_take]; omega
        have h6 : (gs.take i).length * n ≤ k * n := Nat.mul_le_mul_right _ h5
        have h7 := HK8.out
        rw [jl_length]
        exact ⟨by omega, by omega⟩)
      have hstep : Hid (jl n (gs.take (i + 1)) = jl n (gs.take i) ++ be n x) := Lib.hid (by
        rw [take_snoc 0 (by rw [HK.out.len]; exact hilt), jl_append, hx.out, jl, jl, List.append_nil])
      clear hg2 hb2 hbel
      go_wp2_with (at_builtin; refine wpList_append_bs rfl (.tmp 23) (.tmp 29) rfl w.heap.size _ (jl n (gs.take i)).length (jl n (gs.take i)) rfl rfl HG2.out.own p2 n c2 (be n x) rfl (be_length _ _) HB2.out hbl.out.1 hbl.out.2 ?_)
      intro v5 w5 hg5
      have HG5 := Lib.hid (HG2.out.trans hg5)
      clear hg5
      go_wp2_with fail
      go_roundw
      case rel => exact ⟨i + 1, by omega, by go_num, Lib.hid (by rw [hstep.out]; exact HG5.out)⟩
      case measure => simp [Go.RowKit.intOf]; omega
    · obtain rfl : i = k := by omega
      have HRS := Lib.hid (HR.out.below hbw.out)
      have hall : Hid (gs.take i = gs) := Lib.hid (List.take_of_length_le (by rw [HK.out.len]; exact Nat.le_refl _))
      have hbl : Hid ((jl n (gs.take i)).length + r ≤ 140737488355328 ∧ w.heap.size ≤ wr.heap.size) := Lib.hid (by
        have h3 := hbw.out.size
        have h7 := HK8.out
        rw [jl_length, hall.out, HK.out.len]
        exact ⟨by omega, h3⟩)
      go_wp2_with (at_builtin; refine wpList_append_bs rfl (.tmp 31) (.tmp 32) rfl w.heap.size _ (jl n (gs.take i)).length (jl n (gs.take i)) rfl rfl HG.out.own q r d rs rfl hrl.out HRS.out hbl.out.1 hbl.out.2 ?_)
      intro v5 w5 hg5
      have HG5 := Lib.hid (HG.out.trans hg5)
      clear hg5
      rw [hall.out] at HG5
      go_wp2_with fail
      go_ret
      exact ⟨_, rfl, HG5.out⟩
theorem conv_any {w : World} {p : Option Addr} {m c : Nat} {l : List UInt8} (hl : l.length = m) (h : Bs w p l) : (convert 22 9 (.slice p m c)).run Tryz.prog w = .ok (.string ⟨l.toArray⟩) w := by subst hl; exact conv_bytes w p c l h
set_option maxRecDepth 100000 in
set_option maxHeartbeats 4000000 in
theorem runpack_none (p : Option Addr) (c n len0 : Nat) (P : List UInt8) (w : World) (h1 : 1 ≤ n) (h2 : n ≤ 8) (_hp0 : Hid (P.length = len0)) (hpl : len0 ≤ 1048576) (hb : Bs w p P) (hu : Calls Tryz.prog 47 #[.slice p len0 c, .int .i64 (n : Int)] w (RunBad w)) :
    Calls Tryz.prog 24 #[.slice p len0 c, .int .i64 (n : Int)] w (NoPost w) := by
  have HA := Lib.hid (asked_ok_w p len0 c n w h1 h2 hpl)
  have HU := Lib.hid hu
  have HB := Lib.hid hb
  have hn0 : 1 ≤ (n : Int) := by omega
  have hn8 : (n : Int) ≤ 8 := by omega
  clear hu hb
  go_enter Tryz.func24, Tryz.ntmps24
  go_wp2_with fail
  refine (HA.out).mono ?_
  rintro e w' ⟨rfl, rfl⟩
  go_wp2_with fail
  refine (HU.out).mono ?_
  rintro e w1 ⟨hb1, rfl⟩
  have HB1 := Lib.hid hb1
  clear hb1
  go_wp2_with fail
  refine wp_region_noPanic ?_
  refine wp_region_held_drew (S := fun W' => Below w1.heap.size w1 W') (by kernel_rfl) (Below.refl _ _).drew (fun hHeld => ?_)
  refine wpAnyH_take (i := 0) (v := .bool false) rfl (by kernel_rfl) (by kernel_rfl) (by kernel_rfl) (fun _ _ _ h => h) (Or.inl ⟨by rfl, by intro W' hSw; go_simp⟩) (by assumption) ?_
  simp only [List.getElem_toArray, List.getElem_cons_zero, Act.put, List.setIfInBounds_toArray, List.set_cons_zero, List.set_cons_succ]
  refine wpAnyH_take (i := 1) (v := .bool true) rfl (by kernel_rfl) (by kernel_rfl) (by kernel_rfl) (fun _ _ _ h => h) (Or.inl ⟨by rfl, by intro W' hSw; go_simp⟩) (by assumption) ?_
  simp only [List.getElem_toArray, List.getElem_cons_zero, List.getElem_cons_succ, Act.put, List.setIfInBounds_toArray, List.set_cons_zero, List.set_cons_succ]
  refine wpAnyH_take (i := 2) (v := .bool true) rfl (by kernel_rfl) (by kernel_rfl) (by kernel_rfl) (fun _ _ _ h => h) (Or.inl ⟨by rfl, by intro W' hSw; go_simp⟩) (by assumption) ?_
  simp only [List.getElem_toArray, List.getElem_cons_zero, List.getElem_cons_succ, Act.put, List.setIfInBounds_toArray, List.set_cons_zero, List.set_cons_succ]
  refine wpAnyH_take (i := 3) (v := undef) rfl (by kernel_rfl) (by kernel_rfl) (by kernel_rfl) (fun _ _ _ h => h) (Or.inr ⟨by rfl, rfl⟩) (by assumption) ?_
  simp only [List.getElem_toArray, List.getElem_cons_zero, List.getElem_cons_succ, Act.put, List.setIfInBounds_toArray, List.set_cons_zero, List.set_cons_succ]
  refine wpAnyH_take (i := 4) (v := undef) rfl (by kernel_rfl) (by kernel_rfl) (by kernel_rfl) (fun _ _ _ h => h) (Or.inr ⟨by rfl, rfl⟩) (by assumption) ?_
  simp only [List.getElem_toArray, List.getElem_cons_zero, List.getElem_cons_succ, Act.put, List.setIfInBounds_toArray, List.set_cons_zero, List.set_cons_succ]
  refine wpAnyH_take (i := 5) (v := undef) rfl (by kernel_rfl) (by kernel_rfl) (by kernel_rfl) (fun _ _ _ h => h) (Or.inr ⟨by rfl, rfl⟩) (by assumption) ?_
  simp only [List.getElem_toArray, List.getElem_cons_zero, List.getElem_cons_succ, Act.put, List.setIfInBounds_toArray, List.set_cons_zero, List.set_cons_succ]
  refine wpAnyH_take (i := 6) (v := undef) rfl (by kernel_rfl) (by kernel_rfl) (by kernel_rfl) (fun _ _ _ h => h) (Or.inr ⟨by rfl, rfl⟩) (by assumption) ?_
  simp only [List.getElem_toArray, List.getElem_cons_zero, List.getElem_cons_succ, Act.put, List.setIfInBounds_toArray, List.set_cons_zero, List.set_cons_succ]
  refine wpAnyH_take (i := 7) (v := undef) rfl (by kernel_rfl) (by kernel_rfl) (by kernel_rfl) (fun _ _ _ h => h) (Or.inr ⟨by rfl, rfl⟩) (by assumption) ?_
  simp only [List.getElem_toArray, List.getElem_cons_zero, List.getElem_cons_succ, Act.put, List.setIfInBounds_toArray, List.set_cons_zero, List.set_cons_succ]
  refine wpAnyH_take (i := 8) (v := undef) rfl (by kernel_rfl) (by kernel_rfl) (by kernel_rfl) (fun _ _ _ h => h) (Or.inr ⟨by rfl, rfl⟩) (by assumption) ?_
  simp only [List.getElem_toArray, List.getElem_cons_zero, List.getElem_cons_succ, Act.put, List.setIfInBounds_toArray, List.set_cons_zero, List.set_cons_succ]
  refine wpAnyH_take (i := 9) (v := undef) rfl (by kernel_rfl) (by kernel_rfl) (by kernel_rfl) (fun _ _ _ h => h) (Or.inr ⟨by rfl, rfl⟩) (by assumption) ?_
  simp only [List.getElem_toArray, List.getElem_cons_zero, List.getElem_cons_succ, Act.put, List.setIfInBounds_toArray, List.set_cons_zero, List.set_cons_succ]
  refine wpAnyH_take (i := 10) (v := undef) rfl (by kernel_rfl) (by kernel_rfl) (by kernel_rfl) (fun _ _ _ h => h) (Or.inr ⟨by rfl, rfl⟩) (by assumption) ?_
  simp only [List.getElem_toArray, List.getElem_cons_zero, List.getElem_cons_succ, Act.put, List.setIfInBounds_toArray, List.set_cons_zero, List.set_cons_succ]
  refine wpAnyH_take (i := 11) (v := .bool true) rfl (by kernel_rfl) (by kernel_rfl) (by kernel_rfl) (fun _ _ _ h => h) (Or.inl ⟨by rfl, by intro W' hSw; go_simp⟩) (by assumption) ?_
  simp only [List.getElem_toArray, List.getElem_cons_zero, List.getElem_cons_succ, Act.put, List.setIfInBounds_toArray, List.set_cons_zero, List.set_cons_succ]
  refine wpAnyH_take (i := 12) (v := .bool true) rfl (by kernel_rfl) (by kernel_rfl) (by kernel_rfl) (fun _ _ _ h => h) (Or.inl ⟨by rfl, by intro W' hSw; go_simp⟩) (by assumption) ?_
  simp only [List.getElem_toArray, List.getElem_cons_zero, List.getElem_cons_succ, Act.put, List.setIfInBounds_toArray, List.set_cons_zero, List.set_cons_succ]
  refine wpAnyH_take (i := 13) (v := undef) rfl (by kernel_rfl) (by kernel_rfl) (by kernel_rfl) (fun _ _ _ h => h) (Or.inr ⟨by rfl, rfl⟩) (by assumption) ?_
  simp only [List.getElem_toArray, List.getElem_cons_zero, List.getElem_cons_succ, Act.put, List.setIfInBounds_toArray, List.set_cons_zero, List.set_cons_succ]
  refine wpAnyH_take (i := 14) (v := undef) rfl (by kernel_rfl) (by kernel_rfl) (by kernel_rfl) (fun _ _ _ h => h) (Or.inr ⟨by rfl, rfl⟩) (by assumption) ?_
  simp only [List.getElem_toArray, List.getElem_cons_zero, List.getElem_cons_succ, Act.put, List.setIfInBounds_toArray, List.set_cons_zero, List.set_cons_succ]
  refine wpAnyH_take (i := 15) (v := undef) rfl (by kernel_rfl) (by kernel_rfl) (by kernel_rfl) (fun _ _ _ h => h) (Or.inr ⟨by rfl, rfl⟩) (by assumption) ?_
  simp only [List.getElem_toArray, List.getElem_cons_zero, List.getElem_cons_succ, Act.put, List.setIfInBounds_toArray, List.set_cons_zero, List.set_cons_succ]
  refine wpAnyH_take (i := 16) (v := undef) rfl (by kernel_rfl) (by kernel_rfl) (by kernel_rfl) (fun _ _ _ h => h) (Or.inr ⟨by rfl, rfl⟩) (by assumption) ?_
  simp only [List.getElem_toArray, List.getElem_cons_zero, List.getElem_cons_succ, Act.put, List.setIfInBounds_toArray, List.set_cons_zero, List.set_cons_succ]
  refine wpAnyH_take (i := 17) (v := undef) rfl (by kernel_rfl) (by kernel_rfl) (by kernel_rfl) (fun _ _ _ h => h) (Or.inr ⟨by rfl, rfl⟩) (by assumption) ?_
  simp only [List.getElem_toArray, List.getElem_cons_zero, List.getElem_cons_succ, Act.put, List.setIfInBounds_toArray, List.set_cons_zero, List.set_cons_succ]
  refine wpAnyH_take (i := 18) (v := undef) rfl (by kernel_rfl) (by kernel_rfl) (by kernel_rfl) (fun _ _ _ h => h) (Or.inr ⟨by rfl, rfl⟩) (by assumption) ?_
  simp only [List.getElem_toArray, List.getElem_cons_zero, List.getElem_cons_succ, Act.put, List.setIfInBounds_toArray, List.set_cons_zero, List.set_cons_succ]
  refine wpAnyH_take (i := 19) (v := undef) rfl (by kernel_rfl) (by kernel_rfl) (by kernel_rfl) (fun _ _ _ h => h) (Or.inr ⟨by rfl, rfl⟩) (by assumption) ?_
  simp only [List.getElem_toArray, List.getElem_cons_zero, List.getElem_cons_succ, Act.put, List.setIfInBounds_toArray, List.set_cons_zero, List.set_cons_succ]
  refine wpAnyH_take (i := 20) (v := undef) rfl (by kernel_rfl) (by kernel_rfl) (by kernel_rfl) (fun _ _ _ h => h) (Or.inr ⟨by rfl, rfl⟩) (by assumption) ?_
  simp only [List.getElem_toArray, List.getElem_cons_zero, List.getElem_cons_succ, Act.put, List.setIfInBounds_toArray, List.set_cons_zero, List.set_cons_succ]
  refine wpAnyH_take (i := 21) (v := .bool true) rfl (by kernel_rfl) (by kernel_rfl) (by kernel_rfl) (fun _ _ _ h => h) (Or.inl ⟨by rfl, by intro W' hSw; go_simp⟩) (by assumption) ?_
  simp only [List.getElem_toArray, List.getElem_cons_zero, List.getElem_cons_succ, Act.put, List.setIfInBounds_toArray, List.set_cons_zero, List.set_cons_succ]
  refine wpAnyH_done (by kernel_rfl) ?_ _
  refine NoPanic.normal ?_
  clear hHeld
  go_wp2_with fail
  go_ret2
  exact ⟨HB1.out.drew, rfl⟩
set_option maxRecDepth 100000 in
set_option maxHeartbeats 4000000 in
theorem runpack_much (p : Option Addr) (c n len0 : Nat) (P : List UInt8) (w : World) (h1 : 1 ≤ n) (h2 : n ≤ 8) (_hp0 : Hid (P.length = len0)) (hpl : len0 ≤ 1048576) (hb : Bs w p P) (gs : List Nat) (rs : List UInt8) (hK : gs.length ≤ 1048576) (hr : rs.length ≤ 1048576) (hu : Calls Tryz.prog 47 #[.slice p len0 c, .int .i64 (n : Int)] w (RunPost gs rs w)) (hm : 1048576 < gs.length * n + rs.length) :
    Calls Tryz.prog 24 #[.slice p len0 c, .int .i64 (n : Int)] w (NoPost w) := by
  have HA := Lib.hid (asked_ok_w p len0 c n w h1 h2 hpl)
  have HU := Lib.hid hu
  have HB := Lib.hid hb
  have hn0 : 1 ≤ (n : Int) := by omega
  have hn8 : (n : Int) ≤ 8 := by omega
  obtain ⟨K, HK⟩ : ∃ K, Hid (gs.length = K) := ⟨_, rfl⟩
  obtain ⟨r, HRL⟩ : ∃ r, Hid (rs.length = r) := ⟨_, rfl⟩
  rw [HK.out] at hK
  rw [HRL.out] at hr
  obtain ⟨C, HC⟩ : ∃ C, Hid (C = K * n) := ⟨_, rfl⟩
  have hCl : C ≤ 8388608 := by
    have h5 : K * n ≤ 1048576 * 8 := Nat.mul_le_mul hK h2
    rw [HC.out]; omega
  have hmul : IntKind.i64.wrap ((K : Int) * (n : Int)) = (C : Int) := by
    rw [show (K : Int) * (n : Int) = (C : Int) by rw [HC.out]; simp, IntKind.wrap_i64]; omega
  obtain ⟨SM, HSM⟩ : ∃ SM, Hid (SM = C + r) := ⟨_, rfl⟩
  have hadd : IntKind.i64.wrap ((C : Int) + (r : Int)) = (SM : Int) := by rw [HSM.out, IntKind.wrap_i64]; omega
  have hgt : 1048576 < (SM : Int) := by rw [HK.out, HRL.out] at hm; rw [HSM.out, HC.out]; omega
  have hgd : decide (1048576 < (SM : Int)) = true := decide_eq_true hgt
  clear hu hb hm
  go_enter Tryz.func24, Tryz.ntmps24
  go_wp2_with fail
  refine (HA.out).mono ?_
  rintro e w' ⟨rfl, rfl⟩
  go_wp2_with fail
  refine (HU.out).mono ?_
  rintro e w1 ⟨hb1, pg, cg, q, d, rfl, -, -⟩
  rw [HK.out, HRL.out]
  have HB1 := Lib.hid hb1
  clear hb1
  go_wp2_with fail
  refine wp_region_noPanic ?_
  refine wp_region_held_drew (S := fun W' => Below w1.heap.size w1 W') (by kernel_rfl) (Below.refl _ _).drew (fun hHeld => ?_)
  refine wpAnyH_take (i := 0) (v := .bool true) rfl (by kernel_rfl) (by kernel_rfl) (by kernel_rfl) (fun _ _ _ h => h) (Or.inl ⟨by rfl, by intro W' hSw; go_simp⟩) (by assumption) ?_
  simp only [List.getElem_toArray, List.getElem_cons_zero, Act.put, List.setIfInBounds_toArray, List.set_cons_zero, List.set_cons_succ]
  refine wpAnyH_take (i := 1) (v := .bool false) rfl (by kernel_rfl) (by kernel_rfl) (by kernel_rfl) (fun _ _ _ h => h) (Or.inl ⟨by rfl, by intro W' hSw; go_simp⟩) (by assumption) ?_
  simp only [List.getElem_toArray, List.getElem_cons_zero, List.getElem_cons_succ, Act.put, List.setIfInBounds_toArray, List.set_cons_zero, List.set_cons_succ]
  refine wpAnyH_take (i := 2) (v := .bool false) rfl (by kernel_rfl) (by kernel_rfl) (by kernel_rfl) (fun _ _ _ h => h) (Or.inl ⟨by rfl, by intro W' hSw; go_simp⟩) (by assumption) ?_
  simp only [List.getElem_toArray, List.getElem_cons_zero, List.getElem_cons_succ, Act.put, List.setIfInBounds_toArray, List.set_cons_zero, List.set_cons_succ]
  refine wpAnyH_take (i := 3) (v := .slice pg K cg) rfl (by kernel_rfl) (by kernel_rfl) (by kernel_rfl) (fun _ _ _ h => h) (Or.inl ⟨by rfl, by intro W' hSw; go_simp⟩) (by assumption) ?_
  simp only [List.getElem_toArray, List.getElem_cons_zero, List.getElem_cons_succ, Act.put, List.setIfInBounds_toArray, List.set_cons_zero, List.set_cons_succ]
  refine wpAnyH_take (i := 4) (v := .int .i64 (K : Int)) rfl (by kernel_rfl) (by kernel_rfl) (by kernel_rfl) (fun _ _ _ h => h) (Or.inl ⟨by rfl, by intro W' hSw; go_simp⟩) (by assumption) ?_
  simp only [List.getElem_toArray, List.getElem_cons_zero, List.getElem_cons_succ, Act.put, List.setIfInBounds_toArray, List.set_cons_zero, List.set_cons_succ]
  refine wpAnyH_take (i := 5) (v := .int .i64 (n : Int)) rfl (by kernel_rfl) (by kernel_rfl) (by kernel_rfl) (fun _ _ _ h => h) (Or.inl ⟨by rfl, by intro W' hSw; go_simp⟩) (by assumption) ?_
  simp only [List.getElem_toArray, List.getElem_cons_zero, List.getElem_cons_succ, Act.put, List.setIfInBounds_toArray, List.set_cons_zero, List.set_cons_succ]
  refine wpAnyH_take (i := 6) (v := .int .i64 (C : Int)) rfl (by kernel_rfl) (by kernel_rfl) (by kernel_rfl) (fun _ _ _ h => h) (Or.inl ⟨by rfl, by intro W' hSw; go_simp⟩) (by assumption) ?_
  simp only [List.getElem_toArray, List.getElem_cons_zero, List.getElem_cons_succ, Act.put, List.setIfInBounds_toArray, List.set_cons_zero, List.set_cons_succ]
  refine wpAnyH_take (i := 7) (v := .slice q r d) rfl (by kernel_rfl) (by kernel_rfl) (by kernel_rfl) (fun _ _ _ h => h) (Or.inl ⟨by rfl, by intro W' hSw; go_simp⟩) (by assumption) ?_
  simp only [List.getElem_toArray, List.getElem_cons_zero, List.getElem_cons_succ, Act.put, List.setIfInBounds_toArray, List.set_cons_zero, List.set_cons_succ]
  refine wpAnyH_take (i := 8) (v := .int .i64 (r : Int)) rfl (by kernel_rfl) (by kernel_rfl) (by kernel_rfl) (fun _ _ _ h => h) (Or.inl ⟨by rfl, by intro W' hSw; go_simp⟩) (by assumption) ?_
  simp only [List.getElem_toArray, List.getElem_cons_zero, List.getElem_cons_succ, Act.put, List.setIfInBounds_toArray, List.set_cons_zero, List.set_cons_succ]
  refine wpAnyH_take (i := 9) (v := .int .i64 (SM : Int)) rfl (by kernel_rfl) (by kernel_rfl) (by kernel_rfl) (fun _ _ _ h => h) (Or.inl ⟨by rfl, by intro W' hSw; go_simp⟩) (by assumption) ?_
  simp only [List.getElem_toArray, List.getElem_cons_zero, List.getElem_cons_succ, Act.put, List.setIfInBounds_toArray, List.set_cons_zero, List.set_cons_succ]
  refine wpAnyH_take (i := 10) (v := .bool true) rfl (by kernel_rfl) (by kernel_rfl) (by kernel_rfl) (fun _ _ _ h => h) (Or.inl ⟨by rfl, by intro W' hSw; go_simp⟩) (by assumption) ?_
  simp only [List.getElem_toArray, List.getElem_cons_zero, List.getElem_cons_succ, Act.put, List.setIfInBounds_toArray, List.set_cons_zero, List.set_cons_succ]
  refine wpAnyH_take (i := 11) (v := .bool true) rfl (by kernel_rfl) (by kernel_rfl) (by kernel_rfl) (fun _ _ _ h => h) (Or.inl ⟨by rfl, by intro W' hSw; go_simp⟩) (by assumption) ?_
  simp only [List.getElem_toArray, List.getElem_cons_zero, List.getElem_cons_succ, Act.put, List.setIfInBounds_toArray, List.set_cons_zero, List.set_cons_succ]
  refine wpAnyH_take (i := 12) (v := .bool true) rfl (by kernel_rfl) (by kernel_rfl) (by kernel_rfl) (fun _ _ _ h => h) (Or.inl ⟨by rfl, by intro W' hSw; go_simp⟩) (by assumption) ?_
  simp only [List.getElem_toArray, List.getElem_cons_zero, List.getElem_cons_succ, Act.put, List.setIfInBounds_toArray, List.set_cons_zero, List.set_cons_succ]
  refine wpAnyH_take (i := 13) (v := undef) rfl (by kernel_rfl) (by kernel_rfl) (by kernel_rfl) (fun _ _ _ h => h) (Or.inr ⟨by rfl, rfl⟩) (by assumption) ?_
  simp only [List.getElem_toArray, List.getElem_cons_zero, List.getElem_cons_succ, Act.put, List.setIfInBounds_toArray, List.set_cons_zero, List.set_cons_succ]
  refine wpAnyH_take (i := 14) (v := undef) rfl (by kernel_rfl) (by kernel_rfl) (by kernel_rfl) (fun _ _ _ h => h) (Or.inr ⟨by rfl, rfl⟩) (by assumption) ?_
  simp only [List.getElem_toArray, List.getElem_cons_zero, List.getElem_cons_succ, Act.put, List.setIfInBounds_toArray, List.set_cons_zero, List.set_cons_succ]
  refine wpAnyH_take (i := 15) (v := undef) rfl (by kernel_rfl) (by kernel_rfl) (by kernel_rfl) (fun _ _ _ h => h) (Or.inr ⟨by rfl, rfl⟩) (by assumption) ?_
  simp only [List.getElem_toArray, List.getElem_cons_zero, List.getElem_cons_succ, Act.put, List.setIfInBounds_toArray, List.set_cons_zero, List.set_cons_succ]
  refine wpAnyH_take (i := 16) (v := undef) rfl (by kernel_rfl) (by kernel_rfl) (by kernel_rfl) (fun _ _ _ h => h) (Or.inr ⟨by rfl, rfl⟩) (by assumption) ?_
  simp only [List.getElem_toArray, List.getElem_cons_zero, List.getElem_cons_succ, Act.put, List.setIfInBounds_toArray, List.set_cons_zero, List.set_cons_succ]
  refine wpAnyH_take (i := 17) (v := undef) rfl (by kernel_rfl) (by kernel_rfl) (by kernel_rfl) (fun _ _ _ h => h) (Or.inr ⟨by rfl, rfl⟩) (by assumption) ?_
  simp only [List.getElem_toArray, List.getElem_cons_zero, List.getElem_cons_succ, Act.put, List.setIfInBounds_toArray, List.set_cons_zero, List.set_cons_succ]
  refine wpAnyH_take (i := 18) (v := undef) rfl (by kernel_rfl) (by kernel_rfl) (by kernel_rfl) (fun _ _ _ h => h) (Or.inr ⟨by rfl, rfl⟩) (by assumption) ?_
  simp only [List.getElem_toArray, List.getElem_cons_zero, List.getElem_cons_succ, Act.put, List.setIfInBounds_toArray, List.set_cons_zero, List.set_cons_succ]
  refine wpAnyH_take (i := 19) (v := undef) rfl (by kernel_rfl) (by kernel_rfl) (by kernel_rfl) (fun _ _ _ h => h) (Or.inr ⟨by rfl, rfl⟩) (by assumption) ?_
  simp only [List.getElem_toArray, List.getElem_cons_zero, List.getElem_cons_succ, Act.put, List.setIfInBounds_toArray, List.set_cons_zero, List.set_cons_succ]
  refine wpAnyH_take (i := 20) (v := undef) rfl (by kernel_rfl) (by kernel_rfl) (by kernel_rfl) (fun _ _ _ h => h) (Or.inr ⟨by rfl, rfl⟩) (by assumption) ?_
  simp only [List.getElem_toArray, List.getElem_cons_zero, List.getElem_cons_succ, Act.put, List.setIfInBounds_toArray, List.set_cons_zero, List.set_cons_succ]
  refine wpAnyH_take (i := 21) (v := .bool true) rfl (by kernel_rfl) (by kernel_rfl) (by kernel_rfl) (fun _ _ _ h => h) (Or.inl ⟨by rfl, by intro W' hSw; go_simp⟩) (by assumption) ?_
  simp only [List.getElem_toArray, List.getElem_cons_zero, List.getElem_cons_succ, Act.put, List.setIfInBounds_toArray, List.set_cons_zero, List.set_cons_succ]
  refine wpAnyH_done (by kernel_rfl) ?_ _
  refine NoPanic.normal ?_
  clear hHeld
  go_wp2_with fail
  go_ret2
  exact ⟨HB1.out.drew, rfl⟩
set_option maxRecDepth 100000 in
set_option maxHeartbeats 4000000 in
theorem runpack_diff (p : Option Addr) (c n len0 : Nat) (P : List UInt8) (w : World) (h1 : 1 ≤ n) (h2 : n ≤ 8) (hp0 : Hid (P.length = len0)) (hpl : len0 ≤ 1048576) (hb : Bs w p P) (gs : List Nat) (rs : List UInt8) (hK : gs.length ≤ 1048576) (hr : rs.length ≤ 1048576) (hu : Calls Tryz.prog 47 #[.slice p len0 c, .int .i64 (n : Int)] w (RunPost gs rs w)) (hlt : ∀ x ∈ gs, x < W64) (hm : gs.length * n + rs.length ≤ 1048576) (hne : pacL n gs rs ≠ P) :
    Calls Tryz.prog 24 #[.slice p len0 c, .int .i64 (n : Int)] w (NoPost w) := by
  have HA := Lib.hid (asked_ok_w p len0 c n w h1 h2 hpl)
  have HU := Lib.hid hu
  have HB := Lib.hid hb
  have hn0 : 1 ≤ (n : Int) := by omega
  have hn8 : (n : Int) ≤ 8 := by omega
  obtain ⟨K, HK⟩ : ∃ K, Hid (gs.length = K) := ⟨_, rfl⟩
  obtain ⟨r, HRL⟩ : ∃ r, Hid (rs.length = r) := ⟨_, rfl⟩
  rw [HK.out] at hK
  rw [HRL.out] at hr
  obtain ⟨C, HC⟩ : ∃ C, Hid (C = K * n) := ⟨_, rfl⟩
  have hCl : C ≤ 8388608 := by
    have h5 : K * n ≤ 1048576 * 8 := Nat.mul_le_mul hK h2
    rw [HC.out]; omega
  have hmul : IntKind.i64.wrap ((K : Int) * (n : Int)) = (C : Int) := by
    rw [show (K : Int) * (n : Int) = (C : Int) by rw [HC.out]; simp, IntKind.wrap_i64]; omega
  obtain ⟨SM, HSM⟩ : ∃ SM, Hid (SM = C + r) := ⟨_, rfl⟩
  have hadd : IntKind.i64.wrap ((C : Int) + (r : Int)) = (SM : Int) := by rw [HSM.out, IntKind.wrap_i64]; omega
  obtain ⟨R, HR⟩ : ∃ R, Hid (R = pacL n gs rs) := ⟨_, rfl⟩
  obtain ⟨sp, hsp⟩ : ∃ sp : ByteArray, ⟨P.toArray⟩ = sp := ⟨_, rfl⟩
  obtain ⟨sr, hsr⟩ : ∃ sr : ByteArray, ⟨R.toArray⟩ = sr := ⟨_, rfl⟩
  have hgt : ¬ 1048576 < (SM : Int) := by rw [HK.out, HRL.out] at hm; rw [HSM.out, HC.out]; omega
  have hgd : decide (1048576 < (SM : Int)) = false := decide_eq_false hgt
  have hq : (sr.toList == sp.toList) = false := by rw [← hsp, ← hsr]; exact beq_diff (by rw [HR.out]; exact hne)
  clear hu hb hm hne
  go_enter Tryz.func24, Tryz.ntmps24
  go_wp2_with fail
  refine (HA.out).mono ?_
  rintro e w' ⟨rfl, rfl⟩
  go_wp2_with fail
  refine (HU.out).mono ?_
  rintro e w1 ⟨hb1, pg, cg, q, d, rfl, hrd, hbs⟩
  rw [HK.out] at hrd
  rw [HK.out, HRL.out]
  have HB1 := Lib.hid hb1
  have hconv : Hid (∀ W', Below w1.heap.size w1 W' → (convert 22 9 (.slice p len0 c)).run Tryz.prog W' = .ok (.string sp) W') := Lib.hid (fun W' hW => by rw [← hsp]; exact conv_any hp0.out ((HB.out.below HB1.out).below hW))
  have HP := Lib.hid (rpacked_any pg cg K n gs q r d rs w1.drew h1 h2 hK hr (hrd.below (Below.refl _ _).drew) hlt HRL (hbs.below (Below.refl _ _).drew))
  rw [← HR.out] at HP
  clear hb1 hrd hbs
  go_wp2_with fail
  refine wp_region_noPanic ?_
  refine wp_region_held_drew (S := fun W' => Below w1.heap.size w1 W') (by kernel_rfl) (Below.refl _ _).drew (fun hHeld => ?_)
  refine wpAnyH_take (i := 0) (v := .bool true) rfl (by kernel_rfl) (by kernel_rfl) (by kernel_rfl) (fun _ _ _ h => h) (Or.inl ⟨by rfl, by intro W' hSw; go_simp⟩) (by assumption) ?_
  simp only [List.getElem_toArray, List.getElem_cons_zero, Act.put, List.setIfInBounds_toArray, List.set_cons_zero, List.set_cons_succ]
  refine wpAnyH_take (i := 1) (v := .bool false) rfl (by kernel_rfl) (by kernel_rfl) (by kernel_rfl) (fun _ _ _ h => h) (Or.inl ⟨by rfl, by intro W' hSw; go_simp⟩) (by assumption) ?_
  simp only [List.getElem_toArray, List.getElem_cons_zero, List.getElem_cons_succ, Act.put, List.setIfInBounds_toArray, List.set_cons_zero, List.set_cons_succ]
  refine wpAnyH_take (i := 2) (v := .bool false) rfl (by kernel_rfl) (by kernel_rfl) (by kernel_rfl) (fun _ _ _ h => h) (Or.inl ⟨by rfl, by intro W' hSw; go_simp⟩) (by assumption) ?_
  simp only [List.getElem_toArray, List.getElem_cons_zero, List.getElem_cons_succ, Act.put, List.setIfInBounds_toArray, List.set_cons_zero, List.set_cons_succ]
  refine wpAnyH_take (i := 3) (v := .slice pg K cg) rfl (by kernel_rfl) (by kernel_rfl) (by kernel_rfl) (fun _ _ _ h => h) (Or.inl ⟨by rfl, by intro W' hSw; go_simp⟩) (by assumption) ?_
  simp only [List.getElem_toArray, List.getElem_cons_zero, List.getElem_cons_succ, Act.put, List.setIfInBounds_toArray, List.set_cons_zero, List.set_cons_succ]
  refine wpAnyH_take (i := 4) (v := .int .i64 (K : Int)) rfl (by kernel_rfl) (by kernel_rfl) (by kernel_rfl) (fun _ _ _ h => h) (Or.inl ⟨by rfl, by intro W' hSw; go_simp⟩) (by assumption) ?_
  simp only [List.getElem_toArray, List.getElem_cons_zero, List.getElem_cons_succ, Act.put, List.setIfInBounds_toArray, List.set_cons_zero, List.set_cons_succ]
  refine wpAnyH_take (i := 5) (v := .int .i64 (n : Int)) rfl (by kernel_rfl) (by kernel_rfl) (by kernel_rfl) (fun _ _ _ h => h) (Or.inl ⟨by rfl, by intro W' hSw; go_simp⟩) (by assumption) ?_
  simp only [List.getElem_toArray, List.getElem_cons_zero, List.getElem_cons_succ, Act.put, List.setIfInBounds_toArray, List.set_cons_zero, List.set_cons_succ]
  refine wpAnyH_take (i := 6) (v := .int .i64 (C : Int)) rfl (by kernel_rfl) (by kernel_rfl) (by kernel_rfl) (fun _ _ _ h => h) (Or.inl ⟨by rfl, by intro W' hSw; go_simp⟩) (by assumption) ?_
  simp only [List.getElem_toArray, List.getElem_cons_zero, List.getElem_cons_succ, Act.put, List.setIfInBounds_toArray, List.set_cons_zero, List.set_cons_succ]
  refine wpAnyH_take (i := 7) (v := .slice q r d) rfl (by kernel_rfl) (by kernel_rfl) (by kernel_rfl) (fun _ _ _ h => h) (Or.inl ⟨by rfl, by intro W' hSw; go_simp⟩) (by assumption) ?_
  simp only [List.getElem_toArray, List.getElem_cons_zero, List.getElem_cons_succ, Act.put, List.setIfInBounds_toArray, List.set_cons_zero, List.set_cons_succ]
  refine wpAnyH_take (i := 8) (v := .int .i64 (r : Int)) rfl (by kernel_rfl) (by kernel_rfl) (by kernel_rfl) (fun _ _ _ h => h) (Or.inl ⟨by rfl, by intro W' hSw; go_simp⟩) (by assumption) ?_
  simp only [List.getElem_toArray, List.getElem_cons_zero, List.getElem_cons_succ, Act.put, List.setIfInBounds_toArray, List.set_cons_zero, List.set_cons_succ]
  refine wpAnyH_take (i := 9) (v := .int .i64 (SM : Int)) rfl (by kernel_rfl) (by kernel_rfl) (by kernel_rfl) (fun _ _ _ h => h) (Or.inl ⟨by rfl, by intro W' hSw; go_simp⟩) (by assumption) ?_
  simp only [List.getElem_toArray, List.getElem_cons_zero, List.getElem_cons_succ, Act.put, List.setIfInBounds_toArray, List.set_cons_zero, List.set_cons_succ]
  refine wpAnyH_take (i := 10) (v := .bool false) rfl (by kernel_rfl) (by kernel_rfl) (by kernel_rfl) (fun _ _ _ h => h) (Or.inl ⟨by rfl, by intro W' hSw; go_simp⟩) (by assumption) ?_
  simp only [List.getElem_toArray, List.getElem_cons_zero, List.getElem_cons_succ, Act.put, List.setIfInBounds_toArray, List.set_cons_zero, List.set_cons_succ]
  refine wpAnyH_take (i := 11) (v := .bool false) rfl (by kernel_rfl) (by kernel_rfl) (by kernel_rfl) (fun _ _ _ h => h) (Or.inl ⟨by rfl, by intro W' hSw; go_simp⟩) (by assumption) ?_
  simp only [List.getElem_toArray, List.getElem_cons_zero, List.getElem_cons_succ, Act.put, List.setIfInBounds_toArray, List.set_cons_zero, List.set_cons_succ]
  refine wpAnyH_take (i := 12) (v := .bool false) rfl (by kernel_rfl) (by kernel_rfl) (by kernel_rfl) (fun _ _ _ h => h) (Or.inl ⟨by rfl, by intro W' hSw; go_simp⟩) (by assumption) ?_
  simp only [List.getElem_toArray, List.getElem_cons_zero, List.getElem_cons_succ, Act.put, List.setIfInBounds_toArray, List.set_cons_zero, List.set_cons_succ]
  refine wpAnyH_take (i := 13) (v := .slice pg K cg) rfl (by kernel_rfl) (by kernel_rfl) (by kernel_rfl) (fun _ _ _ h => h) (Or.inl ⟨by rfl, by intro W' hSw; go_simp⟩) (by assumption) ?_
  simp only [List.getElem_toArray, List.getElem_cons_zero, List.getElem_cons_succ, Act.put, List.setIfInBounds_toArray, List.set_cons_zero, List.set_cons_succ]
  refine wpAnyH_take (i := 14) (v := .int .i64 (n : Int)) rfl (by kernel_rfl) (by kernel_rfl) (by kernel_rfl) (fun _ _ _ h => h) (Or.inl ⟨by rfl, by intro W' hSw; go_simp⟩) (by assumption) ?_
  simp only [List.getElem_toArray, List.getElem_cons_zero, List.getElem_cons_succ, Act.put, List.setIfInBounds_toArray, List.set_cons_zero, List.set_cons_succ]
  refine wpAnyH_take (i := 15) (v := .slice q r d) rfl (by kernel_rfl) (by kernel_rfl) (by kernel_rfl) (fun _ _ _ h => h) (Or.inl ⟨by rfl, by intro W' hSw; go_simp⟩) (by assumption) ?_
  simp only [List.getElem_toArray, List.getElem_cons_zero, List.getElem_cons_succ, Act.put, List.setIfInBounds_toArray, List.set_cons_zero, List.set_cons_succ]
  refine wpAnyH_take (i := 18) (v := .slice p len0 c) rfl (by kernel_rfl) (by kernel_rfl) (by kernel_rfl) (fun _ _ _ h => h) (Or.inl ⟨by rfl, by intro W' hSw; go_simp⟩) (by assumption) ?_
  simp only [List.getElem_toArray, List.getElem_cons_zero, List.getElem_cons_succ, Act.put, List.setIfInBounds_toArray, List.set_cons_zero, List.set_cons_succ]
  refine wpAnyH_take (i := 19) (v := .string sp) rfl (by kernel_rfl) (by kernel_rfl) (by kernel_rfl) (fun _ _ _ h => h) (Or.inl ⟨by rfl, by intro W' hSw; have hcv := hconv.out W' hSw; go_simp⟩) (by assumption) ?_
  simp only [List.getElem_toArray, List.getElem_cons_zero, List.getElem_cons_succ, Act.put, List.setIfInBounds_toArray, List.set_cons_zero, List.set_cons_succ]
  refine wpAnyH_ready (rs := [16]) (by kernel_rfl) (by simp) ?_
  refine AllReadyH.cons (i := 16) rfl (fun K hK => ?_) AllReadyH.nil
  go_simp
  refine (HP.out).mono ?_
  rintro e w2 ⟨v2, rfl, hg2⟩
  have hb2 : Below w1.heap.size w1 w2 := (Below.refl _ w1).drew.trans (hg2.below (Nat.le_refl _) (by intro k hk; cases hk))
  obtain ⟨q2, d2, rfl, hs2, -⟩ := own_bytes hg2.own
  have hcv2 := conv_any (c := d2) rfl hs2
  obtain ⟨m2, HM2⟩ : ∃ m2, Hid (m2 = R.length) := ⟨_, rfl⟩
  rw [← HM2.out] at hcv2 ⊢
  rw [hsr] at hcv2
  clear hg2 hs2
  refine hK.out _ _ (hb2) (fun hHeld => ?_)
  clear hK K
  refine wpAnyH_ready (rs := [17]) (by kernel_rfl) (by simp) ?_
  refine AllReadyH.cons (i := 17) rfl (fun K hK => ?_) AllReadyH.nil
  go_simp
  refine hK.out _ _ (hb2) (fun hHeld => ?_)
  clear hK K
  refine wpAnyH_take (i := 20) (v := .bool true) rfl (by kernel_rfl) (by kernel_rfl) (by kernel_rfl) (fun _ _ _ h => h) (Or.inl ⟨by rfl, by intro W' hSw; go_simp⟩) (by assumption) ?_
  simp only [List.getElem_toArray, List.getElem_cons_zero, List.getElem_cons_succ, Act.put, List.setIfInBounds_toArray, List.set_cons_zero, List.set_cons_succ]
  refine wpAnyH_take (i := 21) (v := .bool true) rfl (by kernel_rfl) (by kernel_rfl) (by kernel_rfl) (fun _ _ _ h => h) (Or.inl ⟨by rfl, by intro W' hSw; go_simp⟩) (by assumption) ?_
  simp only [List.getElem_toArray, List.getElem_cons_zero, List.getElem_cons_succ, Act.put, List.setIfInBounds_toArray, List.set_cons_zero, List.set_cons_succ]
  refine wpAnyH_done (by kernel_rfl) ?_ _
  refine NoPanic.normal ?_
  clear hHeld
  go_wp2_with fail
  go_ret2
  exact ⟨HB1.out.trans (hb2.mono HB1.out.size), rfl⟩
set_option maxRecDepth 100000 in
set_option maxHeartbeats 4000000 in
theorem runpack_again (p : Option Addr) (c n len0 : Nat) (P : List UInt8) (w : World) (h1 : 1 ≤ n) (h2 : n ≤ 8) (hp0 : Hid (P.length = len0)) (hpl : len0 ≤ 1048576) (hb : Bs w p P) (gs : List Nat) (rs : List UInt8) (hK : gs.length ≤ 1048576) (hr : rs.length ≤ 1048576) (hu : Calls Tryz.prog 47 #[.slice p len0 c, .int .i64 (n : Int)] w (RunPost gs rs w)) (hlt : ∀ x ∈ gs, x < W64) (hm : gs.length * n + rs.length ≤ 1048576) (heq : pacL n gs rs = P) (hag : packL (jl n gs ++ rs) n ≠ P) :
    Calls Tryz.prog 24 #[.slice p len0 c, .int .i64 (n : Int)] w (NoPost w) := by
  have HA := Lib.hid (asked_ok_w p len0 c n w h1 h2 hpl)
  have HU := Lib.hid hu
  have HB := Lib.hid hb
  have hn0 : 1 ≤ (n : Int) := by omega
  have hn8 : (n : Int) ≤ 8 := by omega
  obtain ⟨K, HK⟩ : ∃ K, Hid (gs.length = K) := ⟨_, rfl⟩
  obtain ⟨r, HRL⟩ : ∃ r, Hid (rs.length = r) := ⟨_, rfl⟩
  rw [HK.out] at hK
  rw [HRL.out] at hr
  obtain ⟨C, HC⟩ : ∃ C, Hid (C = K * n) := ⟨_, rfl⟩
  have hCl : C ≤ 8388608 := by
    have h5 : K * n ≤ 1048576 * 8 := Nat.mul_le_mul hK h2
    rw [HC.out]; omega
  have hmul : IntKind.i64.wrap ((K : Int) * (n : Int)) = (C : Int) := by
    rw [show (K : Int) * (n : Int) = (C : Int) by rw [HC.out]; simp, IntKind.wrap_i64]; omega
  obtain ⟨SM, HSM⟩ : ∃ SM, Hid (SM = C + r) := ⟨_, rfl⟩
  have hadd : IntKind.i64.wrap ((C : Int) + (r : Int)) = (SM : Int) := by rw [HSM.out, IntKind.wrap_i64]; omega
  obtain ⟨R, HR⟩ : ∃ R, Hid (R = pacL n gs rs) := ⟨_, rfl⟩
  obtain ⟨sp, hsp⟩ : ∃ sp : ByteArray, ⟨P.toArray⟩ = sp := ⟨_, rfl⟩
  obtain ⟨sr, hsr⟩ : ∃ sr : ByteArray, ⟨R.toArray⟩ = sr := ⟨_, rfl⟩
  have hgt : ¬ 1048576 < (SM : Int) := by rw [HK.out, HRL.out] at hm; rw [HSM.out, HC.out]; omega
  have hgd : decide (1048576 < (SM : Int)) = false := decide_eq_false hgt
  have hq : (sr.toList == sp.toList) = true := by rw [← hsp, ← hsr, HR.out, heq]; exact beq_self_eq_true _
  obtain ⟨L, HL⟩ : ∃ L, Hid (L = jl n gs ++ rs) := ⟨_, rfl⟩
  obtain ⟨ll, HLL⟩ : ∃ ll, Hid (ll = L.length) := ⟨_, rfl⟩
  have hll : ll ≤ 1048576 := by rw [HLL.out, HL.out, List.length_append, jl_length]; exact hm
  have hCk : K * n ≤ 1048576 := by rw [HK.out, HRL.out] at hm; omega
  have hr2 : r ≤ 1048576 := by rw [HK.out, HRL.out] at hm; omega
  rw [← HL.out] at hag
  obtain ⟨Q, HQ⟩ : ∃ Q, Hid (Q = packL L n) := ⟨_, rfl⟩
  obtain ⟨sq, hsq⟩ : ∃ sq : ByteArray, ⟨Q.toArray⟩ = sq := ⟨_, rfl⟩
  have hq2 : (sq.toList == sp.toList) = false := by rw [← hsp, ← hsq]; exact beq_diff (by rw [HQ.out]; exact hag)
  clear hu hb hm heq hag
  go_enter Tryz.func24, Tryz.ntmps24
  go_wp2_with fail
  refine (HA.out).mono ?_
  rintro e w' ⟨rfl, rfl⟩
  go_wp2_with fail
  refine (HU.out).mono ?_
  rintro e w1 ⟨hb1, pg, cg, q, d, rfl, hrd, hbs⟩
  rw [HK.out] at hrd
  rw [HK.out, HRL.out]
  have HB1 := Lib.hid hb1
  have hconv : Hid (∀ W', Below w1.heap.size w1 W' → (convert 22 9 (.slice p len0 c)).run Tryz.prog W' = .ok (.string sp) W') := Lib.hid (fun W' hW => by rw [← hsp]; exact conv_any hp0.out ((HB.out.below HB1.out).below hW))
  have HP := Lib.hid (rpacked_any pg cg K n gs q r d rs w1.drew h1 h2 hK hr (hrd.below (Below.refl _ _).drew) hlt HRL (hbs.below (Below.refl _ _).drew))
  rw [← HR.out] at HP
  have HJ := Lib.hid (fun (W : World) (hW : Below w1.heap.size w1 W) => joined_any_w pg cg K n gs q r d rs W h1 h2 hCk hr2 (hrd.below hW) hlt HRL (hbs.below hW))
  rw [← HL.out] at HJ
  clear hb1 hrd hbs
  go_wp2_with fail
  refine wp_region_noPanic ?_
  refine wp_region_held_drew (S := fun W' => Below w1.heap.size w1 W') (by kernel_rfl) (Below.refl _ _).drew (fun hHeld => ?_)
  refine wpAnyH_take (i := 0) (v := .bool true) rfl (by kernel_rfl) (by kernel_rfl) (by kernel_rfl) (fun _ _ _ h => h) (Or.inl ⟨by rfl, by intro W' hSw; go_simp⟩) (by assumption) ?_
  simp only [List.getElem_toArray, List.getElem_cons_zero, Act.put, List.setIfInBounds_toArray, List.set_cons_zero, List.set_cons_succ]
  refine wpAnyH_take (i := 1) (v := .bool false) rfl (by kernel_rfl) (by kernel_rfl) (by kernel_rfl) (fun _ _ _ h => h) (Or.inl ⟨by rfl, by intro W' hSw; go_simp⟩) (by assumption) ?_
  simp only [List.getElem_toArray, List.getElem_cons_zero, List.getElem_cons_succ, Act.put, List.setIfInBounds_toArray, List.set_cons_zero, List.set_cons_succ]
  refine wpAnyH_take (i := 2) (v := .bool false) rfl (by kernel_rfl) (by kernel_rfl) (by kernel_rfl) (fun _ _ _ h => h) (Or.inl ⟨by rfl, by intro W' hSw; go_simp⟩) (by assumption) ?_
  simp only [List.getElem_toArray, List.getElem_cons_zero, List.getElem_cons_succ, Act.put, List.setIfInBounds_toArray, List.set_cons_zero, List.set_cons_succ]
  refine wpAnyH_take (i := 3) (v := .slice pg K cg) rfl (by kernel_rfl) (by kernel_rfl) (by kernel_rfl) (fun _ _ _ h => h) (Or.inl ⟨by rfl, by intro W' hSw; go_simp⟩) (by assumption) ?_
  simp only [List.getElem_toArray, List.getElem_cons_zero, List.getElem_cons_succ, Act.put, List.setIfInBounds_toArray, List.set_cons_zero, List.set_cons_succ]
  refine wpAnyH_take (i := 4) (v := .int .i64 (K : Int)) rfl (by kernel_rfl) (by kernel_rfl) (by kernel_rfl) (fun _ _ _ h => h) (Or.inl ⟨by rfl, by intro W' hSw; go_simp⟩) (by assumption) ?_
  simp only [List.getElem_toArray, List.getElem_cons_zero, List.getElem_cons_succ, Act.put, List.setIfInBounds_toArray, List.set_cons_zero, List.set_cons_succ]
  refine wpAnyH_take (i := 5) (v := .int .i64 (n : Int)) rfl (by kernel_rfl) (by kernel_rfl) (by kernel_rfl) (fun _ _ _ h => h) (Or.inl ⟨by rfl, by intro W' hSw; go_simp⟩) (by assumption) ?_
  simp only [List.getElem_toArray, List.getElem_cons_zero, List.getElem_cons_succ, Act.put, List.setIfInBounds_toArray, List.set_cons_zero, List.set_cons_succ]
  refine wpAnyH_take (i := 6) (v := .int .i64 (C : Int)) rfl (by kernel_rfl) (by kernel_rfl) (by kernel_rfl) (fun _ _ _ h => h) (Or.inl ⟨by rfl, by intro W' hSw; go_simp⟩) (by assumption) ?_
  simp only [List.getElem_toArray, List.getElem_cons_zero, List.getElem_cons_succ, Act.put, List.setIfInBounds_toArray, List.set_cons_zero, List.set_cons_succ]
  refine wpAnyH_take (i := 7) (v := .slice q r d) rfl (by kernel_rfl) (by kernel_rfl) (by kernel_rfl) (fun _ _ _ h => h) (Or.inl ⟨by rfl, by intro W' hSw; go_simp⟩) (by assumption) ?_
  simp only [List.getElem_toArray, List.getElem_cons_zero, List.getElem_cons_succ, Act.put, List.setIfInBounds_toArray, List.set_cons_zero, List.set_cons_succ]
  refine wpAnyH_take (i := 8) (v := .int .i64 (r : Int)) rfl (by kernel_rfl) (by kernel_rfl) (by kernel_rfl) (fun _ _ _ h => h) (Or.inl ⟨by rfl, by intro W' hSw; go_simp⟩) (by assumption) ?_
  simp only [List.getElem_toArray, List.getElem_cons_zero, List.getElem_cons_succ, Act.put, List.setIfInBounds_toArray, List.set_cons_zero, List.set_cons_succ]
  refine wpAnyH_take (i := 9) (v := .int .i64 (SM : Int)) rfl (by kernel_rfl) (by kernel_rfl) (by kernel_rfl) (fun _ _ _ h => h) (Or.inl ⟨by rfl, by intro W' hSw; go_simp⟩) (by assumption) ?_
  simp only [List.getElem_toArray, List.getElem_cons_zero, List.getElem_cons_succ, Act.put, List.setIfInBounds_toArray, List.set_cons_zero, List.set_cons_succ]
  refine wpAnyH_take (i := 10) (v := .bool false) rfl (by kernel_rfl) (by kernel_rfl) (by kernel_rfl) (fun _ _ _ h => h) (Or.inl ⟨by rfl, by intro W' hSw; go_simp⟩) (by assumption) ?_
  simp only [List.getElem_toArray, List.getElem_cons_zero, List.getElem_cons_succ, Act.put, List.setIfInBounds_toArray, List.set_cons_zero, List.set_cons_succ]
  refine wpAnyH_take (i := 11) (v := .bool false) rfl (by kernel_rfl) (by kernel_rfl) (by kernel_rfl) (fun _ _ _ h => h) (Or.inl ⟨by rfl, by intro W' hSw; go_simp⟩) (by assumption) ?_
  simp only [List.getElem_toArray, List.getElem_cons_zero, List.getElem_cons_succ, Act.put, List.setIfInBounds_toArray, List.set_cons_zero, List.set_cons_succ]
  refine wpAnyH_take (i := 12) (v := .bool false) rfl (by kernel_rfl) (by kernel_rfl) (by kernel_rfl) (fun _ _ _ h => h) (Or.inl ⟨by rfl, by intro W' hSw; go_simp⟩) (by assumption) ?_
  simp only [List.getElem_toArray, List.getElem_cons_zero, List.getElem_cons_succ, Act.put, List.setIfInBounds_toArray, List.set_cons_zero, List.set_cons_succ]
  refine wpAnyH_take (i := 13) (v := .slice pg K cg) rfl (by kernel_rfl) (by kernel_rfl) (by kernel_rfl) (fun _ _ _ h => h) (Or.inl ⟨by rfl, by intro W' hSw; go_simp⟩) (by assumption) ?_
  simp only [List.getElem_toArray, List.getElem_cons_zero, List.getElem_cons_succ, Act.put, List.setIfInBounds_toArray, List.set_cons_zero, List.set_cons_succ]
  refine wpAnyH_take (i := 14) (v := .int .i64 (n : Int)) rfl (by kernel_rfl) (by kernel_rfl) (by kernel_rfl) (fun _ _ _ h => h) (Or.inl ⟨by rfl, by intro W' hSw; go_simp⟩) (by assumption) ?_
  simp only [List.getElem_toArray, List.getElem_cons_zero, List.getElem_cons_succ, Act.put, List.setIfInBounds_toArray, List.set_cons_zero, List.set_cons_succ]
  refine wpAnyH_take (i := 15) (v := .slice q r d) rfl (by kernel_rfl) (by kernel_rfl) (by kernel_rfl) (fun _ _ _ h => h) (Or.inl ⟨by rfl, by intro W' hSw; go_simp⟩) (by assumption) ?_
  simp only [List.getElem_toArray, List.getElem_cons_zero, List.getElem_cons_succ, Act.put, List.setIfInBounds_toArray, List.set_cons_zero, List.set_cons_succ]
  refine wpAnyH_take (i := 18) (v := .slice p len0 c) rfl (by kernel_rfl) (by kernel_rfl) (by kernel_rfl) (fun _ _ _ h => h) (Or.inl ⟨by rfl, by intro W' hSw; go_simp⟩) (by assumption) ?_
  simp only [List.getElem_toArray, List.getElem_cons_zero, List.getElem_cons_succ, Act.put, List.setIfInBounds_toArray, List.set_cons_zero, List.set_cons_succ]
  refine wpAnyH_take (i := 19) (v := .string sp) rfl (by kernel_rfl) (by kernel_rfl) (by kernel_rfl) (fun _ _ _ h => h) (Or.inl ⟨by rfl, by intro W' hSw; have hcv := hconv.out W' hSw; go_simp⟩) (by assumption) ?_
  simp only [List.getElem_toArray, List.getElem_cons_zero, List.getElem_cons_succ, Act.put, List.setIfInBounds_toArray, List.set_cons_zero, List.set_cons_succ]
  refine wpAnyH_ready (rs := [16]) (by kernel_rfl) (by simp) ?_
  refine AllReadyH.cons (i := 16) rfl (fun K hK => ?_) AllReadyH.nil
  go_simp
  refine (HP.out).mono ?_
  rintro e w2 ⟨v2, rfl, hg2⟩
  have hb2 : Below w1.heap.size w1 w2 := (Below.refl _ w1).drew.trans (hg2.below (Nat.le_refl _) (by intro k hk; cases hk))
  obtain ⟨q2, d2, rfl, hs2, -⟩ := own_bytes hg2.own
  have hcv2 := conv_any (c := d2) rfl hs2
  obtain ⟨m2, HM2⟩ : ∃ m2, Hid (m2 = R.length) := ⟨_, rfl⟩
  rw [← HM2.out] at hcv2 ⊢
  rw [hsr] at hcv2
  clear hg2 hs2
  refine hK.out _ _ (hb2) (fun hHeld => ?_)
  clear hK K
  refine wpAnyH_ready (rs := [17]) (by kernel_rfl) (by simp) ?_
  refine AllReadyH.cons (i := 17) rfl (fun K hK => ?_) AllReadyH.nil
  go_simp
  refine hK.out _ _ (hb2) (fun hHeld => ?_)
  clear hK K
  refine wpAnyH_take (i := 20) (v := .bool false) rfl (by kernel_rfl) (by kernel_rfl) (by kernel_rfl) (fun _ _ _ h => h) (Or.inl ⟨by rfl, by intro W' hSw; go_simp⟩) (by assumption) ?_
  simp only [List.getElem_toArray, List.getElem_cons_zero, List.getElem_cons_succ, Act.put, List.setIfInBounds_toArray, List.set_cons_zero, List.set_cons_succ]
  refine wpAnyH_take (i := 21) (v := .bool false) rfl (by kernel_rfl) (by kernel_rfl) (by kernel_rfl) (fun _ _ _ h => h) (Or.inl ⟨by rfl, by intro W' hSw; go_simp⟩) (by assumption) ?_
  simp only [List.getElem_toArray, List.getElem_cons_zero, List.getElem_cons_succ, Act.put, List.setIfInBounds_toArray, List.set_cons_zero, List.set_cons_succ]
  refine wpAnyH_done (by kernel_rfl) ?_ _
  refine NoPanic.normal ?_
  clear hHeld
  clear hcv2
  go_wp2_with fail
  refine (HJ.out _ hb2).mono ?_
  rintro e w3 ⟨v3, rfl, hg3⟩
  obtain ⟨q3, d3, rfl, hs3, hd3⟩ := own_bytes hg3.own
  have hn3 := own_nocap hg3.own
  rw [← HLL.out] at hd3 ⊢
  have hb3 := Lib.hid (hb2.trans ((hg3.below (Nat.le_refl _) (by intro k hk; cases hk)).mono hb2.size))
  have HS3 := Lib.hid hs3
  have HPk := Lib.hid (rpack_any q3 d3 n ll L w3 HLL h1 h2 hll (Lib.hid hd3) (Lib.hid hn3) hs3)
  rw [← HQ.out] at HPk
  have hd3' := Lib.hid hd3
  clear hg3 hs3 hd3 hn3
  go_wp2_with fail
  refine (HPk.out).mono ?_
  rintro e w4 ⟨hb4, v4, rfl, ho4⟩
  obtain ⟨q4, d4, rfl, hs4, -⟩ := own_bytes ho4
  have hb14 := hb3.out.trans (hb4.mono hb3.out.size)
  have hcv4 := conv_any (c := d4) rfl hs4
  have hcp4 := hconv.out w4 hb14
  have HS4 := Lib.hid (HS3.out.below hb4)
  obtain ⟨m4, HM4⟩ : ∃ m4, Hid (m4 = Q.length) := ⟨_, rfl⟩
  rw [← HM4.out] at hcv4 ⊢
  rw [hsq] at hcv4
  have HB4 := Lib.hid (HB1.out.trans (hb14.mono HB1.out.size))
  clear ho4 hs4 hb4 hb14
  go_wp2_with fail
  go_ret2
  exact ⟨HB4.out, rfl⟩
set_option maxRecDepth 100000 in
set_option maxHeartbeats 4000000 in
theorem runpack_same (p : Option Addr) (c n len0 : Nat) (P : List UInt8) (w : World) (h1 : 1 ≤ n) (h2 : n ≤ 8) (hp0 : Hid (P.length = len0)) (hpl : len0 ≤ 1048576) (hb : Bs w p P) (gs : List Nat) (rs : List UInt8) (hK : gs.length ≤ 1048576) (hr : rs.length ≤ 1048576) (hu : Calls Tryz.prog 47 #[.slice p len0 c, .int .i64 (n : Int)] w (RunPost gs rs w)) (hlt : ∀ x ∈ gs, x < W64) (hm : gs.length * n + rs.length ≤ 1048576) (heq : pacL n gs rs = P) (hag : packL (jl n gs ++ rs) n = P) :
    Calls Tryz.prog 24 #[.slice p len0 c, .int .i64 (n : Int)] w (RowB (jl n gs ++ rs) (jl n gs ++ rs).length w) := by
  have HA := Lib.hid (asked_ok_w p len0 c n w h1 h2 hpl)
  have HU := Lib.hid hu
  have HB := Lib.hid hb
  have hn0 : 1 ≤ (n : Int) := by omega
  have hn8 : (n : Int) ≤ 8 := by omega
  obtain ⟨K, HK⟩ : ∃ K, Hid (gs.length = K) := ⟨_, rfl⟩
  obtain ⟨r, HRL⟩ : ∃ r, Hid (rs.length = r) := ⟨_, rfl⟩
  rw [HK.out] at hK
  rw [HRL.out] at hr
  obtain ⟨C, HC⟩ : ∃ C, Hid (C = K * n) := ⟨_, rfl⟩
  have hCl : C ≤ 8388608 := by
    have h5 : K * n ≤ 1048576 * 8 := Nat.mul_le_mul hK h2
    rw [HC.out]; omega
  have hmul : IntKind.i64.wrap ((K : Int) * (n : Int)) = (C : Int) := by
    rw [show (K : Int) * (n : Int) = (C : Int) by rw [HC.out]; simp, IntKind.wrap_i64]; omega
  obtain ⟨SM, HSM⟩ : ∃ SM, Hid (SM = C + r) := ⟨_, rfl⟩
  have hadd : IntKind.i64.wrap ((C : Int) + (r : Int)) = (SM : Int) := by rw [HSM.out, IntKind.wrap_i64]; omega
  obtain ⟨R, HR⟩ : ∃ R, Hid (R = pacL n gs rs) := ⟨_, rfl⟩
  obtain ⟨sp, hsp⟩ : ∃ sp : ByteArray, ⟨P.toArray⟩ = sp := ⟨_, rfl⟩
  obtain ⟨sr, hsr⟩ : ∃ sr : ByteArray, ⟨R.toArray⟩ = sr := ⟨_, rfl⟩
  have hgt : ¬ 1048576 < (SM : Int) := by rw [HK.out, HRL.out] at hm; rw [HSM.out, HC.out]; omega
  have hgd : decide (1048576 < (SM : Int)) = false := decide_eq_false hgt
  have hq : (sr.toList == sp.toList) = true := by rw [← hsp, ← hsr, HR.out, heq]; exact beq_self_eq_true _
  obtain ⟨L, HL⟩ : ∃ L, Hid (L = jl n gs ++ rs) := ⟨_, rfl⟩
  obtain ⟨ll, HLL⟩ : ∃ ll, Hid (ll = L.length) := ⟨_, rfl⟩
  have hll : ll ≤ 1048576 := by rw [HLL.out, HL.out, List.length_append, jl_length]; exact hm
  have hCk : K * n ≤ 1048576 := by rw [HK.out, HRL.out] at hm; omega
  have hr2 : r ≤ 1048576 := by rw [HK.out, HRL.out] at hm; omega
  rw [← HL.out] at hag
  obtain ⟨Q, HQ⟩ : ∃ Q, Hid (Q = packL L n) := ⟨_, rfl⟩
  obtain ⟨sq, hsq⟩ : ∃ sq : ByteArray, ⟨Q.toArray⟩ = sq := ⟨_, rfl⟩
  have hq2 : (sq.toList == sp.toList) = true := by rw [← hsp, ← hsq, HQ.out, hag]; exact beq_self_eq_true _
  rw [← HL.out, ← HLL.out]
  clear hu hb hm heq hag
  go_enter Tryz.func24, Tryz.ntmps24
  go_wp2_with fail
  refine (HA.out).mono ?_
  rintro e w' ⟨rfl, rfl⟩
  go_wp2_with fail
  refine (HU.out).mono ?_
  rintro e w1 ⟨hb1, pg, cg, q, d, rfl, hrd, hbs⟩
  rw [HK.out] at hrd
  rw [HK.out, HRL.out]
  have HB1 := Lib.hid hb1
  have hconv : Hid (∀ W', Below w1.heap.size w1 W' → (convert 22 9 (.slice p len0 c)).run Tryz.prog W' = .ok (.string sp) W') := Lib.hid (fun W' hW => by rw [← hsp]; exact conv_any hp0.out ((HB.out.below HB1.out).below hW))
  have HP := Lib.hid (rpacked_any pg cg K n gs q r d rs w1.drew h1 h2 hK hr (hrd.below (Below.refl _ _).drew) hlt HRL (hbs.below (Below.refl _ _).drew))
  rw [← HR.out] at HP
  have HJ := Lib.hid (fun (W : World) (hW : Below w1.heap.size w1 W) => joined_any_w pg cg K n gs q r d rs W h1 h2 hCk hr2 (hrd.below hW) hlt HRL (hbs.below hW))
  rw [← HL.out] at HJ
  clear hb1 hrd hbs
  go_wp2_with fail
  refine wp_region_noPanic ?_
  refine wp_region_held_drew (S := fun W' => Below w1.heap.size w1 W') (by kernel_rfl) (Below.refl _ _).drew (fun hHeld => ?_)
  refine wpAnyH_take (i := 0) (v := .bool true) rfl (by kernel_rfl) (by kernel_rfl) (by kernel_rfl) (fun _ _ _ h => h) (Or.inl ⟨by rfl, by intro W' hSw; go_simp⟩) (by assumption) ?_
  simp only [List.getElem_toArray, List.getElem_cons_zero, Act.put, List.setIfInBounds_toArray, List.set_cons_zero, List.set_cons_succ]
  refine wpAnyH_take (i := 1) (v := .bool false) rfl (by kernel_rfl) (by kernel_rfl) (by kernel_rfl) (fun _ _ _ h => h) (Or.inl ⟨by rfl, by intro W' hSw; go_simp⟩) (by assumption) ?_
  simp only [List.getElem_toArray, List.getElem_cons_zero, List.getElem_cons_succ, Act.put, List.setIfInBounds_toArray, List.set_cons_zero, List.set_cons_succ]
  refine wpAnyH_take (i := 2) (v := .bool false) rfl (by kernel_rfl) (by kernel_rfl) (by kernel_rfl) (fun _ _ _ h => h) (Or.inl ⟨by rfl, by intro W' hSw; go_simp⟩) (by assumption) ?_
  simp only [List.getElem_toArray, List.getElem_cons_zero, List.getElem_cons_succ, Act.put, List.setIfInBounds_toArray, List.set_cons_zero, List.set_cons_succ]
  refine wpAnyH_take (i := 3) (v := .slice pg K cg) rfl (by kernel_rfl) (by kernel_rfl) (by kernel_rfl) (fun _ _ _ h => h) (Or.inl ⟨by rfl, by intro W' hSw; go_simp⟩) (by assumption) ?_
  simp only [List.getElem_toArray, List.getElem_cons_zero, List.getElem_cons_succ, Act.put, List.setIfInBounds_toArray, List.set_cons_zero, List.set_cons_succ]
  refine wpAnyH_take (i := 4) (v := .int .i64 (K : Int)) rfl (by kernel_rfl) (by kernel_rfl) (by kernel_rfl) (fun _ _ _ h => h) (Or.inl ⟨by rfl, by intro W' hSw; go_simp⟩) (by assumption) ?_
  simp only [List.getElem_toArray, List.getElem_cons_zero, List.getElem_cons_succ, Act.put, List.setIfInBounds_toArray, List.set_cons_zero, List.set_cons_succ]
  refine wpAnyH_take (i := 5) (v := .int .i64 (n : Int)) rfl (by kernel_rfl) (by kernel_rfl) (by kernel_rfl) (fun _ _ _ h => h) (Or.inl ⟨by rfl, by intro W' hSw; go_simp⟩) (by assumption) ?_
  simp only [List.getElem_toArray, List.getElem_cons_zero, List.getElem_cons_succ, Act.put, List.setIfInBounds_toArray, List.set_cons_zero, List.set_cons_succ]
  refine wpAnyH_take (i := 6) (v := .int .i64 (C : Int)) rfl (by kernel_rfl) (by kernel_rfl) (by kernel_rfl) (fun _ _ _ h => h) (Or.inl ⟨by rfl, by intro W' hSw; go_simp⟩) (by assumption) ?_
  simp only [List.getElem_toArray, List.getElem_cons_zero, List.getElem_cons_succ, Act.put, List.setIfInBounds_toArray, List.set_cons_zero, List.set_cons_succ]
  refine wpAnyH_take (i := 7) (v := .slice q r d) rfl (by kernel_rfl) (by kernel_rfl) (by kernel_rfl) (fun _ _ _ h => h) (Or.inl ⟨by rfl, by intro W' hSw; go_simp⟩) (by assumption) ?_
  simp only [List.getElem_toArray, List.getElem_cons_zero, List.getElem_cons_succ, Act.put, List.setIfInBounds_toArray, List.set_cons_zero, List.set_cons_succ]
  refine wpAnyH_take (i := 8) (v := .int .i64 (r : Int)) rfl (by kernel_rfl) (by kernel_rfl) (by kernel_rfl) (fun _ _ _ h => h) (Or.inl ⟨by rfl, by intro W' hSw; go_simp⟩) (by assumption) ?_
  simp only [List.getElem_toArray, List.getElem_cons_zero, List.getElem_cons_succ, Act.put, List.setIfInBounds_toArray, List.set_cons_zero, List.set_cons_succ]
  refine wpAnyH_take (i := 9) (v := .int .i64 (SM : Int)) rfl (by kernel_rfl) (by kernel_rfl) (by kernel_rfl) (fun _ _ _ h => h) (Or.inl ⟨by rfl, by intro W' hSw; go_simp⟩) (by assumption) ?_
  simp only [List.getElem_toArray, List.getElem_cons_zero, List.getElem_cons_succ, Act.put, List.setIfInBounds_toArray, List.set_cons_zero, List.set_cons_succ]
  refine wpAnyH_take (i := 10) (v := .bool false) rfl (by kernel_rfl) (by kernel_rfl) (by kernel_rfl) (fun _ _ _ h => h) (Or.inl ⟨by rfl, by intro W' hSw; go_simp⟩) (by assumption) ?_
  simp only [List.getElem_toArray, List.getElem_cons_zero, List.getElem_cons_succ, Act.put, List.setIfInBounds_toArray, List.set_cons_zero, List.set_cons_succ]
  refine wpAnyH_take (i := 11) (v := .bool false) rfl (by kernel_rfl) (by kernel_rfl) (by kernel_rfl) (fun _ _ _ h => h) (Or.inl ⟨by rfl, by intro W' hSw; go_simp⟩) (by assumption) ?_
  simp only [List.getElem_toArray, List.getElem_cons_zero, List.getElem_cons_succ, Act.put, List.setIfInBounds_toArray, List.set_cons_zero, List.set_cons_succ]
  refine wpAnyH_take (i := 12) (v := .bool false) rfl (by kernel_rfl) (by kernel_rfl) (by kernel_rfl) (fun _ _ _ h => h) (Or.inl ⟨by rfl, by intro W' hSw; go_simp⟩) (by assumption) ?_
  simp only [List.getElem_toArray, List.getElem_cons_zero, List.getElem_cons_succ, Act.put, List.setIfInBounds_toArray, List.set_cons_zero, List.set_cons_succ]
  refine wpAnyH_take (i := 13) (v := .slice pg K cg) rfl (by kernel_rfl) (by kernel_rfl) (by kernel_rfl) (fun _ _ _ h => h) (Or.inl ⟨by rfl, by intro W' hSw; go_simp⟩) (by assumption) ?_
  simp only [List.getElem_toArray, List.getElem_cons_zero, List.getElem_cons_succ, Act.put, List.setIfInBounds_toArray, List.set_cons_zero, List.set_cons_succ]
  refine wpAnyH_take (i := 14) (v := .int .i64 (n : Int)) rfl (by kernel_rfl) (by kernel_rfl) (by kernel_rfl) (fun _ _ _ h => h) (Or.inl ⟨by rfl, by intro W' hSw; go_simp⟩) (by assumption) ?_
  simp only [List.getElem_toArray, List.getElem_cons_zero, List.getElem_cons_succ, Act.put, List.setIfInBounds_toArray, List.set_cons_zero, List.set_cons_succ]
  refine wpAnyH_take (i := 15) (v := .slice q r d) rfl (by kernel_rfl) (by kernel_rfl) (by kernel_rfl) (fun _ _ _ h => h) (Or.inl ⟨by rfl, by intro W' hSw; go_simp⟩) (by assumption) ?_
  simp only [List.getElem_toArray, List.getElem_cons_zero, List.getElem_cons_succ, Act.put, List.setIfInBounds_toArray, List.set_cons_zero, List.set_cons_succ]
  refine wpAnyH_take (i := 18) (v := .slice p len0 c) rfl (by kernel_rfl) (by kernel_rfl) (by kernel_rfl) (fun _ _ _ h => h) (Or.inl ⟨by rfl, by intro W' hSw; go_simp⟩) (by assumption) ?_
  simp only [List.getElem_toArray, List.getElem_cons_zero, List.getElem_cons_succ, Act.put, List.setIfInBounds_toArray, List.set_cons_zero, List.set_cons_succ]
  refine wpAnyH_take (i := 19) (v := .string sp) rfl (by kernel_rfl) (by kernel_rfl) (by kernel_rfl) (fun _ _ _ h => h) (Or.inl ⟨by rfl, by intro W' hSw; have hcv := hconv.out W' hSw; go_simp⟩) (by assumption) ?_
  simp only [List.getElem_toArray, List.getElem_cons_zero, List.getElem_cons_succ, Act.put, List.setIfInBounds_toArray, List.set_cons_zero, List.set_cons_succ]
  refine wpAnyH_ready (rs := [16]) (by kernel_rfl) (by simp) ?_
  refine AllReadyH.cons (i := 16) rfl (fun K hK => ?_) AllReadyH.nil
  go_simp
  refine (HP.out).mono ?_
  rintro e w2 ⟨v2, rfl, hg2⟩
  have hb2 : Below w1.heap.size w1 w2 := (Below.refl _ w1).drew.trans (hg2.below (Nat.le_refl _) (by intro k hk; cases hk))
  obtain ⟨q2, d2, rfl, hs2, -⟩ := own_bytes hg2.own
  have hcv2 := conv_any (c := d2) rfl hs2
  obtain ⟨m2, HM2⟩ : ∃ m2, Hid (m2 = R.length) := ⟨_, rfl⟩
  rw [← HM2.out] at hcv2 ⊢
  rw [hsr] at hcv2
  clear hg2 hs2
  refine hK.out _ _ (hb2) (fun hHeld => ?_)
  clear hK K
  refine wpAnyH_ready (rs := [17]) (by kernel_rfl) (by simp) ?_
  refine AllReadyH.cons (i := 17) rfl (fun K hK => ?_) AllReadyH.nil
  go_simp
  refine hK.out _ _ (hb2) (fun hHeld => ?_)
  clear hK K
  refine wpAnyH_take (i := 20) (v := .bool false) rfl (by kernel_rfl) (by kernel_rfl) (by kernel_rfl) (fun _ _ _ h => h) (Or.inl ⟨by rfl, by intro W' hSw; go_simp⟩) (by assumption) ?_
  simp only [List.getElem_toArray, List.getElem_cons_zero, List.getElem_cons_succ, Act.put, List.setIfInBounds_toArray, List.set_cons_zero, List.set_cons_succ]
  refine wpAnyH_take (i := 21) (v := .bool false) rfl (by kernel_rfl) (by kernel_rfl) (by kernel_rfl) (fun _ _ _ h => h) (Or.inl ⟨by rfl, by intro W' hSw; go_simp⟩) (by assumption) ?_
  simp only [List.getElem_toArray, List.getElem_cons_zero, List.getElem_cons_succ, Act.put, List.setIfInBounds_toArray, List.set_cons_zero, List.set_cons_succ]
  refine wpAnyH_done (by kernel_rfl) ?_ _
  refine NoPanic.normal ?_
  clear hHeld
  clear hcv2
  go_wp2_with fail
  refine (HJ.out _ hb2).mono ?_
  rintro e w3 ⟨v3, rfl, hg3⟩
  obtain ⟨q3, d3, rfl, hs3, hd3⟩ := own_bytes hg3.own
  have hn3 := own_nocap hg3.own
  rw [← HLL.out] at hd3 ⊢
  have hb3 := Lib.hid (hb2.trans ((hg3.below (Nat.le_refl _) (by intro k hk; cases hk)).mono hb2.size))
  have HS3 := Lib.hid hs3
  have HPk := Lib.hid (rpack_any q3 d3 n ll L w3 HLL h1 h2 hll (Lib.hid hd3) (Lib.hid hn3) hs3)
  rw [← HQ.out] at HPk
  have hd3' := Lib.hid hd3
  clear hg3 hs3 hd3 hn3
  go_wp2_with fail
  refine (HPk.out).mono ?_
  rintro e w4 ⟨hb4, v4, rfl, ho4⟩
  obtain ⟨q4, d4, rfl, hs4, -⟩ := own_bytes ho4
  have hb14 := hb3.out.trans (hb4.mono hb3.out.size)
  have hcv4 := conv_any (c := d4) rfl hs4
  have hcp4 := hconv.out w4 hb14
  have HS4 := Lib.hid (HS3.out.below hb4)
  obtain ⟨m4, HM4⟩ : ∃ m4, Hid (m4 = Q.length) := ⟨_, rfl⟩
  rw [← HM4.out] at hcv4 ⊢
  rw [hsq] at hcv4
  have HB4 := Lib.hid (HB1.out.trans (hb14.mono HB1.out.size))
  clear ho4 hs4 hb4 hb14
  go_wp2_with fail
  go_ret2
  exact ⟨HB4.out, _, _, rfl, hd3'.out, HS4.out⟩
end Go.Proofs.YtpbcdmefngbjjaaGreatDoor
namespace Go.Proofs.YtpbcdmefngbjjaaGreatDoor
open Go.RowKit
open Go.Lib
/-- What the document's unpacked reads. -/
def runO (P : List UInt8) (n : Nat) : Option (List Nat × List UInt8) :=
  if P.length < 4 then none
  else if nb (P.take 4) = 0 then some ([], P.drop 4)
  else if 1048576 < nb (P.take 4) then none
  else if P.length < 5 + n then none
  else if 64 < (P.getD (4 + n) 0).toNat then none
  else if P.length - (5 + n) < (nb (P.take 4) * (P.getD (4 + n) 0).toNat + 7) / 8 then none
  else some (unG (rdB (P.drop (5 + n))) (P.getD (4 + n) 0).toNat (nb ((P.drop 4).take n)) (nb (P.take 4)), (P.drop (5 + n)).drop ((nb (P.take 4) * (P.getD (4 + n) 0).toNat + 7) / 8))
theorem runp_any (p : Option Addr) (c n len0 : Nat) (P : List UInt8) (w : World) (h1 : 1 ≤ n) (h2 : n ≤ 8) (hp0 : Hid (P.length = len0)) (hpl : len0 ≤ 1048576) (hc : len0 ≤ c) (hb : Bs w p P) :
    (∀ gs rs, runO P n = some (gs, rs) → gs.length ≤ 1048576 ∧ rs.length ≤ 1048576 ∧ ∀ g ∈ gs, g < W64) ∧
    Calls Tryz.prog 47 #[.slice p len0 c, .int .i64 (n : Int)] w (fun e w' => match runO P n with | none => RunBad w e w' | some (gs, rs) => RunPost gs rs w e w') := by
  have hpo := hp0.out
  unfold runO
  by_cases h4 : P.length < 4
  · rw [if_pos h4]
    exact ⟨(fun _ _ e => by cases e), runp_short p len0 c n w (by omega)⟩
  rw [if_neg h4]
  obtain ⟨b0, off, rfl⟩ := bs_addr hb (by omega)
  obtain ⟨k, HK⟩ : ∃ k, nb (P.take 4) = k := ⟨_, rfl⟩
  rw [HK]
  by_cases hk0 : k = 0
  · rw [if_pos hk0]
    refine ⟨(fun gs rs e => ?_), runp_zero b0 off len0 c n k P w h1 h2 (by omega) hc (by omega) hp0 (Lib.hid HK) hk0 hb⟩
    have e2 := Option.some.inj e
    cases e2
    exact ⟨Nat.zero_le _, by rw [List.length_drop]; omega, (fun _ h => by cases h)⟩
  rw [if_neg hk0]
  by_cases hkm : 1048576 < k
  · rw [if_pos hkm]
    exact ⟨(fun _ _ e => by cases e), runp_many b0 off len0 c n k P w h1 h2 (by omega) hc (by omega) hp0 (Lib.hid HK) hkm hb⟩
  rw [if_neg hkm]
  by_cases hh : P.length < 5 + n
  · rw [if_pos hh]
    exact ⟨(fun _ _ e => by cases e), runp_head b0 off len0 c n k P w h1 h2 (by omega) hc (by omega) hp0 (Lib.hid HK) (Nat.pos_of_ne_zero hk0) (by omega) (by omega) hb⟩
  rw [if_neg hh]
  obtain ⟨wd, HW⟩ : ∃ wd, (P.getD (4 + n) 0).toNat = wd := ⟨_, rfl⟩
  rw [HW]
  by_cases hw : 64 < wd
  · rw [if_pos hw]
    exact ⟨(fun _ _ e => by cases e), runp_wide b0 off len0 c n k P w h1 h2 (by omega) hc (by omega) hp0 (Lib.hid HK) wd (Nat.pos_of_ne_zero hk0) (by omega) (by omega) (Lib.hid HW) hw hb⟩
  rw [if_neg hw]
  by_cases hs : P.length - (5 + n) < (k * wd + 7) / 8
  · rw [if_pos hs]
    refine ⟨(fun _ _ e => by cases e), ?_⟩
    by_cases hcap : 5 + n < c
    · exact runp_bitsA b0 off len0 c n k P w h1 h2 (by omega) hc (by omega) hp0 (Lib.hid HK) hcap wd (Nat.pos_of_ne_zero hk0) (by omega) (by omega) (Lib.hid HW) (by omega) (by rw [← hpo]; exact hs) hb
    · exact runp_bitsB b0 off len0 c n k P w h1 h2 (by omega) hc (by omega) hp0 (Lib.hid HK) (by omega) wd (Nat.pos_of_ne_zero hk0) (by omega) (by omega) (Lib.hid HW) (by omega) (by rw [← hpo]; exact hs) hb
  rw [if_neg hs]
  refine ⟨(fun gs rs e => ?_), ?_⟩
  · have e2 := Option.some.inj e
    cases e2
    exact ⟨by rw [unG_length]; omega, by rw [List.length_drop, List.length_drop]; omega, unG_lt _ _ _ _⟩
  · by_cases hcap : 5 + n < c
    · exact runp_okA b0 off len0 c n k P w h1 h2 (by omega) hc (by omega) hp0 (Lib.hid HK) hcap wd (Nat.pos_of_ne_zero hk0) (by omega) (by omega) (Lib.hid HW) (by omega) (by rw [← hpo]; omega) hb
    · exact runp_okB b0 off len0 c n k P w h1 h2 (by omega) hc (by omega) hp0 (Lib.hid HK) (by omega) wd (Nat.pos_of_ne_zero hk0) (by omega) (by omega) (Lib.hid HW) (by omega) (by rw [← hpo]; omega) hb
theorem runO_pack {l : List UInt8} {n : Nat} (h1 : 1 ≤ n) (h2 : n ≤ 8) (hl : l.length ≤ 1048576) : runO (packL l n) n = some (gl n (l.length / n) l, l.drop (l.length / n * n)) := by
  by_cases hk : l.length / n = 0
  · have hP2 : packL l n = be 4 0 ++ l := by rw [packL, hk, Nat.zero_mul, List.drop_zero]; rfl
    rw [hP2, hk, Nat.zero_mul, List.drop_zero, runO, if_neg (by rw [List.length_append, be_length]; omega), take_be, if_pos (show nb (be 4 0) = 0 from rfl), drop_be]; rfl
  · have hp := packL_parts h1 h2 hl (Nat.pos_of_ne_zero hk)
    obtain ⟨P, HP⟩ : ∃ P, P = packL l n := ⟨_, rfl⟩
    obtain ⟨k, HK⟩ : ∃ k, k = l.length / n := ⟨_, rfl⟩
    obtain ⟨m, HM⟩ : ∃ m, m = mnL (gl n k l) := ⟨_, rfl⟩
    obtain ⟨wd, HW⟩ : ∃ wd, wd = wdL (gl n k l) := ⟨_, rfl⟩
    rw [← HP] at hp ⊢
    rw [← HK] at hp hk ⊢
    rw [← HM, ← HW] at hp
    have hlen := hp.len
    have hwid : (P.getD (4 + n) 0).toNat = wd := by
      rw [← hp.wid, List.getD_eq_getElem?_getD, List.getD_eq_getElem?_getD, List.getElem?_drop]
    have hwd := hp.wdl
    have hd : P.drop (5 + n) = (P.drop 4).drop (n + 1) := by rw [List.drop_drop]; congr 1; omega
    have hkl : k ≤ 1048576 := by rw [HK]; exact Nat.le_trans (Nat.div_le_self _ _) hl
    rw [runO, hp.cnt, hwid, hd, hp.lst, if_neg (by omega), if_neg hk, if_neg (by omega), if_neg (by omega), if_neg (by omega), if_neg (by omega), hp.grp, hp.rst]
theorem runpack_packed (p : Option Addr) (c n len0 len : Nat) (l P : List UInt8) (w : World) (hP : Hid (P = packL l n)) (h1 : 1 ≤ n) (h2 : n ≤ 8) (hlen : Hid (len = l.length)) (hl : len ≤ 1048576) (hp0 : Hid (P.length = len0)) (hpl : len0 ≤ 1048576) (hc : Hid (len0 ≤ c)) (hb : Bs w p P) :
    Calls Tryz.prog 24 #[.slice p len0 c, .int .i64 (n : Int)] w (RowB l len w) := by
  have hlo := hlen.out
  subst hlo
  obtain ⟨hf, hu⟩ := runp_any p c n len0 P w h1 h2 hp0 hpl hc.out hb
  have ho : runO P n = some (gl n (l.length / n) l, l.drop (l.length / n * n)) := by rw [hP.out]; exact runO_pack h1 h2 hl
  obtain ⟨f1, f2, f3⟩ := hf _ _ ho
  rw [ho] at hu
  have hkn : l.length / n * n ≤ l.length := Nat.div_mul_le_self _ _
  have hjl : jl n (gl n (l.length / n) l) ++ l.drop (l.length / n * n) = l := jl_gl n _ l hkn
  have h := runpack_same p c n len0 P w h1 h2 hp0 hpl hb _ _ f1 f2 hu f3 (by rw [gl_length, List.length_drop]; omega) (by rw [hP.out]; rfl) (by rw [hjl]; exact hP.out.symm)
  rwa [hjl] at h
theorem runpack_nopack (p : Option Addr) (c n len0 : Nat) (P : List UInt8) (w : World) (h1 : 1 ≤ n) (h2 : n ≤ 8) (hp0 : Hid (P.length = len0)) (hpl : len0 ≤ 1048576) (hc : len0 ≤ c) (hno : NoPack P n) (hb : Bs w p P) :
    Calls Tryz.prog 24 #[.slice p len0 c, .int .i64 (n : Int)] w (NoPost w) := by
  obtain ⟨hf, hu⟩ := runp_any p c n len0 P w h1 h2 hp0 hpl hc hb
  cases ho : runO P n with
  | none =>
    rw [ho] at hu
    exact runpack_none p c n len0 P w h1 h2 hp0 hpl hb hu
  | some x =>
    obtain ⟨gs, rs⟩ := x
    obtain ⟨f1, f2, f3⟩ := hf _ _ ho
    rw [ho] at hu
    by_cases hm : 1048576 < gs.length * n + rs.length
    · exact runpack_much p c n len0 P w h1 h2 hp0 hpl hb gs rs f1 f2 hu hm
    · by_cases heq : pacL n gs rs = P
      · exact runpack_again p c n len0 P w h1 h2 hp0 hpl hb gs rs f1 f2 hu f3 (by omega) heq (hno _ (by rw [List.length_append, jl_length]; omega))
      · exact runpack_diff p c n len0 P w h1 h2 hp0 hpl hb gs rs f1 f2 hu f3 (by omega) heq
set_option maxRecDepth 100000 in
set_option maxHeartbeats 1600000 in
theorem unpack_bad (p : Option Addr) (k c : Nat) (n : Int) (w : World) (h : n < 1 ∨ 8 < n) : Calls Tryz.prog 23 #[.slice p k c, .int .i64 n] w (BadPost w) := by
  have H : Hid (∀ W, Calls Tryz.prog 38 #[.slice p k c, .int .i64 n] W fun e w' => e = .returned (.int .i64 2) ∧ W = w') := Lib.hid fun W => check_bad p k c n W h
  clear h
  go_enter Tryz.func23, Tryz.ntmps23
  go_wp2_with fail
  refine (H.out _).mono ?_
  rintro e w' ⟨rfl, rfl⟩
  go_wp2_with fail
  go_ret2
  exact ⟨Below.refl _ _, rfl⟩
set_option maxRecDepth 100000 in
set_option maxHeartbeats 1600000 in
theorem runpack_bad (p : Option Addr) (k c : Nat) (n : Int) (w : World) (h : n < 1 ∨ 8 < n) : Calls Tryz.prog 24 #[.slice p k c, .int .i64 n] w (BadPost w) := by
  have H := Lib.hid (asked_bad p k c n w h)
  clear h
  go_enter Tryz.func24, Tryz.ntmps24
  go_wp2_with fail
  refine (H.out).mono ?_
  rintro e w' ⟨rfl, rfl⟩
  go_wp2_with fail
  go_ret2
  exact ⟨Below.refl _ _, rfl⟩
set_option maxRecDepth 100000 in
set_option maxHeartbeats 1600000 in
theorem unpacks_long (p : Option Addr) (c : Nat) (l : List UInt8) (z : Int) (w : World) (hs : SaneAt w) (hl : 300 < l.length) :
    Calls Tryz.prog 6 #[.slice p l.length c, .int .i64 z] w (SanePost w) := by
  have HS := Lib.hid (hs w (Below.refl _ _))
  clear hs
  have hl3 : (300 : Int) < l.length := by omega
  go_enter Tryz.func6, Tryz.ntmps6
  go_wp2_with fail
  refine (HS.out).mono ?_
  rintro e w' ⟨rfl, hb⟩
  have HB := Lib.hid hb
  clear hb
  go_wp2_with fail
  go_ret
  exact ⟨rfl, HB.out⟩
/-- Both sides answer with no bytes and one error. -/
theorem unpacks_err (p : Option Addr) (c len : Nat) (z x : Int) (w : World) (hs : SaneAt w) (hl : len ≤ 300)
    (ha : ∀ W, Below w.heap.size w W → Calls Tryz.prog 23 #[.slice p len c, .int .i64 z] W fun e w' => Below W.heap.size W w' ∧ e = .returned (.tuple #[.slice none 0 0, .int .i64 x]))
    (hr : ∀ W, Below w.heap.size w W → Calls Tryz.prog 24 #[.slice p len c, .int .i64 z] W fun e w' => Below W.heap.size W w' ∧ e = .returned (.tuple #[.slice none 0 0, .int .i64 x])) :
    Calls Tryz.prog 6 #[.slice p len c, .int .i64 z] w (SanePost w) := by
  have HS := Lib.hid hs
  have HA := Lib.hid (ha w (Below.refl _ _))
  have HR := Lib.hid hr
  have hl3 : (len : Int) ≤ 300 := by omega
  clear hs ha hr hl
  go_enter Tryz.func6, Tryz.ntmps6
  go_wp2_with fail
  refine (HA.out).mono ?_
  rintro e w1 ⟨hb1, rfl⟩
  have HB1 := Lib.hid hb1
  clear hb1
  go_wp2_with fail
  refine (HR.out w1 HB1.out).mono ?_
  rintro e w2 ⟨hb2, rfl⟩
  have HB2 := Lib.hid (HB1.out.trans (hb2.mono HB1.out.size))
  clear hb2
  go_wp2_with fail
  refine (is_same none none 0 0 [] x w2 (Bs.nil _ _) (Bs.nil _ _)).mono ?_
  rintro e w5 ⟨rfl, rfl⟩
  go_wp2_with fail
  refine (HS.out _ HB2.out).mono ?_
  rintro e w6 ⟨rfl, hb6⟩
  have HB6 := Lib.hid (HB2.out.trans (hb6.mono HB2.out.size))
  clear hb6
  go_wp2_with fail
  go_ret
  exact ⟨rfl, HB6.out⟩
set_option maxRecDepth 100000 in
set_option maxHeartbeats 1600000 in
theorem unpacks_ok (p : Option Addr) (c n len0 len : Nat) (l P : List UInt8) (w : World) (hs : SaneAt w) (hP : Hid (P = packL l n)) (h1 : 1 ≤ n) (h2 : n ≤ 8) (hlen : Hid (len = l.length)) (hl : len ≤ 1048576) (hp0 : Hid (P.length = len0)) (hpl : len0 ≤ 300) (hc : Hid (len0 ≤ c)) (hb : Bs w p P) :
    Calls Tryz.prog 6 #[.slice p len0 c, .int .i64 (n : Int)] w (SanePost w) := by
  have HS := Lib.hid hs
  have HA := Lib.hid (unpack_packed p c n len0 len l P w hP h1 h2 hlen hl hp0 (by omega) hc hb)
  have HR := Lib.hid (fun (W : World) (hW : Below w.heap.size w W) => runpack_packed p c n len0 len l P W hP h1 h2 hlen hl hp0 (by omega) hc (hb.below hW))
  have hl3 : (len0 : Int) ≤ 300 := by omega
  clear hs hb hpl
  go_enter Tryz.func6, Tryz.ntmps6
  go_wp2_with fail
  refine (HA.out).mono ?_
  rintro e w1 ⟨hb1, q1, d1, rfl, -, hs1⟩
  have HB1 := Lib.hid hb1
  have S1 := Lib.hid hs1
  clear hb1 hs1
  go_wp2_with fail
  refine (HR.out w1 HB1.out).mono ?_
  rintro e w2 ⟨hb2, q2, d2, rfl, -, hs2⟩
  have HB2 := Lib.hid (HB1.out.trans (hb2.mono HB1.out.size))
  have S1' := Lib.hid (S1.out.below hb2)
  have S2 := Lib.hid hs2
  clear hb2 hs2
  go_wp2_with fail
  refine (is_b q1 q2 d1 d2 len l 0 w2 hlen.out.symm S1'.out S2.out).mono ?_
  rintro e w5 ⟨rfl, rfl⟩
  go_wp2_with fail
  refine (HS.out _ HB2.out).mono ?_
  rintro e w6 ⟨rfl, hb6⟩
  have HB6 := Lib.hid (HB2.out.trans (hb6.mono HB2.out.size))
  clear hb6
  go_wp2_with fail
  go_ret
  exact ⟨rfl, HB6.out⟩
theorem unpacks_any (p : Option Addr) (c : Nat) (l : List UInt8) (z : Int) (w : World) (hs : SaneAt w) (hc : l.length ≤ c) (_hpc : p = none → c = 0) (hb : Bs w p l) :
    Calls Tryz.prog 6 #[.slice p l.length c, .int .i64 z] w (SanePost w) := by
  by_cases h1 : 300 < l.length
  · exact unpacks_long p c l z w hs h1
  · by_cases hz : z < 1 ∨ 8 < z
    · exact unpacks_err p c l.length z 2 w hs (by omega) (fun W _ => unpack_bad p l.length c z W hz) (fun W _ => runpack_bad p l.length c z W hz)
    · obtain ⟨n, rfl⟩ : ∃ n : Nat, z = (n : Int) := ⟨z.toNat, by omega⟩
      have hn1 : 1 ≤ n := by omega
      have hn2 : n ≤ 8 := by omega
      by_cases hno : NoPack l n
      · exact unpacks_err p c l.length n 5 w hs (by omega) (fun W hW => unpack_nopack p c n l.length l W hn1 hn2 (Lib.hid rfl) (by omega) hc hno (hb.below hW)) (fun W hW => runpack_nopack p c n l.length l W hn1 hn2 (Lib.hid rfl) (by omega) hc hno (hb.below hW))
      · obtain ⟨L, hL⟩ := Classical.not_forall.1 hno
        obtain ⟨hL1, hL2⟩ := Classical.not_imp.1 hL
        exact unpacks_ok p c n l.length L.length L l w hs (Lib.hid (Classical.not_not.1 hL2).symm) hn1 hn2 (Lib.hid rfl) hL1 (Lib.hid rfl) (by omega) (Lib.hid hc) hb
end Go.Proofs.YtpbcdmefngbjjaaGreatDoor
