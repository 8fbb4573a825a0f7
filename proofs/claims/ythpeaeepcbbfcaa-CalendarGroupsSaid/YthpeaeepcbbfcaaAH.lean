/- The date of a day number, as the document has it. -/
import Derived.Test.YthpeaeepcbbfcaaAF
import Derived.Deep.Cut
namespace Go.Proofs.Ythpeaeepcbbfcaa
open Go.RowKit

/-- The result's box and the date's. -/
structure Dq (R D : Nat) (z k e : Int) (w0 W : World) : Prop where
  low : w0.heap.size ≤ R
  far : R < D
  below : Below w0.heap.size w0 W
  bd : Bk W D #[.int .i64 z, .int .i64 k, .int .i64 e] 28
  br : Bk W R #[.int .i64 0, .int .i64 0, .int .i64 0] 28
variable {R D : Nat} {z k e : Int} {w0 W W' : World}
theorem Dq.cells (h : Dq R D z k e w0 W) : W.cell? ⟨D, 0, none⟩ = some (.int .i64 z) ∧ W.cell? ⟨D, 1, none⟩ = some (.int .i64 k) ∧ W.cell? ⟨D, 2, none⟩ = some (.int .i64 e) ∧ W.frozen? ⟨D, 0, none⟩ = false ∧ W.frozen? ⟨D, 1, none⟩ = false ∧ W.frozen? ⟨D, 2, none⟩ = false :=
  ⟨h.bd.cell 0, h.bd.cell 1, h.bd.cell 2, h.bd.free 0, h.bd.free 1, h.bd.free 2⟩
theorem Dq.res (h : Dq R D z k e w0 W) : (W.cell? ⟨R, 0, none⟩ = some (.int .i64 0) ∧ W.cell? ⟨R, 1, none⟩ = some (.int .i64 0) ∧ W.cell? ⟨R, 2, none⟩ = some (.int .i64 0)) ∧ W.frozen? ⟨R, 0, none⟩ = false ∧ W.frozen? ⟨R, 1, none⟩ = false ∧ W.frozen? ⟨R, 2, none⟩ = false :=
  ⟨⟨h.br.cell 0, h.br.cell 1, h.br.cell 2⟩, h.br.free 0, h.br.free 1, h.br.free 2⟩
theorem Dq.put0 (h : Dq R D z k e w0 W) (u : Int) : Dq R D u k e w0 (W.setCell ⟨D, 0, none⟩ (.int .i64 u)) :=
  ⟨h.low, h.far, h.below.setCell (by show w0.heap.size ≤ D; have := h.low; have := h.far; omega) _, heap_set' _ _ _ _ _ h.bd, h.br.far (by have := h.far; omega) _⟩
theorem Dq.put1 (h : Dq R D z k e w0 W) (u : Int) : Dq R D z u e w0 (W.setCell ⟨D, 1, none⟩ (.int .i64 u)) :=
  ⟨h.low, h.far, h.below.setCell (by show w0.heap.size ≤ D; have := h.low; have := h.far; omega) _, heap_set' _ _ _ _ _ h.bd, h.br.far (by have := h.far; omega) _⟩
theorem Dq.put2 (h : Dq R D z k e w0 W) (u : Int) : Dq R D z k u w0 (W.setCell ⟨D, 2, none⟩ (.int .i64 u)) :=
  ⟨h.low, h.far, h.below.setCell (by show w0.heap.size ≤ D; have := h.low; have := h.far; omega) _, heap_set' _ _ _ _ _ h.bd, h.br.far (by have := h.far; omega) _⟩


set_option maxRecDepth 100000 in
set_option maxHeartbeats 3200000 in
theorem rdate_low (c n : Int) (w : World) (h : isCal c) (h0 : n < start c (-9999)) : Calls Try.prog 61 #[.int .i64 c, .int .i64 n] w fun e w' => e = .returned (.tuple #[.agg #[.int .i64 0, .int .i64 0, .int .i64 0], .bool false]) ∧ Below w.heap.size w w' := by
  have hf0 := Lib.hid (fun W => first_ref c (-9999) W h (by omega) (by omega))
  have hf1 := Lib.hid (fun W => first_ref c 9999 W h (by omega) (by omega))
  have hl := Lib.hid (fun y W => rlength_any c y W h)
  obtain ⟨sa, sb⟩ := start_bd c 9999 (by omega) (by omega)
  obtain ⟨la, lb⟩ := len_bd c 9999
  have hs1 := Lib.hid (start_succ c 9999)
  have t0 : decide (n < start c (-9999)) = true := by simpa using h0
  clear h0
  have HB := Lib.hid (Below.refl w.heap.size w)
  have br := Lib.hid (Bk.newAt w #[.int .i64 0, .int .i64 0, .int .i64 0] 28 (w.heap.size) (by simp))
  have HB := Lib.hid (kept_more (o := (.cells #[.int .i64 0, .int .i64 0, .int .i64 0] 28)) HB.out)
  go_enter Try.func61, Try.ntmps61
  go_wp2_with fail
  refine (hf0.out _).mono ?_
  rintro e w2 ⟨rfl, hb⟩
  have br := Lib.hid (br.out.next hb)
  have HB := Lib.hid (bel_next HB.out hb)
  clear hb
  have br_c0 := br.out.cell 0
  have br_f0 := br.out.free 0
  have br_c1 := br.out.cell 1
  have br_f1 := br.out.free 1
  have br_c2 := br.out.cell 2
  have br_f2 := br.out.free 2
  go_wp2_with fail
  refine bodyPost_ret (v := .tuple #[.agg #[.int .i64 0, .int .i64 0, .int .i64 0], .bool false]) (by simp [results, Try.results61, go_sem, br_c0, br_c1, br_c2]) rfl ⟨rfl, setCell3 HB.out _ _ _⟩

set_option maxRecDepth 100000 in
set_option maxHeartbeats 3200000 in
theorem rdate_high (c n : Int) (w : World) (h : isCal c) (h0 : start c (-9999) ≤ n) (h1 : start c 10000 ≤ n) : Calls Try.prog 61 #[.int .i64 c, .int .i64 n] w fun e w' => e = .returned (.tuple #[.agg #[.int .i64 0, .int .i64 0, .int .i64 0], .bool false]) ∧ Below w.heap.size w w' := by
  have hf0 := Lib.hid (fun W => first_ref c (-9999) W h (by omega) (by omega))
  have hf1 := Lib.hid (fun W => first_ref c 9999 W h (by omega) (by omega))
  have hl := Lib.hid (fun y W => rlength_any c y W h)
  obtain ⟨sa, sb⟩ := start_bd c 9999 (by omega) (by omega)
  obtain ⟨la, lb⟩ := len_bd c 9999
  have hs1 := Lib.hid (start_succ c 9999)
  have t0 : decide (n < start c (-9999)) = false := by simpa using h0
  have t1 : decide (start c 9999 + len c 9999 ≤ n) = true := by rw [show (9999 : Int) + 1 = 10000 by omega] at hs1; simp; have := hs1.out; omega
  clear h0 h1
  have HB := Lib.hid (Below.refl w.heap.size w)
  have br := Lib.hid (Bk.newAt w #[.int .i64 0, .int .i64 0, .int .i64 0] 28 (w.heap.size) (by simp))
  have HB := Lib.hid (kept_more (o := (.cells #[.int .i64 0, .int .i64 0, .int .i64 0] 28)) HB.out)
  go_enter Try.func61, Try.ntmps61
  go_wp2_with fail
  refine (hf0.out _).mono ?_
  rintro e w2 ⟨rfl, hb⟩
  have br := Lib.hid (br.out.next hb)
  have HB := Lib.hid (bel_next HB.out hb)
  clear hb
  go_wp2_with fail
  refine (hf1.out _).mono ?_
  rintro e w3 ⟨rfl, hb⟩
  have br := Lib.hid (br.out.next hb)
  have HB := Lib.hid (bel_next HB.out hb)
  clear hb
  go_wp2_with fail
  refine (hl.out 9999 _).mono ?_
  rintro e w4 ⟨rfl, rfl⟩
  have br_c0 := br.out.cell 0
  have br_f0 := br.out.free 0
  have br_c1 := br.out.cell 1
  have br_f1 := br.out.free 1
  have br_c2 := br.out.cell 2
  have br_f2 := br.out.free 2
  go_wp2_with fail
  refine bodyPost_ret (v := .tuple #[.agg #[.int .i64 0, .int .i64 0, .int .i64 0], .bool false]) (by simp [results, Try.results61, go_sem, br_c0, br_c1, br_c2]) rfl ⟨rfl, setCell3 HB.out _ _ _⟩
/-- The document's date. -/
def RDate (c n : Int) (w : World) (x : Ending) (w' : World) : Prop :=
  Below w.heap.size w w' ∧ ∃ y m d : Int, x = .returned (.tuple #[.agg #[.int .i64 y, .int .i64 m, .int .i64 d], .bool true]) ∧ Ok c y m d ∧ num c y m d = n
theorem year_start {c n : Int} (h : isCal c) (h0 : start c (-9999) ≤ n) (h1 : n < start c 10000) : -25 ≤ n / start c 400 ∧ n / start c 400 ≤ 24 ∧ 0 ≤ n % start c 400 ∧ start c (400 * (n / start c 400)) + n % start c 400 = n := by
  obtain ⟨c0, c1⟩ := cycle_bd c
  have e := start_split c (n / start c 400) 0 h
  rw [start_zero, Int.add_zero, Int.add_zero] at e
  have e1 := start_split c (-25) 0 h
  rw [start_zero, Int.add_zero, Int.add_zero] at e1
  have e2 := start_split c 25 0 h
  rw [start_zero, Int.add_zero, Int.add_zero] at e2
  have m1 := start_le c (400 * (-25)) (-9999) (by omega)
  rw [e1] at m1
  have e3 : (400 : Int) * 25 = 10000 := by omega
  rw [e3] at e2
  rw [e2] at h1
  have hp : 0 < start c 400 := by omega
  refine ⟨?_, ?_, Int.emod_nonneg _ (by omega), ?_⟩
  · exact (Int.le_ediv_iff_mul_le hp).2 (by omega)
  · exact Int.lt_add_one_iff.1 (Int.ediv_lt_of_lt_mul hp (by omega))
  · rw [e, Int.mul_comm]; exact Int.mul_ediv_add_emod n (start c 400)

set_option maxRecDepth 100000 in
set_option maxHeartbeats 3200000 in
theorem rdate_ok (c n : Int) (w : World) (h : isCal c) (h0 : start c (-9999) ≤ n) (h1 : n < start c 10000) : Calls Try.prog 61 #[.int .i64 c, .int .i64 n] w (RDate c n w) := by
  have hf0 := Lib.hid (fun W => first_ref c (-9999) W h (by omega) (by omega))
  have hf1 := Lib.hid (fun W => first_ref c 9999 W h (by omega) (by omega))
  have hl := Lib.hid (fun y W => rlength_any c y W h)
  obtain ⟨sa, sb⟩ := start_bd c 9999 (by omega) (by omega)
  obtain ⟨la, lb⟩ := len_bd c 9999
  have hs1 := Lib.hid (start_succ c 9999)
  have t0 : decide (n < start c (-9999)) = false := by simpa using h0
  have t1 : decide (start c 9999 + len c 9999 ≤ n) = false := by rw [show (9999 : Int) + 1 = 10000 by omega] at hs1; simp; have := hs1.out; omega
  have hcy := Lib.hid (fun W => cycle_any c W h)
  obtain ⟨c0, c1⟩ := cycle_bd c
  have n0 : -3660000 ≤ n := by have := start_bd c (-9999) (by omega) (by omega); omega
  have n1 : n ≤ 3660000 := by have := start_bd c 10000 (by omega) (by omega); omega
  have hp := Lib.hid (fun W => part_any n (start c 400) W (by omega) (by omega) (by omega) (by omega))
  have hda := Lib.hid (fun y m W m0 m1 => rdays_any c y m W h m0 m1)
  have hq := year_start h h0 h1
  obtain ⟨q0, q1, r0, hqr⟩ := hq
  have Hqr := Lib.hid hqr
  have Hn := Lib.hid h1
  have Hlo := Lib.hid h0
  have r1 : n % start c 400 ≤ 200000 := by have := Int.emod_lt_of_pos n (show 0 < start c 400 by omega); omega
  clear h h0 h1 hqr
  have HB := Lib.hid (Below.refl w.heap.size w)
  have br := Lib.hid (Bk.newAt w #[.int .i64 0, .int .i64 0, .int .i64 0] 28 (w.heap.size) (by simp))
  have HB := Lib.hid (kept_more (o := (.cells #[.int .i64 0, .int .i64 0, .int .i64 0] 28)) HB.out)
  go_enter Try.func61, Try.ntmps61
  go_wp2_with fail
  refine (hf0.out _).mono ?_
  rintro e w2 ⟨rfl, hb⟩
  have br := Lib.hid (br.out.next hb)
  have HB := Lib.hid (bel_next HB.out hb)
  clear hb
  go_wp2_with fail
  refine (hf1.out _).mono ?_
  rintro e w3 ⟨rfl, hb⟩
  have br := Lib.hid (br.out.next hb)
  have HB := Lib.hid (bel_next HB.out hb)
  clear hb
  go_wp2_with fail
  refine (hl.out 9999 _).mono ?_
  rintro e w4 ⟨rfl, rfl⟩
  go_wp2_with fail
  refine (hcy.out _).mono ?_
  rintro e w4 ⟨rfl, rfl⟩
  clear t0 t1
  generalize start c 400 = kk at *
  go_wp2_with fail
  refine (hp.out _).mono ?_
  rintro e w5 ⟨rfl, hb⟩
  have br := Lib.hid (br.out.next hb)
  have HB := Lib.hid (bel_next HB.out hb)
  clear hb
  generalize n / kk = q at *
  generalize n % kk = r at *
  have hD := Lib.hid (show Dq w.heap.size w5.heap.size (400 * q) 1 1 w (w5.alloc (.cells #[.int .i64 (400 * q), .int .i64 1, .int .i64 1] 28)) from ⟨Nat.le_refl _, br.out.lt, kept_more HB.out, Bk.new _ _ _, br.out.more _⟩)
  go_wp2_with fail
  clear br
  go_loopw [7] (fun t wr => ∃ z : Int, -10000 ≤ z ∧ z ≤ 9999 ∧ t = .int .i64 (n - start c z) ∧ 0 ≤ n - start c z ∧ n - start c z ≤ 200000 ∧ Hid (Dq w.heap.size w5.heap.size z 1 1 w wr)) (fun t _ => (intOf t).toNat)
  case atStart =>
    have e := Hqr.out
    exact ⟨400 * q, by omega, by omega, by rw [show n - start c (400 * q) = r by omega], by omega, by omega, hD⟩
  case round =>
    obtain ⟨z, z0, z1, rfl, u0, u1, hDz⟩ := hrel
    obtain ⟨s2, s3⟩ := len_bd c z
    obtain ⟨a0, a1, a2, f0, f1, f2⟩ := hDz.out.cells
    have hcs := Lib.hid (start_succ c z)
    by_cases hlt : len c z ≤ n - start c z
    · have hz : z ≤ 9998 := by
        have e := hcs.out
        have b := Hn.out
        by_cases h99 : z = 9999
        · subst h99
          rw [show (9999 : Int) + 1 = 10000 by omega] at e
          omega
        · omega
      go_wp2_with fail
      refine (hl.out z _).mono ?_
      rintro e w7 ⟨rfl, rfl⟩
      go_wp2_with fail
      refine (hl.out z _).mono ?_
      rintro e w7 ⟨rfl, rfl⟩
      go_wp2_with fail
      go_roundw
      case rel => exact ⟨z + 1, by omega, by omega, by rw [hcs.out]; go_num, by rw [hcs.out]; omega, by rw [hcs.out]; omega, Lib.hid (hDz.out.put0 _)⟩
      case measure => simp [intOf]; omega
    · have hz0 : -9999 ≤ z := by
        have e := hcs.out
        have b := Hlo.out
        by_cases h99 : z = -10000
        · subst h99
          rw [show (-10000 : Int) + 1 = -9999 by omega] at e
          omega
        · omega
      go_wp2_with fail
      refine (hl.out z _).mono ?_
      rintro e w7 ⟨rfl, rfl⟩
      go_wp2_with fail
      clear a0 a1 a2 f0 f1 f2
      go_loopw [7] (fun t wr => ∃ k : Int, 1 ≤ k ∧ k ≤ 12 ∧ t = .int .i64 (n - start c z - cum c z k) ∧ 0 ≤ n - start c z - cum c z k ∧ Hid (Dq w.heap.size w5.heap.size z k 1 w wr)) (fun t _ => (intOf t).toNat)
      case atStart => exact ⟨1, by omega, by omega, by rw [cum_one]; simp, by rw [cum_one]; omega, hDz⟩
      case round =>
        obtain ⟨k, k0, k1, rfl, t0, hDk⟩ := hrel
        obtain ⟨p0, p1⟩ := cum_bd c z k (by omega) (by omega)
        obtain ⟨p2, p3⟩ := dm_bd c z k
        have hck := Lib.hid (cum_succ c z k k0 k1)
        obtain ⟨a0, a1, a2, f0, f1, f2⟩ := hDk.out.cells
        by_cases hlk : dm c z k ≤ n - start c z - cum c z k
        · have hk : k ≤ 11 := by
            have a := hck.out
            by_cases h12 : k = 12
            · subst h12
              have := cum_last c z
              rw [show (12 : Int) + 1 = 13 by omega] at a
              omega
            · omega
          go_wp2_with fail
          refine (hda.out z k _ (by omega) (by omega)).mono ?_
          rintro e w8 ⟨rfl, rfl⟩
          go_wp2_with fail
          refine (hda.out z k _ (by omega) (by omega)).mono ?_
          rintro e w8 ⟨rfl, rfl⟩
          go_wp2_with fail
          go_roundw
          case rel => exact ⟨k + 1, by omega, by omega, by rw [hck.out]; go_num, by rw [hck.out]; omega, Lib.hid (hDk.out.put1 _)⟩
          case measure => simp [intOf]; omega
        · have Hok := Lib.hid (show Ok c z k (n - start c z - cum c z k + 1) from ⟨by omega, by omega, by omega, by omega, by omega, by omega⟩)
          have Hnum := Lib.hid (show num c z k (n - start c z - cum c z k + 1) = n by unfold num; omega)
          go_wp2_with fail
          refine (hda.out z k _ (by omega) (by omega)).mono ?_
          rintro e w8 ⟨rfl, rfl⟩
          have hD5 := hDk.out.put2 (n - start c z - cum c z k + 1)
          go_upto_region 12 with (fail)
          generalize wr.setCell ⟨w5.heap.size, 2, none⟩ (.int .i64 (n - start c z - cum c z k + 1)) = w9 at *
          clear a0 a1 a2 f0 f1 f2
          have HD5 := Lib.hid hD5
          clear hD5
          generalize n - start c z - cum c z k + 1 = d at *
          obtain ⟨a0, a1, a2, -, -, -⟩ := HD5.out.cells
          obtain ⟨⟨r0', r1', r2'⟩, g0, g1, g2⟩ := HD5.out.res
          go_wp2_with fail
          refine bodyPost_ret (v := .tuple #[.agg #[.int .i64 z, .int .i64 k, .int .i64 d], .bool true]) (by simp [results, Try.results61, go_sem, r0', r1', r2']) rfl ⟨setCell3 HD5.out.below _ _ _, z, k, d, rfl, Hok.out, Hnum.out⟩

/-- The document's date at a date's number. -/
theorem rdate_at {c n y m d : Int} (w : World) (h : isCal c) (hok : Ok c y m d) (hnum : num c y m d = n) : Calls Try.prog 61 #[.int .i64 c, .int .i64 n] w fun e w' => e = .returned (.tuple #[.agg #[.int .i64 y, .int .i64 m, .int .i64 d], .bool true]) ∧ Below w.heap.size w w' := by
  have hr := num_range hok
  rw [hnum] at hr
  refine (rdate_ok c n w h hr.1 hr.2).mono fun e w' ⟨hb, y2, m2, d2, he, hok2, hnum2⟩ => ?_
  obtain ⟨rfl, rfl, rfl⟩ := num_inj hok2 hok (hnum2.trans hnum.symm)
  exact ⟨he, hb⟩
theorem rdate_bad {c n : Int} (w : World) (h : isCal c) (hn : ¬ (start c (-9999) ≤ n ∧ n < start c 10000)) : Calls Try.prog 61 #[.int .i64 c, .int .i64 n] w fun e w' => e = .returned (.tuple #[.agg #[.int .i64 0, .int .i64 0, .int .i64 0], .bool false]) ∧ Below w.heap.size w w' := by
  by_cases h0 : n < start c (-9999)
  · exact rdate_low c n w h h0
  · exact rdate_high c n w h (by omega) (by omega)
end Go.Proofs.Ythpeaeepcbbfcaa
