/- The texts of dates: the document's Parse behind a sign. -/
import Derived.Test.YthpeaeepcbbfcaaDoorTJ
namespace Go.Proofs.YthpeaeepcbbfcaaDoor
open Go.RowKit

set_option maxRecDepth 100000 in
set_option maxHeartbeats 3200000 in
theorem rparse_inval_n (c : Int) (s b : ByteArray) (y m d : Int) (w : World) (ha : isCal c) (h0 : (0 : Int) < s.size) (hs0 : ((s[0].toNat : Int) == 45) = true) (hx : s.extract 1 s.size = b) (hz : b.size = 10) (hall : Hid (∀ j, j < 10 → okAt b.data.toList j = true)) (y0 : 0 ≤ y) (y1 : y ≤ 9999) (v1 : Hid (ValIs (b.extract 0 4) y)) (v2 : Hid (ValIs (b.extract 5 7) m)) (v3 : Hid (ValIs (b.extract 8 10) d)) (hy : (y == 0) = false) (hv : Hid (validV c (-y) m d = false)) : Calls Tryd.prog 7 #[.int .i64 c, .string s] w fun e w' => e = .returned (.tuple #[.agg #[.int .i64 0, .int .i64 0, .int .i64 0], .int .i64 21]) ∧ Below w.heap.size w w' := by
  obtain ⟨nm, hnm, hn'⟩ := rname_any c ha
  obtain ⟨e1, e2⟩ := hnm
  have h1 := Lib.hid hn'
  clear hn' ha
  have HB := Lib.hid (Below.refl w.heap.size w)
  have br := Lib.hid (Bk.newAt w #[.int .i64 0, .int .i64 0, .int .i64 0] 23 (w.heap.size) (by simp))
  have HB := Lib.hid (kept_more (o := (.cells #[.int .i64 0, .int .i64 0, .int .i64 0] 23)) HB.out)
  go_enter Tryd.func7, Tryd.ntmps7
  go_wp2_with fail
  refine (h1.out _).mono ?_
  rintro e w2 ⟨rfl, hb⟩
  have br := Lib.hid (br.out.next hb)
  have HB := Lib.hid (bel_next HB.out hb)
  clear hb
  unfold ValIs at v1 v2 v3
  have hvv := Lib.hid (fun W => rValid_any c (-y) m d W)
  rw [hv.out] at hvv
  go_wp2_with fail
  go_loop [8] (fun i => ∃ k : Nat, k ≤ 10 ∧ i = .int .i64 k) (fun i => 10 - (intOf i).toNat)
  case atStart => exact ⟨0, Nat.zero_le _, rfl⟩
  case round =>
    obtain ⟨k, hk, rfl⟩ := hrel
    by_cases hlt : k < 10
    · have hkb : k < b.size := by omega
      have hbk := byte_of b k hkb
      have hok := hall.out k hlt
      by_cases hd : k = 4 ∨ k = 7
      · have hp := pat_dash k hlt hd
        have h1 : b[k] = 45 := by rw [← hbk]; unfold okAt at hok; rw [if_pos hd] at hok; exact eq_of_beq hok
        have q2 := eq45 h1
        have q3 : ((b[k].toNat : Int) == 45) = true := by rw [h1]; rfl
        have q4 : (b[k].toNat : Int) = 45 := by rw [h1]; rfl
        clear h1 hd hbk hok
        go_wp2_with fail
        go_round
        case rel => exact ⟨k + 1, by omega, by go_num⟩
        case measure => simp [intOf]; omega
      · have hp := pat_dig k hlt hd
        have hdg : isD b[k] = true := by rw [← hbk]; unfold okAt at hok; rw [if_neg hd] at hok; exact hok
        obtain ⟨h1, h2⟩ := isD_iff.1 hdg
        clear hd hbk hok hdg
        go_wp2_with fail
        go_round
        case rel => exact ⟨k + 1, by omega, by go_num⟩
        case measure => simp [intOf]; omega
    · obtain rfl : k = 10 := by omega
      clear hk hlt
      go_wp2_with fail
      have hP := Lib.hid (show Pk w w.heap.size w2 from ⟨HB.out, br.out⟩)
      have hbx := Lib.hid (Bk.new w2 #[.int .i64 (-y), .int .i64 m, .int .i64 d] 23)
      have hPa := Lib.hid (hP.out.next (below_alloc w2 (.cells #[.int .i64 (-y), .int .i64 m, .int .i64 d] 23)))
      go_region_with (first | (go_at_call 16; ((with_reducible refine (v1.out _).mono ?_); rintro e w5 ⟨rfl, rfl⟩)) | (go_at_call 16; ((with_reducible refine (v2.out _).mono ?_); rintro e w6 ⟨rfl, rfl⟩)) | (go_at_call 16; ((with_reducible refine (v3.out _).mono ?_); rintro e w7 ⟨rfl, rfl⟩)))
      all_goals
        have hPd := Lib.hid hPa.out.drew
        go_wp2_with fail
        refine (hvv.out _).mono ?_
        rintro e w8 ⟨rfl, hb⟩
        have hP8 := Lib.hid (hPd.out.next hb)
        have hb8 := Lib.hid (Bk.next (W := (w2.alloc (.cells #[.int .i64 (-y), .int .i64 m, .int .i64 d] 23)).drew) hbx.out hb)
        clear hb
        have r0 := hP8.out.box.cell 0
        have r1 := hP8.out.box.cell 1
        have r2 := hP8.out.box.cell 2
        have f0 := hP8.out.box.free 0
        have f1 := hP8.out.box.free 1
        have f2 := hP8.out.box.free 2
        have g0 := hb8.out.cell 0
        have g1 := hb8.out.cell 1
        have g2 := hb8.out.cell 2
        have HP := Lib.hid hP8.out.below
        go_wp2_with fail
        refine bodyPost_ret (v := .tuple #[.agg #[.int .i64 0, .int .i64 0, .int .i64 0], .int .i64 21]) (by simp [results, Tryd.results7, go_sem, r0, r1, r2]) rfl ⟨rfl, ?_⟩
        exact ((HP.out.setCell (Nat.le_refl _) _).setCell (Nat.le_refl _) _).setCell (Nat.le_refl _) _

set_option maxRecDepth 100000 in
set_option maxHeartbeats 3200000 in
theorem rparse_ok_n (c : Int) (s b : ByteArray) (y m d : Int) (w : World) (ha : isCal c) (h0 : (0 : Int) < s.size) (hs0 : ((s[0].toNat : Int) == 45) = true) (hx : s.extract 1 s.size = b) (hz : b.size = 10) (hall : Hid (∀ j, j < 10 → okAt b.data.toList j = true)) (y0 : 0 ≤ y) (y1 : y ≤ 9999) (v1 : Hid (ValIs (b.extract 0 4) y)) (v2 : Hid (ValIs (b.extract 5 7) m)) (v3 : Hid (ValIs (b.extract 8 10) d)) (hy : (y == 0) = false) (hv : Hid (validV c (-y) m d = true)) : Calls Tryd.prog 7 #[.int .i64 c, .string s] w fun e w' => e = .returned (.tuple #[.agg #[.int .i64 (-y), .int .i64 m, .int .i64 d], .int .i64 0]) ∧ Below w.heap.size w w' := by
  obtain ⟨nm, hnm, hn'⟩ := rname_any c ha
  obtain ⟨e1, e2⟩ := hnm
  have h1 := Lib.hid hn'
  clear hn' ha
  have HB := Lib.hid (Below.refl w.heap.size w)
  have br := Lib.hid (Bk.newAt w #[.int .i64 0, .int .i64 0, .int .i64 0] 23 (w.heap.size) (by simp))
  have HB := Lib.hid (kept_more (o := (.cells #[.int .i64 0, .int .i64 0, .int .i64 0] 23)) HB.out)
  go_enter Tryd.func7, Tryd.ntmps7
  go_wp2_with fail
  refine (h1.out _).mono ?_
  rintro e w2 ⟨rfl, hb⟩
  have br := Lib.hid (br.out.next hb)
  have HB := Lib.hid (bel_next HB.out hb)
  clear hb
  unfold ValIs at v1 v2 v3
  have hvv := Lib.hid (fun W => rValid_any c (-y) m d W)
  rw [hv.out] at hvv
  go_wp2_with fail
  go_loop [8] (fun i => ∃ k : Nat, k ≤ 10 ∧ i = .int .i64 k) (fun i => 10 - (intOf i).toNat)
  case atStart => exact ⟨0, Nat.zero_le _, rfl⟩
  case round =>
    obtain ⟨k, hk, rfl⟩ := hrel
    by_cases hlt : k < 10
    · have hkb : k < b.size := by omega
      have hbk := byte_of b k hkb
      have hok := hall.out k hlt
      by_cases hd : k = 4 ∨ k = 7
      · have hp := pat_dash k hlt hd
        have h1 : b[k] = 45 := by rw [← hbk]; unfold okAt at hok; rw [if_pos hd] at hok; exact eq_of_beq hok
        have q2 := eq45 h1
        have q3 : ((b[k].toNat : Int) == 45) = true := by rw [h1]; rfl
        have q4 : (b[k].toNat : Int) = 45 := by rw [h1]; rfl
        clear h1 hd hbk hok
        go_wp2_with fail
        go_round
        case rel => exact ⟨k + 1, by omega, by go_num⟩
        case measure => simp [intOf]; omega
      · have hp := pat_dig k hlt hd
        have hdg : isD b[k] = true := by rw [← hbk]; unfold okAt at hok; rw [if_neg hd] at hok; exact hok
        obtain ⟨h1, h2⟩ := isD_iff.1 hdg
        clear hd hbk hok hdg
        go_wp2_with fail
        go_round
        case rel => exact ⟨k + 1, by omega, by go_num⟩
        case measure => simp [intOf]; omega
    · obtain rfl : k = 10 := by omega
      clear hk hlt
      go_wp2_with fail
      have hP := Lib.hid (show Pk w w.heap.size w2 from ⟨HB.out, br.out⟩)
      have hbx := Lib.hid (Bk.new w2 #[.int .i64 (-y), .int .i64 m, .int .i64 d] 23)
      have hPa := Lib.hid (hP.out.next (below_alloc w2 (.cells #[.int .i64 (-y), .int .i64 m, .int .i64 d] 23)))
      go_region_with (first | (go_at_call 16; ((with_reducible refine (v1.out _).mono ?_); rintro e w5 ⟨rfl, rfl⟩)) | (go_at_call 16; ((with_reducible refine (v2.out _).mono ?_); rintro e w6 ⟨rfl, rfl⟩)) | (go_at_call 16; ((with_reducible refine (v3.out _).mono ?_); rintro e w7 ⟨rfl, rfl⟩)))
      all_goals
        have hPd := Lib.hid hPa.out.drew
        go_wp2_with fail
        refine (hvv.out _).mono ?_
        rintro e w8 ⟨rfl, hb⟩
        have hP8 := Lib.hid (hPd.out.next hb)
        have hb8 := Lib.hid (Bk.next (W := (w2.alloc (.cells #[.int .i64 (-y), .int .i64 m, .int .i64 d] 23)).drew) hbx.out hb)
        clear hb
        have r0 := hP8.out.box.cell 0
        have r1 := hP8.out.box.cell 1
        have r2 := hP8.out.box.cell 2
        have f0 := hP8.out.box.free 0
        have f1 := hP8.out.box.free 1
        have f2 := hP8.out.box.free 2
        have g0 := hb8.out.cell 0
        have g1 := hb8.out.cell 1
        have g2 := hb8.out.cell 2
        have HP := Lib.hid hP8.out.below
        go_wp2_with fail
        refine bodyPost_ret (v := .tuple #[.agg #[.int .i64 (-y), .int .i64 m, .int .i64 d], .int .i64 0]) (by simp [results, Tryd.results7, go_sem, r0, r1, r2]) rfl ⟨rfl, ?_⟩
        exact ((HP.out.setCell (Nat.le_refl _) _).setCell (Nat.le_refl _) _).setCell (Nat.le_refl _) _
end Go.Proofs.YthpeaeepcbbfcaaDoor
