/- The texts of dates: the document's Parse where the form is wrong. -/
import Derived.Test.YthpeaeepcbbfcaaDoorTJ
namespace Go.Proofs.YthpeaeepcbbfcaaDoor
open Go.RowKit

set_option maxRecDepth 100000 in
set_option maxHeartbeats 3200000 in
theorem rparse_len_n (c : Int) (s b : ByteArray) (w : World) (ha : isCal c) (h0 : (0 : Int) < s.size) (hs0 : ((s[0].toNat : Int) == 45) = true) (hx : s.extract 1 s.size = b) (hz : ((b.size : Int) != 10) = true) : Calls Tryd.prog 7 #[.int .i64 c, .string s] w fun e w' => e = .returned (.tuple #[.agg #[.int .i64 0, .int .i64 0, .int .i64 0], .int .i64 3]) ∧ Below w.heap.size w w' := by
  obtain ⟨nm, hnm, hn'⟩ := rname_any c ha
  obtain ⟨e1, e2⟩ := hnm
  have h1 := Lib.hid hn'
  clear hn' ha
  have HB := Lib.hid (Below.refl w.heap.size w)
  have br := Lib.hid (Bk.newAt w #[.int .i64 0, .int .i64 0, .int .i64 0] 23 (w.heap.size) (by simp))
  have HB := Lib.hid (kept_more (o := (.cells #[.int .i64 0, .int .i64 0, .int .i64 0] 23)) HB.out)
  go_enter Tryd.func7, Tryd.ntmps7
  go_wp2_with fail
  refine (h1.out _).mono ?_
  rintro e w2 ⟨rfl, hb⟩
  have br := Lib.hid (br.out.next hb)
  have HB := Lib.hid (bel_next HB.out hb)
  clear hb
  have br_c0 := br.out.cell 0
  have br_f0 := br.out.free 0
  have br_c1 := br.out.cell 1
  have br_f1 := br.out.free 1
  have br_c2 := br.out.cell 2
  have br_f2 := br.out.free 2
  go_wp2_with fail
  refine bodyPost_ret (v := .tuple #[.agg #[.int .i64 0, .int .i64 0, .int .i64 0], .int .i64 3]) (by simp [results, Tryd.results7, go_sem, br_c0, br_c1, br_c2]) rfl ⟨rfl, ?_⟩
  exact ((HB.out.setCell (Nat.le_refl _) _).setCell (Nat.le_refl _) _).setCell (Nat.le_refl _) _

set_option maxRecDepth 100000 in
set_option maxHeartbeats 3200000 in
theorem rparse_bad_n (c : Int) (s b : ByteArray) (w : World) (ha : isCal c) (h0 : (0 : Int) < s.size) (hs0 : ((s[0].toNat : Int) == 45) = true) (hx : s.extract 1 s.size = b) (hz : b.size = 10) (hbad : Hid (∃ j, j < 10 ∧ okAt b.data.toList j = false)) : Calls Tryd.prog 7 #[.int .i64 c, .string s] w fun e w' => e = .returned (.tuple #[.agg #[.int .i64 0, .int .i64 0, .int .i64 0], .int .i64 3]) ∧ Below w.heap.size w w' := by
  obtain ⟨nm, hnm, hn'⟩ := rname_any c ha
  obtain ⟨e1, e2⟩ := hnm
  have h1 := Lib.hid hn'
  clear hn' ha
  have HB := Lib.hid (Below.refl w.heap.size w)
  have br := Lib.hid (Bk.newAt w #[.int .i64 0, .int .i64 0, .int .i64 0] 23 (w.heap.size) (by simp))
  have HB := Lib.hid (kept_more (o := (.cells #[.int .i64 0, .int .i64 0, .int .i64 0] 23)) HB.out)
  go_enter Tryd.func7, Tryd.ntmps7
  go_wp2_with fail
  refine (h1.out _).mono ?_
  rintro e w2 ⟨rfl, hb⟩
  have br := Lib.hid (br.out.next hb)
  have HB := Lib.hid (bel_next HB.out hb)
  clear hb
  have br_c0 := br.out.cell 0
  have br_f0 := br.out.free 0
  have br_c1 := br.out.cell 1
  have br_f1 := br.out.free 1
  have br_c2 := br.out.cell 2
  have br_f2 := br.out.free 2
  go_wp2_with fail
  go_loop [8] (fun i => ∃ k : Nat, k ≤ 10 ∧ i = .int .i64 k ∧ Hid (∀ j, j < k → okAt b.data.toList j = true)) (fun i => 10 - (intOf i).toNat)
  case atStart => exact ⟨0, Nat.zero_le _, rfl, Lib.hid (fun j hj => absurd hj (Nat.not_lt_zero j))⟩
  case round =>
    obtain ⟨k, hk, rfl, hok⟩ := hrel
    by_cases hlt : k < 10
    · have hkb : k < b.size := by omega
      have hbk := Lib.hid (byte_of b k hkb)
      by_cases hd : k = 4 ∨ k = 7
      · have hp := pat_dash k hlt hd
        by_cases h1 : b[k] = 45
        · have q1 := Lib.hid (ok_step hok.out (ok_dash hd hbk.out h1))
          have q2 := eq45 h1
          have q3 : ((b[k].toNat : Int) == 45) = true := by rw [h1]; rfl
          have q4 : (b[k].toNat : Int) = 45 := by rw [h1]; rfl
          clear h1 hd
          go_wp2_with fail
          go_round
          case rel => exact ⟨k + 1, by omega, by go_num, q1⟩
          case measure => simp [intOf]; omega
        · have q2 := ne45 h1
          have q4 : ¬ ((b[k].toNat : Int) = 45) := by simpa using q2
          clear h1 hd
          go_wp2_with fail
          all_goals
            refine bodyPost_ret (v := .tuple #[.agg #[.int .i64 0, .int .i64 0, .int .i64 0], .int .i64 3]) (by simp [results, Tryd.results7, go_sem, br_c0, br_c1, br_c2]) rfl ⟨rfl, ?_⟩
            exact ((HB.out.setCell (Nat.le_refl _) _).setCell (Nat.le_refl _) _).setCell (Nat.le_refl _) _
      · have hp := pat_dig k hlt hd
        by_cases h1 : (b[k].toNat : Int) < 48
        · clear hd
          go_wp2_with fail
          refine bodyPost_ret (v := .tuple #[.agg #[.int .i64 0, .int .i64 0, .int .i64 0], .int .i64 3]) (by simp [results, Tryd.results7, go_sem, br_c0, br_c1, br_c2]) rfl ⟨rfl, ?_⟩
          exact ((HB.out.setCell (Nat.le_refl _) _).setCell (Nat.le_refl _) _).setCell (Nat.le_refl _) _
        · by_cases h2 : (57 : Int) < b[k].toNat
          · clear hd
            go_wp2_with fail
            refine bodyPost_ret (v := .tuple #[.agg #[.int .i64 0, .int .i64 0, .int .i64 0], .int .i64 3]) (by simp [results, Tryd.results7, go_sem, br_c0, br_c1, br_c2]) rfl ⟨rfl, ?_⟩
            exact ((HB.out.setCell (Nat.le_refl _) _).setCell (Nat.le_refl _) _).setCell (Nat.le_refl _) _
          · have q1 := Lib.hid (ok_step hok.out (ok_dig hd hbk.out (by omega) (by omega)))
            clear hd
            go_wp2_with fail
            go_round
            case rel => exact ⟨k + 1, by omega, by go_num, q1⟩
            case measure => simp [intOf]; omega
    · obtain rfl : k = 10 := by omega
      obtain ⟨j, hj, hf⟩ := hbad.out
      have := hok.out j hj
      rw [hf] at this
      cases this

set_option maxRecDepth 100000 in
set_option maxHeartbeats 3200000 in
theorem rparse_len_p (c : Int) (s : ByteArray) (w : World) (ha : isCal c) (h0 : (0 : Int) < s.size) (hs0 : ((s[0].toNat : Int) == 45) = false) (hz : ((s.size : Int) != 10) = true) : Calls Tryd.prog 7 #[.int .i64 c, .string s] w fun e w' => e = .returned (.tuple #[.agg #[.int .i64 0, .int .i64 0, .int .i64 0], .int .i64 3]) ∧ Below w.heap.size w w' := by
  obtain ⟨nm, hnm, hn'⟩ := rname_any c ha
  obtain ⟨e1, e2⟩ := hnm
  have h1 := Lib.hid hn'
  clear hn' ha
  have HB := Lib.hid (Below.refl w.heap.size w)
  have br := Lib.hid (Bk.newAt w #[.int .i64 0, .int .i64 0, .int .i64 0] 23 (w.heap.size) (by simp))
  have HB := Lib.hid (kept_more (o := (.cells #[.int .i64 0, .int .i64 0, .int .i64 0] 23)) HB.out)
  go_enter Tryd.func7, Tryd.ntmps7
  go_wp2_with fail
  refine (h1.out _).mono ?_
  rintro e w2 ⟨rfl, hb⟩
  have br := Lib.hid (br.out.next hb)
  have HB := Lib.hid (bel_next HB.out hb)
  clear hb
  have br_c0 := br.out.cell 0
  have br_f0 := br.out.free 0
  have br_c1 := br.out.cell 1
  have br_f1 := br.out.free 1
  have br_c2 := br.out.cell 2
  have br_f2 := br.out.free 2
  go_wp2_with fail
  refine bodyPost_ret (v := .tuple #[.agg #[.int .i64 0, .int .i64 0, .int .i64 0], .int .i64 3]) (by simp [results, Tryd.results7, go_sem, br_c0, br_c1, br_c2]) rfl ⟨rfl, ?_⟩
  exact ((HB.out.setCell (Nat.le_refl _) _).setCell (Nat.le_refl _) _).setCell (Nat.le_refl _) _

set_option maxRecDepth 100000 in
set_option maxHeartbeats 3200000 in
theorem rparse_bad_p (c : Int) (s : ByteArray) (w : World) (ha : isCal c) (h0 : (0 : Int) < s.size) (hs0 : ((s[0].toNat : Int) == 45) = false) (hz : s.size = 10) (hbad : Hid (∃ j, j < 10 ∧ okAt s.data.toList j = false)) : Calls Tryd.prog 7 #[.int .i64 c, .string s] w fun e w' => e = .returned (.tuple #[.agg #[.int .i64 0, .int .i64 0, .int .i64 0], .int .i64 3]) ∧ Below w.heap.size w w' := by
  obtain ⟨nm, hnm, hn'⟩ := rname_any c ha
  obtain ⟨e1, e2⟩ := hnm
  have h1 := Lib.hid hn'
  clear hn' ha
  have HB := Lib.hid (Below.refl w.heap.size w)
  have br := Lib.hid (Bk.newAt w #[.int .i64 0, .int .i64 0, .int .i64 0] 23 (w.heap.size) (by simp))
  have HB := Lib.hid (kept_more (o := (.cells #[.int .i64 0, .int .i64 0, .int .i64 0] 23)) HB.out)
  go_enter Tryd.func7, Tryd.ntmps7
  go_wp2_with fail
  refine (h1.out _).mono ?_
  rintro e w2 ⟨rfl, hb⟩
  have br := Lib.hid (br.out.next hb)
  have HB := Lib.hid (bel_next HB.out hb)
  clear hb
  have br_c0 := br.out.cell 0
  have br_f0 := br.out.free 0
  have br_c1 := br.out.cell 1
  have br_f1 := br.out.free 1
  have br_c2 := br.out.cell 2
  have br_f2 := br.out.free 2
  go_wp2_with fail
  go_loop [8] (fun i => ∃ k : Nat, k ≤ 10 ∧ i = .int .i64 k ∧ Hid (∀ j, j < k → okAt s.data.toList j = true)) (fun i => 10 - (intOf i).toNat)
  case atStart => exact ⟨0, Nat.zero_le _, rfl, Lib.hid (fun j hj => absurd hj (Nat.not_lt_zero j))⟩
  case round =>
    obtain ⟨k, hk, rfl, hok⟩ := hrel
    by_cases hlt : k < 10
    · have hkb : k < s.size := by omega
      have hbk := Lib.hid (byte_of s k hkb)
      by_cases hd : k = 4 ∨ k = 7
      · have hp := pat_dash k hlt hd
        by_cases h1 : s[k] = 45
        · have q1 := Lib.hid (ok_step hok.out (ok_dash hd hbk.out h1))
          have q2 := eq45 h1
          have q3 : ((s[k].toNat : Int) == 45) = true := by rw [h1]; rfl
          have q4 : (s[k].toNat : Int) = 45 := by rw [h1]; rfl
          clear h1 hd
          go_wp2_with fail
          go_round
          case rel => exact ⟨k + 1, by omega, by go_num, q1⟩
          case measure => simp [intOf]; omega
        · have q2 := ne45 h1
          have q4 : ¬ ((s[k].toNat : Int) = 45) := by simpa using q2
          clear h1 hd
          go_wp2_with fail
          all_goals
            refine bodyPost_ret (v := .tuple #[.agg #[.int .i64 0, .int .i64 0, .int .i64 0], .int .i64 3]) (by simp [results, Tryd.results7, go_sem, br_c0, br_c1, br_c2]) rfl ⟨rfl, ?_⟩
            exact ((HB.out.setCell (Nat.le_refl _) _).setCell (Nat.le_refl _) _).setCell (Nat.le_refl _) _
      · have hp := pat_dig k hlt hd
        by_cases h1 : (s[k].toNat : Int) < 48
        · clear hd
          go_wp2_with fail
          refine bodyPost_ret (v := .tuple #[.agg #[.int .i64 0, .int .i64 0, .int .i64 0], .int .i64 3]) (by simp [results, Tryd.results7, go_sem, br_c0, br_c1, br_c2]) rfl ⟨rfl, ?_⟩
          exact ((HB.out.setCell (Nat.le_refl _) _).setCell (Nat.le_refl _) _).setCell (Nat.le_refl _) _
        · by_cases h2 : (57 : Int) < s[k].toNat
          · clear hd
            go_wp2_with fail
            refine bodyPost_ret (v := .tuple #[.agg #[.int .i64 0, .int .i64 0, .int .i64 0], .int .i64 3]) (by simp [results, Tryd.results7, go_sem, br_c0, br_c1, br_c2]) rfl ⟨rfl, ?_⟩
            exact ((HB.out.setCell (Nat.le_refl _) _).setCell (Nat.le_refl _) _).setCell (Nat.le_refl _) _
          · have q1 := Lib.hid (ok_step hok.out (ok_dig hd hbk.out (by omega) (by omega)))
            clear hd
            go_wp2_with fail
            go_round
            case rel => exact ⟨k + 1, by omega, by go_num, q1⟩
            case measure => simp [intOf]; omega
    · obtain rfl : k = 10 := by omega
      obtain ⟨j, hj, hf⟩ := hbad.out
      have := hok.out j hj
      rw [hf] at this
      cases this

set_option maxRecDepth 100000 in
set_option maxHeartbeats 3200000 in
theorem rparse_empty (c : Int) (s : ByteArray) (w : World) (ha : isCal c) (hz : s.size = 0) : Calls Tryd.prog 7 #[.int .i64 c, .string s] w fun e w' => e = .returned (.tuple #[.agg #[.int .i64 0, .int .i64 0, .int .i64 0], .int .i64 3]) ∧ Below w.heap.size w w' := by
  obtain ⟨nm, hnm, hn'⟩ := rname_any c ha
  obtain ⟨e1, e2⟩ := hnm
  have h1 := Lib.hid hn'
  clear hn' ha
  have HB := Lib.hid (Below.refl w.heap.size w)
  have br := Lib.hid (Bk.newAt w #[.int .i64 0, .int .i64 0, .int .i64 0] 23 (w.heap.size) (by simp))
  have HB := Lib.hid (kept_more (o := (.cells #[.int .i64 0, .int .i64 0, .int .i64 0] 23)) HB.out)
  go_enter Tryd.func7, Tryd.ntmps7
  go_wp2_with fail
  refine (h1.out _).mono ?_
  rintro e w2 ⟨rfl, hb⟩
  have br := Lib.hid (br.out.next hb)
  have HB := Lib.hid (bel_next HB.out hb)
  clear hb
  have br_c0 := br.out.cell 0
  have br_f0 := br.out.free 0
  have br_c1 := br.out.cell 1
  have br_f1 := br.out.free 1
  have br_c2 := br.out.cell 2
  have br_f2 := br.out.free 2
  go_wp2_with fail
  refine bodyPost_ret (v := .tuple #[.agg #[.int .i64 0, .int .i64 0, .int .i64 0], .int .i64 3]) (by simp [results, Tryd.results7, go_sem, br_c0, br_c1, br_c2]) rfl ⟨rfl, ?_⟩
  exact ((HB.out.setCell (Nat.le_refl _) _).setCell (Nat.le_refl _) _).setCell (Nat.le_refl _) _

set_option maxRecDepth 100000 in
set_option maxHeartbeats 3200000 in
theorem rparse_nocal (c : Int) (s : ByteArray) (w : World) (ha : ¬ isCal c) : Calls Tryd.prog 7 #[.int .i64 c, .string s] w fun e w' => e = .returned (.tuple #[.agg #[.int .i64 0, .int .i64 0, .int .i64 0], .int .i64 20]) ∧ Below w.heap.size w w' := by
  have h1 := Lib.hid (fun W => rname_no c W ha)
  clear ha
  have HB := Lib.hid (Below.refl w.heap.size w)
  have br := Lib.hid (Bk.newAt w #[.int .i64 0, .int .i64 0, .int .i64 0] 23 (w.heap.size) (by simp))
  have HB := Lib.hid (kept_more (o := (.cells #[.int .i64 0, .int .i64 0, .int .i64 0] 23)) HB.out)
  go_enter Tryd.func7, Tryd.ntmps7
  go_wp2_with fail
  refine (h1.out _).mono ?_
  rintro e w2 ⟨rfl, hb⟩
  have br := Lib.hid (br.out.next hb)
  have HB := Lib.hid (bel_next HB.out hb)
  clear hb
  have br_c0 := br.out.cell 0
  have br_f0 := br.out.free 0
  have br_c1 := br.out.cell 1
  have br_f1 := br.out.free 1
  have br_c2 := br.out.cell 2
  have br_f2 := br.out.free 2
  go_wp2_with fail
  refine bodyPost_ret (v := .tuple #[.agg #[.int .i64 0, .int .i64 0, .int .i64 0], .int .i64 20]) (by simp [results, Tryd.results7, go_sem, br_c0, br_c1, br_c2]) rfl ⟨rfl, ?_⟩
  exact ((HB.out.setCell (Nat.le_refl _) _).setCell (Nat.le_refl _) _).setCell (Nat.le_refl _) _
end Go.Proofs.YthpeaeepcbbfcaaDoor
