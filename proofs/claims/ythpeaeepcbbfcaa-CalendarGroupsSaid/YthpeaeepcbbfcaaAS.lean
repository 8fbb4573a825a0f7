/- MapAll where a number has no date. -/
import Derived.Test.YthpeaeepcbbfcaaAR
namespace Go.Proofs.Ythpeaeepcbbfcaa
open Go.RowKit

set_option maxRecDepth 100000 in
set_option maxHeartbeats 3200000 in
theorem mapall_bad (a b : Int) (p : Option Addr) (n c : Nat) (l : List Int) (w : World) (hn : n ≤ 1000) (hnc : n ≤ c) (hl : Rd w p n l) (ha : isCal a) (hb0 : isCal b) (hd : ∃ i, i < n ∧ ¬ IsDay a (l.getD i 0)) : Calls Try.prog 36 #[.int .i64 a, .int .i64 b, .slice p n c] w fun z w' => z = .returned (.tuple #[.slice none 0 0, .slice none 0 0, .int .i64 21]) ∧ Below w.heap.size w w' := by
  have h1 := Lib.hid (fun W => rulesOf_ok a W ha)
  clear ha
  have h2 := Lib.hid (fun W => rulesOf_ok b W hb0)
  clear hb0
  have HB := Lib.hid (Below.refl w.heap.size w)
  go_enter Try.func36, Try.ntmps36
  go_wp2_with fail
  refine (h1.out _).mono ?_
  rintro e w2 ⟨r, rfl, hr, hb⟩
  obtain ⟨m0, m1, m2, m3, m4, m5, m6, m7, m8, m9, m10, m11, f, rfl⟩ := hr.form
  have Hr1 := Lib.hid hr
  clear hr
  have HB := Lib.hid (bel_next HB.out hb)
  clear hb
  have r1 := Lib.hid (Bk.newAt w2 #[.int .i64 m0, .int .i64 m1, .int .i64 m2, .int .i64 m3, .int .i64 m4, .int .i64 m5, .int .i64 m6, .int .i64 m7, .int .i64 m8, .int .i64 m9, .int .i64 m10, .int .i64 m11, .func (.func f) #[] #[]] 68 (w2.heap.size) (by simp))
  have HB := Lib.hid (kept_more (o := (.cells #[.int .i64 m0, .int .i64 m1, .int .i64 m2, .int .i64 m3, .int .i64 m4, .int .i64 m5, .int .i64 m6, .int .i64 m7, .int .i64 m8, .int .i64 m9, .int .i64 m10, .int .i64 m11, .func (.func f) #[] #[]] 68)) HB.out)
  go_wp2_with fail
  refine (h2.out _).mono ?_
  rintro e w3 ⟨r, rfl, hr, hb⟩
  obtain ⟨p0, p1, p2, p3, p4, p5, p6, p7, p8, p9, p10, p11, g, rfl⟩ := hr.form
  have Hr2 := Lib.hid hr
  clear hr
  have r1 := Lib.hid (r1.out.next hb)
  have HB := Lib.hid (bel_next HB.out hb)
  clear hb
  have r1 := Lib.hid (r1.out.more (.cells #[.int .i64 p0, .int .i64 p1, .int .i64 p2, .int .i64 p3, .int .i64 p4, .int .i64 p5, .int .i64 p6, .int .i64 p7, .int .i64 p8, .int .i64 p9, .int .i64 p10, .int .i64 p11, .func (.func g) #[] #[]] 68))
  have r2 := Lib.hid (Bk.newAt w3 #[.int .i64 p0, .int .i64 p1, .int .i64 p2, .int .i64 p3, .int .i64 p4, .int .i64 p5, .int .i64 p6, .int .i64 p7, .int .i64 p8, .int .i64 p9, .int .i64 p10, .int .i64 p11, .func (.func g) #[] #[]] 68 (w3.heap.size) (by simp))
  have HB := Lib.hid (kept_more (o := (.cells #[.int .i64 p0, .int .i64 p1, .int .i64 p2, .int .i64 p3, .int .i64 p4, .int .i64 p5, .int .i64 p6, .int .i64 p7, .int .i64 p8, .int .i64 p9, .int .i64 p10, .int .i64 p11, .func (.func g) #[] #[]] 68)) HB.out)
  have hmk := make_ints n hn
  have hcz : (c : Int) ≤ c := Int.le_refl _
  have HL := Lib.hid hl
  have HD := Lib.hid hd
  clear hl hd
  go_wp2_with fail
  go_region
  · go_wp2_with fail
    have hM0 := Lib.hid (Ma.start (n := n) HB.out r1.out r2.out (G := w3.heap.size + 1) (by simp))
    go_loopw [43] (fun i wr => ∃ (k : Nat) (L1 L2 : List Int), k ≤ n ∧ i = .int .i64 k ∧ Hid (Ma w2.heap.size w3.heap.size (w3.heap.size + 1) (w3.heap.size + 1 + 1) n m0 m1 m2 m3 m4 m5 m6 m7 m8 m9 m10 m11 p0 p1 p2 p3 p4 p5 p6 p7 p8 p9 p10 p11 f g L1 L2 w wr) ∧ Hid (∀ i, i < k → IsDay a (l.getD i 0))) (fun i _ => n - (intOf i).toNat)
    case atStart => first | exact ⟨0, _, _, Nat.zero_le _, rfl, Lib.hid hM0.out.drew, Lib.hid (fun i hi => by omega)⟩ | exact ⟨0, _, _, Nat.zero_le _, rfl, Lib.hid hM0.out.drew.swap, Lib.hid (fun i hi => by omega)⟩ | exact ⟨0, _, _, Nat.zero_le _, rfl, hM0, Lib.hid (fun i hi => by omega)⟩ | exact ⟨0, _, _, Nat.zero_le _, rfl, Lib.hid hM0.out.swap, Lib.hid (fun i hi => by omega)⟩
    case round =>
      obtain ⟨k, L1, L2, hk, rfl, hM, hDy⟩ := hrel
      by_cases hlt : k < n
      · obtain ⟨bb, off, v, rfl, hbl, hcell, hv⟩ := (HL.out.below hM.out.below).at hlt
        by_cases hday : IsDay a v
        case neg =>
          have hdate := Lib.hid (fun W => date_bad W Hr1.out hday)
          clear hday hbl
          obtain ⟨a0, a1, a2, a3, a4, a5, a6, a7, a8, a9, a10, a11, a12⟩ := hM.out.rule1
          go_wp2_with fail
          refine (hdate.out _).mono ?_
          rintro e w5 ⟨rfl, hb⟩
          have HB5 := Lib.hid (kept_more (o := .cells #[.int .i64 0, .int .i64 0, .int .i64 0] 28) (bel_next hM.out.below hb))
          clear hb hcell a0 a1 a2 a3 a4 a5 a6 a7 a8 a9 a10 a11 a12
          go_wp2_with fail
          go_ret3
          exact ⟨rfl, HB5.out⟩
        have hDe := Lib.hid (show ∀ i, i < k + 1 → IsDay a (l.getD i 0) from fun i hi => by
          by_cases hik : i = k
          · subst hik; rw [hv.out]; exact hday
          · exact hDy.out i (by omega))
        obtain ⟨y, m, d, hok, hnum⟩ := date_exists a v hday.1 hday.2
        have hdate := Lib.hid (fun W => date_at W Hr1.out hok hnum)
        have Hok := Lib.hid hok
        have Hnum := Lib.hid hnum
        clear hday hok hnum hbl
        obtain ⟨a0, a1, a2, a3, a4, a5, a6, a7, a8, a9, a10, a11, a12⟩ := hM.out.rule1
        go_wp2_with fail
        refine (hdate.out _).mono ?_
        rintro e w5 ⟨rfl, hb⟩
        have hM5 := Lib.hid ((hM.out.next hb).next (below_alloc w5 (.cells #[.int .i64 y, .int .i64 m, .int .i64 d] 28)))
        have bd := Lib.hid (Bk.new w5 #[.int .i64 y, .int .i64 m, .int .i64 d] 28)
        clear hb hcell a0 a1 a2 a3 a4 a5 a6 a7 a8 a9 a10 a11 a12
        obtain ⟨a0, a1, a2, a3, a4, a5, a6, a7, a8, a9, a10, a11, a12⟩ := hM5.out.rule2
        have d0 := bd.out.cell 0
        have d1 := bd.out.cell 1
        have d2 := bd.out.cell 2
        have hv2 := Lib.hid (fun W => valid_any _ b y m d W Hr2.out)
        cases hu : ok b y m d with
        | true =>
          rw [hu] at hv2
          have hnb := Lib.hid (fun W => number_any _ b y m d W Hr2.out ((ok_of hu).1 rfl))
          clear hu
          generalize num b y m d = nb at *
          go_wp2_with fail
          refine (hv2.out _).mono ?_
          rintro e w6 ⟨rfl, hb⟩
          have hM6 := Lib.hid (hM5.out.next hb)
          have bd := Lib.hid (bd.out.next hb)
          clear hb d0 d1 d2 a0 a1 a2 a3 a4 a5 a6 a7 a8 a9 a10 a11 a12
          obtain ⟨a0, a1, a2, a3, a4, a5, a6, a7, a8, a9, a10, a11, a12⟩ := hM6.out.rule2
          have d0 := bd.out.cell 0
          have d1 := bd.out.cell 1
          have d2 := bd.out.cell 2
          go_wp2_with fail
          refine (hnb.out _).mono ?_
          rintro e w7 ⟨rfl, hb⟩
          have hM7 := Lib.hid (hM6.out.next hb)
          clear hb d0 d1 d2 a0 a1 a2 a3 a4 a5 a6 a7 a8 a9 a10 a11 a12
          obtain ⟨q1, f1⟩ := hM7.out.at1 k hlt
          obtain ⟨q2, f2⟩ := (hM7.out.put1 k nb).at2 k hlt
          have hMe := Lib.hid ((hM7.out.put1 k nb).put2 k 0)
          go_wp2_with fail
          go_roundw
          case rel => exact ⟨k + 1, _, _, by omega, by go_num, hMe, hDe⟩
          case measure => simp [intOf]; omega
        | false =>
          rw [hu] at hv2
          clear hu
          go_wp2_with fail
          refine (hv2.out _).mono ?_
          rintro e w6 ⟨rfl, hb⟩
          have hM6 := Lib.hid (hM5.out.next hb)
          clear hb d0 d1 d2 a0 a1 a2 a3 a4 a5 a6 a7 a8 a9 a10 a11 a12
          obtain ⟨q2, f2⟩ := hM6.out.at2 k hlt
          have hMe := Lib.hid (hM6.out.put2 k 1)
          go_wp2_with fail
          go_roundw
          case rel => exact ⟨k + 1, _, _, by omega, by go_num, hMe, hDe⟩
          case measure => simp [intOf]; omega
      · obtain rfl : k = n := by omega
        obtain ⟨i, hi, hni⟩ := HD.out
        exact absurd (hDy.out i hi) hni
  · go_wp2_with fail
    have hM0 := Lib.hid (Ma.start (n := n) HB.out r1.out r2.out (G := w3.heap.size + 1) (by simp))
    go_loopw [43] (fun i wr => ∃ (k : Nat) (L1 L2 : List Int), k ≤ n ∧ i = .int .i64 k ∧ Hid (Ma w2.heap.size w3.heap.size (w3.heap.size + 1 + 1) (w3.heap.size + 1) n m0 m1 m2 m3 m4 m5 m6 m7 m8 m9 m10 m11 p0 p1 p2 p3 p4 p5 p6 p7 p8 p9 p10 p11 f g L1 L2 w wr) ∧ Hid (∀ i, i < k → IsDay a (l.getD i 0))) (fun i _ => n - (intOf i).toNat)
    case atStart => first | exact ⟨0, _, _, Nat.zero_le _, rfl, Lib.hid hM0.out.drew, Lib.hid (fun i hi => by omega)⟩ | exact ⟨0, _, _, Nat.zero_le _, rfl, Lib.hid hM0.out.drew.swap, Lib.hid (fun i hi => by omega)⟩ | exact ⟨0, _, _, Nat.zero_le _, rfl, hM0, Lib.hid (fun i hi => by omega)⟩ | exact ⟨0, _, _, Nat.zero_le _, rfl, Lib.hid hM0.out.swap, Lib.hid (fun i hi => by omega)⟩
    case round =>
      obtain ⟨k, L1, L2, hk, rfl, hM, hDy⟩ := hrel
      by_cases hlt : k < n
      · obtain ⟨bb, off, v, rfl, hbl, hcell, hv⟩ := (HL.out.below hM.out.below).at hlt
        by_cases hday : IsDay a v
        case neg =>
          have hdate := Lib.hid (fun W => date_bad W Hr1.out hday)
          clear hday hbl
          obtain ⟨a0, a1, a2, a3, a4, a5, a6, a7, a8, a9, a10, a11, a12⟩ := hM.out.rule1
          go_wp2_with fail
          refine (hdate.out _).mono ?_
          rintro e w5 ⟨rfl, hb⟩
          have HB5 := Lib.hid (kept_more (o := .cells #[.int .i64 0, .int .i64 0, .int .i64 0] 28) (bel_next hM.out.below hb))
          clear hb hcell a0 a1 a2 a3 a4 a5 a6 a7 a8 a9 a10 a11 a12
          go_wp2_with fail
          go_ret3
          exact ⟨rfl, HB5.out⟩
        have hDe := Lib.hid (show ∀ i, i < k + 1 → IsDay a (l.getD i 0) from fun i hi => by
          by_cases hik : i = k
          · subst hik; rw [hv.out]; exact hday
          · exact hDy.out i (by omega))
        obtain ⟨y, m, d, hok, hnum⟩ := date_exists a v hday.1 hday.2
        have hdate := Lib.hid (fun W => date_at W Hr1.out hok hnum)
        have Hok := Lib.hid hok
        have Hnum := Lib.hid hnum
        clear hday hok hnum hbl
        obtain ⟨a0, a1, a2, a3, a4, a5, a6, a7, a8, a9, a10, a11, a12⟩ := hM.out.rule1
        go_wp2_with fail
        refine (hdate.out _).mono ?_
        rintro e w5 ⟨rfl, hb⟩
        have hM5 := Lib.hid ((hM.out.next hb).next (below_alloc w5 (.cells #[.int .i64 y, .int .i64 m, .int .i64 d] 28)))
        have bd := Lib.hid (Bk.new w5 #[.int .i64 y, .int .i64 m, .int .i64 d] 28)
        clear hb hcell a0 a1 a2 a3 a4 a5 a6 a7 a8 a9 a10 a11 a12
        obtain ⟨a0, a1, a2, a3, a4, a5, a6, a7, a8, a9, a10, a11, a12⟩ := hM5.out.rule2
        have d0 := bd.out.cell 0
        have d1 := bd.out.cell 1
        have d2 := bd.out.cell 2
        have hv2 := Lib.hid (fun W => valid_any _ b y m d W Hr2.out)
        cases hu : ok b y m d with
        | true =>
          rw [hu] at hv2
          have hnb := Lib.hid (fun W => number_any _ b y m d W Hr2.out ((ok_of hu).1 rfl))
          clear hu
          generalize num b y m d = nb at *
          go_wp2_with fail
          refine (hv2.out _).mono ?_
          rintro e w6 ⟨rfl, hb⟩
          have hM6 := Lib.hid (hM5.out.next hb)
          have bd := Lib.hid (bd.out.next hb)
          clear hb d0 d1 d2 a0 a1 a2 a3 a4 a5 a6 a7 a8 a9 a10 a11 a12
          obtain ⟨a0, a1, a2, a3, a4, a5, a6, a7, a8, a9, a10, a11, a12⟩ := hM6.out.rule2
          have d0 := bd.out.cell 0
          have d1 := bd.out.cell 1
          have d2 := bd.out.cell 2
          go_wp2_with fail
          refine (hnb.out _).mono ?_
          rintro e w7 ⟨rfl, hb⟩
          have hM7 := Lib.hid (hM6.out.next hb)
          clear hb d0 d1 d2 a0 a1 a2 a3 a4 a5 a6 a7 a8 a9 a10 a11 a12
          obtain ⟨q1, f1⟩ := hM7.out.at1 k hlt
          obtain ⟨q2, f2⟩ := (hM7.out.put1 k nb).at2 k hlt
          have hMe := Lib.hid ((hM7.out.put1 k nb).put2 k 0)
          go_wp2_with fail
          go_roundw
          case rel => exact ⟨k + 1, _, _, by omega, by go_num, hMe, hDe⟩
          case measure => simp [intOf]; omega
        | false =>
          rw [hu] at hv2
          clear hu
          go_wp2_with fail
          refine (hv2.out _).mono ?_
          rintro e w6 ⟨rfl, hb⟩
          have hM6 := Lib.hid (hM5.out.next hb)
          clear hb d0 d1 d2 a0 a1 a2 a3 a4 a5 a6 a7 a8 a9 a10 a11 a12
          obtain ⟨q2, f2⟩ := hM6.out.at2 k hlt
          have hMe := Lib.hid (hM6.out.put2 k 1)
          go_wp2_with fail
          go_roundw
          case rel => exact ⟨k + 1, _, _, by omega, by go_num, hMe, hDe⟩
          case measure => simp [intOf]; omega
      · obtain rfl : k = n := by omega
        obtain ⟨i, hi, hni⟩ := HD.out
        exact absurd (hDy.out i hi) hni
end Go.Proofs.Ythpeaeepcbbfcaa
