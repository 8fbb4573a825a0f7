/- What the reader reads. -/
import Derived.Test.YtaedmojkoioifaaGreatDoorKG
import Derived.Test.YtaedmojkoioifaaGreatDoorShelfC
set_option maxHeartbeats 2000000
set_option maxRecDepth 100000
namespace Go.Proofs.YtaedmojkoioifaaGreatDoor
open Go.RowKit
open Go.Lib
theorem fmt_any (n : Int) (h0 : -9223372036854775808 ≤ n) (h1 : n ≤ 9223372036854775807) (w : World) (ht : Tab w) : Calls Tryz.prog 52 #[.int .i64 n, .int .i64 10] w fun e w' => e = .returned (.string ⟨(Lib.itoa n).toArray⟩) ∧ Below w.heap.size w w' :=
  (Tryz.strconv_FormatInt_10 n h0 h1 w ht).mono fun e w' ⟨h, k, os, h2⟩ => ⟨h, by rw [h2]; exact Lib.below_grow _ _ (Nat.le_refl _) _ _⟩
def sgI (n N : Nat) : Int := if 2 ^ (8 * n - 1) ≤ N then (N : Int) - ((2 ^ (8 * n) : Nat) : Int) else (N : Int)
def TxPost (W : World) (E : Nat) (x r : List UInt8) (e : Ending) (w' : World) : Prop := e = .returned (.string ⟨x.toArray⟩) ∧ Rdr w' E r ∧ W.grownBy w' (some E)
theorem rdr_below {W W' : World} {E : Nat} {l : List UInt8} (h : Rdr W E l) (hb : Below W.heap.size W W') : Rdr W' E l := by
  obtain ⟨p, c, h1, h2, h3, h4⟩ := h
  exact ⟨p, c, (hb.block E (Array.getElem?_eq_some_iff.1 h1).1).trans h1, h2.below hb, h3, h4⟩
theorem gb_then {W W1 W2 : World} {E : Nat} (h : W.grownBy W1 (some E)) (hb : Below W1.heap.size W1 W2) : W.grownBy W2 (some E) := h.trans (grown_below hb _)
theorem integer_rd (E n : Nat) (l : List UInt8) (w : World) (hn : n = 1 ∨ n = 2 ∨ n = 4 ∨ n = 8) (hl : l.length ≤ 1000000000) (h : Rdr w E l) (ht : ∀ W, w.grownBy W (some E) → Tab W) :
    Calls Tryz.prog 35 #[.pointer (some ⟨E, 0, none⟩), .int .i64 (n : Int)] w (TxPost w E (Lib.itoa (sgI n (nb (l.take n)))) (l.drop n)) := by
  have HT := Lib.hid (take_any E n l w (by omega) hl h)
  have HTAB := Lib.hid ht
  have HL8 : Hid ((l.take n).length ≤ 8) := Lib.hid (by rw [List.length_take]; omega)
  have HLN : Hid ((l.take n).length ≤ n) := Lib.hid (by rw [List.length_take]; omega)
  obtain ⟨L, HLL⟩ : ∃ L, Hid (l.take n = L) := ⟨_, rfl⟩
  obtain ⟨R, HRR⟩ : ∃ R, Hid (l.drop n = R) := ⟨_, rfl⟩
  obtain ⟨N, HN⟩ : ∃ N, Hid (nb L = N) := ⟨_, rfl⟩
  have HNL : Hid (N < 256 ^ n) := Lib.hid (by
    rw [← HN.out, ← HLL.out]
    exact Nat.lt_of_lt_of_le (nb_lt _) (Nat.pow_le_pow_right (by omega) HLN.out))
  rw [HLL.out, HN.out, HRR.out]
  obtain ⟨v, HV⟩ : ∃ v, Hid (sgI n N = v) := ⟨_, rfl⟩
  rw [HV.out]
  clear h ht
  rcases hn with rfl | rfl | rfl | rfl
  · have hN : N < 256 := HNL.out
    have hiN : (N : Int) ≤ 255 := by omega
    have hvb : -9223372036854775808 ≤ v ∧ v ≤ 9223372036854775807 := by
      rw [← HV.out]
      unfold sgI
      split <;> omega
    have hv : wrap64 ((N : Int) * 72057594037927936) / 72057594037927936 = v := by
      rw [← HV.out]
      unfold sgI wrap64
      split <;> (try split) <;> omega
    have HVB := Lib.hid hvb
    clear hvb
    go_enter Tryz.func35, Tryz.ntmps35
    go_wp2_with fail
    refine (HT.out).mono ?_
    rintro e w1 ⟨p, c, rfl, hb, hc, hr, hg, -⟩
    rw [HRR.out] at hr
    have HFIN : Hid (∀ w2, Below w1.heap.size w1 w2 → TxPost w E (Lib.itoa v) R (.returned (.string ⟨(Lib.itoa v).toArray⟩)) w2) := Lib.hid (fun w2 hb2 => ⟨rfl, rdr_below hr hb2, gb_then hg hb2⟩)
    rw [HLL.out] at hb ⊢
    have HB := Lib.hid (bnumber_any p c L w1 (by rw [← HLL.out]; exact HL8.out) hb)
    have HFM := Lib.hid (fmt_any v HVB.out.1 HVB.out.2 w1 (HTAB.out _ hg))
    rw [HN.out] at HB
    clear hb hc hr hg
    go_wp2_with fail
    refine (HB.out).mono ?_
    rintro e w' ⟨rfl, rfl⟩
    go_wp2_with fail
    refine (HFM.out).mono ?_
    rintro e w2 ⟨rfl, hb2⟩
    have HF := Lib.hid (HFIN.out w2 hb2)
    clear hb2
    go_wp2_with fail
    go_ret
    exact HF.out
  · have hN : N < 65536 := HNL.out
    have hiN : (N : Int) ≤ 65535 := by omega
    have hvb : -9223372036854775808 ≤ v ∧ v ≤ 9223372036854775807 := by
      rw [← HV.out]
      unfold sgI
      split <;> omega
    have hv : wrap64 ((N : Int) * 281474976710656) / 281474976710656 = v := by
      rw [← HV.out]
      unfold sgI wrap64
      split <;> (try split) <;> omega
    have HVB := Lib.hid hvb
    clear hvb
    go_enter Tryz.func35, Tryz.ntmps35
    go_wp2_with fail
    refine (HT.out).mono ?_
    rintro e w1 ⟨p, c, rfl, hb, hc, hr, hg, -⟩
    rw [HRR.out] at hr
    have HFIN : Hid (∀ w2, Below w1.heap.size w1 w2 → TxPost w E (Lib.itoa v) R (.returned (.string ⟨(Lib.itoa v).toArray⟩)) w2) := Lib.hid (fun w2 hb2 => ⟨rfl, rdr_below hr hb2, gb_then hg hb2⟩)
    rw [HLL.out] at hb ⊢
    have HB := Lib.hid (bnumber_any p c L w1 (by rw [← HLL.out]; exact HL8.out) hb)
    have HFM := Lib.hid (fmt_any v HVB.out.1 HVB.out.2 w1 (HTAB.out _ hg))
    rw [HN.out] at HB
    clear hb hc hr hg
    go_wp2_with fail
    refine (HB.out).mono ?_
    rintro e w' ⟨rfl, rfl⟩
    go_wp2_with fail
    refine (HFM.out).mono ?_
    rintro e w2 ⟨rfl, hb2⟩
    have HF := Lib.hid (HFIN.out w2 hb2)
    clear hb2
    go_wp2_with fail
    go_ret
    exact HF.out
  · have hN : N < 4294967296 := HNL.out
    have hiN : (N : Int) ≤ 4294967295 := by omega
    have hvb : -9223372036854775808 ≤ v ∧ v ≤ 9223372036854775807 := by
      rw [← HV.out]
      unfold sgI
      split <;> omega
    have hv : wrap64 ((N : Int) * 4294967296) / 4294967296 = v := by
      rw [← HV.out]
      unfold sgI wrap64
      split <;> (try split) <;> omega
    have HVB := Lib.hid hvb
    clear hvb
    go_enter Tryz.func35, Tryz.ntmps35
    go_wp2_with fail
    refine (HT.out).mono ?_
    rintro e w1 ⟨p, c, rfl, hb, hc, hr, hg, -⟩
    rw [HRR.out] at hr
    have HFIN : Hid (∀ w2, Below w1.heap.size w1 w2 → TxPost w E (Lib.itoa v) R (.returned (.string ⟨(Lib.itoa v).toArray⟩)) w2) := Lib.hid (fun w2 hb2 => ⟨rfl, rdr_below hr hb2, gb_then hg hb2⟩)
    rw [HLL.out] at hb ⊢
    have HB := Lib.hid (bnumber_any p c L w1 (by rw [← HLL.out]; exact HL8.out) hb)
    have HFM := Lib.hid (fmt_any v HVB.out.1 HVB.out.2 w1 (HTAB.out _ hg))
    rw [HN.out] at HB
    clear hb hc hr hg
    go_wp2_with fail
    refine (HB.out).mono ?_
    rintro e w' ⟨rfl, rfl⟩
    go_wp2_with fail
    refine (HFM.out).mono ?_
    rintro e w2 ⟨rfl, hb2⟩
    have HF := Lib.hid (HFIN.out w2 hb2)
    clear hb2
    go_wp2_with fail
    go_ret
    exact HF.out
  · have hN : N < 18446744073709551616 := HNL.out
    have hiN : (N : Int) ≤ 18446744073709551615 := by omega
    have hvb : -9223372036854775808 ≤ v ∧ v ≤ 9223372036854775807 := by
      rw [← HV.out]
      unfold sgI
      split <;> omega
    have hv : wrap64 (N : Int) = v := by
      rw [← HV.out]
      unfold sgI wrap64
      split <;> (try split) <;> omega
    have HVB := Lib.hid hvb
    clear hvb
    go_enter Tryz.func35, Tryz.ntmps35
    go_wp2_with fail
    refine (HT.out).mono ?_
    rintro e w1 ⟨p, c, rfl, hb, hc, hr, hg, -⟩
    rw [HRR.out] at hr
    have HFIN : Hid (∀ w2, Below w1.heap.size w1 w2 → TxPost w E (Lib.itoa v) R (.returned (.string ⟨(Lib.itoa v).toArray⟩)) w2) := Lib.hid (fun w2 hb2 => ⟨rfl, rdr_below hr hb2, gb_then hg hb2⟩)
    rw [HLL.out] at hb ⊢
    have HB := Lib.hid (bnumber_any p c L w1 (by rw [← HLL.out]; exact HL8.out) hb)
    have HFM := Lib.hid (fmt_any v HVB.out.1 HVB.out.2 w1 (HTAB.out _ hg))
    rw [HN.out] at HB
    clear hb hc hr hg
    go_wp2_with fail
    refine (HB.out).mono ?_
    rintro e w' ⟨rfl, rfl⟩
    go_wp2_with fail
    refine (HFM.out).mono ?_
    rintro e w2 ⟨rfl, hb2⟩
    have HF := Lib.hid (HFIN.out w2 hb2)
    clear hb2
    go_wp2_with fail
    go_ret
    exact HF.out
theorem add_lit (b off j : Nat) : (⟨b, off, none⟩ : Addr).add j = ⟨b, off + j, none⟩ := by
  cases j <;> simp [Addr.add]
theorem conv_bytes (w : World) (p : Option Addr) (c : Nat) (l : List UInt8) (h : Bs w p l) : (convert 25 9 (.slice p l.length c)).run Tryz.prog w = .ok (.string ⟨l.toArray⟩) w := by
  rcases h with h0 | ⟨b, off, rfl, hb, hc⟩
  · obtain rfl := List.eq_nil_of_length_eq_zero h0
    cases p with
    | some a => exact run_convert_bytes_back w 25 9 5 a c [] Tryz.underlying25 Tryz.underlying5 Tryz.underlying9 (fun j hj => by simp at hj)
    | none =>
      show (convert 25 9 (.slice none 0 c)).run Tryz.prog w = _
      rw [run_convert_bytes_string w 25 9 5 none 0 c Tryz.underlying25 Tryz.underlying5 Tryz.underlying9]
      simp [Conv.bytesToString]
      try rfl
  · refine run_convert_bytes_back w 25 9 5 ⟨b, off, none⟩ c l Tryz.underlying25 Tryz.underlying5 Tryz.underlying9 (fun j hj => ?_)
    rw [add_lit, hc j hj, List.getD_eq_getElem?_getD, List.getElem?_eq_getElem hj]; rfl
theorem text_rd (E : Nat) (l : List UInt8) (w : World) (hl : l.length ≤ 1000000000) (h : Rdr w E l) :
    Calls Tryz.prog 36 #[.pointer (some ⟨E, 0, none⟩)] w (TxPost w E ((l.drop 1).take (nb (l.take 1))) ((l.drop 1).drop (nb (l.take 1)))) := by
  have HT := Lib.hid (take_any E 1 l w (by omega) hl h)
  obtain ⟨L, HLL⟩ : ∃ L, Hid (l.take 1 = L) := ⟨_, rfl⟩
  obtain ⟨R, HRR⟩ : ∃ R, Hid (l.drop 1 = R) := ⟨_, rfl⟩
  obtain ⟨N, HN⟩ : ∃ N, Hid (nb L = N) := ⟨_, rfl⟩
  have HL1 : Hid (L.length ≤ 1) := Lib.hid (by rw [← HLL.out, List.length_take]; omega)
  have hN : N < 256 := by
    rw [← HN.out]
    exact Nat.lt_of_lt_of_le (nb_lt _) (Nat.pow_le_pow_right (by omega) HL1.out)
  have HRL : Hid (R.length ≤ 1000000000) := Lib.hid (by rw [← HRR.out, List.length_drop]; omega)
  have hiN : (N : Int) ≤ 255 := by omega
  rw [HLL.out, HN.out, HRR.out]
  clear h
  go_enter Tryz.func36, Tryz.ntmps36
  go_wp2_with fail
  refine (HT.out).mono ?_
  rintro e w1 ⟨p, c, rfl, hb, hc, hr, hg, -⟩
  rw [HRR.out] at hr
  have HT2 := Lib.hid (take_any E N R w1 (by omega) HRL.out hr)
  have HG := Lib.hid hg
  rw [HLL.out] at hb ⊢
  have HB := Lib.hid (bnumber_any p c L w1 (by have := HL1.out; omega) hb)
  rw [HN.out] at HB
  clear hb hc hr hg
  go_wp2_with fail
  refine (HB.out).mono ?_
  rintro e w' ⟨rfl, rfl⟩
  go_wp2_with fail
  refine (HT2.out).mono ?_
  rintro e w2 ⟨p2, c2, rfl, hb, hc, hr, hg, -⟩
  have hcv := conv_bytes w2 p2 c2 (R.take N) hb
  obtain ⟨X, HX⟩ : ∃ X, Hid (R.take N = X) := ⟨_, rfl⟩
  obtain ⟨m, HM⟩ : ∃ m, Hid (X.length = m) := ⟨_, rfl⟩
  have HF : Hid (TxPost w E (R.take N) (R.drop N) (.returned (.string ⟨X.toArray⟩)) w2) := Lib.hid ⟨by rw [HX.out], hr, HG.out.trans hg⟩
  rw [HX.out, HM.out] at hcv ⊢
  clear hb hc hr hg
  go_wp2_with fail
  go_ret
  exact HF.out
end Go.Proofs.YtaedmojkoioifaaGreatDoor
