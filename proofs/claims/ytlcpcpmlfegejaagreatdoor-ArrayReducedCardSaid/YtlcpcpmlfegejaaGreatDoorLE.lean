/- The document's Reduction and Reduced. -/
import Derived.Test.YtlcpcpmlfegejaaGreatDoorLD
import Derived.Test.YtlcpcpmlfegejaaGreatDoorZVQ
import Derived.Deep.RegionHeld3
set_option maxHeartbeats 8000000
set_option maxRecDepth 100000
namespace Go.Proofs.YtlcpcpmlfegejaaGreatDoor.Arr
open Go.RowKit Go.Shelf
open Go.Lib
attribute [local go_sem] Oper.semAt_some
theorem risred_yes (red : Int) (h1 : 1 ≤ red) (h5 : red ≤ 5) (W : World) : Calls Tryz.prog 28 #[.int .i64 red] W fun e w' => W = w' ∧ e = .returned (.bool true) := by
  have d1 : decide (1 ≤ red) = true := by simpa using h1
  have d2 : decide (red ≤ 5) = true := by simpa using h5
  clear h1 h5
  go_enter Tryz.func28, Tryz.ntmps28
  go_wp2_with fail
  go_ret
  exact ⟨rfl, by first | rfl | simp⟩
theorem risred_no (red : Int) (h : red < 1 ∨ 5 < red) (W : World) : Calls Tryz.prog 28 #[.int .i64 red] W fun e w' => W = w' ∧ e = .returned (.bool false) := by
  by_cases h1 : red < 1
  · have d1 : decide (1 ≤ red) = false := by simp; omega
    clear h h1
    go_enter Tryz.func28, Tryz.ntmps28
    go_wp2_with fail
    go_ret
    exact ⟨rfl, by first | rfl | simp⟩
  · have d1 : decide (1 ≤ red) = true := by simp; omega
    have d2 : decide (red ≤ 5) = false := by simp; omega
    clear h h1
    go_enter Tryz.func28, Tryz.ntmps28
    go_wp2_with fail
    go_ret
    exact ⟨rfl, by first | rfl | simp⟩
theorem rdsq_of {W : World} {p : Option Addr} {l : List (List UInt8)} (h : RdS W p l) : RdSQ W p l := by
  rcases h with h | h
  · exact .inl (List.length_eq_zero_iff.1 h)
  · exact .inr h
def TotPost (q : Rat) (k : Nat) (w : World) (e : Ending) (w' : World) : Prop := ∃ s p n c r m d, e = .returned (.tuple #[.agg #[.bool s, .slice p n c, .slice r m d], .int .i64 (k : Int)]) ∧ QAt w' (.agg #[.bool s, .slice p n c, .slice r m d]) q ∧ Below w.heap.size w w'
theorem rredn_1 (p : Option Addr) (n c k : Nat) (q : Rat) (w : World) (HT : Hid (Calls Tryz.prog 71 #[.slice p n c] w (TotPost q k w))) (HLT : Hid (QLt 7000 q)) : Calls Tryz.prog 29 #[.slice p n c, .int .i64 1] w (TxtPost (txt q) w) := by
  unfold TxtPost
  go_enter Tryz.func29, Tryz.ntmps29
  go_wp2_with fail
  refine HT.out.mono ?_
  rintro e w2 ⟨s, p1, n1, c1, r1, m1, d1, rfl, hq, hb⟩
  have HQ := Lib.hid hq
  have HBX := Lib.hid (hb.trans ((bea w2 (.cells #[.bool s, .slice p1 n1 c1, .slice r1 m1 d1] 100)).mono hb.size))
  have HP := Lib.hid (put_any _ _ 7000 (w2.alloc (.cells #[.bool s, .slice p1 n1 c1, .slice r1 m1 d1] 100)) (by omega) HLT.out (HQ.out.below (bea _ _)))
  clear hq hb
  go_wp2_with fail
  refine HP.out.mono ?_
  rintro e w3 ⟨rfl, hb3⟩
  have HB3 := Lib.hid (HBX.out.trans (hb3.mono HBX.out.size))
  clear hb3
  go_wp2_with fail
  go_ret
  exact ⟨rfl, HB3.out⟩
theorem rredn_5 (p : Option Addr) (n c k : Nat) (q : Rat) (w : World) (hk : k ≤ 1000) (HT : Hid (Calls Tryz.prog 71 #[.slice p n c] w (TotPost q k w))) : Calls Tryz.prog 29 #[.slice p n c, .int .i64 5] w (TxtPost (itoa k) w) := by
  have hk2 : (k : Int) ≤ 1000 := by omega
  have HF := Lib.hid (rfromInt_any (k : Int) (Lib.hid (by omega)))
  unfold TxtPost
  go_enter Tryz.func29, Tryz.ntmps29
  go_wp2_with fail
  refine HT.out.mono ?_
  rintro e w2 ⟨s, p1, n1, c1, r1, m1, d1, rfl, hq, hb⟩
  have HBX := Lib.hid (hb.trans ((bea w2 (.cells #[.bool s, .slice p1 n1 c1, .slice r1 m1 d1] 100)).mono hb.size))
  clear hq hb
  go_wp2_with fail
  refine (HF.out _).mono ?_
  rintro e w3 ⟨rfl, hb3⟩
  have HB3 := Lib.hid (HBX.out.trans (hb3.mono HBX.out.size))
  clear hb3
  go_wp2_with fail
  go_ret
  exact ⟨rfl, HB3.out⟩
theorem rredn_20 (p : Option Addr) (n c : Nat) (q : Rat) (w : World) (HT : Hid (Calls Tryz.prog 71 #[.slice p n c] w (TotPost q 0 w))) : Calls Tryz.prog 29 #[.slice p n c, .int .i64 2] w (TxtPost [] w) := by
  unfold TxtPost
  go_enter Tryz.func29, Tryz.ntmps29
  go_wp2_with fail
  refine HT.out.mono ?_
  rintro e w2 ⟨s, p1, n1, c1, r1, m1, d1, rfl, hq, hb⟩
  have HBX := Lib.hid (hb.trans ((bea w2 (.cells #[.bool s, .slice p1 n1 c1, .slice r1 m1 d1] 100)).mono hb.size))
  clear hq hb
  go_wp2_with fail
  go_ret
  exact ⟨rfl, HBX.out⟩
theorem nat_lt9 {k : Nat} (hk : k ≤ 1000) : QLt 1 ((k : Int) : Rat) := ⟨by rw [Rat.num_intCast, Big.B9_eq]; omega, by rw [Rat.den_intCast, Big.B9_eq]; omega⟩
theorem rredn_21 (p : Option Addr) (n c k : Nat) (q : Rat) (w : World) (hk : k ≤ 1000) (h0 : 0 < k) (HT : Hid (Calls Tryz.prog 71 #[.slice p n c] w (TotPost q k w))) (HLT : Hid (QLt 7000 q)) : Calls Tryz.prog 29 #[.slice p n c, .int .i64 2] w (TxtPost (txt (q / ((k : Int) : Rat))) w) := by
  have hk2 : (k : Int) ≤ 1000 := by omega
  have hk1 : (1 : Int) ≤ (k : Int) := by omega
  have he : ((k : Int) == 0) = false := by simp; omega
  have HIN := Lib.hid (fun W => intq_any (k : Int) W (by omega) (by omega))
  have HKL := Lib.hid (nat_lt9 hk)
  obtain ⟨T, HTX⟩ : ∃ T, Hid (txt (q / ((k : Int) : Rat)) = T) := ⟨_, Lib.hid rfl⟩
  rw [HTX.out]
  unfold TxtPost
  go_enter Tryz.func29, Tryz.ntmps29
  go_wp2_with fail
  refine HT.out.mono ?_
  rintro e w2 ⟨s, p1, n1, c1, r1, m1, d1, rfl, hq, hb⟩
  have HQ := Lib.hid hq
  have HB0 := Lib.hid hb
  have hbx := Bx.start w2 #[.bool s, .slice p1 n1 c1, .slice r1 m1 d1]
  have Hbx := Lib.hid hbx
  obtain ⟨-, c0, c1', c2⟩ := hbx.all
  have HQU : Hid (∀ W y, Below w2.heap.size w2 W → QAt W y ((k : Int) : Rat) → Calls Tryz.prog 73 #[.agg #[.bool s, .slice p1 n1 c1, .slice r1 m1 d1], y] W (QPost (q / ((k : Int) : Rat)) W)) := Lib.hid fun W y hW hy => quot_any _ _ _ _ 7000 1 W (by omega) HLT.out HKL.out (HQ.out.below hW) hy
  have HPU : Hid (∀ W y, QAt W y (q / ((k : Int) : Rat)) → Calls Tryz.prog 72 #[y] W fun e w' => e = .returned (.string ⟨(txt (q / ((k : Int) : Rat))).toArray⟩) ∧ Below W.heap.size W w') := Lib.hid fun W y hy => put_any y _ (7000 + 1) W (by omega) (HLT.out.quo HKL.out) hy
  rw [HTX.out] at HPU
  clear hq hb hbx h0 hk
  go_wp2_with fail
  go_region_held3 (fun w' => Bx w2.heap.size #[.bool s, .slice p1 n1 c1, .slice r1 m1 d1] w2 w' ∧ w'.cell? ⟨w2.heap.size, 0, none⟩ = some (.bool s) ∧ w'.cell? ⟨w2.heap.size, 1, none⟩ = some (.slice p1 n1 c1) ∧ w'.cell? ⟨w2.heap.size, 2, none⟩ = some (.slice r1 m1 d1))
    (first | exact Bx.all (Bx.drew Hbx.out) | exact Bx.all Hbx.out | (go_split_ands; exact Bx.all (Bx.next (by assumption) hb1)) | (go_split_ands; exact Bx.all (Bx.next (by assumption) hb2)) | (go_split_ands; exact Bx.all (Bx.next (by assumption) hb3)) | go_keep)
    (first | (go_at_call 74; go_split_ands; refine (HIN.out _).mono ?_; rintro e w4 ⟨y1, rfl, hy1, hb1⟩) | (go_at_call 73; go_split_ands; refine (HQU.out _ _ (Bx.below (by assumption)) hy1).mono ?_; rintro e w5 ⟨y2, rfl, hy2, hb2⟩) | (go_at_call 72; go_split_ands; refine (HPU.out _ _ hy2).mono ?_; rintro e w6 ⟨rfl, hb3⟩; have htw := Bx.next (by assumption) hb3))
  have Hb3 := Lib.hid (HB0.out.trans (htw.below.mono HB0.out.size))
  clear htw
  go_wp2_with fail
  go_ret
  exact ⟨rfl, Hb3.out⟩
theorem rredn_best (red : Int) (hred : red = 3 ∨ red = 4) (p : Option Addr) (n c k : Nat) (l : List (List UInt8)) (q : Rat) (w : World) (HT : Hid (Calls Tryz.prog 71 #[.slice p n c] w (TotPost q k w))) (HL : Hid (l.length = n)) (hn : n ≤ 1000) (HV : Hid (∀ j, j < l.length → isV (l.getD j []) = true)) (h : RdS w p l) : Calls Tryz.prog 29 #[.slice p n c, .int .i64 red] w (TxtPost (bestT red l) w) := by
  have HRD := Lib.hid h
  have hn1 : (n : Int) ≤ 1000 := by omega
  clear h hn
  obtain ⟨R, HR⟩ : ∃ R, Hid (R = red) := ⟨_, Lib.hid rfl⟩
  obtain ⟨Y, HY⟩ : ∃ Y, Hid (bestT red l = Y) := ⟨_, Lib.hid rfl⟩
  rw [HY.out]
  rw [← HR.out] at HY
  unfold TxtPost
  rcases hred with rfl | rfl
  all_goals
    go_enter Tryz.func29, Tryz.ntmps29
    go_wp2_with fail
    refine HT.out.mono ?_
    rintro e w2 ⟨s, p1, n1, c1, r1, m1, d1, rfl, hq, hb⟩
    have HBX := Lib.hid (hb.trans ((bea w2 (.cells #[.bool s, .slice p1 n1 c1, .slice r1 m1 d1] 100)).mono hb.size))
    obtain ⟨W3, HW3⟩ : ∃ W3, Hid (w2.alloc (.cells #[.bool s, .slice p1 n1 c1, .slice r1 m1 d1] 100) = W3) := ⟨_, Lib.hid rfl⟩
    rw [HW3.out] at HBX
    have HB00 : Hid (Below w.heap.size w W3) := HBX
    clear hq hb
    have HS : Hid ([] = bestT R (l.take 0)) := Lib.hid (by rw [bestT_none]; rfl)
    go_wp2_with fail
    rw [HW3.out]
    go_loopw [7, 8] (fun bv iv wr => ∃ (i : Nat) (X : List UInt8), i ≤ n ∧ iv = .int .i64 (i : Int) ∧ bv = .string ⟨List.toArray X⟩ ∧ Hid (X = bestT R (l.take i)) ∧ Hid (Below w.heap.size w wr)) (fun _ iv _ => n - (intOf iv).toNat)
    case atStart => exact ⟨0, [], Nat.zero_le _, rfl, rfl, HS, HB00⟩
    case round =>
      obtain ⟨i, X, hin, rfl, rfl, HX, HBW⟩ := hrel
      by_cases hlt : i < n
      · obtain ⟨b, off, x, rfl, hbl, hcell, HXX⟩ := HRD.out.at (k := i) (by have := HL.out; omega)
        have HS0 : Hid (∀ W, Below w.heap.size w W → W.cell? ⟨b, off + i, none⟩ = some (.string ⟨List.toArray x⟩)) := Lib.hid fun W hW => (hW.cell (p := ⟨b, off + i, none⟩) hbl).trans hcell
        have s0 := HS0.out wr HBW.out
        clear hcell hbl
        have hi0 : (0 : Int) ≤ (i : Int) := by omega
        have hi1 : (i : Int) < (n : Int) := by omega
        have hi2 : i < n := hlt
        have HIL : Hid (i < l.length) := Lib.hid (by have := HL.out; omega)
        have HCM := Lib.hid (rcompare_q ⟨List.toArray x⟩ ⟨List.toArray X⟩ wr)
        have HVX : Hid (isV x = true) := Lib.hid (by rw [HXX.out]; exact HV.out i HIL.out)
        obtain ⟨cc, ok, HCC⟩ : ∃ cc ok, Hid (cmpT x X = (cc, ok)) := ⟨_, _, Lib.hid rfl⟩
        rw [show cmpT (⟨List.toArray x⟩ : ByteArray).data.toList (⟨List.toArray X⟩ : ByteArray).data.toList = (cc, ok) from HCC.out] at HCM
        go_wp2_with fail
        refine HCM.out.mono ?_
        rintro e w4 ⟨rfl, hb4⟩
        have HB4 := Lib.hid (HBW.out.trans (hb4.mono HBW.out.size))
        have s1 := HS0.out w4 HB4.out
        clear hb4 s0
        by_cases hx : x = []
        · subst hx
          have HEND : Hid (X = bestT R (l.take (i + 1))) := Lib.hid (by rw [bestT_skip R HIL.out (by rw [← HXX.out]; exact num_nil)]; exact HX.out)
          go_wp2_with fail
          go_roundw
          case rel => exact ⟨i + 1, X, by omega, by go_num, rfl, HEND, HB4⟩
          case measure => simp [intOf]; omega
        · have hx1 : (x == []) = false := by simpa using hx
          have hx2 : x.isEmpty = false := by simpa using hx
          obtain ⟨q1, hq1⟩ : ∃ q1, num x = some q1 := by
            rcases isV_cases HVX.out with h | h
            · exact absurd h hx
            · exact h
          have HCB := Lib.hid (cmp_best R (ss := l.take i) hq1)
          rw [← HX.out, HCC.out] at HCB
          have HMORE := Lib.hid (bestT_more R HIL.out (by rw [← HXX.out]; exact hq1))
          have HRR := HR.out
          clear hx hq1
          cases ok with
          | false =>
            have HEND : Hid (x = bestT R (l.take (i + 1))) := Lib.hid (by
              have hn0 : numsL (l.take i) = [] := by have := HCB.out.1; simpa using this.symm
              rw [HMORE.out, if_pos hn0, ← HXX.out])
            clear HRR
            go_wp2_with fail
            go_roundw
            case rel => exact ⟨i + 1, x, by omega, by go_num, rfl, HEND, HB4⟩
            case measure => simp [intOf]; omega
          | true =>
            have hn0 : numsL (l.take i) ≠ [] := by have := HCB.out.1; simpa using this.symm
            have HC2 := Lib.hid (HCB.out.2 hn0)
            have HM2 := HMORE.out
            rw [if_neg hn0, ← HX.out, ← HXX.out] at HM2
            have HM3 := Lib.hid HM2
            have hdec : (beat R q1 (bestQ R (numsL (l.take i))) = true ∧ x = bestT R (l.take (i + 1))) ∨ (beat R q1 (bestQ R (numsL (l.take i))) = false ∧ X = bestT R (l.take (i + 1))) := by
              cases hbb : beat R q1 (bestQ R (numsL (l.take i))) with
              | true => rw [hbb] at HM2; exact .inl ⟨rfl, by simpa using HM2.symm⟩
              | false => rw [hbb] at HM2; exact .inr ⟨rfl, by simpa using HM2.symm⟩
            have HD3 := Lib.hid (sgnR_neg q1 (bestQ R (numsL (l.take i))))
            have HD4 := Lib.hid (sgnR_pos q1 (bestQ R (numsL (l.take i))))
            rcases hdec with ⟨hbt, hE⟩ | ⟨hbt, hE⟩
            · have HEND := Lib.hid hE
              first
                | (have hd : decide (cc < 0) = true := by rw [show cc = _ from HC2.out, HD3.out, ← HRR]; exact hbt
                   clear hn0 HM2 hbt hE HRR
                   go_wp2_with fail
                   go_roundw
                   case rel => exact ⟨i + 1, x, by omega, by go_num, rfl, HEND, HB4⟩
                   case measure => simp [intOf]; omega)
                | (have hd : decide (0 < cc) = true := by rw [show cc = _ from HC2.out, HD4.out, ← HRR]; exact hbt
                   clear hn0 HM2 hbt hE HRR
                   go_wp2_with fail
                   go_roundw
                   case rel => exact ⟨i + 1, x, by omega, by go_num, rfl, HEND, HB4⟩
                   case measure => simp [intOf]; omega)
            · have HEND := Lib.hid hE
              first
                | (have hd : decide (cc < 0) = false := by rw [show cc = _ from HC2.out, HD3.out, ← HRR]; exact hbt
                   clear hn0 HM2 hbt hE HRR
                   go_wp2_with fail
                   go_roundw
                   case rel => exact ⟨i + 1, X, by omega, by go_num, rfl, HEND, HB4⟩
                   case measure => simp [intOf]; omega)
                | (have hd : decide (0 < cc) = false := by rw [show cc = _ from HC2.out, HD4.out, ← HRR]; exact hbt
                   clear hn0 HM2 hbt hE HRR
                   go_wp2_with fail
                   go_roundw
                   case rel => exact ⟨i + 1, X, by omega, by go_num, rfl, HEND, HB4⟩
                   case measure => simp [intOf]; omega)
      · obtain rfl : i = n := by omega
        have HEQ : Hid (X = bestT R l) := Lib.hid (by rw [HX.out, List.take_of_length_le (by have := HL.out; omega)])
        go_wp2_with fail
        go_ret
        have e : X = Y := HEQ.out.trans HY.out
        subst e
        exact ⟨rfl, HBW.out⟩
theorem rredn_any (red : Int) (h1 : 1 ≤ red) (h5 : red ≤ 5) (p : Option Addr) (n c : Nat) (l : List (List UInt8)) (w : World) (hl : l.length = n) (hn : n ≤ 1000) (hv : ∀ j, j < l.length → isV (l.getD j []) = true) (h : RdS w p l) : Calls Tryz.prog 29 #[.slice p n c, .int .i64 red] w (TxtPost (redT red (numsL l)) w) := by
  have HT : Hid (Calls Tryz.prog 71 #[.slice p n c] w (TotPost (sumQ (numsL l)) (numsL l).length w)) := Lib.hid (rtotal_any p n c l w hl hn (rdsq_of h))
  have HLT : Hid (QLt 7000 (sumQ (numsL l))) := Lib.hid ((sumQ_lt l).mono (by omega))
  have hk : (numsL l).length ≤ 1000 := by have := numsL_le l; omega
  rcases (show red = 1 ∨ red = 2 ∨ red = 5 ∨ (red = 3 ∨ red = 4) by omega) with rfl | rfl | rfl | hr
  · exact rredn_1 p n c _ _ w HT HLT
  · by_cases h0 : numsL l = []
    · have e : redT 2 (numsL l) = [] := by unfold redT; rw [if_neg (by omega), if_neg (by omega), if_pos h0]
      rw [e]
      rw [h0] at HT
      exact rredn_20 p n c _ w HT
    · have e : redT 2 (numsL l) = txt (sumQ (numsL l) / ((((numsL l).length : Nat) : Int) : Rat)) := by unfold redT; rw [if_neg (by omega), if_neg (by omega), if_neg h0, if_pos rfl]; rfl
      rw [e]
      exact rredn_21 p n c _ _ w hk (List.length_pos_iff.2 h0) HT HLT
  · exact rredn_5 p n c _ _ w hk HT
  · rw [redT_best red (by omega) (by omega) (by omega)]
    exact rredn_best red hr p n c _ l _ w HT (Lib.hid hl) hn (Lib.hid hv) h
theorem rreduced_any (p : Option Addr) (n c : Nat) (red : Int) (l : List (List UInt8)) (w : World) (HL : Hid (l.length = n)) (hn : n ≤ 1000) (h : RdS w p l) : Calls Tryz.prog 11 #[.slice p n c, .int .i64 red] w (RedPost (redV l red) w) := by
  have HRD := Lib.hid h
  have hn1 : (n : Int) ≤ 1000 := by omega
  have HN := Lib.hid hn
  obtain ⟨A, z, HV0⟩ : ∃ A z, Hid (redV l red = (A, z)) := ⟨_, _, Lib.hid rfl⟩
  rw [HV0.out]
  clear h hn
  unfold RedPost
  go_enter Tryz.func11, Tryz.ntmps11
  go_wp2_with fail
  go_loopw [6] (fun iv wr => ∃ i : Nat, i ≤ n ∧ iv = .int .i64 (i : Int) ∧ Hid (∀ j, j < i → isV (l.getD j []) = true) ∧ Hid (Below w.heap.size w wr)) (fun iv _ => n - (intOf iv).toNat)
  case atStart => exact ⟨0, Nat.zero_le _, rfl, Lib.hid (fun j hj => by omega), Lib.hid (Below.refl _ _)⟩
  case round =>
    obtain ⟨i, hin, rfl, HV, HBW⟩ := hrel
    by_cases hlt : i < n
    · obtain ⟨b, off, x, rfl, hbl, hcell, HXX⟩ := HRD.out.at (k := i) (by have := HL.out; omega)
      have s0 : wr.cell? ⟨b, off + i, none⟩ = some (.string ⟨List.toArray x⟩) := (HBW.out.cell (p := ⟨b, off + i, none⟩) hbl).trans hcell
      clear hcell hbl
      have hi0 : (0 : Int) ≤ (i : Int) := by omega
      have hi1 : (i : Int) < (n : Int) := by omega
      have HIV := Lib.hid (risvalue_any x wr)
      go_wp2_with fail
      refine HIV.out.mono ?_
      rintro e w1 ⟨hb1, rfl⟩
      have HB1 := Lib.hid (HBW.out.trans (hb1.mono HBW.out.size))
      clear hb1 s0
      cases hv : isV x with
      | true =>
        have HV2 : Hid (∀ j, j < i + 1 → isV (l.getD j []) = true) := Lib.hid (fun j hj => by
          by_cases hji : j < i
          · exact HV.out j hji
          · obtain rfl : j = i := by omega
            rw [← HXX.out]; exact hv)
        clear hv
        go_wp2_with fail
        go_roundw
        case rel => exact ⟨i + 1, by omega, by go_num, HV2, HB1⟩
        case measure => simp [intOf]; omega
      | false =>
        have HE : Hid (redV l red = ([], 2)) := Lib.hid (by
          unfold redV
          rw [if_neg]
          rintro ⟨-, ha⟩
          have := all_getD ha i (by have := HL.out; omega)
          rw [← HXX.out, hv] at this
          cases this)
        have hE2 := HV0.out.symm.trans HE.out
        cases hE2
        clear hv HE HV0
        go_wp2_with fail
        go_ret2
        exact ⟨rfl, HB1.out⟩
    · obtain rfl : i = n := by omega
      have HALL : Hid (l.all isV = true) := Lib.hid (by
        rw [List.all_eq_true]
        intro x hx
        obtain ⟨j, hj, rfl⟩ := List.getElem_of_mem hx
        have := HV.out j (by have := HL.out; omega)
        rwa [List.getD_eq_getElem?_getD, List.getElem?_eq_getElem hj] at this)
      by_cases hr : 1 ≤ red ∧ red ≤ 5
      · have HE : Hid (redV l red = (redT red (numsL l), 0)) := Lib.hid (by unfold redV; rw [if_pos ⟨hr, HALL.out⟩])
        have HIS := Lib.hid (risred_yes red hr.1 hr.2)
        have HRN := Lib.hid (rredn_any red hr.1 hr.2 p i c l wr HL.out HN.out (by have := HL.out; rw [this]; exact HV.out) (HRD.out.below HBW.out))
        have hE2 := HV0.out.symm.trans HE.out
        cases hE2
        clear hr HE HV0
        go_wp2_with fail
        refine (HIS.out wr).mono ?_
        rintro e w1 ⟨rfl, rfl⟩
        go_wp2_with fail
        refine HRN.out.mono ?_
        rintro e w2 ⟨rfl, hb2⟩
        have HB2 := Lib.hid (HBW.out.trans (hb2.mono HBW.out.size))
        clear hb2
        go_wp2_with fail
        go_ret2
        exact ⟨rfl, HB2.out⟩
      · have HE : Hid (redV l red = ([], 2)) := Lib.hid (by unfold redV; rw [if_neg (fun h => hr h.1)])
        have HIS := Lib.hid (risred_no red (by omega))
        have hE2 := HV0.out.symm.trans HE.out
        cases hE2
        clear hr HE HV0
        go_wp2_with fail
        refine (HIS.out wr).mono ?_
        rintro e w1 ⟨rfl, rfl⟩
        go_wp2_with fail
        go_ret2
        exact ⟨rfl, HBW.out⟩
end Go.Proofs.YtlcpcpmlfegejaaGreatDoor.Arr
