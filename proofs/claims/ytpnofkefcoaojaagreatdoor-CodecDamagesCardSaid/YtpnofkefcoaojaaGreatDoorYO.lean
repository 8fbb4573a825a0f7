/- Damaged bytes are not decoded: the program. -/
import Derived.Test.YtpnofkefcoaojaaGreatDoorYK
import Derived.Test.YtpnofkefcoaojaaGreatDoorWDA
import Derived.BigQuiet
import Derived.Deep.QuietTactic
import Derived.StillTailTactics
import Derived.RangeFuncFrom
import Derived.Test.YtpnofkefcoaojaaGreatDoorYM
import Derived.Test.YtpnofkefcoaojaaGreatDoorYA
set_option maxHeartbeats 2000000
set_option maxRecDepth 100000
namespace Go.Proofs.YtpnofkefcoaojaaGreatDoor
open Go.RowKit
open Go.Lib
theorem ba_ne {l l2 : List UInt8} (h : l ≠ l2) : (⟨l.toArray⟩ : ByteArray) ≠ ⟨l2.toArray⟩ := fun e => h (by
  injection e with e
  have := congrArg Array.toList e
  simpa using this)
theorem bytesEqual_ne (p q : Option Addr) (c d m m2 : Nat) (l l2 : List UInt8) (w : World) (hm : Hid (l.length = m)) (hm2 : Hid (l2.length = m2)) (hne : l ≠ l2) (hp : Bs w p l) (hq : Bs w q l2) :
    Calls Tryz.prog 60 #[.slice p m c, .slice q m2 d] w fun r w' => r = .returned (.bool false) ∧ w = w' := by
  have h1 := conv_bytes w p c l hp
  have h2 := conv_bytes w q d l2 hq
  have h3 := ba_ne hne
  obtain ⟨X, HX⟩ : ∃ X : ByteArray, Hid (⟨l.toArray⟩ = X) := ⟨_, rfl⟩
  obtain ⟨Y, HY⟩ : ∃ Y : ByteArray, Hid (⟨l2.toArray⟩ = Y) := ⟨_, rfl⟩
  rw [hm.out, HX.out] at h1
  rw [hm2.out, HY.out] at h2
  rw [HX.out, HY.out] at h3
  have h4 : ¬ X = Y := h3
  have h5 : (X.toList == Y.toList) = false := by
    rw [Bool.eq_false_iff]
    intro e
    rw [beq_iff_eq] at e
    refine h4 ?_
    rw [← HX.out, ← HY.out] at e ⊢
    simp at e
    rw [e]
  clear hp hq hne h3
  go_enter Tryz.func60, Tryz.ntmps60
  go_wp2_with fail
  go_ret
  exact ⟨rfl, rfl⟩
theorem sumB_inj {x y : Nat} (hx : x < 4294967296) (hy : y < 4294967296) (h : sumB x = sumB y) : x = y := by
  unfold sumB at h
  simp only [List.cons.injEq, and_true] at h
  obtain ⟨h0, h1, h2, h3⟩ := h
  have e : ∀ a b : Nat, UInt8.ofNat (a % 256) = UInt8.ofNat (b % 256) → a % 256 = b % 256 := fun a b h => by
    have := congrArg UInt8.toNat h
    simpa using this
  have e0 := e _ _ h0
  have e1 := e _ _ h1
  have e2 := e _ _ h2
  have e3 := e _ _ h3
  omega
theorem bs_take {w : World} {p : Option Addr} {l : List UInt8} (h : Bs w p l) (n : Nat) : Bs w p (l.take n) := by
  rcases h with h0 | ⟨b, off, h1, h2, h3⟩
  · exact .inl (by rw [List.length_take, h0]; omega)
  · refine .inr ⟨b, off, h1, h2, fun j hj => ?_⟩
    rw [List.length_take] at hj
    rw [h3 j (by omega), List.getD_eq_getElem?_getD, List.getD_eq_getElem?_getD, List.getElem?_take_of_lt (by omega)]
theorem damaged {L : List UInt8} {j : Nat} {y : UInt8} (hj : j < (withSum L).length) (hy : y ≠ (withSum L).getD j 0) : sumB (Crc.crc (((withSum L).set j y).take L.length)) ≠ ((withSum L).set j y).drop L.length := by
  unfold withSum at hj hy ⊢
  by_cases h : j < L.length
  · rw [List.set_append_left _ _ h, List.take_left' (by rw [List.length_set]), List.drop_left' (by rw [List.length_set])]
    intro e
    have hy2 : y ≠ L.getD j 0 := by
      rwa [List.getD_eq_getElem?_getD, List.getElem?_append_left h, ← List.getD_eq_getElem?_getD] at hy
    exact Crc.crc_other h hy2 (sumB_inj (Crc.crc_lt _) (Crc.crc_lt _) e)
  · have hle : L.length ≤ j := by omega
    rw [List.set_append_right _ _ hle, List.take_left, List.drop_left]
    intro e
    have h2 : (sumB (Crc.crc L)).getD (j - L.length) 0 = ((sumB (Crc.crc L)).set (j - L.length) y).getD (j - L.length) 0 := by rw [← e]
    rw [List.length_append] at hj
    rw [List.getD_eq_getElem?_getD, List.getD_eq_getElem?_getD, List.getElem?_set_self (by omega), Option.getD_some] at h2
    rw [List.getD_eq_getElem?_getD, List.getElem?_append_right hle] at hy
    exact hy h2.symm
theorem decode_bad (k : Int) (p : Option Addr) (c n m b0 off mm m0 cv : Nat) (ss : List Sg) (lb : List UInt8) (w : World) (he : Env w) (hx : Hid (ss.length = n)) (hs : RdG w p ss) (hp : pipOk k ss = true) (hm : m ≤ 4096) (hmm : mm = m0 + 4) (hl : Hid (lb.length = mm)) (hcv : mm ≤ cv) (hbig : mm ≤ 100000) (hb : Bs w (some ⟨b0, off, none⟩) lb)
    (hne : Hid (sumB (Crc.crc (lb.take m0)) ≠ lb.drop m0)) :
    Calls Tryz.prog 25 #[.int .i64 k, .slice p n c, .int .i64 (m : Int), .slice (some ⟨b0, off, none⟩) mm cv] w fun e w' => e = .returned (.tuple #[.slice none 0 0, .int .i64 5]) ∧ Below w.heap.size w w' := by
  have HV := Lib.hid (pvalid_any k p c n ss w he.tab hx hs)
  rw [hp] at HV
  have HB := Lib.hid hb
  have hmi : (m : Int) ≤ 4096 := by omega
  obtain ⟨X, HX⟩ : ∃ X, Hid (Crc.crc (lb.take m0) = X) := ⟨_, rfl⟩
  have HSM : Hid (∀ W, Below w.heap.size w W → Calls Tryz.prog 55 #[.slice (some ⟨b0, off, none⟩) m0 cv] W fun e w' => e = .returned (.agg #[.int .u8 ((X % 256 : Nat) : Int), .int .u8 ((X / 256 % 256 : Nat) : Int), .int .u8 ((X / 65536 % 256 : Nat) : Int), .int .u8 ((X / 16777216 % 256 : Nat) : Int)]) ∧ Below W.heap.size W w') := Lib.hid (fun W hW => by
    have h := sumbytes_any (some ⟨b0, off, none⟩) cv (lb.take m0) W (by rw [List.length_take, hl.out]; omega) (bs_take (HB.out.below hW) m0)
    unfold sumV at h
    have e : (lb.take m0).length = m0 := by rw [List.length_take, hl.out]; omega
    rwa [HX.out, e] at h)
  have HEQ : Hid (∀ W G, Below w.heap.size w W → Bs W (some ⟨G, 0, none⟩) (sumB X) → Calls Tryz.prog 60 #[.slice (some ⟨G, 0, none⟩) 4 4, .slice (some ⟨b0, off + m0, none⟩) 4 (cv - m0)] W fun e w' => e = .returned (.bool false) ∧ W = w') := Lib.hid (fun W G hW hG => by
    have h1 : (sumB X).length = 4 := rfl
    have h2 : (lb.drop m0).length = 4 := by rw [List.length_drop, hl.out]; omega
    exact bytesEqual_ne _ _ _ _ 4 4 (sumB X) (lb.drop m0) W (Lib.hid h1) (Lib.hid h2) (by rw [← HX.out]; exact hne.out) hG (bs_tail (HB.out.below hW) m0 (by rw [hl.out]; omega) rfl))
  obtain ⟨c0, HC0⟩ : ∃ c0, Hid (X % 256 = c0) := ⟨_, rfl⟩
  obtain ⟨c1, HC1⟩ : ∃ c1, Hid (X / 256 % 256 = c1) := ⟨_, rfl⟩
  obtain ⟨c2, HC2⟩ : ∃ c2, Hid (X / 65536 % 256 = c2) := ⟨_, rfl⟩
  obtain ⟨c4, HC4⟩ : ∃ c4, Hid (X / 16777216 % 256 = c4) := ⟨_, rfl⟩
  rw [HC0.out, HC1.out, HC2.out, HC4.out] at HSM
  have h4 : (mm : Int) - 4 = (m0 : Int) := by omega
  have g0 : ¬ (m0 : Int) < 0 := by omega
  have g1 : (m0 : Int) ≤ (mm : Int) := by omega
  have g2 : (mm : Int) ≤ (cv : Int) := by omega
  have g3 : (mm : Int) ≤ 100000 := by omega
  have g4 : (m0 : Int) ≤ (cv : Int) := by omega
  have g5 : mm - m0 = 4 := by omega
  have g6 : ¬ cv = m0 := by omega
  have HIS := Lib.hid (fun W => isCount_any m hmi W)
  clear hs he hp hb hmm hcv hbig
  go_enter Tryz.func25, Tryz.ntmps25
  go_wp2_with fail
  refine (HV.out).mono ?_
  rintro e w1 ⟨rfl, hb1⟩
  have HB1 := Lib.hid hb1
  clear hb1
  go_wp2_with fail
  refine (HIS.out _).mono ?_
  rintro e w' ⟨rfl, rfl⟩
  go_wp2_with fail
  refine (HSM.out _ HB1.out).mono ?_
  rintro e w6 ⟨rfl, hb6⟩
  have HB6 := Lib.hid (HB1.out.trans (hb6.mono HB1.out.size))
  clear hb6
  obtain ⟨W7, HW7⟩ : ∃ W7, Hid (w6.alloc (.cells #[.int .u8 (c0 : Int), .int .u8 (c1 : Int), .int .u8 (c2 : Int), .int .u8 (c4 : Int)] 79) = W7) := ⟨_, Lib.hid rfl⟩
  obtain ⟨G, HG⟩ : ∃ G, Hid (w6.heap.size = G) := ⟨_, rfl⟩
  have HSB : Hid (Bs W7 (some ⟨G, 0, none⟩) (sumB X)) := Lib.hid (by
    refine sum_bs ?_
    rw [HC0.out, HC1.out, HC2.out, HC4.out, ← HW7.out, ← HG.out]
    exact World.alloc_heap_new w6 _)
  have HB7 : Hid (Below w.heap.size w W7) := Lib.hid (HB6.out.trans (by rw [← HW7.out]; exact ((Below.refl _ _).alloc (Nat.le_refl _) _).mono HB6.out.size))
  have HBG : Hid (∀ W, Below W7.heap.size W7 W → Below w.heap.size w W ∧ Bs W (some ⟨G, 0, none⟩) (sumB X)) := Lib.hid (fun W hW => ⟨HB7.out.trans (hW.mono HB7.out.size), HSB.out.below hW⟩)
  have HCC : Hid (∀ j, Calls Tryz.prog 60 #[.slice (some ⟨G, 0, none⟩) 4 4, .slice (some ⟨b0, off + m0, none⟩) 4 (cv - m0)] (W7.drewN j) fun e w' => e = .returned (.bool false) ∧ w' = W7.drewN j) := Lib.hid (fun j => (HEQ.out (W7.drewN j) G (HBG.out _ (below_drewN _ _ j)).1 (HBG.out _ (below_drewN _ _ j)).2).mono (fun _ _ h => ⟨h.1, h.2.symm⟩))
  go_wp2_with fail
  rw [HW7.out, HG.out]
  go_quiet ((go_at_call 60; exact Calls.quiet_of_same (HCC.out _)))
  go_wp2_with fail
  go_ret2
  exact ⟨rfl, HB7.out.trans (below_drewN _ _ _)⟩
end Go.Proofs.YtpnofkefcoaojaaGreatDoor
set_option maxHeartbeats 8000000
set_option maxRecDepth 100000
namespace Go.Proofs.YtpnofkefcoaojaaGreatDoor
open Go.RowKit
open Go.Lib
theorem enc_bad (k : Int) (p q : Option Addr) (c d n m : Nat) (ss : List Sg) (xs : List (List UInt8)) (w : World) (he : Env w) (hx : Hid (ss.length = n)) (hs : RdG w p ss) (hy : Hid (xs.length = m)) (hm : m ≤ 100) (hq : Ss w q xs) (z : Int) (hz : z ≠ 0) (HZ : encE k ss xs = z) :
    Calls Tryz.prog 22 #[.int .i64 k, .slice p n c, .slice q m d] w fun e w' => e = .returned (.tuple #[.slice none 0 0, .int .i64 z]) ∧ Below w.heap.size w w' := by
  unfold encE at HZ
  by_cases h1 : pipOk k ss = false
  · rw [if_pos h1] at HZ
    rw [← HZ]
    exact encode_invalid k p q c d n m ss w he hx hs h1
  rw [if_neg h1] at HZ
  have h1 : pipOk k ss = true := by simpa using h1
  cases hr : rndF ss with
  | true =>
    rw [hr, Bool.true_and] at HZ
    exact encode_bad1 k p q c d n m ss xs w he hx hs hy hm hq (Lib.hid h1) (Lib.hid hr) z hz (Lib.hid HZ)
  | false =>
    by_cases hc : chkE k xs ≠ 0
    · rw [if_pos hc] at HZ
      exact encode_bad2 k p q c d n m ss xs w he hx hs hy hm hq (Lib.hid h1) (Lib.hid hr) z hz (Lib.hid HZ)
    · rw [if_neg hc, hr, Bool.false_and, if_neg (by decide)] at HZ; exact absurd HZ.symm hz
theorem enc_good (k : Int) (p q : Option Addr) (c d n m : Nat) (ss : List Sg) (xs : List (List UInt8)) (w : World) (he : Env w) (hx : Hid (ss.length = n)) (hs : RdG w p ss) (hy : Hid (xs.length = m)) (hm : m ≤ 100) (hq : Ss w q xs) (HZ : encE k ss xs = 0) :
    Calls Tryz.prog 22 #[.int .i64 k, .slice p n c, .slice q m d] w fun e w' => ∃ v, e = .returned (.tuple #[v, .int .i64 0]) ∧ PutG w (withSum (encL k ss xs)) w' v := by
  obtain ⟨h1, h2, h3, h4⟩ := encE_zero HZ
  cases hr : rndF ss with
  | true => exact encode_good1 k p q c d n m ss xs w he hx hs hy hm hq (Lib.hid h1) (Lib.hid hr) (Lib.hid h2) (Lib.hid (h3 hr)) (Lib.hid h4)
  | false => exact encode_good2 k p q c d n m ss xs w he hx hs hy hm hq (Lib.hid h1) (Lib.hid hr) (Lib.hid h4)
theorem encL_len {k : Int} {ss : List Sg} {xs : List (List UInt8)} (h : encE k ss xs = 0) (hm : xs.length ≤ 100) : (encL k ss xs).length ≤ 9000 := by
  obtain ⟨h1, -, -, h4⟩ := encE_zero h
  have hp := putT_len h4 (by rw [valsE_len]; exact hm)
  have h2 := thrS_len (l := putT k (valsE ss xs)) (pip_st h1) (by omega) (pip_all h1).2.1 ss.length (Nat.le_refl _)
  have h3 := (pip_all h1).2.1
  unfold encL
  omega
theorem at_mod (a : Int) (n : Nat) (h0 : 0 < n) : ∃ k : Nat, k < n ∧ (IntKind.u64.wrap a).tmod (n : Int) = (k : Int) := by
  have h0' : 0 ≤ IntKind.u64.wrap a := by rw [IntKind.wrap_u64]; omega
  generalize IntKind.u64.wrap a = b at h0'
  rw [Int.tmod_eq_emod_of_nonneg h0']
  have h1 := Int.emod_nonneg b (show (n : Int) ≠ 0 by omega)
  have h2 := Int.emod_lt_of_pos b (show (0 : Int) < n by omega)
  exact ⟨(b % (n : Int)).toNat, by omega, by omega⟩
theorem damages_law (k : Int) (p q : Option Addr) (c d n m : Nat) (ss : List Sg) (xs : List (List UInt8)) (a y : Int) (w : World) (he : Env w) (hx : Hid (ss.length = n)) (hs : RdG w p ss) (hy : Hid (xs.length = m)) (hq : Ss w q xs) (hy0 : 0 ≤ y) (hy1 : y ≤ 255) :
    Calls Tryz.prog 7 #[.agg #[.int .i64 k, .slice p n c, .slice q m d], .int .i64 a, .int .u8 y] w fun e w' => Below w.heap.size w w' ∧ e = .returned (.bool true) := by
  have HE := Lib.hid he
  have HS := Lib.hid hs
  have HQ := Lib.hid hq
  have HSANE : Hid (∀ W, Below w.heap.size w W → Calls Tryz.prog 10 #[] W fun e w' => e = .returned (.bool true) ∧ Below W.heap.size W w') := Lib.hid (fun W hW => sane_any W (HE.out.below hW))
  obtain ⟨W0, HW0⟩ : ∃ W0, Hid (w.alloc (.cells #[.int .i64 k, .slice p n c, .slice q m d] 38) = W0) := ⟨_, Lib.hid rfl⟩
  have HB0 : Hid (Below w.heap.size w W0) := Lib.hid (by rw [← HW0.out]; exact (Below.refl _ _).alloc (Nat.le_refl _) _)
  obtain ⟨B, HBX⟩ : ∃ B, Hid (w.heap.size = B) := ⟨_, rfl⟩
  have hbox : Hid (W0.heap[B]? = some (.cells #[.int .i64 k, .slice p n c, .slice q m d] 38 (0, 0))) := Lib.hid (by rw [← HW0.out, ← HBX.out]; exact World.alloc_heap_new w _)
  have HCELL : Hid (∀ W : World, W.heap[B]? = W0.heap[B]? → W.cell? ⟨B, 0, none⟩ = some (.int .i64 k) ∧ W.cell? ⟨B, 1, none⟩ = some (.slice p n c) ∧ W.cell? ⟨B, 2, none⟩ = some (.slice q m d)) := Lib.hid (fun W hW => by
    have h := hW.trans hbox.out
    exact ⟨by simp [World.cell?, h], by simp [World.cell?, h], by simp [World.cell?, h]⟩)
  obtain ⟨hc0, hc1, hc2⟩ := HCELL.out W0 rfl
  have HLG : Hid (∀ W, Below w.heap.size w W → Calls Tryz.prog 17 #[.slice q m d] W fun e w' => e = .returned (.bool (longT xs)) ∧ W = w') := Lib.hid (fun W hW => long_any q d m xs W hy (HQ.out.below hW))
  have HST : Hid (∀ W, Below w.heap.size w W → Calls Tryz.prog 9 #[.slice p n c] W fun e w' => e = .returned (.bool (steepT ss)) ∧ W = w') := Lib.hid (fun W hW => steep_any p c n ss W hx (HS.out.below hW))
  obtain ⟨bl, HBL⟩ : ∃ b, Hid (longT xs = b) := ⟨_, rfl⟩
  obtain ⟨bs, HBS⟩ : ∃ b, Hid (steepT ss = b) := ⟨_, rfl⟩
  rw [HBL.out] at HLG
  rw [HBS.out] at HST
  clear he hs hq
  cases bl with
  | true =>
    go_enter Tryz.func7, Tryz.ntmps7
    go_wp2_with fail
    rw [HW0.out, HBX.out]
    go_wp2_with fail
    refine (HLG.out _ HB0.out).mono ?_
    rintro e w' ⟨rfl, rfl⟩
    go_wp2_with fail
    refine (HSANE.out _ HB0.out).mono ?_
    rintro e w9 ⟨rfl, hb9⟩
    have HB9 := Lib.hid (HB0.out.trans (hb9.mono HB0.out.size))
    clear hb9
    go_wp2_with fail
    go_ret
    exact ⟨HB9.out, rfl⟩
  | false =>
  by_cases hm : 60 < m
  · have hmi : (60 : Int) < (m : Int) := by omega
    go_enter Tryz.func7, Tryz.ntmps7
    go_wp2_with fail
    rw [HW0.out, HBX.out]
    go_wp2_with fail
    refine (HLG.out _ HB0.out).mono ?_
    rintro e w' ⟨rfl, rfl⟩
    go_wp2_with fail
    refine (HSANE.out _ HB0.out).mono ?_
    rintro e w9 ⟨rfl, hb9⟩
    have HB9 := Lib.hid (HB0.out.trans (hb9.mono HB0.out.size))
    clear hb9
    go_wp2_with fail
    go_ret
    exact ⟨HB9.out, rfl⟩
  have hmi : ¬ (60 : Int) < (m : Int) := by omega
  have hmi2 : (m : Int) ≤ 60 := by omega
  cases bs with
  | true =>
    go_enter Tryz.func7, Tryz.ntmps7
    go_wp2_with fail
    rw [HW0.out, HBX.out]
    go_wp2_with fail
    refine (HLG.out _ HB0.out).mono ?_
    rintro e w' ⟨rfl, rfl⟩
    go_wp2_with fail
    refine (HST.out _ HB0.out).mono ?_
    rintro e w' ⟨rfl, rfl⟩
    go_wp2_with fail
    refine (HSANE.out _ HB0.out).mono ?_
    rintro e w9 ⟨rfl, hb9⟩
    have HB9 := Lib.hid (HB0.out.trans (hb9.mono HB0.out.size))
    clear hb9
    go_wp2_with fail
    go_ret
    exact ⟨HB9.out, rfl⟩
  | false =>
  obtain ⟨z, HZ⟩ : ∃ z, Hid (encE k ss xs = z) := ⟨_, rfl⟩
  by_cases hz : z = 0
  case neg =>
    have HEN := Lib.hid (enc_bad k p q c d n m ss xs W0 (HE.out.below HB0.out) hx (HS.out.below HB0.out) hy (by omega) (HQ.out.below HB0.out) z hz HZ.out)
    have gz : (z != 0) = true := by rw [bne_iff_ne]; exact hz
    have HZN := Lib.hid hz
    clear hz
    go_enter Tryz.func7, Tryz.ntmps7
    go_wp2_with fail
    rw [HW0.out, HBX.out]
    go_wp2_with fail
    refine (HLG.out _ HB0.out).mono ?_
    rintro e w' ⟨rfl, rfl⟩
    go_wp2_with fail
    refine (HST.out _ HB0.out).mono ?_
    rintro e w' ⟨rfl, rfl⟩
    go_wp2_with fail
    refine (HEN.out).mono ?_
    rintro e w1 ⟨rfl, hb1⟩
    have HB1 := Lib.hid (HB0.out.trans (hb1.mono HB0.out.size))
    clear hb1 hc0 hc1 hc2
    go_wp2_with fail
    refine (HSANE.out _ HB1.out).mono ?_
    rintro e w9 ⟨rfl, hb9⟩
    have HB9 := Lib.hid (HB1.out.trans (hb9.mono HB1.out.size))
    clear hb9
    go_wp2_with fail
    go_ret
    exact ⟨HB9.out, rfl⟩
  subst hz
  have HEN := Lib.hid (enc_good k p q c d n m ss xs W0 (HE.out.below HB0.out) hx (HS.out.below HB0.out) hy (by omega) (HQ.out.below HB0.out) HZ.out)
  obtain ⟨L, HL⟩ : ∃ L, Hid (encL k ss xs = L) := ⟨_, rfl⟩
  rw [HL.out] at HEN
  have HLL : Hid (L.length ≤ 9000) := Lib.hid (by rw [← HL.out]; exact encL_len HZ.out (by rw [hy.out]; omega))
  obtain ⟨lb, HLB⟩ : ∃ lb, Hid (withSum L = lb) := ⟨_, rfl⟩
  rw [HLB.out] at HEN
  have HLBN : Hid (lb.length = L.length + 4) := Lib.hid (by rw [← HLB.out]; unfold withSum; rw [List.length_append]; rfl)
  by_cases h0 : y = 0
  · subst h0
    go_enter Tryz.func7, Tryz.ntmps7
    go_wp2_with fail
    rw [HW0.out, HBX.out]
    go_wp2_with fail
    refine (HLG.out _ HB0.out).mono ?_
    rintro e w' ⟨rfl, rfl⟩
    go_wp2_with fail
    refine (HST.out _ HB0.out).mono ?_
    rintro e w' ⟨rfl, rfl⟩
    go_wp2_with fail
    refine (HEN.out).mono ?_
    rintro e w1 ⟨v1, rfl, hg1⟩
    have HB1 := Lib.hid (HB0.out.trans (hg1.below.mono HB0.out.size))
    clear hg1 hc0 hc1 hc2
    go_wp2_with fail
    refine (HSANE.out _ HB1.out).mono ?_
    rintro e w9 ⟨rfl, hb9⟩
    have HB9 := Lib.hid (HB1.out.trans (hb9.mono HB1.out.size))
    clear hb9
    go_wp2_with fail
    go_ret
    exact ⟨HB9.out, rfl⟩
  obtain ⟨yb, HYB⟩ : ∃ yb : UInt8, Hid ((yb.toNat : Int) = y) := ⟨UInt8.ofNat y.toNat, Lib.hid (by rw [UInt8.toNat_ofNat']; omega)⟩
  obtain ⟨yn, HYN⟩ : ∃ yn : Nat, Hid (yb.toNat = yn) := ⟨_, rfl⟩
  obtain rfl : y = (yn : Int) := by rw [← HYB.out, HYN.out]
  have hyb0 : yb ≠ 0 := fun e => h0 (by rw [← HYN.out, e]; rfl)
  have hyz : ((yn : Int) == 0) = false := by rw [beq_eq_false_iff_ne]; exact h0
  have HY0 := Lib.hid hyb0
  obtain ⟨mm, HMM⟩ : ∃ mm, Hid (lb.length = mm) := ⟨_, rfl⟩
  have hmm0 : 0 < mm := by have h1 := HMM.out; have h2 := HLBN.out; omega
  have hmm1 : (mm : Int) ≤ 9004 := by have h1 := HMM.out; have h2 := HLBN.out; have h3 := HLL.out; omega
  obtain ⟨j, hj, hk⟩ := at_mod a mm hmm0
  have hmz : ((mm : Int) == 0) = false := by rw [beq_eq_false_iff_ne]; omega
  clear h0 hyb0
  go_enter Tryz.func7, Tryz.ntmps7
  go_wp2_with fail
  rw [HW0.out, HBX.out]
  go_wp2_with fail
  refine (HLG.out _ HB0.out).mono ?_
  rintro e w' ⟨rfl, rfl⟩
  go_wp2_with fail
  refine (HST.out _ HB0.out).mono ?_
  rintro e w' ⟨rfl, rfl⟩
  go_wp2_with fail
  refine (HEN.out).mono ?_
  rintro e w1 ⟨v1, rfl, hg1⟩
  have HB1 := Lib.hid (HB0.out.trans (hg1.below.mono HB0.out.size))
  have HW1 := Lib.hid hg1.below
  obtain ⟨g, cap, hv1, hcap, hg, hgl, hcell, hfree, hset⟩ := own_set hg1.own (by rw [HMM.out]; exact hmm0)
  rw [HMM.out] at hv1 hcap hcell hset
  subst hv1
  obtain ⟨dd, HD⟩ : ∃ dd : Nat, Hid (dd = (lb.getD j 0).toNat) := ⟨_, rfl⟩
  obtain ⟨zb, HZB⟩ : ∃ zb : UInt8, Hid (zb = lb.getD j 0 ^^^ yb) := ⟨_, rfl⟩
  have hd2 : (dd : Int) ≤ 255 := by rw [HD.out]; have := (lb.getD j 0).toNat_lt; omega
  have hx8 : bits .xor .u8 (dd : Int) (yn : Int) = ((zb.toNat : Nat) : Int) := by
    rw [HZB.out, UInt8.toNat_xor, ← HD.out, HYN.out]; exact u8_xor_nat dd yn (by omega) (by omega)
  obtain ⟨zn, HZN⟩ : ∃ zn : Nat, Hid (zb.toNat = zn) := ⟨_, rfl⟩
  rw [HZN.out] at hx8
  have gc : w1.cell? ⟨g, j, none⟩ = some (.int .u8 (dd : Int)) := by rw [HD.out]; exact hcell j hj
  have gf : w1.frozen? ⟨g, j, none⟩ = false := hfree j
  have hset' := hset j zb hj
  rw [HZN.out] at hset'
  obtain ⟨W2, HW2⟩ : ∃ W2, Hid (w1.setCell ⟨g, j, none⟩ (.int .u8 (zn : Int)) = W2) := ⟨_, rfl⟩
  rw [HW2.out] at hset'
  obtain ⟨p6, c6, hv6, hb6, -⟩ := own_bytes (l := lb.set j zb) (by rw [List.length_set, HMM.out]; exact hset')
  rw [List.length_set, HMM.out] at hv6
  cases hv6
  have HB2 : Hid (Below w.heap.size w W2) := Lib.hid (by rw [← HW2.out]; exact HB1.out.setCell (p := ⟨g, j, none⟩) (Nat.le_trans HB0.out.size hg) _)
  have hBg : B ≠ g := fun e => by
    have h1 : B < W0.heap.size := (Array.getElem?_eq_some_iff.1 hbox.out).1
    have h2 : W0.heap.size ≤ g := hg
    omega
  have hold1 : w1.heap[B]? = W0.heap[B]? := HW1.out.block B (Array.getElem?_eq_some_iff.1 hbox.out).1
  have hold2 : W2.heap[B]? = W0.heap[B]? := by
    rw [← HW2.out]
    exact (Below.heap_setCell _ _ _ _ (by show B ≠ g; exact hBg)).trans hold1
  obtain ⟨kc0, kc1, kc2⟩ := HCELL.out W2 hold2
  rw [← HW2.out] at kc0 kc1 kc2
  have HNE : Hid (zb ≠ lb.getD j 0) := Lib.hid (by
    rw [HZB.out]
    intro h
    have h2 := congrArg (fun t => lb.getD j 0 ^^^ t) h
    simp only [← UInt8.xor_assoc, UInt8.xor_self, UInt8.zero_xor] at h2
    exact HY0.out h2)
  have HDC := Lib.hid (decode_bad k p c n m g 0 mm L.length cap ss (lb.set j zb) W2 (HE.out.below HB2.out) hx (HS.out.below HB2.out) (encE_zero HZ.out).1 (by omega) (by rw [← HMM.out]; exact HLBN.out) (Lib.hid (by rw [List.length_set, HMM.out])) hcap (by omega) hb6 (Lib.hid (by
    have h := damaged (L := L) (j := j) (y := zb) (by rw [HLB.out, HMM.out]; exact hj) (by rw [HLB.out]; exact HNE.out)
    rwa [HLB.out] at h)))
  clear hset hset' hfree hcell hb6 hg1 hold1 hold2 hBg hgl hc0 hc1 hc2
  go_wp2_with fail
  rw [HW2.out]
  refine (HDC.out).mono ?_
  rintro e w3 ⟨rfl, hb3⟩
  have HB3 := Lib.hid (HB2.out.trans (hb3.mono HB2.out.size))
  clear hb3 kc0 kc1 kc2 gc gf
  go_wp2_with fail
  refine (HSANE.out _ HB3.out).mono ?_
  rintro e w9 ⟨rfl, hb9⟩
  have HB9 := Lib.hid (HB3.out.trans (hb9.mono HB3.out.size))
  clear hb9
  go_wp2_with fail
  go_ret
  exact ⟨HB9.out, rfl⟩
end Go.Proofs.YtpnofkefcoaojaaGreatDoor
