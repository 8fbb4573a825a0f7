/- What was put is read again: the program's readValues. -/
import Derived.Test.YtaedmojkoioifaaGreatDoorKJ
import Derived.BigQuiet
set_option maxHeartbeats 8000000
set_option maxRecDepth 100000
namespace Go.Proofs.YtaedmojkoioifaaGreatDoor
open Go.RowKit
open Go.Lib
theorem below_gb {w X W : World} {E : Nat} (h : X.grownBy W (some E)) (hb : Below E w X) (hE : E ≤ X.heap.size) : Below E w W :=
  ⟨h.os.trans hb.os, h.tape.trans hb.tape, h.output.trans hb.output, Nat.le_trans hb.size h.size, fun k hk => (h.block k (by omega) (by intro e; injection e with e; omega)).trans (hb.block k hk)⟩
theorem bs_to {W W' : World} {p : Option Addr} {l : List UInt8} {E : Nat} (h : Bs W p l) (hb : Below E W W') (hne : ∀ b off, p = some ⟨b, off, none⟩ → 0 < l.length → b < E) : Bs W' p l := by
  rcases h with h0 | ⟨b, off, hp, hlt, hc⟩
  · exact .inl h0
  · refine .inr ⟨b, off, hp, Nat.lt_of_lt_of_le hlt hb.size, fun j hj => ?_⟩
    have h1 := hb.block b (hne b off hp (by omega))
    have h2 := hc j hj
    simp only [World.cell?] at h2 ⊢
    rw [h1]; exact h2
theorem below_new {w W : World} {E V i : Nat} {v : Value} (h : Below E w W) (hV : E ≤ V) : Below E w (W.setCell ⟨V, i, none⟩ v) := h.setCell (p := ⟨V, i, none⟩) hV v
structure RdI (W2 : World) (E V n : Nat) (k : Int) (xs : List (List UInt8)) (i : Nat) (W : World) : Prop where
  below : Below E W2 W
  rdr : Rdr W E (left k xs i)
  vals : Vals W V n i xs
theorem RdI.store {W2 W w5 : World} {E V n i : Nat} {k : Int} {xs : List (List UInt8)} (h : RdI W2 E V n k xs i W) (hi : i < n) (hE : E < V) (hr : Rdr w5 E (left k xs (i + 1))) (hg : W.grownBy w5 (some E)) (hE2 : E ≤ W.heap.size) : RdI W2 E V n k xs (i + 1) (w5.setCell ⟨V, i, none⟩ (.string ⟨(xs.getD i []).toArray⟩)) := by
  have hv : Vals w5 V n i xs := h.vals.keep (by
    obtain ⟨cs, h1, -⟩ := h.vals
    exact hg.block V (Array.getElem?_eq_some_iff.1 h1).1 (by intro e; injection e with e; omega))
  refine ⟨below_new (below_gb hg h.below hE2) (by omega), ?_, hv.put hi⟩
  obtain ⟨p, c, h1, h2, h3, h4⟩ := hr
  refine ⟨p, c, (Below.heap_setCell _ _ _ _ (by show E ≠ V; omega)).trans h1, bs_to h2 (below_new (Below.refl _ _) (by omega)) h4, h3, h4⟩
theorem RdI.skip {W2 W w5 : World} {E V n i : Nat} {k : Int} {xs : List (List UInt8)} (h : RdI W2 E V n k xs i W) (hE : E < V) (he : xs.getD i [] = []) (hr : Rdr w5 E (left k xs (i + 1))) (hg : W.grownBy w5 (some E)) (hE2 : E ≤ W.heap.size) : RdI W2 E V n k xs (i + 1) w5 := by
  have hv : Vals w5 V n i xs := h.vals.keep (by
    obtain ⟨cs, h1, -⟩ := h.vals
    exact hg.block V (Array.getElem?_eq_some_iff.1 h1).1 (by intro e; injection e with e; omega))
  exact ⟨below_gb hg h.below hE2, hr, hv.skip he⟩
theorem readVals_put (k : Int) (p : Option Addr) (c n m : Nat) (xs : List (List UInt8)) (w : World) (hx : Hid (xs.length = n)) (hn : n ≤ 4096) (hm : Hid ((putT k xs).length = m)) (hmc : m ≤ c) (hb : Bs w p (putT k xs)) (HZ : Hid (chkE k xs = 0)) (he : Env w) :
    Calls Tryz.prog 21 #[.int .i64 k, .int .i64 (n : Int), .slice p m c] w fun e w' => Below w.heap.size w w' ∧ ∃ q, e = .returned (.slice q n n) ∧ Ss w' q xs := by
  have HB := Lib.hid hb
  have HE := Lib.hid he
  clear hb he
  have hk : isT k = true ∧ xs.all (fitT k) = true := by
    have h := HZ.out
    unfold chkE at h
    by_cases h1 : isT k = false
    · rw [if_pos h1] at h; cases h
    · rw [if_neg h1] at h
      by_cases h2 : xs.all (fitT k) = false
      · rw [if_pos h2] at h; cases h
      · exact ⟨by simpa using h1, by simpa using h2⟩
  have HK1 : Hid (1 ≤ k ∧ k ≤ 5) := Lib.hid (by
    have h := hk.1
    unfold isT at h
    rw [Bool.and_eq_true, decide_eq_true_eq, decide_eq_true_eq] at h
    exact h)
  have HFA : Hid (∀ x ∈ xs, fitT k x = true) := Lib.hid (List.all_eq_true.1 hk.2)
  obtain ⟨P, HPD⟩ : ∃ P, Hid ((n + 7) / 8 = P) := ⟨_, rfl⟩
  have hP : P ≤ 512 := by have := HPD.out; omega
  have hPi : ((n : Int) + 7) / 8 = (P : Int) := by have := HPD.out; omega
  have hni : (n : Int) ≤ 4096 := by omega
  have HPR := Lib.hid (fun W => presence_any n hni W)
  rw [hPi] at HPR
  have HPUT : Hid (putT k xs = stP xs P n ++ left k xs 0) := Lib.hid (by rw [put_left, hx.out, HPD.out])
  have HTK : Hid ((putT k xs).take P = stP xs P n ∧ (putT k xs).drop P = left k xs 0) := Lib.hid (by
    rw [HPUT.out]
    have e := stP_len xs P n
    exact ⟨List.take_left' e, List.drop_left' e⟩)
  have HPTL : Hid ((putT k xs).length ≤ 1000000000) := Lib.hid (by
    rw [HPUT.out, List.length_append, stP_len]
    have := left_len HFA.out 0
    have := hx.out
    omega)
  obtain ⟨E, HEE⟩ : ∃ E, Hid (E = w.heap.size) := ⟨_, rfl⟩
  obtain ⟨W1, HW1⟩ : ∃ W1, Hid (w.alloc (.cells #[.slice p m c] 55) = W1) := ⟨_, rfl⟩
  have HB1 : Hid (Below E w W1) := Lib.hid (by rw [← HW1.out]; exact (Below.refl _ _).alloc (by rw [HEE.out]; exact Nat.le_refl _) _)
  have HR1 : Hid (Rdr W1 E (putT k xs)) := Lib.hid (by
    refine ⟨p, c, ?_, ?_, by rw [hm.out]; exact hmc, fun b off e h0 => ?_⟩
    · rw [hm.out, ← HW1.out, HEE.out]; exact heap_alloc_new _ _
    · refine bs_to HB.out HB1.out (fun b off e h0 => ?_)
      rcases HB.out with h | ⟨b', off', hp, hlt, -⟩
      · omega
      · rw [hp] at e; cases e; rw [HEE.out]; exact hlt
    · rcases HB.out with h | ⟨b', off', hp, hlt, -⟩
      · omega
      · rw [hp] at e; cases e; rw [HEE.out]; exact hlt)
  have HTAKE := Lib.hid (take_any E P (putT k xs) W1 (by omega) HPTL.out HR1.out)
  have hee : w.heap.size = E := HEE.out.symm
  have HENV0 : Hid (∀ W, Below E w W → Env W) := Lib.hid (fun W hW => HE.out.below (by rwa [HEE.out] at hW))
  obtain ⟨Z, hZ, hmk⟩ := make_vals n (by omega)
  have HZS := Lib.hid hZ
  clear hk hZ hPi
  go_enter Tryz.func21, Tryz.ntmps21
  go_wp2_with fail
  rw [HW1.out]
  refine (HPR.out _).mono ?_
  rintro e w' ⟨rfl, rfl⟩
  go_wp2_with fail
  refine (HTAKE.out).mono ?_
  rintro e W2 ⟨pp, cc, rfl, hpb, hpc, hpr, hpg, hpe⟩
  rw [HTK.out.1] at hpb hpc hpe ⊢
  rw [HTK.out.2] at hpr
  rw [stP_len] at hpc ⊢
  have HPB := Lib.hid hpb
  have HPE := Lib.hid hpe
  have HPL : Hid ((stP xs P n).length = P) := Lib.hid (stP_len _ _ _)
  have HE1 : Hid (E < W1.heap.size) := Lib.hid (by rw [← HW1.out, HEE.out]; simp)
  have HBE : Hid (Below E w W2) := Lib.hid (below_gb hpg HB1.out (Nat.le_of_lt HE1.out))
  have HE2' : Hid (E < W2.heap.size) := Lib.hid (Nat.lt_of_lt_of_le HE1.out hpg.size)
  have HE2 : Hid (E ≤ W2.heap.size) := Lib.hid (Nat.le_of_lt HE2'.out)
  have HENV : Hid (∀ W, Below E W2 W → Env W) := Lib.hid (fun W hW => HENV0.out W (HBE.out.trans hW))
  obtain ⟨V, HVV⟩ : ∃ V, Hid (W2.heap.size = V) := ⟨_, rfl⟩
  have HEV : Hid (E < V) := Lib.hid (by rw [← HVV.out]; exact HE2'.out)
  obtain ⟨W3, HW3⟩ : ∃ W3, Hid (W2.alloc (.cells Z 9) = W3) := ⟨_, rfl⟩
  have HI0 : Hid (RdI W2 E V n k xs 0 W3) := Lib.hid (by
    have hb3 : Below W2.heap.size W2 W3 := by rw [← HW3.out]; exact (Below.refl _ _).alloc (Nat.le_refl _) _
    refine ⟨hb3.mono HE2.out, rdr_below hpr hb3, Z, ?_, HZS.out.1, fun j hj => ?_⟩
    · rw [← HW3.out, ← HVV.out]; exact heap_alloc_new _ _
    · rw [if_neg (by omega)]; exact HZS.out.2 j hj)
  clear hpb hpc hpr hpg hpe
  go_wp2_with fail
  rw [HW3.out, HVV.out]
  clear hmk hee
  go_loopw [22] (fun iv wr => ∃ i : Nat, i ≤ n ∧ iv = .int .i64 i ∧ Hid (RdI W2 E V n k xs i wr)) (fun iv _ => n - (intOf iv).toNat)
  case atStart => exact ⟨0, Nat.zero_le _, rfl, HI0⟩
  case round =>
    obtain ⟨i, hi9, rfl, HK⟩ := hrel
    have ii : (i : Int) ≤ (n : Int) := by omega
    by_cases hlt : i < n
    · have ilt : (i : Int) < (n : Int) := by omega
      have hil : i < xs.length := by rw [hx.out]; exact hlt
      have HF : Hid (fitT k (xs.getD i []) = true) := Lib.hid (HFA.out _ (by rw [List.getD_eq_getElem?_getD, List.getElem?_eq_getElem hil]; exact List.getElem_mem _))
      obtain ⟨x, HXX⟩ : ∃ x, Hid (xs.getD i [] = x) := ⟨_, rfl⟩
      rw [HXX.out] at HF
      obtain ⟨j, HJ⟩ : ∃ j, Hid (i / 8 = j) := ⟨_, rfl⟩
      obtain ⟨r, HR⟩ : ∃ r, Hid (i % 8 = r) := ⟨_, rfl⟩
      have hjP : j < P := by have := HJ.out; have := HPD.out; omega
      have hr8 : r < 8 := by have := HR.out; omega
      obtain ⟨b1, o1, d, e1, hb1, hc1, hd, hd255⟩ := (bs_to HPB.out HK.out.below HPE.out).at (k := j) (by rw [HPL.out]; exact hjP)
      subst e1
      obtain ⟨bt, HBT⟩ : ∃ bt, Hid (decide (x ≠ []) = bt) := ⟨_, rfl⟩
      have hand : bits .and .u8 ((d : Int) / 2 ^ r) 1 = (if bt then 1 else 0) := by
        have h := bit_and ((stP xs P n).getD j 0) r
        have h2 := stP_bit xs P n (by have := HPD.out; omega) i (by have := HPD.out; omega)
        rw [HJ.out, HR.out, HXX.out] at h2
        rw [hd.out] at h h2
        rw [h, h2, ← HBT.out]
        by_cases hxe : x = []
        · rw [decide_eq_false (fun h => h.2 hxe), decide_eq_false (fun h => h hxe)]
        · rw [decide_eq_true ⟨hlt, hxe⟩, decide_eq_true hxe]
      have hdi : (i : Int) / 8 = (j : Int) := by have := HJ.out; omega
      have hmi : (i : Int) % 8 = (r : Int) := by have := HR.out; omega
      have ijP : (j : Int) < (P : Int) := by omega
      have ij5 : (j : Int) ≤ 512 := by omega
      have HES : Hid (E ≤ wr.heap.size) := Lib.hid (Nat.le_trans HE2.out HK.out.below.size)
      have HLL : Hid (left k xs i = elemL k x ++ left k xs (i + 1)) := Lib.hid (by rw [left_at hil, HXX.out])
      have HTB : Hid (∀ W, wr.grownBy W (some E) → Tab W) := Lib.hid (fun W hW => (HENV.out W (below_gb hW HK.out.below HES.out)).tab)
      have HLN : Hid ((left k xs i).length ≤ 1000000000) := Lib.hid (by have := left_len HFA.out i; have := hx.out; omega)
      clear hb1 hd hil
      by_cases h5 : k = 5
      · have g5 : (k != 5) = false := by rw [h5]; rfl
        have H5 := Lib.hid h5
        clear h5
        cases bt with
        | true =>
          have hxe : x ≠ [] := by have := HBT.out; simpa using this
          have HTX := Lib.hid (text_rd E (left k xs i) wr HLN.out HK.out.rdr)
          have hback := text_back (x := x) (R := left k xs (i + 1)) hxe (fit_len HF.out)
          rw [← H5.out, ← HLL.out] at hback
          rw [hback.1, hback.2] at HTX
          rw [if_pos rfl] at hand
          clear hback hxe
          go_wp2_with fail
          refine (HTX.out).mono ?_
          rintro e w5 ⟨rfl, hr5, hg5⟩
          have HST : Hid (RdI W2 E V n k xs (i + 1) (w5.setCell ⟨V, i, none⟩ (.string ⟨x.toArray⟩))) := Lib.hid (by
            have := HK.out.store hlt HEV.out hr5 hg5 HES.out
            rwa [HXX.out] at this)
          have hv5 : Vals w5 V n i xs := HK.out.vals.keep (by
            obtain ⟨cs, h1, -⟩ := HK.out.vals
            exact hg5.block V (Array.getElem?_eq_some_iff.1 h1).1 (by intro e; injection e with e; have := HEV.out; omega))
          obtain ⟨gc, gf⟩ := hv5.old hlt
          obtain ⟨W6, HW6⟩ : ∃ W6, Hid (w5.setCell ⟨V, i, none⟩ (.string ⟨x.toArray⟩) = W6) := ⟨_, rfl⟩
          rw [HW6.out] at HST
          clear hv5 hr5 hg5
          go_wp2_with fail
          rw [HW6.out]
          go_roundw
          case rel => exact ⟨i + 1, by omega, by go_num, HST⟩
          case measure => simp [intOf]; omega
        | false =>
          have hxe : x = [] := by have := HBT.out; simpa using this
          rw [if_neg (by simp)] at hand
          have HK2 : Hid (RdI W2 E V n k xs (i + 1) wr) := Lib.hid (HK.out.skip HEV.out (by rw [HXX.out]; exact hxe) (by
            have h := HK.out.rdr
            have e0 : elemL k x = [] := by unfold elemL; rw [if_pos H5.out, if_pos hxe]
            rw [HLL.out, e0] at h
            exact h) ⟨rfl, rfl, rfl, Nat.le_refl _, fun _ _ _ => rfl⟩ HES.out)
          clear hxe
          go_wp2_with fail
          go_roundw
          case rel => exact ⟨i + 1, by omega, by go_num, HK2⟩
          case measure => simp [intOf]; omega
      · have g5 : (k != 5) = true := by rw [bne_iff_ne]; exact h5
        have H5 := Lib.hid h5
        clear h5
        have hkk : 1 ≤ k ∧ k ≤ 4 := by have := HK1.out; have := H5.out; omega
        have hw : widT k = 1 ∨ widT k = 2 ∨ widT k = 4 ∨ widT k = 8 := by
          have h : k = 1 ∨ k = 2 ∨ k = 3 ∨ k = 4 := by omega
          rcases h with h | h | h | h
          · rw [h]; exact .inl rfl
          · rw [h]; exact .inr (.inl rfl)
          · rw [h]; exact .inr (.inr (.inl rfl))
          · rw [h]; exact .inr (.inr (.inr rfl))
        have HIN := Lib.hid (integer_rd E (widT k) (left k xs i) wr hw HLN.out HK.out.rdr HTB.out)
        have htake := int_take (x := x) (R := left k xs (i + 1)) H5.out
        rw [← HLL.out] at htake
        rw [htake.1, htake.2] at HIN
        clear hw htake
        cases bt with
        | true =>
          have hxe : x ≠ [] := by have := HBT.out; simpa using this
          rw [int_back HF.out hkk.1 hkk.2 hxe] at HIN
          rw [if_pos rfl] at hand
          clear hxe hkk
          go_wp2_with fail
          refine (width_any k _).mono ?_
          rintro e w' ⟨rfl, rfl⟩
          go_wp2_with fail
          refine (HIN.out).mono ?_
          rintro e w5 ⟨rfl, hr5, hg5⟩
          have HST : Hid (RdI W2 E V n k xs (i + 1) (w5.setCell ⟨V, i, none⟩ (.string ⟨x.toArray⟩))) := Lib.hid (by
            have := HK.out.store hlt HEV.out hr5 hg5 HES.out
            rwa [HXX.out] at this)
          have hv5 : Vals w5 V n i xs := HK.out.vals.keep (by
            obtain ⟨cs, h1, -⟩ := HK.out.vals
            exact hg5.block V (Array.getElem?_eq_some_iff.1 h1).1 (by intro e; injection e with e; have := HEV.out; omega))
          obtain ⟨gc, gf⟩ := hv5.old hlt
          obtain ⟨W6, HW6⟩ : ∃ W6, Hid (w5.setCell ⟨V, i, none⟩ (.string ⟨x.toArray⟩) = W6) := ⟨_, rfl⟩
          rw [HW6.out] at HST
          clear hv5 hr5 hg5
          go_wp2_with fail
          rw [HW6.out]
          go_roundw
          case rel => exact ⟨i + 1, by omega, by go_num, HST⟩
          case measure => simp [intOf]; omega
        | false =>
          have hxe : x = [] := by have := HBT.out; simpa using this
          rw [if_neg (by simp)] at hand
          obtain ⟨T, HT⟩ : ∃ T, Hid (Lib.itoa (sgI (widT k) (nb (be (widT k) (vT x)))) = T) := ⟨_, rfl⟩
          rw [HT.out] at HIN
          have HXE := Lib.hid hxe
          clear hxe hkk
          go_wp2_with fail
          refine (width_any k _).mono ?_
          rintro e w' ⟨rfl, rfl⟩
          go_wp2_with fail
          refine (HIN.out).mono ?_
          rintro e w5 ⟨rfl, hr5, hg5⟩
          have HK2 : Hid (RdI W2 E V n k xs (i + 1) w5) := Lib.hid (HK.out.skip HEV.out (by rw [HXX.out]; exact HXE.out) hr5 hg5 HES.out)
          clear hr5 hg5
          go_wp2_with fail
          go_roundw
          case rel => exact ⟨i + 1, by omega, by go_num, HK2⟩
          case measure => simp [intOf]; omega
    · obtain rfl : i = n := by omega
      have ilt : ¬ (i : Int) < (i : Int) := by omega
      have HFIN : Hid (Below w.heap.size w wr ∧ ∃ q, (.returned (.slice (some ⟨V, 0, none⟩) i i) : Ending) = .returned (.slice q i i) ∧ Ss wr q xs) := Lib.hid ⟨by
        have h := HBE.out.trans HK.out.below
        rwa [HEE.out] at h, _, rfl, HK.out.vals.reads hx.out⟩
      go_wp2_with fail
      go_ret
      exact HFIN.out
end Go.Proofs.YtaedmojkoioifaaGreatDoor
