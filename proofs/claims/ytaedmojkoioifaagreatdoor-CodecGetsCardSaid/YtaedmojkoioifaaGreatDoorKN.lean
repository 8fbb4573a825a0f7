/- Any bytes are read as some values. -/
import Derived.Test.YtaedmojkoioifaaGreatDoorKL
import Derived.BigQuiet
set_option maxHeartbeats 8000000
set_option maxRecDepth 100000
namespace Go.Proofs.YtaedmojkoioifaaGreatDoor
open Go.RowKit
open Go.Lib
def ValsW (W : World) (V n : Nat) : Prop := ∃ cs : Array Value, W.heap[V]? = some (.cells cs 9 (0, 0)) ∧ cs.size = n ∧ ∀ j, j < n → ∃ x : List UInt8, cs[j]? = some (.string ⟨x.toArray⟩)
theorem ValsW.put {W : World} {V n i : Nat} (h : ValsW W V n) (x : List UInt8) : ValsW (W.setCell ⟨V, i, none⟩ (.string ⟨x.toArray⟩)) V n := by
  obtain ⟨cs, h1, h2, h3⟩ := h
  refine ⟨_, heap_put W V i _ _ _ h1, by simp [h2], fun j hj => ?_⟩
  rw [Array.getElem?_setIfInBounds]
  by_cases e : i = j
  · subst e
    rw [if_pos rfl, if_pos (by rw [h2]; exact hj)]
    exact ⟨x, rfl⟩
  · rw [if_neg e]; exact h3 j hj
theorem ValsW.keep {W W' : World} {V n : Nat} (h : ValsW W V n) (e : W'.heap[V]? = W.heap[V]?) : ValsW W' V n := by
  obtain ⟨cs, h1, h2⟩ := h
  exact ⟨cs, e.trans h1, h2⟩
theorem ValsW.old {W : World} {V n i : Nat} (h : ValsW W V n) (hi : i < n) : ∃ x : List UInt8, W.cell? ⟨V, i, none⟩ = some (.string ⟨x.toArray⟩) ∧ W.frozen? ⟨V, i, none⟩ = false := by
  obtain ⟨cs, h1, h2, h3⟩ := h
  obtain ⟨x, hx⟩ := h3 i hi
  exact ⟨x, by simp [World.cell?, h1, hx], by simp [World.frozen?, h1]⟩
theorem ValsW.reads {W : World} {V n : Nat} (h : ValsW W V n) : ∃ xs : List (List UInt8), xs.length = n ∧ Ss W (some ⟨V, 0, none⟩) xs := by
  obtain ⟨cs, h1, h2, h3⟩ := h
  have hex : ∀ j, ∃ x : List UInt8, j < n → cs[j]? = some (.string ⟨x.toArray⟩) := fun j => by
    by_cases hj : j < n
    · obtain ⟨x, hx⟩ := h3 j hj
      exact ⟨x, fun _ => hx⟩
    · exact ⟨[], fun h => absurd h hj⟩
  obtain ⟨f, hf⟩ := Classical.axiomOfChoice hex
  refine ⟨(List.range n).map f, by simp, .inr ⟨V, 0, rfl, (Array.getElem?_eq_some_iff.1 h1).1, fun j hj => ?_⟩⟩
  have hj2 : j < n := by simpa using hj
  have e : ((List.range n).map f).getD j [] = f j := by
    rw [List.getD_eq_getElem?_getD, List.getElem?_map, List.getElem?_range hj2]; rfl
  rw [Nat.zero_add, e]
  simp [World.cell?, h1, hf j hj2]
structure RdW (W2 : World) (E V n : Nat) (W : World) : Prop where
  below : Below E W2 W
  rdr : ∃ l, l.length ≤ 1000000000 ∧ Rdr W E l
  vals : ValsW W V n
theorem RdW.go {W2 W w5 : World} {E V n : Nat} (h : RdW W2 E V n W) (hE : E < V) {l : List UInt8} (hl : l.length ≤ 1000000000) (hr : Rdr w5 E l) (hg : W.grownBy w5 (some E)) (hE2 : E ≤ W.heap.size) : RdW W2 E V n w5 :=
  ⟨below_gb hg h.below hE2, ⟨l, hl, hr⟩, h.vals.keep (by
    obtain ⟨cs, h1, -⟩ := h.vals
    exact hg.block V (Array.getElem?_eq_some_iff.1 h1).1 (by intro e; injection e with e; omega))⟩
theorem RdW.put {W2 W : World} {E V n i : Nat} (h : RdW W2 E V n W) (hE : E < V) (x : List UInt8) : RdW W2 E V n (W.setCell ⟨V, i, none⟩ (.string ⟨x.toArray⟩)) := by
  obtain ⟨l, hl, p, c, h1, h2, h3, h4⟩ := h.rdr
  exact ⟨below_new h.below (by omega), ⟨l, hl, p, c, (Below.heap_setCell _ _ _ _ (by show E ≠ V; omega)).trans h1, bs_to h2 (below_new (Below.refl _ _) (by omega)) h4, h3, h4⟩, h.vals.put x⟩
theorem readVals_any (k : Int) (p : Option Addr) (c n m : Nat) (lb : List UInt8) (w : World) (HK1 : Hid (1 ≤ k ∧ k ≤ 5)) (hn : n ≤ 4096) (hm : Hid (lb.length = m)) (hmc : m ≤ c) (hb : Bs w p lb) (hml : m ≤ 1000000) (hnm : (n + 7) / 8 ≤ m) (he : Env w) :
    Calls Tryz.prog 21 #[.int .i64 k, .int .i64 (n : Int), .slice p m c] w fun e w' => Below w.heap.size w w' ∧ ∃ q, e = .returned (.slice q n n) ∧ ∃ xs, xs.length = n ∧ Ss w' q xs := by
  have HB := Lib.hid hb
  have HE := Lib.hid he
  clear hb he
  obtain ⟨P, HPD⟩ : ∃ P, Hid ((n + 7) / 8 = P) := ⟨_, rfl⟩
  have hP : P ≤ 512 := by have := HPD.out; omega
  have hPi : ((n : Int) + 7) / 8 = (P : Int) := by have := HPD.out; omega
  have hni : (n : Int) ≤ 4096 := by omega
  have HPR := Lib.hid (fun W => presence_any n hni W)
  rw [hPi] at HPR
  have hPm : P ≤ m := by rw [← HPD.out]; exact hnm
  obtain ⟨PS, HPS⟩ : ∃ PS, Hid (lb.take P = PS) := ⟨_, rfl⟩
  obtain ⟨RS, HRS⟩ : ∃ RS, Hid (lb.drop P = RS) := ⟨_, rfl⟩
  have HPL0 : Hid (PS.length = P) := Lib.hid (by rw [← HPS.out, List.length_take, hm.out]; omega)
  have HRSL : Hid (RS.length ≤ 1000000000) := Lib.hid (by rw [← HRS.out, List.length_drop, hm.out]; omega)
  have HPTL : Hid (lb.length ≤ 1000000000) := Lib.hid (by rw [hm.out]; omega)
  obtain ⟨E, HEE⟩ : ∃ E, Hid (E = w.heap.size) := ⟨_, rfl⟩
  obtain ⟨W1, HW1⟩ : ∃ W1, Hid (w.alloc (.cells #[.slice p m c] 55) = W1) := ⟨_, rfl⟩
  have HB1 : Hid (Below E w W1) := Lib.hid (by rw [← HW1.out]; exact (Below.refl _ _).alloc (by rw [HEE.out]; exact Nat.le_refl _) _)
  have HR1 : Hid (Rdr W1 E lb) := Lib.hid (by
    refine ⟨p, c, ?_, ?_, by rw [hm.out]; exact hmc, fun b off e h0 => ?_⟩
    · rw [hm.out, ← HW1.out, HEE.out]; exact heap_alloc_new _ _
    · refine bs_to HB.out HB1.out (fun b off e h0 => ?_)
      rcases HB.out with h | ⟨b', off', hp, hlt, -⟩
      · omega
      · rw [hp] at e; cases e; rw [HEE.out]; exact hlt
    · rcases HB.out with h | ⟨b', off', hp, hlt, -⟩
      · omega
      · rw [hp] at e; cases e; rw [HEE.out]; exact hlt)
  have HTAKE := Lib.hid (take_any E P lb W1 (by omega) HPTL.out HR1.out)
  have hee : w.heap.size = E := HEE.out.symm
  have HENV0 : Hid (∀ W, Below E w W → Env W) := Lib.hid (fun W hW => HE.out.below (by rwa [HEE.out] at hW))
  obtain ⟨Z, hZ, hmk⟩ := make_vals n (by omega)
  have HZS := Lib.hid hZ
  clear hZ hPi
  go_enter Tryz.func21, Tryz.ntmps21
  go_wp2_with fail
  rw [HW1.out]
  refine (HPR.out _).mono ?_
  rintro e w' ⟨rfl, rfl⟩
  go_wp2_with fail
  refine (HTAKE.out).mono ?_
  rintro e W2 ⟨pp, cc, rfl, hpb, hpc, hpr, hpg, hpe⟩
  rw [HPS.out] at hpb hpc hpe ⊢
  rw [HRS.out] at hpr
  rw [HPL0.out] at hpc ⊢
  have HPB := Lib.hid hpb
  have HPE := Lib.hid hpe
  have HPL := HPL0
  have HE1 : Hid (E < W1.heap.size) := Lib.hid (by rw [← HW1.out, HEE.out]; simp)
  have HBE : Hid (Below E w W2) := Lib.hid (below_gb hpg HB1.out (Nat.le_of_lt HE1.out))
  have HE2' : Hid (E < W2.heap.size) := Lib.hid (Nat.lt_of_lt_of_le HE1.out hpg.size)
  have HE2 : Hid (E ≤ W2.heap.size) := Lib.hid (Nat.le_of_lt HE2'.out)
  have HENV : Hid (∀ W, Below E W2 W → Env W) := Lib.hid (fun W hW => HENV0.out W (HBE.out.trans hW))
  obtain ⟨V, HVV⟩ : ∃ V, Hid (W2.heap.size = V) := ⟨_, rfl⟩
  have HEV : Hid (E < V) := Lib.hid (by rw [← HVV.out]; exact HE2'.out)
  obtain ⟨W3, HW3⟩ : ∃ W3, Hid (W2.alloc (.cells Z 9) = W3) := ⟨_, rfl⟩
  have HI0 : Hid (RdW W2 E V n W3) := Lib.hid (by
    have hb3 : Below W2.heap.size W2 W3 := by rw [← HW3.out]; exact (Below.refl _ _).alloc (Nat.le_refl _) _
    refine ⟨hb3.mono HE2.out, ⟨RS, HRSL.out, rdr_below hpr hb3⟩, Z, ?_, HZS.out.1, fun j hj => ⟨[], HZS.out.2 j hj⟩⟩
    rw [← HW3.out, ← HVV.out]; exact heap_alloc_new _ _)
  clear hpb hpc hpr hpg hpe
  go_wp2_with fail
  rw [HW3.out, HVV.out]
  clear hmk hee
  go_loopw [22] (fun iv wr => ∃ i : Nat, i ≤ n ∧ iv = .int .i64 i ∧ Hid (RdW W2 E V n wr)) (fun iv _ => n - (intOf iv).toNat)
  case atStart => exact ⟨0, Nat.zero_le _, rfl, HI0⟩
  case round =>
    obtain ⟨i, hi9, rfl, HK⟩ := hrel
    have ii : (i : Int) ≤ (n : Int) := by omega
    by_cases hlt : i < n
    · have ilt : (i : Int) < (n : Int) := by omega
      obtain ⟨j, HJ⟩ : ∃ j, Hid (i / 8 = j) := ⟨_, rfl⟩
      obtain ⟨r, HR⟩ : ∃ r, Hid (i % 8 = r) := ⟨_, rfl⟩
      have hjP : j < P := by have := HJ.out; have := HPD.out; omega
      obtain ⟨b1, o1, d, e1, hb1, hc1, hd, hd255⟩ := (bs_to HPB.out HK.out.below HPE.out).at (k := j) (by rw [HPL.out]; exact hjP)
      subst e1
      obtain ⟨bt, HBT⟩ : ∃ bt, Hid ((PS.getD j 0).toNat.testBit r = bt) := ⟨_, rfl⟩
      have hand : bits .and .u8 ((d : Int) / 2 ^ r) 1 = (if bt then 1 else 0) := by
        have h := bit_and (PS.getD j 0) r
        rw [HBT.out] at h
        rw [hd.out] at h
        exact h
      have hdi : (i : Int) / 8 = (j : Int) := by have := HJ.out; omega
      have hmi : (i : Int) % 8 = (r : Int) := by have := HR.out; omega
      have ijP : (j : Int) < (P : Int) := by omega
      have ij5 : (j : Int) ≤ 512 := by omega
      have HES : Hid (E ≤ wr.heap.size) := Lib.hid (Nat.le_trans HE2.out HK.out.below.size)
      have HTB : Hid (∀ W, wr.grownBy W (some E) → Tab W) := Lib.hid (fun W hW => (HENV.out W (below_gb hW HK.out.below HES.out)).tab)
      obtain ⟨l, hl, hrd⟩ := HK.out.rdr
      have HLN := Lib.hid hl
      have HRD := Lib.hid hrd
      clear hb1 hd hl hrd
      by_cases h5 : k = 5
      · have g5 : (k != 5) = false := by rw [h5]; rfl
        have H5 := Lib.hid h5
        clear h5
        cases bt with
        | true =>
          have HTX := Lib.hid (text_rd E l wr HLN.out HRD.out)
          obtain ⟨T, HT⟩ : ∃ T, Hid ((l.drop 1).take (nb (l.take 1)) = T) := ⟨_, rfl⟩
          rw [HT.out] at HTX
          rw [if_pos rfl] at hand
          go_wp2_with fail
          refine (HTX.out).mono ?_
          rintro e w5 ⟨rfl, hr5, hg5⟩
          have HST0 : Hid (RdW W2 E V n w5) := Lib.hid (HK.out.go HEV.out (by have h := HLN.out; simp only [List.length_drop]; omega) hr5 hg5 HES.out)
          obtain ⟨old, gc, gf⟩ := HST0.out.vals.old hlt
          obtain ⟨W6, HW6⟩ : ∃ W6, Hid (w5.setCell ⟨V, i, none⟩ (.string ⟨T.toArray⟩) = W6) := ⟨_, rfl⟩
          have HST : Hid (RdW W2 E V n W6) := Lib.hid (by rw [← HW6.out]; exact HST0.out.put HEV.out T)
          clear hr5 hg5
          go_wp2_with fail
          rw [HW6.out]
          go_roundw
          case rel => exact ⟨i + 1, by omega, by go_num, HST⟩
          case measure => simp [intOf]; omega
        | false =>
          rw [if_neg (by simp)] at hand
          go_wp2_with fail
          go_roundw
          case rel => exact ⟨i + 1, by omega, by go_num, HK⟩
          case measure => simp [intOf]; omega
      · have g5 : (k != 5) = true := by rw [bne_iff_ne]; exact h5
        have H5 := Lib.hid h5
        clear h5
        have hkk : 1 ≤ k ∧ k ≤ 4 := by have := HK1.out; have := H5.out; omega
        have hw : widT k = 1 ∨ widT k = 2 ∨ widT k = 4 ∨ widT k = 8 := by
          have h : k = 1 ∨ k = 2 ∨ k = 3 ∨ k = 4 := by omega
          rcases h with h | h | h | h
          · rw [h]; exact .inl rfl
          · rw [h]; exact .inr (.inl rfl)
          · rw [h]; exact .inr (.inr (.inl rfl))
          · rw [h]; exact .inr (.inr (.inr rfl))
        have HIN := Lib.hid (integer_rd E (widT k) l wr hw HLN.out HRD.out HTB.out)
        obtain ⟨T, HT⟩ : ∃ T, Hid (Lib.itoa (sgI (widT k) (nb (l.take (widT k)))) = T) := ⟨_, rfl⟩
        rw [HT.out] at HIN
        clear hw hkk
        cases bt with
        | true =>
          rw [if_pos rfl] at hand
          go_wp2_with fail
          refine (width_any k _).mono ?_
          rintro e w' ⟨rfl, rfl⟩
          go_wp2_with fail
          refine (HIN.out).mono ?_
          rintro e w5 ⟨rfl, hr5, hg5⟩
          have HST0 : Hid (RdW W2 E V n w5) := Lib.hid (HK.out.go HEV.out (by have h := HLN.out; simp only [List.length_drop]; omega) hr5 hg5 HES.out)
          obtain ⟨old, gc, gf⟩ := HST0.out.vals.old hlt
          obtain ⟨W6, HW6⟩ : ∃ W6, Hid (w5.setCell ⟨V, i, none⟩ (.string ⟨T.toArray⟩) = W6) := ⟨_, rfl⟩
          have HST : Hid (RdW W2 E V n W6) := Lib.hid (by rw [← HW6.out]; exact HST0.out.put HEV.out T)
          clear hr5 hg5
          go_wp2_with fail
          rw [HW6.out]
          go_roundw
          case rel => exact ⟨i + 1, by omega, by go_num, HST⟩
          case measure => simp [intOf]; omega
        | false =>
          rw [if_neg (by simp)] at hand
          go_wp2_with fail
          refine (width_any k _).mono ?_
          rintro e w' ⟨rfl, rfl⟩
          go_wp2_with fail
          refine (HIN.out).mono ?_
          rintro e w5 ⟨rfl, hr5, hg5⟩
          have HK2 : Hid (RdW W2 E V n w5) := Lib.hid (HK.out.go HEV.out (by have h := HLN.out; simp only [List.length_drop]; omega) hr5 hg5 HES.out)
          clear hr5 hg5
          go_wp2_with fail
          go_roundw
          case rel => exact ⟨i + 1, by omega, by go_num, HK2⟩
          case measure => simp [intOf]; omega
    · obtain rfl : i = n := by omega
      have ilt : ¬ (i : Int) < (i : Int) := by omega
      have HFIN : Hid (Below w.heap.size w wr ∧ ∃ q, (.returned (.slice (some ⟨V, 0, none⟩) i i) : Ending) = .returned (.slice q i i) ∧ ∃ xs, xs.length = i ∧ Ss wr q xs) := Lib.hid ⟨by
        have h := HBE.out.trans HK.out.below
        rwa [HEE.out] at h, by
        obtain ⟨xs, hl, hs⟩ := HK.out.vals.reads
        exact ⟨_, rfl, xs, hl, hs⟩⟩
      go_wp2_with fail
      go_ret
      exact HFIN.out
end Go.Proofs.YtaedmojkoioifaaGreatDoor
