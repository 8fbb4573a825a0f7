/- The document's Touched. -/
import Derived.Test.YtigidchicloleaaGreatDoorJS
import Derived.Deep.QuietTactic
import Derived.BigQuiet
set_option maxHeartbeats 8000000
set_option maxRecDepth 100000
namespace Go.Proofs.YtigidchicloleaaGreatDoor.Arr
open Go.RowKit Go.Shelf
open Go.Lib
attribute [local go_sem] Oper.semAt_some
structure Kp (w : World) (pc pk q r : Option Addr) (C cn z0 : List Nat) (cuts : List (Int × Int × Int)) (W : World) : Prop where
  below : Below w.heap.size w W
  rc : RdN W pc C
  rk : RdN W pk cn
  rr : RdC W r cuts
theorem rtouched_any (p q r : Option Addr) (c d f n k m0 : Nat) (s z : List Int) (cuts : List (Int × Int × Int)) (w : World) (hs : Hid (s.length = n)) (hz : Hid (z.length = k)) (hc0 : Hid (cuts.length = m0)) (hp : Rd w p s) (hq : Rd w q z) (hr : RdC w r cuts) :
    Calls Tryz.prog 35 #[.slice p n c, .slice q k d, .slice r m0 f] w (LstPost w (touR s z cuts).1 (touR s z cuts).2) := by
  have HP := Lib.hid hp
  have HQ := Lib.hid hq
  have HR := Lib.hid hr
  obtain ⟨v, HV⟩ : ∃ v, Hid (v = vs s) := ⟨_, Lib.hid rfl⟩
  have H19 : Hid (Calls Tryz.prog 20 #[.slice p n c] w fun e w' => w = w' ∧ e = .returned (.bool v)) := Lib.hid (by
    have := rvshape_any p c s w hp
    rwa [hs.out, ← HV.out] at this)
  have HBZ := Lib.hid (Below.refl w.heap.size w)
  clear hp hq hr
  by_cases hv : v = false
  · subst hv
    have e0 : touR s z cuts = (60, []) := by unfold touR chkV; rw [if_pos HV.out.symm, if_pos (by decide)]
    rw [e0]
    clear e0
    go_enter Tryz.func35, Tryz.ntmps35
    go_wp2_with fail
    refine (H19.out).mono ?_
    rintro e w' ⟨rfl, rfl⟩
    go_wp2_with fail
    refine bodyPost_ret (v := .tuple #[.slice none 0 0, .int .i64 60]) ?_ rfl (lst_no HBZ.out)
    simp [results, Tryz.f35, go_sem]
  obtain rfl : v = true := by simpa using hv
  have hn4 : n ≤ 4 := by
    obtain ⟨s0, rfl, hsh⟩ := vs_yes HV.out.symm
    rw [← hs.out, List.length_map]; exact hsh.1
  obtain ⟨v2, HV2⟩ : ∃ v2, Hid (v2 = sized s z) := ⟨_, Lib.hid rfl⟩
  have H73 : Hid (Calls Tryz.prog 76 #[.slice p n c, .slice q k d] w fun e w' => w = w' ∧ e = .returned (.bool v2)) := Lib.hid (by
    rw [HV2.out]; exact sized_any p q c d n k s z w hs hz hn4 HQ.out)
  by_cases hv2 : v2 = false
  · subst hv2
    have e0 : touR s z cuts = (2, []) := by
      have e1 : chkV s z = 2 := by unfold chkV; rw [if_neg (by rw [← HV.out]; simp), if_pos HV2.out.symm]
      unfold touR; rw [e1, if_pos (by decide)]
    rw [e0]
    clear e0
    go_enter Tryz.func35, Tryz.ntmps35
    go_wp2_with fail
    refine (H19.out).mono ?_
    rintro e w' ⟨rfl, rfl⟩
    go_wp2_with fail
    refine (H73.out).mono ?_
    rintro e w' ⟨rfl, rfl⟩
    go_wp2_with fail
    refine bodyPost_ret (v := .tuple #[.slice none 0 0, .int .i64 2]) ?_ rfl (lst_no HBZ.out)
    simp [results, Tryz.f35, go_sem]
  obtain rfl : v2 = true := by simpa using hv2
  have hck : chkV s z = 0 := by unfold chkV; rw [if_neg (by rw [← HV.out]; simp), if_neg (by rw [← HV2.out]; simp)]
  have HCK := Lib.hid hck
  obtain ⟨s0, z0, rfl, rfl, hsh, hzl, hzb⟩ := chk_zero hck
  have hsn : s0.length = n := by rw [← hs.out, List.length_map]
  have hkn : k = n := by rw [← hz.out, List.length_map, hzl, hsn]
  subst hkn
  obtain ⟨n, rfl⟩ : ∃ n, n = k := ⟨_, rfl⟩
  have HSN := Lib.hid hsn
  have HZL := Lib.hid hzl
  have HZN : Hid (z0.length = n) := Lib.hid (by rw [hzl, hsn])
  have HSB : Hid (∀ x ∈ s0, x ≤ 1024) := Lib.hid hsh.2.1
  have HZB := Lib.hid hzb
  obtain ⟨u, HU⟩ : ∃ u, Hid (u = slabOk s0 cuts) := ⟨_, Lib.hid rfl⟩
  have H60 : Hid (Calls Tryz.prog 63 #[.slice p n c, .slice r m0 f] w (CutPost u w)) := Lib.hid (by
    rw [HU.out]; exact rfits_any p r c f n m0 s0 cuts w HSN hc0 hn4 HSB.out HP.out HR.out)
  have e1 : touR (s0.map Int.ofNat) (z0.map Int.ofNat) cuts = if u = false then (61, []) else (0, touL (mets s0 z0 cuts)) := by
    unfold touR
    rw [if_neg (by rw [HCK.out]; simp), toNat_map, toNat_map, ← HU.out]
  rw [e1]
  obtain ⟨C, HC⟩ : ∃ C, Hid (nums s0 z0 = C) := ⟨_, Lib.hid rfl⟩
  have HCS : Hid (Shp C) := Lib.hid (by rw [← HC.out]; exact nums_shp hsh hzl hzb)
  have HCN : Hid (C.length = n) := Lib.hid (by rw [← HC.out, nums_len, hsn])
  obtain ⟨N, HN⟩ : ∃ N, Hid (prod C = N) := ⟨_, Lib.hid rfl⟩
  obtain ⟨L, HL⟩ : ∃ L : Nat → List Nat, Hid (L = ixOf C) := ⟨_, Lib.hid rfl⟩
  have hN4 : N ≤ 4096 := by rw [← HN.out]; exact HCS.out.2.2
  have iN4 : (N : Int) ≤ 4096 := by omega
  have HSP : Hid (prod s0 ≤ 4096) := Lib.hid hsh.2.2
  clear e1 hsn hzl hsh hzb hck hv hv2
  by_cases hu : u = false
  · subst hu
    rw [if_pos rfl]
    go_enter Tryz.func35, Tryz.ntmps35
    go_wp2_with fail
    refine (H19.out).mono ?_
    rintro e w' ⟨rfl, rfl⟩
    go_wp2_with fail
    refine (H73.out).mono ?_
    rintro e w' ⟨rfl, rfl⟩
    go_wp2_with fail
    refine (H60.out).mono ?_
    rintro e w0 ⟨hb0, rfl⟩
    have HB0 := Lib.hid hb0
    clear hb0
    go_wp2_with fail
    refine bodyPost_ret (v := .tuple #[.slice none 0 0, .int .i64 61]) ?_ rfl (lst_no HB0.out)
    simp [results, Tryz.f35, go_sem]
  obtain rfl : u = true := by simpa using hu
  rw [if_neg (by simp)]
  have HSL : Hid (slabOk s0 cuts = true) := Lib.hid HU.out.symm
  obtain ⟨OUT, HOUT0⟩ : ∃ OUT, Hid (touL (mets s0 z0 cuts) = OUT) := ⟨_, Lib.hid rfl⟩
  rw [HOUT0.out]
  obtain ⟨hc1, hc2, hc3, hc4⟩ := cnts_ok HSL.out HSB.out
  obtain rfl : m0 = n := by rw [← hc0.out, hc1, HSN.out]
  obtain ⟨n, rfl⟩ : ∃ n, n = m0 := ⟨_, rfl⟩
  have hc := hc0
  obtain ⟨cn, HCNE⟩ : ∃ cn, Hid (cnts cuts = cn) := ⟨_, Lib.hid rfl⟩
  rw [HCNE.out] at hc3 hc4
  have HCC : Hid (∀ z ∈ cuts, 0 ≤ z.2.1 ∧ z.2.1 ≤ 1024) := Lib.hid hc2
  have HCNB : Hid (∀ x ∈ cn, x ≤ 1024) := Lib.hid hc3
  have HCNL : Hid (cn.length = n) := Lib.hid (by rw [← HCNE.out, cnts, List.length_map, hc.out])
  obtain ⟨P, HPP⟩ : ∃ P, Hid (prod cn = P) := ⟨_, Lib.hid rfl⟩
  have hP4 : P ≤ 4096 := by rw [← HPP.out]; exact Nat.le_trans hc4 HSP.out
  have iP4 : (P : Int) ≤ 4096 := by omega
  obtain ⟨F, HF⟩ : ∃ F, Hid (F = hitB s0 z0 cuts) := ⟨_, Lib.hid rfl⟩
  have HOUT : Hid (((List.range N).filter (F P)).map L = OUT) := Lib.hid (by
    rw [← HOUT0.out, ← hit_all HSB.out HZL.out HZB.out HSL.out, HF.out, HL.out, HC.out, HN.out, HCNE.out, HPP.out])
  obtain ⟨Z, hZ, hmk⟩ := make_marks N (by omega)
  have HZS := Lib.hid hZ
  clear hZ hu hc1 hc2 hc3 hc4
  go_enter Tryz.func35, Tryz.ntmps35
  go_wp2_with fail
  refine (H19.out).mono ?_
  rintro e w' ⟨rfl, rfl⟩
  go_wp2_with fail
  refine (H73.out).mono ?_
  rintro e w' ⟨rfl, rfl⟩
  go_wp2_with fail
  refine (H60.out).mono ?_
  rintro e w0 ⟨hb0, rfl⟩
  have HB0 := Lib.hid hb0
  clear hb0
  have H74 : Hid (Calls Tryz.prog 77 #[.slice p n c, .slice q n d] w0 (NumsPost w0 n C)) := Lib.hid (by rw [← HC.out]; exact rnumbers_any p q c d n s0 z0 w0 hn4 HSN HZN HSB HZB (RdN.below HP.out HB0.out) (RdN.below HQ.out HB0.out))
  go_wp2_with fail
  refine (H74.out).mono ?_
  rintro e w1 ⟨hb1, gc, hgc, rfl, hrow⟩
  have HB1 : Hid (Below w.heap.size w w1) := Lib.hid (HB0.out.trans (hb1.mono HB0.out.size))
  obtain ⟨pc, HPC0⟩ : ∃ pc : Option Addr, Hid (pc = some ⟨gc, 0, none⟩) := ⟨_, Lib.hid rfl⟩
  rw [← HPC0.out]
  have HPC : Hid (RdN w1 pc C) := Lib.hid (by
    rw [HPC0.out]
    exact rdn_row hrow (fun x hx => by have := HCS.out.2.1 x hx; omega))
  have H44 : Hid (Calls Tryz.prog 47 #[.slice pc n n] w1 fun e w' => w1 = w' ∧ e = .returned (.int .i64 (N : Int))) := Lib.hid (by
    have := count_any pc n C w1 (by rw [HCN.out]; exact hn4) HCS.out.2.1 HPC.out
    rwa [HCN.out, HN.out] at this)
  clear hb1 hrow hgc
  obtain ⟨H, HH⟩ : ∃ H, Hid (w1.heap.size = H) := ⟨_, Lib.hid rfl⟩
  obtain ⟨W2, HW2⟩ : ∃ W2, Hid (w1.alloc (.cells Z 4) = W2) := ⟨_, Lib.hid rfl⟩
  have hb2 : Below w1.heap.size w1 W2 := by rw [← HW2.out]; exact (Below.refl _ _).alloc (Nat.le_refl _) _
  have HB2 := Lib.hid hb2
  have HH2 : Hid (Hits H N (F 0) W2) := Lib.hid ⟨Z, by rw [← HW2.out, ← HH.out]; exact World.alloc_heap_new _ _, HZS.out.1, fun j hj => by rw [HZS.out.2 j hj, HF.out]; rfl⟩
  have HS2 : Hid (W2.heap.size = H + 1) := Lib.hid (by rw [← HW2.out, ← HH.out]; simp)
  have H61 : Hid (Calls Tryz.prog 64 #[.slice r n f] W2 fun e w' => Below W2.heap.size W2 w' ∧ e = .returned (.slice (some ⟨W2.heap.size, 0, none⟩) n n) ∧ w'.heap[W2.heap.size]? = some (.cells (ixC cn) 3 (0, 0))) := Lib.hid (by
    have := rcounts_any r f n cuts W2 hn4 hc HCC ((HR.out.below HB1.out).below hb2)
    rwa [HCNE.out] at this)
  clear hb2
  go_wp2_with fail
  refine (H44.out).mono ?_
  rintro e w' ⟨rfl, rfl⟩
  go_wp2_with fail
  rw [HW2.out, HH.out]
  refine (H61.out).mono ?_
  rintro e W3 ⟨hb3, rfl, hrow3⟩
  obtain ⟨pk, HPK0⟩ : ∃ pk : Option Addr, Hid (some ⟨W2.heap.size, 0, none⟩ = pk) := ⟨_, Lib.hid rfl⟩
  rw [HPK0.out]
  have HH3 : Hid (H < W3.heap.size) := Lib.hid (by have := hb3.size; rw [HS2.out] at this; omega)
  have HHT3 : Hid (Hits H N (F 0) W3) := Lib.hid (HH2.out.keep (hb3.block H (by rw [HS2.out]; omega)))
  have HB13 : Hid (Below w1.heap.size w1 W3) := Lib.hid (HB2.out.trans (hb3.mono HB2.out.size))
  have HK3 : Hid (W3.heap[H + 1]? = some (.cells (ixC cn) 3 (0, 0))) := Lib.hid (by rw [← HS2.out]; exact hrow3)
  have HKP : Hid (∀ V, W3.grownBy V (some H) → Kp w pc pk q r C cn z0 cuts V) := Lib.hid (fun V hV => by
    have h1 : Below w1.heap.size w1 V := by
      have o := gb_trans_new (gb_of_below HB13.out none) hV (by rw [HH.out]; exact Nat.le_refl _)
      exact ⟨o.os, o.tape, o.output, o.size, fun k hk => o.block k hk (by intro e; cases e)⟩
    have h2 : Below w.heap.size w V := HB1.out.trans (h1.mono HB1.out.size)
    refine ⟨h2, HPC.out.below h1, ?_, HR.out.below h2⟩
    rw [← HPK0.out, HS2.out]
    exact rdn_row ((hV.block (H + 1) (Array.getElem?_eq_some_iff.1 HK3.out).1 (by intro e; injection e with e; omega)).trans HK3.out) (fun x hx => by have := HCNB.out x hx; omega))
  have H44k : Hid (∀ V, W3.grownBy V (some H) → Calls Tryz.prog 47 #[.slice pk n n] V fun e w' => V = w' ∧ e = .returned (.int .i64 (P : Int))) := Lib.hid (fun V hV => by
    have := count_any pk n cn V (by rw [HCNL.out]; exact hn4) HCNB.out (HKP.out V hV).rk
    rwa [HCNL.out, HPP.out] at this)
  have HGS : Hid (W3.grownBy W3 (some H)) := Lib.hid ⟨rfl, rfl, rfl, Nat.le_refl _, fun _ _ _ => rfl⟩
  clear hb3 hrow3 hmk
  go_wp2_with fail
  go_loopw [11] (fun iv wr => ∃ i : Nat, i ≤ P ∧ iv = .int .i64 i ∧ Hid (W3.grownBy wr (some H)) ∧ Hid (Hits H N (F i) wr)) (fun iv _ => P - (Go.RowKit.intOf iv).toNat)
  case atStart => exact ⟨0, Nat.zero_le _, rfl, HGS, HHT3⟩
  case round =>
    obtain ⟨i, hi, rfl, HGB, HHR⟩ := hrel
    obtain ⟨wo, rfl⟩ : ∃ wo, wo = wr := ⟨_, rfl⟩
    have ii : (i : Int) ≤ (P : Int) := by omega
    have HKW0 := Lib.hid (HKP.out wo HGB.out)
    have HCNT := Lib.hid (H44k.out wo HGB.out)
    by_cases hlt : i < P
    · have ilt : (i : Int) < (P : Int) := by omega
      obtain ⟨ix, HIX⟩ : ∃ ix, Hid (ixOf cn i = ix) := ⟨_, Lib.hid rfl⟩
      have HIXI : Hid (IsIx cn ix) := Lib.hid (by rw [← HIX.out]; exact (ixOf_is cn i (by rw [HPP.out]; exact hlt)).1)
      have HIXL : Hid (ix.length = n) := Lib.hid (by rw [HIXI.out.1, HCNL.out])
      have H63 : Hid (Calls Tryz.prog 66 #[.slice pk n n, .int .i64 (i : Int)] wo fun e w' => e = .returned (.slice (some ⟨wo.heap.size, 0, none⟩) n n) ∧ w'.heap[wo.heap.size]? = some (.cells (ixC ix) 3 (0, 0)) ∧ Below wo.heap.size wo w') := Lib.hid (by
        have := rindex_any pk n n i cn wo hn4 HCNL HCNB (Lib.hid (by rw [HPP.out]; exact hlt)) (by rw [HPP.out]; exact hP4) HKW0.out.rk
        rwa [HIX.out] at this)
      go_wp2_with fail
      refine (HCNT.out).mono ?_
      rintro e w' ⟨rfl, rfl⟩
      go_wp2_with fail
      refine (H63.out).mono ?_
      rintro e w4 ⟨rfl, hrow4, hb4⟩
      have HB4 := Lib.hid hb4
      have HG4 : Hid (W3.grownBy w4 (some H)) := Lib.hid (HGB.out.trans (gb_of_below hb4 _))
      obtain ⟨T0, HT0⟩ : ∃ T0, Hid (thr cuts ix = T0) := ⟨_, Lib.hid rfl⟩
      have hto := thr_ok (s := s0) (ix := ix) HSL.out HSB.out (by rw [HCNE.out]; exact HIXI.out)
      have H62 : Hid (Calls Tryz.prog 65 #[.slice r n f, .slice (some ⟨wo.heap.size, 0, none⟩) n n] w4 fun e w' => Below w4.heap.size w4 w' ∧ e = .returned (.slice (some ⟨w4.heap.size, 0, none⟩) n n) ∧ w'.heap[w4.heap.size]? = some (.cells (ixC T0) 3 (0, 0))) := Lib.hid (by
        have := rthr_any (some ⟨wo.heap.size, 0, none⟩) r n f n cuts ix w4 hn4 hc HIXL (Lib.hid hto.1) (HKP.out w4 HG4.out).rr (rdn_row hrow4 (fun v hv => by
          obtain ⟨kk, hkk, e⟩ := mem_getD hv
          have h1 := HIXI.out.2 kk (by rw [← HIXI.out.1]; exact hkk)
          have h2 : cn.getD kk 0 ≤ 1024 := getD_bound HCNB.out
          omega))
        rwa [HT0.out] at this)
      have HT0I : Hid (IsIx s0 T0) := Lib.hid (by rw [← HT0.out]; exact hto.2)
      have HT0L : Hid (T0.length = n) := Lib.hid (by rw [HT0I.out.1, HSN.out])
      have HT0B : Hid (∀ v ∈ T0, v ≤ 1024) := Lib.hid (fun v hv => by
        obtain ⟨kk, hkk, e⟩ := mem_getD hv
        have h1 := HT0I.out.2 kk (by rw [← HT0I.out.1]; exact hkk)
        have h2 : s0.getD kk 0 ≤ 1024 := getD_bound HSB.out
        omega)
      obtain ⟨T1', HT1⟩ : ∃ T1', Hid (dv T0 z0 = T1') := ⟨_, Lib.hid rfl⟩
      have HT1I : Hid (IsIx C T1') := Lib.hid (by rw [← HT1.out, ← HC.out]; exact dv_is HZL.out HZB.out HT0I.out)
      have HT1B : Hid (∀ v ∈ T1', v ≤ 1024) := Lib.hid (fun v hv => by
        obtain ⟨kk, hkk, e⟩ := mem_getD hv
        have h1 := HT1I.out.2 kk (by rw [← HT1I.out.1]; exact hkk)
        have h2 : C.getD kk 0 ≤ 1024 := getD_bound HCS.out.2.1
        omega)
      obtain ⟨pl, HPL⟩ : ∃ pl, Hid (plc C T1' 0 = pl) := ⟨_, Lib.hid rfl⟩
      have hpl : pl < N := by have h := (plc_lt C T1' 0 HT1I.out).1; rw [HPL.out, HN.out] at h; omega
      have HFS : Hid (∀ j, F (i + 1) j = (F i j || decide (pl = j))) := Lib.hid (fun j => by
        rw [HF.out, hitB_succ, HC.out, HCNE.out, HIX.out]
        unfold tgt
        rw [HT0.out, HT1.out, HPL.out])
      clear hto hb4 hrow4
      go_wp2_with fail
      refine (H62.out).mono ?_
      rintro e w5 ⟨hb5, rfl, hrow5⟩
      obtain ⟨X, HX0⟩ : ∃ X, Hid (w4.heap.size = X) := ⟨_, Lib.hid rfl⟩
      rw [HX0.out] at hrow5 ⊢
      have HB5 : Hid (Below wo.heap.size wo w5) := Lib.hid (HB4.out.trans (hb5.mono HB4.out.size))
      have HG5' : Hid (W3.grownBy w5 (some H)) := Lib.hid (HG4.out.trans (gb_of_below hb5 _))
      have HXH : Hid (X ≠ H ∧ W3.heap.size ≤ X ∧ H < W3.heap.size) := Lib.hid (by
        have h1 := HG4.out.size
        have h2 := HH3.out
        have h3 := HX0.out
        omega)
      have HGX : Hid (∀ V, w5.grownBy V (some X) → W3.grownBy V (some H)) := Lib.hid (fun V hV => gb_trans_new HG5'.out hV HXH.out.2.1)
      have HHI := HHR
      have HR0 : Hid (w5.heap[X]? = some (.cells (ixC ((dv T0 z0).take 0 ++ T0.drop 0)) 3 (0, 0))) := Lib.hid hrow5
      have HGR0 : Hid (w5.grownBy w5 (some X)) := Lib.hid ⟨rfl, rfl, rfl, Nat.le_refl _, fun _ _ _ => rfl⟩
      clear hb5 hrow5
      go_wp2_with fail
      go_loopw [13] (fun kv wr => ∃ j : Nat, j ≤ n ∧ kv = .int .i64 j ∧ Hid (w5.grownBy wr (some X)) ∧ Hid (wr.heap[X]? = some (.cells (ixC ((dv T0 z0).take j ++ T0.drop j)) 3 (0, 0)))) (fun kv _ => n - (Go.RowKit.intOf kv).toNat)
      case atStart => exact ⟨0, Nat.zero_le _, rfl, HGR0, HR0⟩
      case round =>
        obtain ⟨j, hj, rfl, HGR, HRW⟩ := hrel
        have ij : (j : Int) ≤ (n : Int) := by omega
        by_cases hjn : j < n
        · have ijn : (j : Int) < (n : Int) := by omega
          have hjz : j < z0.length := by rw [HZN.out]; exact hjn
          have hjt : j < T0.length := by rw [HT0L.out]; exact hjn
          obtain ⟨bz, oz, y, ez, hbz, hcz, HY⟩ := RdN.at (w := w) (l := z0) HQ.out hjz
          subst ez
          obtain ⟨x, HX⟩ : ∃ x, Hid (x = T0.getD j 0) := ⟨_, rfl⟩
          have hx1 : x ≤ 1024 := by rw [HX.out]; exact getD_bound HT0B.out
          have hy1 : 1 ≤ y ∧ y ≤ 1024 := by
            rw [HY.out, List.getD_eq_getElem?_getD, List.getElem?_eq_getElem hjz]
            exact HZB.out _ (List.getElem_mem _)
          have ix : (x : Int) ≤ 1024 := by omega
          have iy : (y : Int) ≤ 1024 := by omega
          have iyn : ¬ (y : Int) = 0 := by omega
          have hyn : ¬ y = 0 := by omega
          obtain ⟨m, HM⟩ : ∃ m, Hid (m = x / y) := ⟨_, rfl⟩
          have im : (m : Int) ≤ 1024 := by
            have h : m ≤ x := by rw [HM.out]; exact Nat.div_le_self _ _
            omega
          have hdiv : (x : Int).tdiv (y : Int) = (m : Int) := by rw [HM.out]; exact (Int.ofNat_tdiv _ _).symm
          have hwm : IntKind.i64.wrap (m : Int) = (m : Int) := IntWalk.i64_in _ (by omega)
          have hcl : ((dv T0 z0).take j).length = j := by rw [List.length_take, dv_len, HT0L.out]; omega
          have hdr : T0.drop j = x :: T0.drop (j + 1) := by
            rw [List.drop_eq_getElem_cons hjt, HX.out, List.getD_eq_getElem?_getD, List.getElem?_eq_getElem hjt]; rfl
          have hRd : wr.drew.heap[X]? = some (.cells (ixC ((dv T0 z0).take j ++ x :: T0.drop (j + 1))) 3 (0, 0)) := by rw [← hdr]; exact HRW.out
          have hcr : wr.drew.cell? ⟨X, j, none⟩ = some (.int .i64 (x : Int)) := by
            have h := cell_row hRd (k := j) (by rw [List.length_append, hcl]; simp)
            rw [getD_mid hcl] at h
            exact h
          have hfr : wr.drew.frozen? ⟨X, j, none⟩ = false := free_row hRd
          obtain ⟨W5, HW5⟩ : ∃ W5, Hid ((wr.setCell ⟨X, j, none⟩ (.int .i64 (m : Int))).drew = W5) := ⟨_, rfl⟩
          have HG5 : Hid (w5.grownBy W5 (some X)) := Lib.hid (by rw [← HW5.out]; exact (HGR.out.trans (gb_set wr X j (.int .i64 (m : Int)))).trans ⟨rfl, rfl, rfl, Nat.le_refl _, fun _ _ _ => rfl⟩)
          have HGD : Hid (w5.grownBy wr.drew (some X)) := Lib.hid (HGR.out.trans ⟨rfl, rfl, rfl, Nat.le_refl _, fun _ _ _ => rfl⟩)
          have HR5 : Hid (W5.heap[X]? = some (.cells (ixC ((dv T0 z0).take (j + 1) ++ T0.drop (j + 1))) 3 (0, 0))) := Lib.hid (by
            have h := heap_set wr.drew X j (.int .i64 (m : Int)) _ _ hRd
            rw [ixC_set ((dv T0 z0).take j) x m _ hcl] at h
            change ((wr.setCell ⟨X, j, none⟩ (.int .i64 (m : Int))).drew).heap[X]? = _ at h
            rw [HW5.out] at h
            rw [take_succ' (by rw [dv_len]; exact hjt), List.append_assoc, dv_at hjt, ← HX.out, ← HY.out, ← HM.out]
            exact h)
          have HALL : Hid (∀ V, w5.grownBy V (some X) → V.cell? ⟨bz, oz + j, none⟩ = some (.int .i64 (y : Int))) := Lib.hid (fun V hV =>
            ((HKP.out V (HGX.out V hV)).below.cell (p := ⟨bz, oz + j, none⟩) hbz).trans hcz)
          clear hRd hcl hdr hx1 hy1 hjz hjt hbz hcz
          go_wp2_with fail
          refine wp_region_noPanic ?_
          refine wp_region_held_drew (S := fun W => W.cell? ⟨bz, oz + j, none⟩ = some (.int .i64 (y : Int))) (by kernel_rfl) (HALL.out _ HGD.out) (fun hHeld => ?_)
          refine wpAnyH_take (i := 0) (v := ?v1) rfl (by kernel_rfl) (by kernel_rfl) (by kernel_rfl) (fun _ _ _ h => h) (Or.inl ⟨by rfl, ?hy1⟩) (by assumption) ?rest1
          case hy1 =>
            intro W' hSw
            have e0 := hSw
            go_simp
            with_reducible rfl
          simp only [List.getElem_toArray, List.getElem_cons_zero, Act.put, List.setIfInBounds_toArray, List.set_cons_zero, List.set_cons_succ]
          refine wpAnyH_take (i := 1) (v := ?v2) rfl (by kernel_rfl) (by kernel_rfl) (by kernel_rfl) (fun _ _ _ h => h) (Or.inl ⟨by rfl, ?hy2⟩) (by assumption) ?rest2
          case hy2 =>
            intro W' hSw
            have e0 := hSw
            go_simp
            with_reducible rfl
          simp only [List.getElem_toArray, List.getElem_cons_zero, List.getElem_cons_succ, Act.put, List.setIfInBounds_toArray, List.set_cons_zero, List.set_cons_succ]
          refine wpAnyH_take (i := 2) (v := ?v3) rfl (by kernel_rfl) (by kernel_rfl) (by kernel_rfl) (fun _ _ _ h => h) (Or.inl ⟨by rfl, ?hy3⟩) (by assumption) ?rest3
          case hy3 =>
            intro W' hSw
            have e0 := hSw
            go_simp
            with_reducible rfl
          simp only [List.getElem_toArray, List.getElem_cons_zero, List.getElem_cons_succ, Act.put, List.setIfInBounds_toArray, List.set_cons_zero, List.set_cons_succ]
          refine wpAnyH_take (i := 3) (v := ?v4) rfl (by kernel_rfl) (by kernel_rfl) (by kernel_rfl) (fun _ _ _ h => h) (Or.inl ⟨by rfl, ?hy4⟩) (by assumption) ?rest4
          case hy4 =>
            intro W' hSw
            have e0 := hSw
            go_simp
            with_reducible rfl
          simp only [List.getElem_toArray, List.getElem_cons_zero, List.getElem_cons_succ, Act.put, List.setIfInBounds_toArray, List.set_cons_zero, List.set_cons_succ]
          refine wpAnyH_take (i := 4) (v := ?v5) rfl (by kernel_rfl) (by kernel_rfl) (by kernel_rfl) (fun _ _ _ h => h) (Or.inl ⟨by rfl, ?hy5⟩) (by assumption) ?rest5
          case hy5 =>
            intro W' hSw
            have e0 := hSw
            go_simp
            with_reducible rfl
          simp only [List.getElem_toArray, List.getElem_cons_zero, List.getElem_cons_succ, Act.put, List.setIfInBounds_toArray, List.set_cons_zero, List.set_cons_succ]
          refine wpAnyH_take (i := 6) (v := ?v6) rfl (by kernel_rfl) (by kernel_rfl) (by kernel_rfl) (fun _ _ _ h => h) (Or.inl ⟨by rfl, ?hy6⟩) (by assumption) ?rest6
          case hy6 =>
            intro W' hSw
            have e0 := hSw
            go_simp
            with_reducible rfl
          simp only [List.getElem_toArray, List.getElem_cons_zero, List.getElem_cons_succ, Act.put, List.setIfInBounds_toArray, List.set_cons_zero, List.set_cons_succ]
          refine wpAnyH_take (i := 7) (v := ?v7) rfl (by kernel_rfl) (by kernel_rfl) (by kernel_rfl) (fun _ _ _ h => h) (Or.inl ⟨by rfl, ?hy7⟩) (by assumption) ?rest7
          case hy7 =>
            intro W' hSw
            have e0 := hSw
            go_simp
            with_reducible rfl
          simp only [List.getElem_toArray, List.getElem_cons_zero, List.getElem_cons_succ, Act.put, List.setIfInBounds_toArray, List.set_cons_zero, List.set_cons_succ]
          refine wpAnyH_take (i := 8) (v := ?v8) rfl (by kernel_rfl) (by kernel_rfl) (by kernel_rfl) (fun _ _ _ h => h) (Or.inl ⟨by rfl, ?hy8⟩) (by assumption) ?rest8
          case hy8 =>
            intro W' hSw
            have e0 := hSw
            go_simp
            with_reducible rfl
          simp only [List.getElem_toArray, List.getElem_cons_zero, List.getElem_cons_succ, Act.put, List.setIfInBounds_toArray, List.set_cons_zero, List.set_cons_succ]
          refine wpAnyH_take (i := 9) (v := ?v9) rfl (by kernel_rfl) (by kernel_rfl) (by kernel_rfl) (fun _ _ _ h => h) (Or.inl ⟨by rfl, ?hy9⟩) (by assumption) ?rest9
          case hy9 =>
            intro W' hSw
            have e0 := hSw
            go_simp
            with_reducible rfl
          simp only [List.getElem_toArray, List.getElem_cons_zero, List.getElem_cons_succ, Act.put, List.setIfInBounds_toArray, List.set_cons_zero, List.set_cons_succ]
          refine wpAnyH_ready (rs := [5]) (by kernel_rfl) (by simp) ?_
          refine AllReadyH.cons (i := 5) rfl (fun K hK => ?_) AllReadyH.nil
          go_simp
          refine hK.out _ _ (HALL.out _ HGD.out) (fun hHeld3 => ?_)
          clear hK K
          refine wpAnyH_take (i := 10) (v := ?v10) rfl (by kernel_rfl) (by kernel_rfl) (by kernel_rfl) (fun _ _ _ h => h) (Or.inl ⟨by rfl, ?hy10⟩) (by assumption) ?rest10
          case hy10 =>
            intro W' hSw
            have e0 := hSw
            go_simp
            with_reducible rfl
          simp only [List.getElem_toArray, List.getElem_cons_zero, List.getElem_cons_succ, Act.put, List.setIfInBounds_toArray, List.set_cons_zero, List.set_cons_succ]
          refine wpAnyH_take (i := 11) (v := ?v11) rfl (by kernel_rfl) (by kernel_rfl) (by kernel_rfl) (fun _ _ _ h => h) (Or.inl ⟨by rfl, ?hy11⟩) (by assumption) ?rest11
          case hy11 =>
            intro W' hSw
            have e0 := hSw
            go_simp
            with_reducible rfl
          simp only [List.getElem_toArray, List.getElem_cons_zero, List.getElem_cons_succ, Act.put, List.setIfInBounds_toArray, List.set_cons_zero, List.set_cons_succ]
          refine wpAnyH_ready (rs := [12]) (by kernel_rfl) (by simp) ?_
          refine AllReadyH.cons (i := 12) rfl (fun K hK => ?_) AllReadyH.nil
          go_simp
          try rw [HW5.out]
          refine hK.out _ _ (HALL.out _ HG5.out) (fun hHeld4 => ?_)
          clear hK K
          refine wpAnyH_done (by kernel_rfl) ?_ _
          refine NoPanic.normal ?_
          clear hHeld hHeld3 hHeld4
          go_wp2_with fail
          go_roundw
          case rel => exact ⟨j + 1, by omega, by go_num, HG5, HR5⟩
          case measure => simp [Go.RowKit.intOf]; omega
        · obtain rfl : j = n := by omega
          have ijn : ¬ (j : Int) < (j : Int) := by omega
          have hrow9 : wr.heap[X]? = some (.cells (ixC T1') 3 (0, 0)) := by
            have h := HRW.out
            rw [List.take_of_length_le (by rw [dv_len, HT0L.out]; exact Nat.le_refl _), List.drop_of_length_le (by rw [HT0L.out]; exact Nat.le_refl _), List.append_nil, HT1.out] at h
            exact h
          have HG9 : Hid (W3.grownBy wr (some H)) := Lib.hid (HGX.out wr HGR.out)
          have HKW := Lib.hid (HKP.out wr HG9.out)
          have H53 : Hid (Calls Tryz.prog 56 #[.slice pc j j, .slice (some ⟨X, 0, none⟩) j j] wr fun e w' => (∃ k, wr.drewN k = w') ∧ e = .returned (.int .i64 (pl : Int))) := Lib.hid (by
            have := rplace_any pc (some ⟨X, 0, none⟩) j j j C T1' wr hn4 HCN (Lib.hid (by rw [HT1I.out.1, HCN.out])) HT1I.out HCS.out.2.2 HKW.out.rc (rdn_row hrow9 (fun v hv => by have := HT1B.out v hv; omega))
            rwa [HPL.out] at this)
          have ipl : (pl : Int) < (N : Int) := by omega
          have ipl4 : (pl : Int) ≤ 4096 := by omega
          have HHW : Hid (Hits H N (F i) wr) := Lib.hid (HHI.out.keep (by
            have h1 := (Array.getElem?_eq_some_iff.1 (HHI.out.choose_spec.1)).1
            have h2 := HXH.out
            exact (HGR.out.block H (Nat.lt_of_lt_of_le h1 HB5.out.size) (by intro e; injection e with e; omega)).trans (HB5.out.block H h1)))
          clear hrow9
          go_wp2_with fail
          refine (H53.out).mono ?_
          rintro e y2 ⟨⟨q2, rfl⟩, rfl⟩
          obtain ⟨w7, HW7⟩ : ∃ w7, Hid (wr.drewN q2 = w7) := ⟨_, Lib.hid rfl⟩
          rw [HW7.out]
          have HH7 : Hid (Hits H N (F i) w7) := Lib.hid (HHW.out.keep (by rw [← HW7.out]; rfl))
          have HG7 : Hid (W3.grownBy w7 (some H)) := Lib.hid (by rw [← HW7.out]; exact HG9.out.trans ⟨rfl, rfl, rfl, Nat.le_refl _, fun _ _ _ => rfl⟩)
          obtain ⟨c9, f9⟩ := HH7.out.at hpl
          obtain ⟨W9, HW9⟩ : ∃ W9, Hid (w7.setCell ⟨H, pl, none⟩ (.bool true) = W9) := ⟨_, Lib.hid rfl⟩
          have HH9 : Hid (Hits H N (F (i + 1)) W9) := Lib.hid (by rw [← HW9.out]; exact HH7.out.step hpl HFS.out)
          have HG99 : Hid (W3.grownBy W9 (some H)) := Lib.hid (by rw [← HW9.out]; exact HG7.out.trans (gb_set _ _ _ _))
          go_wp2_with fail
          rw [HW9.out]
          go_roundw
          case rel => exact ⟨i + 1, by omega, by go_num, HG99, HH9⟩
          case measure => simp [Go.RowKit.intOf]; omega
    · obtain rfl : i = P := by omega
      have ilt : ¬ (i : Int) < (i : Int) := by omega
      obtain ⟨W4, rfl⟩ : ∃ W4, W4 = wo := ⟨_, rfl⟩
      have HH4 : Hid (H < W4.heap.size) := Lib.hid (Nat.lt_of_lt_of_le HH3.out HGB.out.size)
      have HBW4 : Hid (Below w.heap.size w W4) := Lib.hid HKW0.out.below
      have HPC4 : Hid (RdN W4 pc C) := Lib.hid HKW0.out.rc
      clear HKW0
      go_wp2_with fail
      refine (HCNT.out).mono ?_
      rintro e w' ⟨rfl, rfl⟩
      go_wp2_with fail
      go_loopw [14, 15] (fun lv iv wr => ∃ (j k0 cv : Nat) (pv : Option Addr) (T : List (List Nat)), j ≤ N ∧ k0 ≤ j ∧ iv = .int .i64 j ∧ lv = .slice pv k0 cv ∧ Hid (T = ((List.range j).filter (F i)).map L) ∧ Hid (Below W4.heap.size W4 wr) ∧ Hid (LI W4.heap.size W4.heap.size pv cv k0 T wr)) (fun _ iv _ => N - (Go.RowKit.intOf iv).toNat)
      case atStart => exact ⟨0, 0, 0, none, [], Nat.zero_le _, Nat.le_refl _, rfl, rfl, Lib.hid rfl, Lib.hid (Below.refl _ _), Lib.hid (LI.start _ _ _)⟩
      case round =>
        obtain ⟨j, k0, cv, pv, T, hj, hk0, rfl, rfl, HT, HB, HLI⟩ := hrel
        have ij : (j : Int) ≤ (N : Int) := by omega
        by_cases hjn : j < N
        · have ijn : (j : Int) < (N : Int) := by omega
          obtain ⟨bb, HBB⟩ : ∃ bb, Hid (F i j = bb) := ⟨_, Lib.hid rfl⟩
          have hc1 : wr.cell? ⟨H, j, none⟩ = some (.bool bb) := by
            rw [← HBB.out]
            exact (HB.out.cell (p := ⟨H, j, none⟩) HH4.out).trans (HHR.out.at hjn).1
          cases bb with
          | false =>
            have HT9 : Hid (T = ((List.range (j + 1)).filter (F i)).map L) := Lib.hid (by
              rw [List.range_succ, List.filter_append, List.filter_cons_of_neg (by rw [HBB.out]; simp), List.filter_nil, List.append_nil]; exact HT.out)
            go_wp2_with fail
            go_roundw
            case rel => exact ⟨j + 1, k0, cv, pv, T, by omega, by omega, by go_num, rfl, HT9, HB, HLI⟩
            case measure => simp [Go.RowKit.intOf]; omega
          | true =>
            have H63 : Hid (Calls Tryz.prog 66 #[.slice pc n n, .int .i64 (j : Int)] wr fun e w' => e = .returned (.slice (some ⟨wr.heap.size, 0, none⟩) n n) ∧ w'.heap[wr.heap.size]? = some (.cells (ixC (L j)) 3 (0, 0)) ∧ Below wr.heap.size wr w') := Lib.hid (by
              rw [HL.out]
              exact rindex_any pc n n j C wr hn4 HCN (Lib.hid HCS.out.2.1) (Lib.hid (by rw [HN.out]; exact hjn)) HCS.out.2.2 (HPC4.out.below HB.out))
            go_wp2_with fail
            refine (H63.out).mono ?_
            rintro e w3 ⟨rfl, hrow3, hb3⟩
            obtain ⟨gX, HgX⟩ : ∃ g, Hid (wr.heap.size = g) := ⟨_, Lib.hid rfl⟩
            rw [HgX.out] at hrow3 ⊢
            obtain ⟨gU, HgU⟩ : ∃ g, Hid (w3.heap.size = g) := ⟨_, Lib.hid rfl⟩
            obtain ⟨U, HUU⟩ : ∃ U, Hid (w3.alloc (.cells #[.slice (some ⟨gX, 0, none⟩) n n] 22) = U) := ⟨_, Lib.hid rfl⟩
            have hb3U : Below w3.heap.size w3 U := by rw [← HUU.out]; exact (Below.refl _ _).alloc (Nat.le_refl _) _
            have hbU : Below wr.heap.size wr U := hb3.trans (hb3U.mono hb3.size)
            have HUC : Hid (U.cell? ⟨gU, 0, none⟩ = some (.slice (some ⟨gX, 0, none⟩) n n)) := Lib.hid (by
              rw [← HUU.out, ← HgU.out]; have := World.alloc_heap_new w3 (.cells #[.slice (some ⟨gX, 0, none⟩) n n] 22); unfold World.cell?; simp only [this]; rfl)
            obtain ⟨vals, hou, hel, holt⟩ := HLI.out.pre hbU
            have HOU := Lib.hid hou
            have HEL := Lib.hid hel
            have HOLT := Lib.hid holt
            have HUB : Hid (W4.heap.size ≤ U.heap.size) := Lib.hid (Nat.le_trans HB.out.size hbU.size)
            have HBU : Hid (Below W4.heap.size W4 U) := Lib.hid (HB.out.trans (hbU.mono HB.out.size))
            have hlt3 : gX < w3.heap.size := (Array.getElem?_eq_some_iff.1 hrow3).1
            have HRX : Hid (RdN U (some ⟨gX, 0, none⟩) (L j)) := Lib.hid (rdn_row ((hb3U.block gX hlt3).trans hrow3) (fun x hx => by
              have h := ixOf_small (s := C) (i := j) (by rw [HN.out]; exact hjn) HCS.out.2.1 x (by rw [HL.out] at hx; exact hx)
              omega))
            have HLL : Hid ((L j).length = n) := Lib.hid (by rw [HL.out, ixOf_len, HCN.out])
            have HW1 : Hid (W4.heap.size ≤ gX) := Lib.hid (by rw [← HgX.out]; exact HB.out.size)
            have hi2 : k0 ≤ 100000 := by omega
            have ik0 : (k0 : Int) ≤ 4096 := by omega
            clear hb3U hbU hou hel holt hlt3 hrow3 hb3
            go_wp2_with (first | (rw [HUU.out, HgU.out]; at_builtin; refine wpList_append_1l rfl (.tmp 79) (.tmp 83) rfl W4.heap.size pv cv k0 vals rfl HOU.out gU (some ⟨gX, 0, none⟩) n n rfl HUC.out hi2 HUB.out ?_) | (at_builtin; rw [HUU.out, HgU.out]; refine wpList_append_1l rfl (.tmp 79) (.tmp 83) rfl W4.heap.size pv cv k0 vals rfl HOU.out gU (some ⟨gX, 0, none⟩) n n rfl HUC.out hi2 HUB.out ?_))
            intro gv cv' w9 hown9 hg9 h59
            have HB9 : Hid (Below W4.heap.size W4 w9) := Lib.hid (below_own HBU.out HOU.out hg9)
            have HL9 : Hid (LI W4.heap.size W4.heap.size (some ⟨gv, 0, none⟩) cv' (k0 + 1) (T ++ [L j]) w9) := Lib.hid (LI.step HLI.out.len HOU.out HEL.out HLL.out HRX.out (fun b off e _ => by
              cases e
              exact ⟨HW1.out, fun e2 => by have := HOLT.out _ e2; have := HgX.out; omega⟩) hown9 hg9 h59)
            have HT9 : Hid (T ++ [L j] = ((List.range (j + 1)).filter (F i)).map L) := Lib.hid (by
              rw [List.range_succ, List.filter_append, List.filter_cons_of_pos HBB.out, List.filter_nil, List.map_append, HT.out]; rfl)
            obtain ⟨T9, HTE⟩ : ∃ T9, Hid (T ++ [L j] = T9) := ⟨_, Lib.hid rfl⟩
            rw [HTE.out] at HL9 HT9
            clear hown9 hg9 h59
            go_wp2_with fail
            go_roundw
            case rel => exact ⟨j + 1, k0 + 1, cv', some ⟨gv, 0, none⟩, T9, by omega, by omega, by go_num, by go_num, HT9, HB9, HL9⟩
            case measure => simp [Go.RowKit.intOf]; omega
        · obtain rfl : j = N := by omega
          have ijn : ¬ (j : Int) < (j : Int) := by omega
          have hfin : Hid (LstPost w 0 OUT (.returned (.tuple #[.slice pv k0 cv, .int .i64 0])) wr) := Lib.hid (by
            rw [← HOUT.out, ← HT.out]
            exact ⟨HBW4.out.trans (HB.out.mono HBW4.out.size), pv, k0, cv, rfl, HLI.out.len, HLI.out.reads⟩)
          go_wp2_with fail
          refine bodyPost_ret (v := .tuple #[.slice pv k0 cv, .int .i64 0]) ?_ rfl hfin.out
          simp [results, Tryz.f35, go_sem]
end Go.Proofs.YtigidchicloleaaGreatDoor.Arr
