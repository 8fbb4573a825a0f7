/- The program's Touched. -/
import Derived.Test.YtigidchicloleaaGreatDoorJM
import Derived.LoopIn
import Derived.OwnWalkIn
set_option maxHeartbeats 16000000
set_option maxRecDepth 100000
namespace Go.Proofs.YtigidchicloleaaGreatDoor.Arr
open Go.RowKit Go.Shelf
open Go.Lib
attribute [local go_sem] Oper.semAt_some
theorem make_lists (n : Nat) (hn : n ≤ 1000) : ∃ Z : Array Value, Z.size = n ∧ ∀ W, (Instr.makeSlice 46 (.int .i64 (n : Int)) (.int .i64 (n : Int))).run Tryz.prog W = .ok (.slice (some ⟨W.heap.size, 0, none⟩) n n) (W.alloc (.cells Z 22)) := by
  obtain ⟨i0, hi, hz0, hz1, hz2⟩ := info_parts info22
  refine ⟨madeCells (Value.cells (.slice none 0 0)) (n * 1), by rw [size_madeCells, Nat.mul_one], fun W => ?_⟩
  have h := run_make (P := Tryz.prog) W 46 22 i0 (.slice none 0 0) Tryz.underlying46 hi hz0 .i64 .i64 (n : Int) (n : Int) (by omega) (by omega) (by rw [hz2]; omega) (by omega)
  rw [hz1, Int.toNat_natCast] at h
  exact h
theorem touched_any (p q r : Option Addr) (c d f n k m0 : Nat) (s z : List Int) (cuts : List (Int × Int × Int)) (w : World) (hs : Hid (s.length = n)) (hz : Hid (z.length = k)) (hc0 : Hid (cuts.length = m0)) (hp : Rd w p s) (hq : Rd w q z) (hr : RdC w r cuts) :
    Calls Tryz.prog 34 #[.slice p n c, .slice q k d, .slice r m0 f] w (LstPost w (touR s z cuts).1 (touR s z cuts).2) := by
  have HP := Lib.hid hp
  have HQ := Lib.hid hq
  have HR := Lib.hid hr
  obtain ⟨v, HV⟩ : ∃ v, Hid (v = chkV s z) := ⟨_, Lib.hid rfl⟩
  have H70 : Hid (Calls Tryz.prog 73 #[.slice p n c, .slice q k d] w fun e w' => w = w' ∧ e = .returned (.int .i64 v)) := Lib.hid (by rw [HV.out]; exact check_any p q c d n k s z w hs hz hp hq)
  have HBR := Lib.hid (Below.refl w.heap.size w)
  clear hp hq hr
  by_cases hv : v = 0
  case neg =>
    have e0 : touR s z cuts = (v, []) := by unfold touR; rw [if_pos (by rw [← HV.out]; exact hv), HV.out]
    rw [e0]
    have hv2 : (v != 0) = true := by rw [bne_iff_ne]; exact hv
    clear e0
    refine (callsIn_wide (n := 9)).1 ?_
    refine callsIn_of_wp_marks Tryz.func34 rfl trivial ?_ rfl
    simp only [Tryz.ntmps34, List.size_toArray, List.length_cons, List.length_nil, Nat.reduceAdd, Nat.reduceSub, Array.replicate_succ, Array.replicate_zero, List.push_toArray, List.append_toArray, List.nil_append, List.cons_append]
    refine wpIn_wide.2 ?_
    go_wp2_with fail
    refine (H70.out).mono ?_
    rintro e w' ⟨rfl, rfl⟩
    go_wp2_with fail
    refine ⟨.tuple #[.slice none 0 0, .int .i64 v], ?_, lst_no HBR.out⟩
    simp [results, Tryz.f34, go_sem]
  subst hv
  obtain ⟨s0, z0, rfl, rfl, hsh, hzl, hzb⟩ := chk_zero HV.out.symm
  have hsn : s0.length = n := by rw [← hs.out, List.length_map]
  have hkn : k = n := by rw [← hz.out, List.length_map, hzl, hsn]
  subst hkn
  have hn4 : k ≤ 4 := by rw [← hsn]; exact hsh.1
  have HSN := Lib.hid hsn
  have HZN : Hid (z0.length = k) := Lib.hid (by rw [hzl, hsn])
  have HSB : Hid (∀ x ∈ s0, x ≤ 1024) := Lib.hid hsh.2.1
  have HZB := Lib.hid hzb
  obtain ⟨u, HU⟩ : ∃ u, Hid (u = slabOk s0 cuts) := ⟨_, Lib.hid rfl⟩
  have H56 : Hid (Calls Tryz.prog 59 #[.slice p k c, .slice r m0 f] w (CutPost u w)) := Lib.hid (by
    have := isslab_any p r c f s0 cuts w hsh.1 hsh.2.1 HP.out HR.out
    rwa [hsn, hc0.out, ← HU.out] at this)
  have e1 : touR (s0.map Int.ofNat) (z0.map Int.ofNat) cuts = if u = false then (61, []) else (0, touL (mets s0 z0 cuts)) := by
    unfold touR
    rw [if_neg (by rw [← HV.out]; simp), toNat_map, toNat_map, ← HU.out]
  rw [e1]
  have HSHM : Hid (Shp (lens (mets s0 z0 cuts))) := Lib.hid (mets_shp hsh hzl hzb)
  have HMSB0 : Hid (∀ k' j', k' < s0.length → j' < ((mets s0 z0 cuts).getD k' []).length → ((mets s0 z0 cuts).getD k' []).getD j' 0 ≤ 1024) := Lib.hid (fun k' j' h1 h2 => mets_small hsh hzl hzb h1 h2)
  clear e1 hsn hzl hsh hzb
  by_cases hu : u = false
  · subst hu
    rw [if_pos rfl]
    refine (callsIn_wide (n := 9)).1 ?_
    refine callsIn_of_wp_marks Tryz.func34 rfl trivial ?_ rfl
    simp only [Tryz.ntmps34, List.size_toArray, List.length_cons, List.length_nil, Nat.reduceAdd, Nat.reduceSub, Array.replicate_succ, Array.replicate_zero, List.push_toArray, List.append_toArray, List.nil_append, List.cons_append]
    refine wpIn_wide.2 ?_
    go_wp2_with fail
    refine (H70.out).mono ?_
    rintro e w' ⟨rfl, rfl⟩
    go_wp2_with fail
    refine (H56.out).mono ?_
    rintro e w1 ⟨hb1, rfl⟩
    have HB1 := Lib.hid hb1
    clear hb1
    go_wp2_with fail
    refine ⟨.tuple #[.slice none 0 0, .int .i64 61], ?_, lst_no HB1.out⟩
    simp [results, Tryz.f34, go_sem]
  obtain rfl : u = true := by simpa using hu
  rw [if_neg (by simp)]
  have HSL : Hid (slabOk s0 cuts = true) := Lib.hid HU.out.symm
  have hm0 : m0 = k := by
    have h := HSL.out
    unfold slabOk at h
    rw [Bool.and_eq_true, decide_eq_true_eq] at h
    rw [← hc0.out, h.1, HSN.out]
  subst hm0
  obtain ⟨m, rfl⟩ : ∃ m, m = m0 := ⟨_, rfl⟩
  have hc := hc0
  obtain ⟨ms, HMSE⟩ : ∃ ms, Hid (mets s0 z0 cuts = ms) := ⟨_, Lib.hid rfl⟩
  have HMSN : Hid (ms.length = m) := Lib.hid (by rw [← HMSE.out, mets_len, HSN.out])
  rw [HMSE.out] at HSHM HMSB0 ⊢
  have HMSB : Hid (∀ k' j', k' < m → j' < (ms.getD k' []).length → (ms.getD k' []).getD j' 0 ≤ 1024) := Lib.hid (fun k' j' h1 h2 => HMSB0.out k' j' (by rw [HSN.out]; exact h1) h2)
  have hni : (m : Int) ≤ 4 := by omega
  obtain ⟨Z, hZ, hmk1⟩ := make_lists m (by omega)
  have hmk2 := fun W => make_ints m (by omega) W
  have HZS := Lib.hid hZ
  clear hZ hu
  refine (callsIn_wide (n := 9)).1 ?_
  refine callsIn_of_wp_marks Tryz.func34 rfl trivial ?_ rfl
  simp only [Tryz.ntmps34, List.size_toArray, List.length_cons, List.length_nil, Nat.reduceAdd, Nat.reduceSub, Array.replicate_succ, Array.replicate_zero, List.push_toArray, List.append_toArray, List.nil_append, List.cons_append]
  refine wpIn_wide.2 ?_
  go_wp2_with fail
  refine (H70.out).mono ?_
  rintro e w' ⟨rfl, rfl⟩
  go_wp2_with fail
  refine (H56.out).mono ?_
  rintro e w1 ⟨hb1, rfl⟩
  have HB1 := Lib.hid hb1
  clear hb1
  obtain ⟨R, HRR⟩ : ∃ R, Hid (R = w1.heap.size) := ⟨_, Lib.hid rfl⟩
  obtain ⟨Bm, HBM⟩ : ∃ Bm, Hid (Bm = w1.heap.size + 1) := ⟨_, Lib.hid rfl⟩
  obtain ⟨LR, HLR⟩ : ∃ LR, Hid (LR = w1.heap.size + 2) := ⟨_, Lib.hid rfl⟩
  obtain ⟨W2, HW2⟩ : ∃ W2, Hid (((w1.alloc (.cells Z 22)).alloc (.cells #[.slice (some ⟨w1.heap.size, 0, none⟩) m m] 46)).alloc (.cells (ixC (zn m)) 3) = W2) := ⟨_, Lib.hid rfl⟩
  have HORD : Hid (w.heap.size ≤ R ∧ Bm = R + 1 ∧ LR = R + 2) := Lib.hid ⟨by rw [HRR.out]; exact HB1.out.size, by rw [HBM.out, HRR.out], by rw [HLR.out, HRR.out]⟩
  have HT0 : Hid (T1 w R Bm LR m 0 ms W2) := Lib.hid (by
    refine ⟨HB1.out.trans ((show Below w1.heap.size w1 W2 by rw [← HW2.out]; exact (((Below.refl _ w1).alloc (Nat.le_refl _) _).alloc (by simp) _).alloc (by simp; omega) _).mono HB1.out.size), ?_, ?_, Z, ?_, HZS.out, fun j hj => by omega⟩
    · rw [← HW2.out, HBM.out, HRR.out]; simp only [World.alloc, Array.getElem?_push, Array.size_push]
      repeat' (first | rw [if_pos (by omega)] | rw [if_neg (by omega)] | rfl)
    · rw [← HW2.out, HLR.out]; simp only [World.alloc, Array.getElem?_push, Array.size_push]
      repeat' (first | rw [if_pos (by omega)] | rw [if_neg (by omega)] | rfl)
    · rw [← HW2.out, HRR.out]; simp only [World.alloc, Array.getElem?_push, Array.size_push]
      repeat' (first | rw [if_pos (by omega)] | rw [if_neg (by omega)] | rfl))
  go_wp2_with fail
  rw [HW2.out]
  have hs1 : w1.heap.size + 1 + 1 = LR := by rw [HLR.out]
  have hs2 : w1.heap.size + 1 = Bm := by rw [HBM.out]
  rw [hs1, hs2]
  clear hmk1 hmk2 hs1 hs2
  go_loopw [37] (fun iv wr => ∃ i : Nat, i ≤ m ∧ iv = .int .i64 i ∧ Hid (T1 w R Bm LR m i ms wr)) (fun iv _ => m - (Go.RowKit.intOf iv).toNat)
  case atStart => exact ⟨0, Nat.zero_le _, rfl, HT0⟩
  case round =>
    obtain ⟨i, hi9, rfl, HT⟩ := hrel
    have ii : (i : Int) ≤ (m : Int) := by omega
    by_cases hlt : i < m
    · have ilt : (i : Int) < (m : Int) := by omega
      have his : i < s0.length := by rw [HSN.out]; exact hlt
      have hiz : i < z0.length := by rw [HZN.out]; exact hlt
      have hic : i < cuts.length := by rw [hc.out]; exact hlt
      obtain ⟨bz, oz, y, ez, hbz, hcz, HY⟩ := RdN.at (w := w) (l := z0) HQ.out hiz
      obtain ⟨b2, o2, x1, x2, x3, e2, hb2, hx1, hx2, hx3, HZ, -⟩ := HR.out.at hic
      subst ez e2
      have hcut : cutOk (s0.getD i 0) x1 x2 x3 = true := by
        have h := HSL.out
        unfold slabOk at h
        rw [Bool.and_eq_true, List.all_eq_true] at h
        have h2 := h.2 i (List.mem_range.2 his)
        unfold cutAt at h2
        rw [HZ.out] at h2
        exact h2
      obtain ⟨a, b, t, rfl, rfl, rfl, ha, ht1, hin⟩ := cut_in hcut
      have hsi : s0.getD i 0 ≤ 1024 := getD_bound HSB.out
      have hyb : 1 ≤ y ∧ y ≤ 1024 := by
        rw [HY.out, List.getD_eq_getElem?_getD, List.getElem?_eq_getElem hiz]
        exact HZB.out _ (List.getElem_mem _)
      have hbb : b ≤ 1024 := by
        rcases Nat.eq_zero_or_pos b with h0 | h0
        · omega
        · have h1 := hin (b - 1) (by omega)
          have h2 : b - 1 ≤ (b - 1) * t := Nat.le_mul_of_pos_right (b - 1) (by omega)
          omega
      have HMS : Hid (ms.getD i [] = metL (s0.getD i 0) y a b t) := Lib.hid (by
        rw [← HMSE.out, mets_at his, HZ.out, ← HY.out]; rfl)
      obtain ⟨cb, HCB⟩ : ∃ cb, Hid (cb = wr.heap.size) := ⟨_, Lib.hid rfl⟩
      obtain ⟨W1, HW1⟩ : ∃ W1, Hid (wr.alloc (.cells #[.int .i64 (a : Int), .int .i64 (b : Int), .int .i64 (t : Int)] 66) = W1) := ⟨_, Lib.hid rfl⟩
      have HB1 : Hid (Below wr.heap.size wr W1) := Lib.hid (by rw [← HW1.out]; exact (Below.refl _ _).alloc (Nat.le_refl _) _)
      have hbox : W1.heap[cb]? = some (.cells #[.int .i64 (a : Int), .int .i64 (b : Int), .int .i64 (t : Int)] 66 (0, 0)) := by rw [← HW1.out, HCB.out]; exact World.alloc_heap_new wr _
      have hbwr := HT.out.below
      have hrl := (Array.getElem?_eq_some_iff.1 HT.out.lr).1
      have hBm := (HB1.out.block Bm (Array.getElem?_eq_some_iff.1 HT.out.box).1).trans HT.out.box
      have hzz : W1.cell? ⟨bz, oz + i, none⟩ = some (.int .i64 (y : Int)) := ((hbwr.trans (HB1.out.mono hbwr.size)).cell (p := ⟨bz, oz + i, none⟩) hbz).trans hcz
      have hord := HORD.out
      have HSS : Hid (∀ X, W1.grownBy X (some R) → X.cell? ⟨Bm, 0, none⟩ = some (.slice (some ⟨R, 0, none⟩) m m) ∧ X.cell? ⟨cb, 0, none⟩ = some (.int .i64 (a : Int)) ∧ X.cell? ⟨cb, 1, none⟩ = some (.int .i64 (b : Int)) ∧ X.cell? ⟨cb, 2, none⟩ = some (.int .i64 (t : Int)) ∧ X.cell? ⟨bz, oz + i, none⟩ = some (.int .i64 (y : Int))) := Lib.hid (fun X hX => by
        have h1 := (hX.block Bm (Array.getElem?_eq_some_iff.1 hBm).1 (by intro e; injection e with e; omega)).trans hBm
        have h2 := (hX.block cb (Array.getElem?_eq_some_iff.1 hbox).1 (by intro e; injection e with e; rw [HCB.out] at e; omega)).trans hbox
        have h3 := hX.block bz (Nat.lt_of_lt_of_le hbz (Nat.le_trans hbwr.size HB1.out.size)) (by intro e; injection e with e; omega)
        exact ⟨by simp [World.cell?, h1], by simp [World.cell?, h2], by simp [World.cell?, h2], by simp [World.cell?, h2], (World.cell?_of_block (a := ⟨bz, oz + i, none⟩) h3).trans hzz⟩)
      have HBD : Hid (W1.grownBy W1.drew (some R)) := Lib.hid ⟨rfl, rfl, rfl, Nat.le_refl _, fun _ _ _ => rfl⟩
      have HBDR : Hid (Below W1.heap.size W1 W1.drew) := Lib.hid ⟨rfl, rfl, rfl, Nat.le_refl _, fun _ _ => rfl⟩
      have H76 : Hid (Calls Tryz.prog 79 #[.agg #[.int .i64 (a : Int), .int .i64 (b : Int), .int .i64 (t : Int)], .int .i64 (y : Int)] W1.drew (MetPost W1.drew (metL (s0.getD i 0) y a b t))) := Lib.hid (metby_any _ y a b t W1.drew hsi hyb.1 hyb.2 ha hbb (Lib.hid hin))
      have d1 : wr.cell? ⟨b2, o2 + i * 3, none⟩ = some (.int .i64 (a : Int)) := (hbwr.cell (p := ⟨b2, o2 + i * 3, none⟩) hb2).trans hx1
      have d2 : wr.cell? ⟨b2, o2 + i * 3 + 1, none⟩ = some (.int .i64 (b : Int)) := (hbwr.cell (p := ⟨b2, o2 + i * 3 + 1, none⟩) hb2).trans hx2
      have d3 : wr.cell? ⟨b2, o2 + i * 3 + 2, none⟩ = some (.int .i64 (t : Int)) := (hbwr.cell (p := ⟨b2, o2 + i * 3 + 2, none⟩) hb2).trans hx3
      have HRLT : Hid (LR < wr.heap.size) := Lib.hid hrl
      clear hcut hin hsi hyb hbb hbox hbwr hrl hBm hzz hord hbz hcz hb2 hx1 hx2 hx3 his hiz hic ha ht1
      go_wp2_with fail
      rw [HW1.out, ← HCB.out]
      refine wp_region_noPanic ?_
      refine wp_region_held_drew (S := fun W => W.cell? ⟨Bm, 0, none⟩ = some (.slice (some ⟨R, 0, none⟩) m m) ∧ W.cell? ⟨cb, 0, none⟩ = some (.int .i64 (a : Int)) ∧ W.cell? ⟨cb, 1, none⟩ = some (.int .i64 (b : Int)) ∧ W.cell? ⟨cb, 2, none⟩ = some (.int .i64 (t : Int)) ∧ W.cell? ⟨bz, oz + i, none⟩ = some (.int .i64 (y : Int))) (by kernel_rfl) (HSS.out _ HBD.out) (fun hHeld => ?_)
      refine wpAnyH_take (i := 0) (v := ?v1) rfl (by kernel_rfl) (by kernel_rfl) (by kernel_rfl) (fun _ _ _ h => h) (Or.inl ⟨by rfl, ?hy1⟩) (by assumption) ?rest1
      case hy1 =>
        intro W' hSw
        obtain ⟨e0, e1, e2, e3, e4⟩ := hSw
        go_simp
        with_reducible rfl
      simp only [List.getElem_toArray, List.getElem_cons_zero, Act.put, List.setIfInBounds_toArray, List.set_cons_zero, List.set_cons_succ]
      refine wpAnyH_take (i := 1) (v := ?v2) rfl (by kernel_rfl) (by kernel_rfl) (by kernel_rfl) (fun _ _ _ h => h) (Or.inl ⟨by rfl, ?hy2⟩) (by assumption) ?rest2
      case hy2 =>
        intro W' hSw
        obtain ⟨e0, e1, e2, e3, e4⟩ := hSw
        go_simp
        with_reducible rfl
      simp only [List.getElem_toArray, List.getElem_cons_zero, List.getElem_cons_succ, Act.put, List.setIfInBounds_toArray, List.set_cons_zero, List.set_cons_succ]
      refine wpAnyH_take (i := 2) (v := ?v3) rfl (by kernel_rfl) (by kernel_rfl) (by kernel_rfl) (fun _ _ _ h => h) (Or.inl ⟨by rfl, ?hy3⟩) (by assumption) ?rest3
      case hy3 =>
        intro W' hSw
        obtain ⟨e0, e1, e2, e3, e4⟩ := hSw
        go_simp
        with_reducible rfl
      simp only [List.getElem_toArray, List.getElem_cons_zero, List.getElem_cons_succ, Act.put, List.setIfInBounds_toArray, List.set_cons_zero, List.set_cons_succ]
      refine wpAnyH_take (i := 3) (v := ?v4) rfl (by kernel_rfl) (by kernel_rfl) (by kernel_rfl) (fun _ _ _ h => h) (Or.inl ⟨by rfl, ?hy4⟩) (by assumption) ?rest4
      case hy4 =>
        intro W' hSw
        obtain ⟨e0, e1, e2, e3, e4⟩ := hSw
        go_simp
        with_reducible rfl
      simp only [List.getElem_toArray, List.getElem_cons_zero, List.getElem_cons_succ, Act.put, List.setIfInBounds_toArray, List.set_cons_zero, List.set_cons_succ]
      refine wpAnyH_take (i := 4) (v := ?v5) rfl (by kernel_rfl) (by kernel_rfl) (by kernel_rfl) (fun _ _ _ h => h) (Or.inl ⟨by rfl, ?hy5⟩) (by assumption) ?rest5
      case hy5 =>
        intro W' hSw
        obtain ⟨e0, e1, e2, e3, e4⟩ := hSw
        go_simp
        with_reducible rfl
      simp only [List.getElem_toArray, List.getElem_cons_zero, List.getElem_cons_succ, Act.put, List.setIfInBounds_toArray, List.set_cons_zero, List.set_cons_succ]
      refine wpAnyH_take (i := 5) (v := ?v6) rfl (by kernel_rfl) (by kernel_rfl) (by kernel_rfl) (fun _ _ _ h => h) (Or.inl ⟨by rfl, ?hy6⟩) (by assumption) ?rest6
      case hy6 =>
        intro W' hSw
        obtain ⟨e0, e1, e2, e3, e4⟩ := hSw
        go_simp
        with_reducible rfl
      simp only [List.getElem_toArray, List.getElem_cons_zero, List.getElem_cons_succ, Act.put, List.setIfInBounds_toArray, List.set_cons_zero, List.set_cons_succ]
      refine wpAnyH_take (i := 6) (v := ?v7) rfl (by kernel_rfl) (by kernel_rfl) (by kernel_rfl) (fun _ _ _ h => h) (Or.inl ⟨by rfl, ?hy7⟩) (by assumption) ?rest7
      case hy7 =>
        intro W' hSw
        obtain ⟨e0, e1, e2, e3, e4⟩ := hSw
        go_simp
        with_reducible rfl
      simp only [List.getElem_toArray, List.getElem_cons_zero, List.getElem_cons_succ, Act.put, List.setIfInBounds_toArray, List.set_cons_zero, List.set_cons_succ]
      refine wpAnyH_ready (rs := [7]) (by kernel_rfl) (by simp) ?_
      refine AllReadyH.cons (i := 7) rfl (fun K hK => ?_) AllReadyH.nil
      go_simp
      refine (H76.out).mono ?_
      rintro e v1 ⟨hb1, qm, lm, cm, rfl, hlm, hrm, hnm⟩
      have HBv1 : Hid (Below W1.heap.size W1 v1) := Lib.hid (HBDR.out.trans (hb1.mono HBDR.out.size))
      have HRM := Lib.hid hrm
      have HNM := Lib.hid hnm
      have HLM := Lib.hid hlm
      clear hb1 hrm hnm hlm
      refine hK.out _ _ (HSS.out _ (gb_of_below HBv1.out _)) (fun hHeld => ?_)
      clear hK K
      refine wpAnyH_take (i := 8) (v := ?v8) rfl (by kernel_rfl) (by kernel_rfl) (by kernel_rfl) (fun _ _ _ h => h) (Or.inl ⟨by rfl, ?hy8⟩) (by assumption) ?rest8
      case hy8 =>
        intro W' hSw
        obtain ⟨e0, e1, e2, e3, e4⟩ := hSw
        go_simp
        with_reducible rfl
      simp only [List.getElem_toArray, List.getElem_cons_zero, List.getElem_cons_succ, Act.put, List.setIfInBounds_toArray, List.set_cons_zero, List.set_cons_succ]
      have HBr1 : Hid (Below wr.heap.size wr v1) := Lib.hid (HB1.out.trans (HBv1.out.mono HB1.out.size))
      obtain ⟨csv, hk1, hcsz, -⟩ := HT.out.row
      have hk2 := (HBr1.out.block R (Array.getElem?_eq_some_iff.1 hk1).1).trans hk1
      have c9 : v1.cell? ⟨R, i, none⟩ = some (csv.getD i (.slice none 0 0)) := by
        have : i < csv.size := by omega
        simp [World.cell?, hk2, Array.getD, this]
      have f9 : v1.frozen? ⟨R, i, none⟩ = false := by simp [World.frozen?, hk2]
      obtain ⟨W5, HW5⟩ : ∃ W5, Hid (v1.setCell ⟨R, i, none⟩ (.slice qm lm cm) = W5) := ⟨_, Lib.hid rfl⟩
      have HG5 : Hid (v1.grownBy W5 (some R)) := Lib.hid (by rw [← HW5.out]; exact gb_set _ _ _ _)
      have HR5 : Hid (W5.heap[R]? = some (.cells (csv.setIfInBounds i (.slice qm lm cm)) 22 (0, 0))) := Lib.hid (by rw [← HW5.out]; exact heap_set v1 R i _ _ _ hk2)
      have HCSZ := Lib.hid hcsz
      clear hk1 hk2 hcsz
      refine wpAnyH_ready (rs := [9]) (by kernel_rfl) (by simp) ?_
      refine AllReadyH.cons (i := 9) rfl (fun K hK => ?_) AllReadyH.nil
      go_simp
      try rw [HW5.out]
      refine hK.out _ _ (HSS.out _ ((gb_of_below HBv1.out (some R)).trans HG5.out)) (fun hHeld => ?_)
      clear hK K
      refine wpAnyH_done (by kernel_rfl) ?_ _
      refine NoPanic.normal ?_
      clear hHeld
      have HMSL : Hid (lm = (ms.getD i []).length) := Lib.hid (by rw [HMS.out]; exact HLM.out.symm)
      have HT2 : Hid (T1 w R Bm LR m (i + 1) ms ((v1.setCell ⟨R, i, none⟩ (.slice qm (ms.getD i []).length cm)).setCell ⟨LR, i, none⟩ (.int .i64 (((ms.getD i []).length : Nat) : Int)))) := Lib.hid (HT.out.step HORD.out hlt HMSN.out HBr1.out (by rw [HMS.out]; exact HRM.out) (fun b off e => by
        have h1 := HNM.out b off e
        have h2 := HRLT.out
        have h3 := HB1.out.size
        have h4 : W1.heap.size ≤ W1.drew.heap.size := HBDR.out.size
        omega))
      have hord := HORD.out
      have g0 : W5.cell? ⟨Bm, 0, none⟩ = some (.slice (some ⟨R, 0, none⟩) m m) := (HSS.out _ ((gb_of_below HBv1.out (some R)).trans HG5.out)).1
      have g1 : W5.cell? ⟨R, i, none⟩ = some (.slice qm lm cm) := by
        have h := HR5.out
        have h2 : i < csv.size := by rw [HCSZ.out]; exact hlt
        simp [World.cell?, h, h2]
      have hlr5 : W5.heap[LR]? = some (.cells (ixC ((lens ms).take i ++ zn (m - i))) 3 (0, 0)) := (HG5.out.block LR (Nat.lt_of_lt_of_le HRLT.out HBr1.out.size) (by intro e; injection e with e; omega)).trans ((HBr1.out.block LR HRLT.out).trans HT.out.lr)
      have hcl : ((lens ms).take i).length = i := by rw [List.length_take, lens_len, HMSN.out]; omega
      rw [zn_succ hlt] at hlr5
      have g2 : W5.cell? ⟨LR, i, none⟩ = some (.int .i64 ((0 : Nat) : Int)) := by simp [World.cell?, hlr5, ixC_mid hcl]
      have g3 : W5.frozen? ⟨LR, i, none⟩ = false := by simp [World.frozen?, hlr5]
      obtain ⟨W6, HW6⟩ : ∃ W6, Hid (W5.setCell ⟨LR, i, none⟩ (.int .i64 (lm : Int)) = W6) := ⟨_, Lib.hid rfl⟩
      have HT6 : Hid (T1 w R Bm LR m (i + 1) ms W6) := Lib.hid (by
        have h := HT2.out
        rw [← HMSL.out, HW5.out, HW6.out] at h
        exact h)
      clear hlr5 hcl hord c9 f9 d1 d2 d3
      go_wp2_with fail
      rw [HW6.out]
      go_roundw
      case rel => exact ⟨i + 1, by omega, by go_num, HT6⟩
      case measure => simp [Go.RowKit.intOf]; omega
    · obtain rfl : i = m := by omega
      have ilt : ¬ (i : Int) < (i : Int) := by omega
      obtain ⟨wo, rfl⟩ : ∃ wo, wo = wr := ⟨_, rfl⟩
      obtain ⟨G, HG⟩ : ∃ G, Hid (G = wo.heap.size) := ⟨_, Lib.hid rfl⟩
      obtain ⟨W7, HW7⟩ : ∃ W7, Hid (wo.alloc (.cells #[.slice none 0 0] 46) = W7) := ⟨_, Lib.hid rfl⟩
      have HB7 : Hid (Below wo.heap.size wo W7) := Lib.hid (by rw [← HW7.out]; exact (Below.refl _ _).alloc (Nat.le_refl _) _)
      have HG7 : Hid (W7.heap[G]? = some (.cells #[.slice none 0 0] 46 (0, 0))) := Lib.hid (by rw [← HW7.out, HG.out]; exact World.alloc_heap_new _ _)
      have HLRC : Hid (wo.heap[LR]? = some (.cells (ixC (lens ms)) 3 (0, 0))) := Lib.hid (by
        have h := HT.out.lr
        rw [Nat.sub_self, List.take_of_length_le (by rw [lens_len, HMSN.out]; exact Nat.le_refl _)] at h
        simpa [zn] using h)
      go_wp2_with fail
      rw [HW7.out, ← HG.out]
      refine ((callsIn_wide (n := 9)).1 (indexes_in 9 _ _ _ _)).mono ?_
      rintro e W3 ⟨rfl, e3⟩
      obtain ⟨Bb, HBb⟩ : ∃ Bb, Hid (Bb = W7.heap.size) := ⟨_, Lib.hid rfl⟩
      rw [← HBb.out]
      have HB73 : Hid (Below W7.heap.size W7 W3) := Lib.hid (by rw [e3]; exact (Below.refl _ _).alloc (Nat.le_refl _) _)
      have HK4 : Hid (W3.heap[Bb]? = some (.cells #[.slice (some ⟨LR, 0, none⟩) i i] 22 (0, 0))) := Lib.hid (by rw [e3, HBb.out]; exact World.alloc_heap_new _ _)
      have HS3 : Hid (W3.heap.size = Bb + 1) := Lib.hid (by rw [e3, HBb.out]; simp)
      clear e3
      have HBr3 : Hid (Below wo.heap.size wo W3) := Lib.hid (HB7.out.trans (HB73.out.mono HB7.out.size))
      have HBW3 : Hid (Below w.heap.size w W3) := Lib.hid (HT.out.below.trans (HBr3.out.mono HT.out.below.size))
      have HG3 : Hid (W3.heap[G]? = some (.cells #[.slice none 0 0] 46 (0, 0))) := Lib.hid ((HB73.out.block G (Array.getElem?_eq_some_iff.1 HG7.out).1).trans HG7.out)
      have HGL : Hid (G < W3.heap.size) := Lib.hid (Array.getElem?_eq_some_iff.1 HG3.out).1
      have HBG : Hid (Bb ≠ G) := Lib.hid (by have h := (Array.getElem?_eq_some_iff.1 HG7.out).1; rw [HBb.out]; omega)
      have HBBL : Hid (Bb < W3.heap.size) := Lib.hid (by rw [HS3.out]; omega)
      have HLRLT : Hid (LR < wo.heap.size) := Lib.hid (Array.getElem?_eq_some_iff.1 HLRC.out).1
      obtain ⟨C, HC⟩ : ∃ C, Hid (lens ms = C) := ⟨_, Lib.hid rfl⟩
      have HCS : Hid (Shp C) := Lib.hid (by rw [← HC.out]; exact HSHM.out)
      have HCN : Hid (C.length = i) := Lib.hid (by rw [← HC.out, lens_len, HMSN.out])
      have HP4 : Hid (prod C ≤ 4096) := Lib.hid HCS.out.2.2
      obtain ⟨L, HL⟩ : ∃ L : Nat → List Nat, Hid (L = fun j => pickM ms (ixOf C j)) := ⟨_, Lib.hid rfl⟩
      have eL : touL ms = (List.range (prod C)).map L := by unfold touL; rw [HC.out, HL.out]
      have HEL := Lib.hid eL
      obtain ⟨p0, HP0⟩ : ∃ p0 : Option Addr, Hid (p0 = some ⟨LR, 0, none⟩) := ⟨_, Lib.hid rfl⟩
      have HPC : Hid (RdN W3 p0 C) := Lib.hid (by
        rw [HP0.out, ← HC.out]
        exact rdn_row ((HBr3.out.block LR HLRLT.out).trans HLRC.out) (fun x hx => by rw [HC.out] at hx; have := HCS.out.2.1 x hx; omega))
      have HPB : Hid (∀ b off, p0 = some ⟨b, off, none⟩ → b < W3.heap.size ∧ b ≠ G ∧ b < Bb) := Lib.hid (fun b off e => by
        rw [HP0.out] at e; cases e
        have h1 := HLRLT.out; have h2 := HB7.out.size; have h3 := HBb.out; have h4 := HBr3.out.size; have h5 := HG.out
        omega)
      have HCI0 : Hid (ChI W3 G L [] W3) := Lib.hid ⟨⟨rfl, rfl, rfl, Nat.le_refl _, fun _ _ _ => rfl⟩, none, 0, 0, HG3.out, LI.start _ _ _⟩
      rw [← HP0.out]
      rw [← HP0.out] at HK4
      clear eL
      go_wp2_with fail
      refine (wpIn_wide (n := 9)).1 ?_
      refine wpIn_rangeFunc_cells rfl (by omega) (gf := 92) (lb := #[.pointer (some ⟨Bb, 0, none⟩)]) rfl trivial (enters_of Tryz.func92 (by kernel_rfl) rfl)
        (indexes_seq _ (by omega) Bb (W3.heap.size + 2) i i p0 C hn4 HCN (Lib.hid HCS.out.2.1) HP4.out W3 (Nat.le_refl _) HK4.out HPC.out)
        (fun x A l o o' ho hc hat => hat.put ho hc) (Below.refl _ _) (fun _ => rfl)
        (fun pre W => ChI W3 G L pre W)
        (fun pre A B r h hg hr => h.above HGL.out hg hr)
        HCI0.out ?a1 ?assign ?body ?done
      case assign =>
        intro lo x W K hK
        gi_wp2
        exact hK
      case body =>
        rintro lo pre ⟨j, g⟩ W hCI hAt hpre
        obtain ⟨pv, cv, k0, hx, hli⟩ := hCI.row
        have HCI := Lib.hid hCI
        have HAT := Lib.hid hAt
        have HLI := Lib.hid hli
        have HX := Lib.hid hx
        have hi4 : j < prod C := hAt.lt
        have hk0 : k0 ≤ 100000 := by
          have h1 := hli.len
          have h2 := congrArg List.length hpre
          rw [List.length_map, List.length_range] at h2
          rw [List.length_map] at h1
          have := HP4.out
          simp only at h2
          omega
        have HW3 : Hid (W3.heap.size + 3 ≤ W.heap.size) := Lib.hid (by
          have h1 := (Array.getElem?_eq_some_iff.1 hAt.row).1
          have h2 := hAt.new
          simp only at h1 h2
          omega)
        obtain ⟨ix, HIX⟩ : ∃ ix, Hid (ixOf C j = ix) := ⟨_, Lib.hid rfl⟩
        have HIXI : Hid (IsIx C ix) := Lib.hid (by rw [← HIX.out]; exact (ixOf_is C j hi4).1)
        have HIXL : Hid (ix.length = i) := Lib.hid (by rw [HIXI.out.1, HCN.out])
        obtain ⟨Pk, HPK⟩ : ∃ Pk, Hid (Pk = pickM ms ix) := ⟨_, Lib.hid rfl⟩
        have HPL : Hid (Pk.length = i) := Lib.hid (by rw [HPK.out, pickM_len, HMSN.out])
        have HLJ : Hid (L j = Pk) := Lib.hid (by rw [HL.out, HPK.out, ← HIX.out])
        have HGRW : Hid (W.heap[g]? = some (.cells (ixC ix) 3 (0, 0))) := Lib.hid (by rw [← HIX.out]; exact hAt.row)
        have HGLT : Hid (g < W.heap.size) := Lib.hid (Array.getElem?_eq_some_iff.1 HGRW.out).1
        have HOLD : Hid (∀ b, b < wo.heap.size → W.heap[b]? = wo.heap[b]?) := Lib.hid (fun b hb => by
          have h1 := HBr3.out.size
          rw [HCI.out.old.block b (by omega) (by intro e; injection e with e; rw [HG.out] at e; omega)]
          exact HBr3.out.block b hb)
        obtain ⟨Gx, HGX⟩ : ∃ Gx, Hid (Gx = W.heap.size) := ⟨_, Lib.hid rfl⟩
        obtain ⟨Y1, HY1⟩ : ∃ Y1, Hid (W.alloc (.cells (ixC (zn i)) 3) = Y1) := ⟨_, Lib.hid rfl⟩
        have HBY : Hid (Below W.heap.size W Y1) := Lib.hid (by rw [← HY1.out]; exact (Below.refl _ _).alloc (Nat.le_refl _) _)
        have HRX : Hid (Y1.heap[Gx]? = some (.cells (ixC (Pk.take 0 ++ zn (i - 0))) 3 (0, 0))) := Lib.hid (by rw [← HY1.out, HGX.out]; exact World.alloc_heap_new _ _)
        have hmk := fun W => make_ints i (by omega) W
        clear hCI hAt hpre hx hli hi4
        gi_wp2
        rw [HY1.out, ← HGX.out]
        clear hmk
        gi_loopw [69] (fun kv wr2 => ∃ k : Nat, k ≤ i ∧ kv = .int .i64 k ∧ Hid (Below W.heap.size W wr2) ∧ Hid (wr2.heap[Gx]? = some (.cells (ixC (Pk.take k ++ zn (i - k))) 3 (0, 0)))) (fun kv _ => i - (Go.RowKit.intOf kv).toNat)
        case atStart => exact ⟨0, Nat.zero_le _, rfl, HBY, HRX⟩
        case round =>
          obtain ⟨k, hk9, rfl, HBK, HRK⟩ := hrel
          have ik : (k : Int) ≤ (i : Int) := by omega
          by_cases hkt : k < i
          · have ikt : (k : Int) < (i : Int) := by omega
            have hgk := (HBK.out.block g HGLT.out).trans HGRW.out
            have hold : ∀ b, b < wo.heap.size → wr.heap[b]? = wo.heap[b]? := fun b hb => by
              have h1 := HBr3.out.size
              have h2 := HCI.out.old.size
              rw [HBK.out.block b (by omega)]; exact HOLD.out b hb
            have hbx := (hold Bm (Array.getElem?_eq_some_iff.1 HT.out.box).1).trans HT.out.box
            obtain ⟨cs, hr1, hr2, hr3⟩ := HT.out.row
            have hrr := (hold R (Array.getElem?_eq_some_iff.1 hr1).1).trans hr1
            obtain ⟨pk, ck, hr4, hr5, -⟩ := hr3 k hkt
            obtain ⟨u, HU⟩ : ∃ u, Hid (u = ix.getD k 0) := ⟨_, rfl⟩
            have hul : u < (ms.getD k []).length := by
              have h1 := HIXI.out.2 k (by rw [HCN.out]; exact hkt)
              rw [← HC.out, lens_at (by rw [HMSN.out]; exact hkt), ← HU.out] at h1
              exact h1
            obtain ⟨bk, ok, v, ek, hbk, hck, HV⟩ := hr5.at hul
            subst ek
            obtain ⟨lk, HLK⟩ : ∃ lk, Hid (lk = (ms.getD k []).length) := ⟨_, rfl⟩
            rw [← HLK.out] at hr4 hul
            have ul : (u : Int) < (lk : Int) := by omega
            have HPV : Hid (Pk.getD k 0 = v) := Lib.hid (by rw [HPK.out, pickM_at (by rw [HMSN.out]; exact hkt), ← HU.out, HV.out])
            have q0 : wr.cell? ⟨g, k, none⟩ = some (.int .i64 (u : Int)) := by rw [HU.out]; exact cell_row hgk (by rw [HIXL.out]; exact hkt)
            have q1 : wr.cell? ⟨Bm, 0, none⟩ = some (.slice (some ⟨R, 0, none⟩) i i) := by simp [World.cell?, hbx]
            have q2 : wr.cell? ⟨R, k, none⟩ = some (.slice (some ⟨bk, ok, none⟩) lk ck) := by simp [World.cell?, hrr, hr4]
            have q3 : wr.cell? ⟨bk, ok + u, none⟩ = some (.int .i64 (v : Int)) := (World.cell?_of_block (a := ⟨bk, ok + u, none⟩) (hold bk hbk)).trans hck
            have hcl : (Pk.take k).length = k := by rw [List.length_take, HPL.out]; omega
            have hrk := HRK.out
            rw [zn_succ hkt] at hrk
            have q4 : wr.cell? ⟨Gx, k, none⟩ = some (.int .i64 ((0 : Nat) : Int)) := by simp [World.cell?, hrk, ixC_mid hcl]
            have q5 : wr.frozen? ⟨Gx, k, none⟩ = false := by simp [World.frozen?, hrk]
            have hset := heap_set wr Gx k (.int .i64 (v : Int)) _ _ hrk
            obtain ⟨W8, HW8⟩ : ∃ W8, Hid (wr.setCell ⟨Gx, k, none⟩ (.int .i64 (v : Int)) = W8) := ⟨_, Lib.hid rfl⟩
            have HR8 : Hid (W8.heap[Gx]? = some (.cells (ixC (Pk.take (k + 1) ++ zn (i - (k + 1)))) 3 (0, 0))) := Lib.hid (by
              rw [ixC_set (Pk.take k) 0 v _ hcl] at hset
              rw [take_succ' (by rw [HPL.out]; exact hkt), List.append_assoc, HPV.out, ← HW8.out]
              exact hset)
            have HB8 : Hid (Below W.heap.size W W8) := Lib.hid (by rw [← HW8.out]; exact HBK.out.setCell (p := ⟨Gx, k, none⟩) (by show W.heap.size ≤ Gx; rw [HGX.out]; exact Nat.le_refl _) _)
            clear hgk hold hbx hr1 hr2 hr3 hrr hr4 hr5 hbk hck hcl hrk hset hul
            gi_wp2
            rw [HW8.out]
            go_roundw
            case rel => exact ⟨k + 1, by omega, by go_num, HB8, HR8⟩
            case measure => simp [Go.RowKit.intOf]; omega
          · obtain rfl : k = i := by omega
            have ikt : ¬ (k : Int) < (k : Int) := by omega
            have hrow : wr.heap[Gx]? = some (.cells (ixC Pk) 3 (0, 0)) := by
              have h := HRK.out
              rw [Nat.sub_self, List.take_of_length_le (by rw [HPL.out]; exact Nat.le_refl _)] at h
              simpa [zn] using h
            obtain ⟨vals, hown, hels⟩ := HLI.out.row
            obtain ⟨gU, HgU⟩ : ∃ g, Hid (g = wr.heap.size) := ⟨_, Lib.hid rfl⟩
            obtain ⟨U, HUU⟩ : ∃ U, Hid (wr.alloc (.cells #[.slice (some ⟨Gx, 0, none⟩) k k] 22) = U) := ⟨_, Lib.hid rfl⟩
            have HBU : Hid (Below wr.heap.size wr U) := Lib.hid (by rw [← HUU.out]; exact (Below.refl _ _).alloc (Nat.le_refl _) _)
            have HBWU : Hid (Below W.heap.size W U) := Lib.hid (HBK.out.trans (HBU.out.mono HBK.out.size))
            have HUC : Hid (U.cell? ⟨gU, 0, none⟩ = some (.slice (some ⟨Gx, 0, none⟩) k k)) := Lib.hid (by
              rw [← HUU.out, HgU.out]; have := World.alloc_heap_new wr (.cells #[.slice (some ⟨Gx, 0, none⟩) k k] 22); unfold World.cell?; simp only [this]; rfl)
            have HOU : Hid (U.ownsRow (W3.heap.size + 3) 22 1 (.slice pv k0 cv) k0 vals) := Lib.hid (hown.kept (gb_of_below HBWU.out none) (by cases pv <;> simp [Value.ownBlock]))
            have HOWN := Lib.hid hown
            have HELS := Lib.hid hels
            have HRN : Hid (RdN U (some ⟨Gx, 0, none⟩) (L j)) := Lib.hid (by
              rw [HLJ.out]
              refine rdn_row ((HBU.out.block Gx (Array.getElem?_eq_some_iff.1 hrow).1).trans hrow) (fun x hx => ?_)
              rw [HPK.out] at hx
              obtain ⟨k', hk', e⟩ := mem_getD hx
              rw [pickM_len, HMSN.out] at hk'
              rw [pickM_at (by rw [HMSN.out]; exact hk')] at e
              have h1 := HIXI.out.2 k' (by rw [HCN.out]; exact hk')
              rw [← HC.out, lens_at (by rw [HMSN.out]; exact hk')] at h1
              have h2 := HMSB.out k' _ hk' h1
              omega)
            have g1 : wr.cell? ⟨G, 0, none⟩ = some (.slice pv k0 cv) := by
              have h := (HBK.out.block G (Array.getElem?_eq_some_iff.1 HX.out).1).trans HX.out
              simp [World.cell?, h]
            have g2 : (wr.alloc (.cells #[.slice (some ⟨Gx, 0, none⟩) k k] 22)).cell? ⟨G, 0, none⟩ = some (.slice pv k0 cv) := by
              rw [HUU.out]
              have h := (HBWU.out.block G (Array.getElem?_eq_some_iff.1 HX.out).1).trans HX.out
              simp [World.cell?, h]
            have HSZU : Hid (W3.heap.size + 3 ≤ U.heap.size) := Lib.hid (Nat.le_trans HW3.out HBWU.out.size)
            clear hrow hown hels
            gi_wp2_with (first | (gi_at_builtin; rw [HUU.out, ← HgU.out]; refine wpListIn_append_1l rfl (.tmp 85) (.tmp 87) rfl (W3.heap.size + 3) pv cv k0 vals rfl HOU.out gU (some ⟨Gx, 0, none⟩) k k rfl HUC.out hk0 HSZU.out ?_))
            intro gv cv' w9 hown9 hg9 h59
            obtain ⟨W9, HW9⟩ : ∃ W9, Hid (w9.setCell ⟨G, 0, none⟩ (.slice (some ⟨gv, 0, none⟩) (k0 + 1) cv') = W9) := ⟨_, Lib.hid rfl⟩
            obtain ⟨hG9, hko, hsz9, hkeep, hci⟩ := ChI.step (g := g) HCI.out HX.out HLI.out.len HOWN.out HELS.out HGL.out HW3.out HBWU.out (by rw [HLJ.out, HPL.out]) HRN.out (fun b off e _ => by cases e; rw [HGX.out]; exact Nat.le_refl _) hown9 hg9 h59 HW9.out
            have HFIN : Hid (KeepsOthers W W9 ∧ IxAt C p0 k k Bb (W3.heap.size + 2) (j, g) W9 ∧ ChI W3 G L (pre ++ [(j, g)]) W9) := Lib.hid (by
              have hgl := HGL.out
              have hw3 := HW3.out
              have hbg := HBG.out
              have hbl := HBBL.out
              refine ⟨hko, ⟨?_, ?_, ?_, HAT.out.new, HAT.out.lt⟩, hci⟩
              · have h1 := HAT.out.row
                have h2 := HAT.out.new
                simp only at h2
                exact (hkeep g HGLT.out (by omega) (.inr ⟨_, h1⟩)).trans h1
              · have h1 := HAT.out.box
                exact (hkeep Bb (Array.getElem?_eq_some_iff.1 h1).1 hbg (.inl (by omega))).trans h1
              · refine HAT.out.shape.keep hsz9 (fun b off e _ => ?_)
                have h2 := HPB.out b off e
                exact hkeep b (by omega) h2.2.1 (.inl (by omega)))
            have k1 : w9.cell? ⟨G, 0, none⟩ = some (.slice pv k0 cv) := by simp [World.cell?, hG9]
            have z1 : w9.frozen? ⟨G, 0, none⟩ = false := by simp [World.frozen?, hG9]
            clear hown9 hg9 h59 hG9 hko hsz9 hkeep hci g1 g2
            gi_wp2
            rw [HW9.out]
            exact HFIN.out
      case done =>
        rintro D9 xs W hD hS hCI hK
        obtain ⟨pv, cv, k0, hx, hli⟩ := hCI.row
        have HK := Lib.hid hK
        have g0 : W.cell? ⟨G, 0, none⟩ = some (.slice pv k0 cv) := by simp [World.cell?, hx]
        have hgD : W.grownBy (W.putObj D9 (.deferred none)) (some D9) := grownBy_putObj' W D9 (.deferred none)
        have hli2 := hli.other hgD (fun o h1 h2 => by rw [hK] at h1; cases h1; cases h2)
        have hmap : xs.map (fun y => L y.1) = (List.range (prod C)).map L := by rw [← hS, List.map_map]; rfl
        rw [hmap] at hli2
        have HFIN : Hid (LstPost w 0 (touL ms) (.returned (.tuple #[.slice pv k0 cv, .int .i64 0])) (W.putObj D9 (.deferred none))) := Lib.hid (by
          rw [HEL.out]
          refine ⟨⟨hgD.os.trans (hCI.old.os.trans HBW3.out.os), hgD.tape.trans (hCI.old.tape.trans HBW3.out.tape), hgD.output.trans (hCI.old.output.trans HBW3.out.output), Nat.le_trans HBW3.out.size (Nat.le_trans hCI.old.size hgD.size), fun b hb => ?_⟩, pv, k0, cv, rfl, hli2.len, hli2.reads⟩
          have h1 := HBW3.out.size
          have h2 := hCI.old.size
          have h3 := HT.out.below.size
          rw [hgD.block b (by omega) (by intro e; injection e with e; omega), hCI.old.block b (by omega) (by intro e; injection e with e; rw [HG.out] at e; omega)]
          exact HBW3.out.block b hb)
        clear hli hli2 hgD hx hCI hK hmap
        go_wp2_with fail
        refine ⟨by simp, .inl ⟨_, _, rfl, run_takeDeferred HK.out, ?_⟩⟩
        refine ⟨.tuple #[.slice pv k0 cv, .int .i64 0], ?_, HFIN.out⟩
        simp [results, Tryz.f34, go_sem]
end Go.Proofs.YtigidchicloleaaGreatDoor.Arr
