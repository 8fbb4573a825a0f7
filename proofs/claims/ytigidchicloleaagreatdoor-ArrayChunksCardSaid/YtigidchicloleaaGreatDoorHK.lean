/- The document's slabs: cutFits, Fits, Counts, through. -/
import Derived.Test.YtigidchicloleaaGreatDoorHA
import Derived.Deep.RegionHeld3
set_option maxHeartbeats 4000000
set_option maxRecDepth 100000
namespace Go.Proofs.YtigidchicloleaaGreatDoor.Arr
open Go.RowKit Go.Shelf
open Go.Lib
attribute [local go_sem] Oper.semAt_some
theorem rcutfits_any (s : Nat) (a n k : Int) (w : World) (hs : s ≤ 1024) (hn : Hid (-9223372036854775808 ≤ n ∧ n ≤ 9223372036854775807)) :
    Calls Tryz.prog 90 #[.agg #[.int .i64 a, .int .i64 n, .int .i64 k], .int .i64 (s : Int)] w (CutPost (cutOk s a n k) w) := by
  have his : (s : Int) ≤ 1024 := by omega
  have HB := Lib.hid (below_box w (.cells #[.int .i64 a, .int .i64 n, .int .i64 k] 66))
  have HB0 : Hid (Below w.heap.size w (w.alloc (.cells #[.int .i64 a, .int .i64 n, .int .i64 k] 66))) := Lib.hid ((Below.refl _ w).alloc (Nat.le_refl _) _)
  by_cases h1 : a < 0
  · rw [cutOk_no (.inl h1)]
    go_enter Tryz.func90, Tryz.ntmps90
    go_wp2_with fail
    go_ret
    exact ⟨HB0.out, rfl⟩
  by_cases h2 : n < 0
  · rw [cutOk_no (.inr (.inl h2))]
    go_enter Tryz.func90, Tryz.ntmps90
    go_wp2_with fail
    go_ret
    exact ⟨HB0.out, rfl⟩
  by_cases h3 : k < 1
  · rw [cutOk_no (.inr (.inr (.inl h3)))]
    go_enter Tryz.func90, Tryz.ntmps90
    go_wp2_with fail
    go_ret
    exact ⟨HB0.out, rfl⟩
  by_cases h4 : (s : Int) < a
  · rw [cutOk_no (.inr (.inr (.inr (.inl h4))))]
    go_enter Tryz.func90, Tryz.ntmps90
    go_wp2_with fail
    go_ret
    exact ⟨HB0.out, rfl⟩
  have g1 : 0 ≤ a := by omega
  have g3 : 1 ≤ k := by omega
  have g4 : a ≤ (s : Int) := by omega
  by_cases h5 : n = 0
  · subst h5
    rw [cutOk_zero g1 g3 g4]
    go_enter Tryz.func90, Tryz.ntmps90
    go_wp2_with fail
    go_ret
    exact ⟨HB0.out, rfl⟩
  have h5b : (n == 0) = false := by rw [beq_eq_false_iff_ne]; exact h5
  have hw2 : IntKind.i64.wrap ((s : Int) - 1) = (s : Int) - 1 := IntWalk.i64_in _ (by omega)
  obtain ⟨L, HL⟩ : ∃ L, Hid (L = (s : Int) - 1 - a) := ⟨_, rfl⟩
  have hL1 : L ≤ 1024 := by rw [HL.out]; omega
  have hL2 : -1 ≤ L := by rw [HL.out]; omega
  have hw3 : IntKind.i64.wrap ((s : Int) - 1 - a) = L := by rw [HL.out]; exact IntWalk.i64_in _ (by omega)
  have hsub : (s : Int) - 1 - a = L := HL.out.symm
  by_cases h6 : 0 ≤ L
  · have has : a < (s : Int) := by omega
    rw [cutOk_rest g1 (by omega) g3 has]
    have d6 : decide (0 ≤ L) = true := decide_eq_true h6
    by_cases h7 : n = 1
    · subst h7
      rw [decide_eq_true (by have := Int.ediv_nonneg (a := (s : Int) - 1 - a) (b := k) (by omega) (by omega); omega)]
      clear hw2 h5b
      go_enter Tryz.func90, Tryz.ntmps90
      go_wp2_with fail
      go_quiet (fail)
      go_wp2_with fail
      go_ret
      exact ⟨HB.out _, rfl⟩
    · have h7b : (n == 1) = false := by rw [beq_eq_false_iff_ne]; exact h7
      by_cases h8 : k ≤ L
      · have d8 : decide (k ≤ L) = true := decide_eq_true h8
        have hw1 : IntKind.i64.wrap (n - 1) = n - 1 := IntWalk.i64_in _ (by have := hn.out; omega)
        obtain ⟨r, HR⟩ : ∃ r, Hid (r = L / k) := ⟨_, rfl⟩
        have hq : L.tdiv k = r := by rw [HR.out]; exact Int.tdiv_eq_ediv_of_nonneg h6
        have hr0 : 0 ≤ r := by rw [HR.out]; exact Int.ediv_nonneg (by omega) (by omega)
        have hr1 : r ≤ 1024 := by rw [HR.out]; exact Int.le_trans (Int.ediv_le_self _ (by omega)) (by omega)
        have hw4 : IntKind.i64.wrap r = r := IntWalk.i64_in _ (by omega)
        rw [← HL.out, ← HR.out]
        have hk0 : (k == 0) = false := by rw [beq_eq_false_iff_ne]; omega
        have hk1 : ¬ k = 0 := by omega
        clear hw2
        go_enter Tryz.func90, Tryz.ntmps90
        go_wp2_with fail
        go_quiet (fail)
        go_wp2_with fail
        go_ret
        exact ⟨HB.out _, rfl⟩
      · have d8 : decide (k ≤ L) = false := decide_eq_false h8
        rw [decide_eq_false (by
          have h9 : L / k = 0 := Int.ediv_eq_zero_of_lt h6 (by omega)
          rw [← HL.out, h9]; omega)]
        clear hw2
        go_enter Tryz.func90, Tryz.ntmps90
        go_wp2_with fail
        go_quiet (fail)
        go_wp2_with fail
        go_ret
        exact ⟨HB.out _, rfl⟩
  · have d6 : decide (0 ≤ L) = false := decide_eq_false h6
    rw [cutOk_no (.inr (.inr (.inr (.inr ⟨h5, by omega⟩))))]
    clear hw2
    go_enter Tryz.func90, Tryz.ntmps90
    go_wp2_with fail
    go_quiet (fail)
    go_wp2_with fail
    go_ret
    exact ⟨HB.out _, rfl⟩
theorem rfits_any (p q : Option Addr) (c d n m : Nat) (s : List Nat) (l : List (Int × Int × Int)) (w : World) (hs : Hid (s.length = n)) (hl : Hid (l.length = m)) (hs4 : n ≤ 4) (hsb : ∀ x ∈ s, x ≤ 1024) (hp : RdN w p s) (hq : RdC w q l) :
    Calls Tryz.prog 63 #[.slice p n c, .slice q m d] w (CutPost (slabOk s l) w) := by
  have HP := Lib.hid hp
  have HQ := Lib.hid hq
  have HSB := Lib.hid hsb
  have HB0 := Lib.hid (Below.refl w.heap.size w)
  clear hp hq hsb
  by_cases hlen : m = n
  case neg =>
    rw [slabOk_len (by rw [hs.out, hl.out]; exact hlen)]
    have hle : ¬ (m : Int) = (n : Int) := by omega
    go_enter Tryz.func63, Tryz.ntmps63
    go_wp2_with fail
    go_ret
    exact ⟨HB0.out, rfl⟩
  subst hlen
  obtain ⟨v, HV⟩ : ∃ v, Hid (v = slabOk s l) := ⟨_, rfl⟩
  rw [← HV.out]
  have hni : (m : Int) ≤ 4 := by omega
  have HNO : Hid (∀ k, k < m → cutAt s l k = false → v = false) := Lib.hid (fun k hk h => by rw [HV.out]; exact slabOk_no (by rw [hs.out]; exact hk) h)
  have HYES : Hid ((∀ k, k < m → cutAt s l k = true) → v = true) := Lib.hid (fun h => by rw [HV.out]; exact slabOk_yes (by rw [hl.out, hs.out]) (fun k hk => h k (by rw [← hs.out]; exact hk)))
  go_enter Tryz.func63, Tryz.ntmps63
  go_wp2_with fail
  go_loopw [5] (fun iv wr => ∃ i : Nat, i ≤ m ∧ iv = .int .i64 i ∧ Hid (∀ k, k < i → cutAt s l k = true) ∧ Hid (Below w.heap.size w wr)) (fun iv _ => m - (Go.RowKit.intOf iv).toNat)
  case atStart => exact ⟨0, Nat.zero_le _, rfl, Lib.hid (fun k hk => by omega), HB0⟩
  case round =>
    obtain ⟨i, hi, rfl, HA, HB⟩ := hrel
    have ii : (i : Int) ≤ (m : Int) := by omega
    by_cases hlt : i < m
    · have ilt : (i : Int) < (m : Int) := by omega
      obtain ⟨b1, o1, t, rfl, hb1, hc1, HT⟩ := (HP.out.below HB.out).at (k := i) (by rw [hs.out]; exact hlt)
      obtain ⟨b2, o2, x, y, z, rfl, hb2, hx, hy, hz, HZ, HW⟩ := (HQ.out.below HB.out).at (k := i) (by rw [hl.out]; exact hlt)
      have ht : t ≤ 1024 := by
        rw [HT.out, List.getD_eq_getElem?_getD, List.getElem?_eq_getElem (by rw [hs.out]; exact hlt)]
        exact HSB.out _ (List.getElem_mem _)
      obtain ⟨u, HU⟩ : ∃ u, Hid (u = cutOk t x y z) := ⟨_, rfl⟩
      have HUA : Hid (cutAt s l i = u) := Lib.hid (by unfold cutAt; rw [HZ.out, HU.out, HT.out])
      have HALL : Hid (∀ W, Below wr.heap.size wr W → (W.cell? ⟨b1, o1 + i, none⟩ = some (.int .i64 (t : Int)) ∧ W.cell? ⟨b2, o2 + i * 3, none⟩ = some (.int .i64 x) ∧ W.cell? ⟨b2, o2 + i * 3 + 1, none⟩ = some (.int .i64 y) ∧ W.cell? ⟨b2, o2 + i * 3 + 2, none⟩ = some (.int .i64 z)) ∧ Below wr.heap.size wr W) := Lib.hid (fun W hW =>
        ⟨⟨(hW.cell (p := ⟨b1, o1 + i, none⟩) hb1).trans hc1, (hW.cell (p := ⟨b2, o2 + i * 3, none⟩) hb2).trans hx, (hW.cell (p := ⟨b2, o2 + i * 3 + 1, none⟩) hb2).trans hy, (hW.cell (p := ⟨b2, o2 + i * 3 + 2, none⟩) hb2).trans hz⟩, hW⟩)
      have HC : Hid (∀ W, Calls Tryz.prog 90 #[.agg #[.int .i64 x, .int .i64 y, .int .i64 z], .int .i64 (t : Int)] W (CutPost u W)) := Lib.hid (fun W => by rw [HU.out]; exact rcutfits_any t x y z W ht HW)
      have HDD : Hid (Below wr.heap.size wr wr.drew) := Lib.hid ⟨rfl, rfl, rfl, Nat.le_refl _, fun _ _ => rfl⟩
      clear hc1 hx hy hz hb1 hb2
      go_wp2_with fail
      refine wp_region_noPanic ?_
      refine wp_region_held_drew (S := fun W => (W.cell? ⟨b1, o1 + i, none⟩ = some (.int .i64 (t : Int)) ∧ W.cell? ⟨b2, o2 + i * 3, none⟩ = some (.int .i64 x) ∧ W.cell? ⟨b2, o2 + i * 3 + 1, none⟩ = some (.int .i64 y) ∧ W.cell? ⟨b2, o2 + i * 3 + 2, none⟩ = some (.int .i64 z)) ∧ Below wr.heap.size wr W) (by kernel_rfl) (HALL.out _ HDD.out) (fun hHeld => ?_)
      refine wpAnyH_take (i := 0) (v := ?v1) rfl (by kernel_rfl) (by kernel_rfl) (by kernel_rfl) (fun _ _ _ h => h) (Or.inl ⟨by rfl, ?hy1⟩) (by assumption) ?rest1
      case hy1 =>
        intro W' hSw
        obtain ⟨⟨e0, e1, e2, e3⟩, -⟩ := hSw
        go_simp
        with_reducible rfl
      simp only [List.getElem_toArray, List.getElem_cons_zero, Act.put, List.setIfInBounds_toArray, List.set_cons_zero, List.set_cons_succ]
      refine wpAnyH_take (i := 1) (v := ?v2) rfl (by kernel_rfl) (by kernel_rfl) (by kernel_rfl) (fun _ _ _ h => h) (Or.inl ⟨by rfl, ?hy2⟩) (by assumption) ?rest2
      case hy2 =>
        intro W' hSw
        obtain ⟨⟨e0, e1, e2, e3⟩, -⟩ := hSw
        go_simp
        with_reducible rfl
      simp only [List.getElem_toArray, List.getElem_cons_zero, List.getElem_cons_succ, Act.put, List.setIfInBounds_toArray, List.set_cons_zero, List.set_cons_succ]
      refine wpAnyH_take (i := 2) (v := ?v3) rfl (by kernel_rfl) (by kernel_rfl) (by kernel_rfl) (fun _ _ _ h => h) (Or.inl ⟨by rfl, ?hy3⟩) (by assumption) ?rest3
      case hy3 =>
        intro W' hSw
        obtain ⟨⟨e0, e1, e2, e3⟩, -⟩ := hSw
        go_simp
        with_reducible rfl
      simp only [List.getElem_toArray, List.getElem_cons_zero, List.getElem_cons_succ, Act.put, List.setIfInBounds_toArray, List.set_cons_zero, List.set_cons_succ]
      refine wpAnyH_take (i := 3) (v := ?v4) rfl (by kernel_rfl) (by kernel_rfl) (by kernel_rfl) (fun _ _ _ h => h) (Or.inl ⟨by rfl, ?hy4⟩) (by assumption) ?rest4
      case hy4 =>
        intro W' hSw
        obtain ⟨⟨e0, e1, e2, e3⟩, -⟩ := hSw
        go_simp
        with_reducible rfl
      simp only [List.getElem_toArray, List.getElem_cons_zero, List.getElem_cons_succ, Act.put, List.setIfInBounds_toArray, List.set_cons_zero, List.set_cons_succ]
      refine wpAnyH_take (i := 4) (v := ?v5) rfl (by kernel_rfl) (by kernel_rfl) (by kernel_rfl) (fun _ _ _ h => h) (Or.inl ⟨by rfl, ?hy5⟩) (by assumption) ?rest5
      case hy5 =>
        intro W' hSw
        obtain ⟨⟨e0, e1, e2, e3⟩, -⟩ := hSw
        go_simp
        with_reducible rfl
      simp only [List.getElem_toArray, List.getElem_cons_zero, List.getElem_cons_succ, Act.put, List.setIfInBounds_toArray, List.set_cons_zero, List.set_cons_succ]
      refine wpAnyH_take (i := 5) (v := ?v6) rfl (by kernel_rfl) (by kernel_rfl) (by kernel_rfl) (fun _ _ _ h => h) (Or.inl ⟨by rfl, ?hy6⟩) (by assumption) ?rest6
      case hy6 =>
        intro W' hSw
        obtain ⟨⟨e0, e1, e2, e3⟩, -⟩ := hSw
        go_simp
        with_reducible rfl
      simp only [List.getElem_toArray, List.getElem_cons_zero, List.getElem_cons_succ, Act.put, List.setIfInBounds_toArray, List.set_cons_zero, List.set_cons_succ]
      refine wpAnyH_take (i := 6) (v := ?v7) rfl (by kernel_rfl) (by kernel_rfl) (by kernel_rfl) (fun _ _ _ h => h) (Or.inl ⟨by rfl, ?hy7⟩) (by assumption) ?rest7
      case hy7 =>
        intro W' hSw
        obtain ⟨⟨e0, e1, e2, e3⟩, -⟩ := hSw
        go_simp
        with_reducible rfl
      simp only [List.getElem_toArray, List.getElem_cons_zero, List.getElem_cons_succ, Act.put, List.setIfInBounds_toArray, List.set_cons_zero, List.set_cons_succ]
      refine wpAnyH_take (i := 7) (v := ?v8) rfl (by kernel_rfl) (by kernel_rfl) (by kernel_rfl) (fun _ _ _ h => h) (Or.inl ⟨by rfl, ?hy8⟩) (by assumption) ?rest8
      case hy8 =>
        intro W' hSw
        obtain ⟨⟨e0, e1, e2, e3⟩, -⟩ := hSw
        go_simp
        with_reducible rfl
      simp only [List.getElem_toArray, List.getElem_cons_zero, List.getElem_cons_succ, Act.put, List.setIfInBounds_toArray, List.set_cons_zero, List.set_cons_succ]
      refine wpAnyH_ready (rs := [8]) (by kernel_rfl) (by simp) ?_
      refine AllReadyH.cons (i := 8) rfl (fun K hK => ?_) AllReadyH.nil
      go_simp
      refine (HC.out _).mono ?_
      rintro e w3 ⟨hb3, rfl⟩
      have HC3 : Hid (Below wr.heap.size wr w3) := Lib.hid (HDD.out.trans (hb3.mono HDD.out.size))
      clear hb3
      refine hK.out _ _ (HALL.out _ HC3.out) (fun hHeld => ?_)
      clear hK K
      refine wpAnyH_take (i := 9) (v := ?v9) rfl (by kernel_rfl) (by kernel_rfl) (by kernel_rfl) (fun _ _ _ h => h) (Or.inl ⟨by rfl, ?hy9⟩) (by assumption) ?rest9
      case hy9 =>
        intro W' hSw
        obtain ⟨⟨e0, e1, e2, e3⟩, -⟩ := hSw
        go_simp
        with_reducible rfl
      simp only [List.getElem_toArray, List.getElem_cons_zero, List.getElem_cons_succ, Act.put, List.setIfInBounds_toArray, List.set_cons_zero, List.set_cons_succ]
      refine wpAnyH_done (by kernel_rfl) ?_ _
      refine NoPanic.normal ?_
      clear hHeld
      have HB3 : Hid (Below w.heap.size w w3) := Lib.hid (HB.out.trans (HC3.out.mono HB.out.size))
      by_cases hu : u = true
      · have hst : Hid (∀ k, k < i + 1 → cutAt s l k = true) := Lib.hid (fun k hk => by
          by_cases e : k = i
          · rw [e, HUA.out]; exact hu
          · exact HA.out k (by omega))
        subst hu
        go_wp2_with fail
        go_roundw
        case rel => exact ⟨i + 1, by omega, by go_num, hst, HB3⟩
        case measure => simp [Go.RowKit.intOf]; omega
      · obtain rfl : u = false := by simpa using hu
        obtain rfl : v = false := HNO.out i hlt HUA.out
        go_wp2_with fail
        go_ret
        exact ⟨HB3.out, rfl⟩
    · obtain rfl : i = m := by omega
      have ilt : ¬ (i : Int) < (i : Int) := by omega
      obtain rfl : v = true := HYES.out HA.out
      go_wp2_with fail
      go_ret
      exact ⟨HB.out, rfl⟩
theorem rcounts_any (q : Option Addr) (d n : Nat) (l : List (Int × Int × Int)) (w : World) (hn : n ≤ 4) (hl : Hid (l.length = n)) (hc : Hid (∀ z ∈ l, 0 ≤ z.2.1 ∧ z.2.1 ≤ 1024)) (hq : RdC w q l) :
    Calls Tryz.prog 64 #[.slice q n d] w fun e w' => Below w.heap.size w w' ∧ e = .returned (.slice (some ⟨w.heap.size, 0, none⟩) n n) ∧ w'.heap[w.heap.size]? = some (.cells (ixC (cnts l)) 3 (0, 0)) := by
  have HQ := Lib.hid hq
  have hni : (n : Int) ≤ 4 := by omega
  have hmk := fun W => make_ints n (by omega) W
  obtain ⟨g, HG⟩ : ∃ g, Hid (g = w.heap.size) := ⟨_, rfl⟩
  obtain ⟨W1, HW1⟩ : ∃ W1, Hid (w.alloc (.cells (ixC (zn n)) 3) = W1) := ⟨_, Lib.hid rfl⟩
  have HB1 : Hid (Below w.heap.size w W1) := Lib.hid (by rw [← HW1.out]; exact (Below.refl _ w).alloc (Nat.le_refl _) _)
  have HR1 : Hid (W1.heap[g]? = some (.cells (ixC ((cnts l).take 0 ++ zn (n - 0))) 3 (0, 0))) := Lib.hid (by rw [← HW1.out, HG.out]; exact World.alloc_heap_new w _)
  clear hq
  go_enter Tryz.func64, Tryz.ntmps64
  go_wp2_with fail
  rw [HW1.out, ← HG.out]
  clear hmk
  go_loopw [4] (fun iv wr => ∃ i : Nat, i ≤ n ∧ iv = .int .i64 i ∧ Hid (Below w.heap.size w wr) ∧ Hid (wr.heap[g]? = some (.cells (ixC ((cnts l).take i ++ zn (n - i))) 3 (0, 0)))) (fun iv _ => n - (Go.RowKit.intOf iv).toNat)
  case atStart => exact ⟨0, Nat.zero_le _, rfl, HB1, HR1⟩
  case round =>
    obtain ⟨i, hi, rfl, HB, HR⟩ := hrel
    have ii : (i : Int) ≤ (n : Int) := by omega
    by_cases hlt : i < n
    · have ilt : (i : Int) < (n : Int) := by omega
      have hil : i < l.length := by rw [hl.out]; exact hlt
      obtain ⟨b2, o2, x, y, z, rfl, hb2, hx, hy, hz, HZ, -⟩ := (HQ.out.below HB.out).at hil
      obtain ⟨m, HM⟩ : ∃ m, Hid (m = (cnts l).getD i 0) := ⟨_, rfl⟩
      have hym : y = (m : Int) := by
        have hm : l.getD i (0, 0, 0) ∈ l := by rw [List.getD_eq_getElem?_getD, List.getElem?_eq_getElem hil]; exact List.getElem_mem hil
        have h0 := (hc.out _ hm).1
        rw [HM.out, cnts_at hil]
        rw [HZ.out] at h0 ⊢
        exact (Int.toNat_of_nonneg h0).symm
      subst hym
      have hgw : g < wr.heap.size := (Array.getElem?_eq_some_iff.1 HR.out).1
      have hcl : ((cnts l).take i).length = i := by rw [List.length_take, cnts, List.length_map]; omega
      have HRm := HR.out
      rw [zn_succ hlt] at HRm
      have c1 : wr.cell? ⟨g, i, none⟩ = some (.int .i64 ((0 : Nat) : Int)) := by simp [World.cell?, HRm, ixC_mid hcl]
      have z1 : wr.frozen? ⟨g, i, none⟩ = false := by simp [World.frozen?, HRm]
      have HE := Lib.hid (heap_set wr g i (.int .i64 (m : Int)) _ _ HRm)
      have HR2 : Hid ((wr.setCell ⟨g, i, none⟩ (.int .i64 (m : Int))).heap[g]? = some (.cells (ixC ((cnts l).take (i + 1) ++ zn (n - (i + 1)))) 3 (0, 0))) := Lib.hid (by
        have h := HE.out
        rw [ixC_set ((cnts l).take i) 0 m _ hcl] at h
        rw [take_succ' (by rw [cnts, List.length_map]; exact hil), List.append_assoc, ← HM.out]
        exact h)
      have HB2 : Hid (Below w.heap.size w (wr.setCell ⟨g, i, none⟩ (.int .i64 (m : Int)))) := Lib.hid (HB.out.setCell (p := ⟨g, i, none⟩) (by show w.heap.size ≤ g; rw [HG.out]; exact Nat.le_refl _) _)
      clear HRm
      go_wp2_with fail
      go_roundw
      case rel => exact ⟨i + 1, by omega, by go_num, HB2, HR2⟩
      case measure => simp [Go.RowKit.intOf]; omega
    · obtain rfl : i = n := by omega
      have ilt : ¬ (i : Int) < (i : Int) := by omega
      have hfin : Hid (Below w.heap.size w wr ∧ wr.heap[g]? = some (.cells (ixC (cnts l)) 3 (0, 0))) := Lib.hid ⟨HB.out, by
        have h := HR.out
        rw [Nat.sub_self, List.take_of_length_le (by rw [cnts, List.length_map, hl.out]; exact Nat.le_refl _)] at h
        simpa [zn] using h⟩
      go_wp2_with fail
      go_ret
      exact ⟨hfin.out.1, by rw [HG.out]; rfl, by rw [← HG.out]; exact hfin.out.2⟩
theorem rthr_any (p q : Option Addr) (c d n : Nat) (l : List (Int × Int × Int)) (ix : List Nat) (w : World) (hn : n ≤ 4) (hl : Hid (l.length = n)) (hi : Hid (ix.length = n)) (hok : Hid (ThrOk l ix)) (hq : RdC w q l) (hp : RdN w p ix) :
    Calls Tryz.prog 65 #[.slice q n d, .slice p n c] w fun e w' => Below w.heap.size w w' ∧ e = .returned (.slice (some ⟨w.heap.size, 0, none⟩) n n) ∧ w'.heap[w.heap.size]? = some (.cells (ixC (thr l ix)) 3 (0, 0)) := by
  have HQ := Lib.hid hq
  have HP := Lib.hid hp
  have hni : (n : Int) ≤ 4 := by omega
  have hmk := fun W => make_ints n (by omega) W
  obtain ⟨g, HG⟩ : ∃ g, Hid (g = w.heap.size) := ⟨_, rfl⟩
  obtain ⟨W1, HW1⟩ : ∃ W1, Hid (w.alloc (.cells (ixC (zn n)) 3) = W1) := ⟨_, Lib.hid rfl⟩
  have HB1 : Hid (Below w.heap.size w W1) := Lib.hid (by rw [← HW1.out]; exact (Below.refl _ w).alloc (Nat.le_refl _) _)
  have HR1 : Hid (W1.heap[g]? = some (.cells (ixC ((thr l ix).take 0 ++ zn (n - 0))) 3 (0, 0))) := Lib.hid (by rw [← HW1.out, HG.out]; exact World.alloc_heap_new w _)
  clear hq hp
  go_enter Tryz.func65, Tryz.ntmps65
  go_wp2_with fail
  rw [HW1.out, ← HG.out]
  clear hmk
  go_loopw [6] (fun iv wr => ∃ i : Nat, i ≤ n ∧ iv = .int .i64 i ∧ Hid (Below w.heap.size w wr) ∧ Hid (wr.heap[g]? = some (.cells (ixC ((thr l ix).take i ++ zn (n - i))) 3 (0, 0)))) (fun iv _ => n - (Go.RowKit.intOf iv).toNat)
  case atStart => exact ⟨0, Nat.zero_le _, rfl, HB1, HR1⟩
  case round =>
    obtain ⟨j, hi2, rfl, HB, HR⟩ := hrel
    have ii : (j : Int) ≤ (n : Int) := by omega
    by_cases hlt : j < n
    · have ilt : (j : Int) < (n : Int) := by omega
      have hjl : j < l.length := by rw [hl.out]; exact hlt
      obtain ⟨b2, o2, x, y, z, e2, hb2, hx, hy, hz, HZ, -⟩ := HQ.out.at hjl
      obtain ⟨b1, o1, i, e1, hb1, hc1, HX⟩ := HP.out.at (k := j) (by rw [hi.out]; exact hlt)
      subst e1 e2
      have hbounds := hok.out j hjl
      rw [HZ.out, ← HX.out] at hbounds
      obtain ⟨hx0, hx1, hm0, hm1⟩ := hbounds
      obtain ⟨u, rfl⟩ := Int.eq_ofNat_of_zero_le hx0
      obtain ⟨m, hm⟩ := Int.eq_ofNat_of_zero_le hm0
      obtain ⟨v, HV⟩ : ∃ v, Hid (v = u + m) := ⟨_, rfl⟩
      have huv : (u : Int) + (m : Int) = (v : Int) := by rw [HV.out]; omega
      have ivb : (v : Int) ≤ 2048 := by omega
      have hgs : ∀ W, Below w.heap.size w W → W.cell? ⟨b1, o1 + j, none⟩ = some (.int .i64 (i : Int)) ∧ W.cell? ⟨b2, o2 + j * 3, none⟩ = some (.int .i64 (u : Int)) ∧ W.cell? ⟨b2, o2 + j * 3 + 2, none⟩ = some (.int .i64 z) := fun W hW =>
        ⟨(hW.cell (p := ⟨b1, o1 + j, none⟩) hb1).trans hc1, (hW.cell (p := ⟨b2, o2 + j * 3, none⟩) hb2).trans hx, (hW.cell (p := ⟨b2, o2 + j * 3 + 2, none⟩) hb2).trans hz⟩
      have HALL : Hid (∀ W, Below w.heap.size w W → W.cell? ⟨b1, o1 + j, none⟩ = some (.int .i64 (i : Int)) ∧ W.cell? ⟨b2, o2 + j * 3, none⟩ = some (.int .i64 (u : Int)) ∧ W.cell? ⟨b2, o2 + j * 3 + 2, none⟩ = some (.int .i64 z)) := Lib.hid hgs
      have hcl : ((thr l ix).take j).length = j := by rw [List.length_take, thr_len]; omega
      have HRm := HR.out
      rw [zn_succ hlt] at HRm
      have hRd : wr.drew.heap[g]? = some (.cells (ixC ((thr l ix).take j ++ 0 :: zn (n - (j + 1)))) 3 (0, 0)) := HRm
      have hcr : wr.drew.cell? ⟨g, j, none⟩ = some (.int .i64 ((0 : Nat) : Int)) := by
        have h := cell_row hRd (k := j) (by rw [List.length_append, hcl]; simp)
        rw [getD_mid hcl] at h
        exact h
      have hfr : wr.drew.frozen? ⟨g, j, none⟩ = false := free_row hRd
      have hva : thrAt l ix j = v := by
        unfold thrAt; rw [HZ.out, ← HX.out, HV.out]
        show ((u : Int) + (i : Int) * z).toNat = u + m
        rw [hm]; omega
      have hwr : IntKind.i64.wrap ((u : Int) + IntKind.i64.wrap (m : Int)) = (v : Int) := by rw [IntWalk.i64_in (m : Int) (by omega), huv]; exact IntWalk.i64_in _ (by omega)
      obtain ⟨W5, hW5⟩ : ∃ W5, (wr.setCell ⟨g, j, none⟩ (.int .i64 (v : Int))).drew = W5 := ⟨_, rfl⟩
      have HB5 : Hid (Below w.heap.size w W5) := Lib.hid (by rw [← hW5]; exact (HB.out.setCell (p := ⟨g, j, none⟩) (by show w.heap.size ≤ g; rw [HG.out]; exact Nat.le_refl _) _).trans ⟨rfl, rfl, rfl, Nat.le_refl _, fun _ _ => rfl⟩)
      have HR5 : Hid (W5.heap[g]? = some (.cells (ixC ((thr l ix).take (j + 1) ++ zn (n - (j + 1)))) 3 (0, 0))) := Lib.hid (by
        have h := heap_set wr.drew g j (.int .i64 (v : Int)) _ _ hRd
        rw [ixC_set ((thr l ix).take j) 0 v _ hcl] at h
        change ((wr.setCell ⟨g, j, none⟩ (.int .i64 (v : Int))).drew).heap[g]? = _ at h
        rw [hW5] at h
        rw [take_succ' (by rw [thr_len]; exact hjl), List.append_assoc, thr_get hjl, hva]
        exact h)
      have HBD : Hid (Below w.heap.size w wr.drew) := Lib.hid (HB.out.trans ⟨rfl, rfl, rfl, Nat.le_refl _, fun _ _ => rfl⟩)
      clear hRd HRm hva hcl hgs hx hy hz hc1
      go_wp2_with fail
      refine wp_region_noPanic ?_
      refine wp_region_held_drew (S := fun W => W.cell? ⟨b1, o1 + j, none⟩ = some (.int .i64 (i : Int)) ∧ W.cell? ⟨b2, o2 + j * 3, none⟩ = some (.int .i64 (u : Int)) ∧ W.cell? ⟨b2, o2 + j * 3 + 2, none⟩ = some (.int .i64 z)) (by kernel_rfl) (HALL.out _ HBD.out) (fun hHeld => ?_)
      refine wpAnyH_take (i := 0) (v := ?v10) rfl (by kernel_rfl) (by kernel_rfl) (by kernel_rfl) (fun _ _ _ h => h) (Or.inl ⟨by rfl, ?hy10⟩) (by assumption) ?rest10
      case hy10 =>
        intro W' hSw
        obtain ⟨e0, e1, e2⟩ := hSw
        go_simp
        with_reducible rfl
      simp only [List.getElem_toArray, List.getElem_cons_zero, Act.put, List.setIfInBounds_toArray, List.set_cons_zero, List.set_cons_succ]
      refine wpAnyH_take (i := 1) (v := ?v11) rfl (by kernel_rfl) (by kernel_rfl) (by kernel_rfl) (fun _ _ _ h => h) (Or.inl ⟨by rfl, ?hy11⟩) (by assumption) ?rest11
      case hy11 =>
        intro W' hSw
        obtain ⟨e0, e1, e2⟩ := hSw
        go_simp
        with_reducible rfl
      simp only [List.getElem_toArray, List.getElem_cons_zero, List.getElem_cons_succ, Act.put, List.setIfInBounds_toArray, List.set_cons_zero, List.set_cons_succ]
      refine wpAnyH_take (i := 2) (v := ?v12) rfl (by kernel_rfl) (by kernel_rfl) (by kernel_rfl) (fun _ _ _ h => h) (Or.inl ⟨by rfl, ?hy12⟩) (by assumption) ?rest12
      case hy12 =>
        intro W' hSw
        obtain ⟨e0, e1, e2⟩ := hSw
        go_simp
        with_reducible rfl
      simp only [List.getElem_toArray, List.getElem_cons_zero, List.getElem_cons_succ, Act.put, List.setIfInBounds_toArray, List.set_cons_zero, List.set_cons_succ]
      refine wpAnyH_take (i := 3) (v := ?v13) rfl (by kernel_rfl) (by kernel_rfl) (by kernel_rfl) (fun _ _ _ h => h) (Or.inl ⟨by rfl, ?hy13⟩) (by assumption) ?rest13
      case hy13 =>
        intro W' hSw
        obtain ⟨e0, e1, e2⟩ := hSw
        go_simp
        with_reducible rfl
      simp only [List.getElem_toArray, List.getElem_cons_zero, List.getElem_cons_succ, Act.put, List.setIfInBounds_toArray, List.set_cons_zero, List.set_cons_succ]
      refine wpAnyH_take (i := 4) (v := ?v14) rfl (by kernel_rfl) (by kernel_rfl) (by kernel_rfl) (fun _ _ _ h => h) (Or.inl ⟨by rfl, ?hy14⟩) (by assumption) ?rest14
      case hy14 =>
        intro W' hSw
        obtain ⟨e0, e1, e2⟩ := hSw
        go_simp
        with_reducible rfl
      simp only [List.getElem_toArray, List.getElem_cons_zero, List.getElem_cons_succ, Act.put, List.setIfInBounds_toArray, List.set_cons_zero, List.set_cons_succ]
      refine wpAnyH_take (i := 5) (v := ?v15) rfl (by kernel_rfl) (by kernel_rfl) (by kernel_rfl) (fun _ _ _ h => h) (Or.inl ⟨by rfl, ?hy15⟩) (by assumption) ?rest15
      case hy15 =>
        intro W' hSw
        obtain ⟨e0, e1, e2⟩ := hSw
        go_simp
        with_reducible rfl
      simp only [List.getElem_toArray, List.getElem_cons_zero, List.getElem_cons_succ, Act.put, List.setIfInBounds_toArray, List.set_cons_zero, List.set_cons_succ]
      refine wpAnyH_take (i := 6) (v := ?v16) rfl (by kernel_rfl) (by kernel_rfl) (by kernel_rfl) (fun _ _ _ h => h) (Or.inl ⟨by rfl, ?hy16⟩) (by assumption) ?rest16
      case hy16 =>
        intro W' hSw
        obtain ⟨e0, e1, e2⟩ := hSw
        go_simp
        with_reducible rfl
      simp only [List.getElem_toArray, List.getElem_cons_zero, List.getElem_cons_succ, Act.put, List.setIfInBounds_toArray, List.set_cons_zero, List.set_cons_succ]
      refine wpAnyH_take (i := 7) (v := ?v17) rfl (by kernel_rfl) (by kernel_rfl) (by kernel_rfl) (fun _ _ _ h => h) (Or.inl ⟨by rfl, ?hy17⟩) (by assumption) ?rest17
      case hy17 =>
        intro W' hSw
        obtain ⟨e0, e1, e2⟩ := hSw
        go_simp
        with_reducible rfl
      simp only [List.getElem_toArray, List.getElem_cons_zero, List.getElem_cons_succ, Act.put, List.setIfInBounds_toArray, List.set_cons_zero, List.set_cons_succ]
      refine wpAnyH_take (i := 8) (v := ?v18) rfl (by kernel_rfl) (by kernel_rfl) (by kernel_rfl) (fun _ _ _ h => h) (Or.inl ⟨by rfl, ?hy18⟩) (by assumption) ?rest18
      case hy18 =>
        intro W' hSw
        obtain ⟨e0, e1, e2⟩ := hSw
        go_simp
        with_reducible rfl
      simp only [List.getElem_toArray, List.getElem_cons_zero, List.getElem_cons_succ, Act.put, List.setIfInBounds_toArray, List.set_cons_zero, List.set_cons_succ]
      refine wpAnyH_take (i := 9) (v := ?v19) rfl (by kernel_rfl) (by kernel_rfl) (by kernel_rfl) (fun _ _ _ h => h) (Or.inl ⟨by rfl, ?hy19⟩) (by assumption) ?rest19
      case hy19 =>
        intro W' hSw
        obtain ⟨e0, e1, e2⟩ := hSw
        go_simp
        with_reducible rfl
      simp only [List.getElem_toArray, List.getElem_cons_zero, List.getElem_cons_succ, Act.put, List.setIfInBounds_toArray, List.set_cons_zero, List.set_cons_succ]
      refine wpAnyH_take (i := 10) (v := ?v20) rfl (by kernel_rfl) (by kernel_rfl) (by kernel_rfl) (fun _ _ _ h => h) (Or.inl ⟨by rfl, ?hy20⟩) (by assumption) ?rest20
      case hy20 =>
        intro W' hSw
        obtain ⟨e0, e1, e2⟩ := hSw
        go_simp
        with_reducible rfl
      simp only [List.getElem_toArray, List.getElem_cons_zero, List.getElem_cons_succ, Act.put, List.setIfInBounds_toArray, List.set_cons_zero, List.set_cons_succ]
      refine wpAnyH_take (i := 11) (v := ?v21) rfl (by kernel_rfl) (by kernel_rfl) (by kernel_rfl) (fun _ _ _ h => h) (Or.inl ⟨by rfl, ?hy21⟩) (by assumption) ?rest21
      case hy21 =>
        intro W' hSw
        obtain ⟨e0, e1, e2⟩ := hSw
        go_simp
        with_reducible rfl
      simp only [List.getElem_toArray, List.getElem_cons_zero, List.getElem_cons_succ, Act.put, List.setIfInBounds_toArray, List.set_cons_zero, List.set_cons_succ]
      refine wpAnyH_take (i := 12) (v := ?v22) rfl (by kernel_rfl) (by kernel_rfl) (by kernel_rfl) (fun _ _ _ h => h) (Or.inl ⟨by rfl, ?hy22⟩) (by assumption) ?rest22
      case hy22 =>
        intro W' hSw
        obtain ⟨e0, e1, e2⟩ := hSw
        go_simp
        with_reducible rfl
      simp only [List.getElem_toArray, List.getElem_cons_zero, List.getElem_cons_succ, Act.put, List.setIfInBounds_toArray, List.set_cons_zero, List.set_cons_succ]
      refine wpAnyH_take (i := 13) (v := ?v23) rfl (by kernel_rfl) (by kernel_rfl) (by kernel_rfl) (fun _ _ _ h => h) (Or.inl ⟨by rfl, ?hy23⟩) (by assumption) ?rest23
      case hy23 =>
        intro W' hSw
        obtain ⟨e0, e1, e2⟩ := hSw
        go_simp
        with_reducible rfl
      simp only [List.getElem_toArray, List.getElem_cons_zero, List.getElem_cons_succ, Act.put, List.setIfInBounds_toArray, List.set_cons_zero, List.set_cons_succ]
      refine wpAnyH_take (i := 14) (v := ?v24) rfl (by kernel_rfl) (by kernel_rfl) (by kernel_rfl) (fun _ _ _ h => h) (Or.inl ⟨by rfl, ?hy24⟩) (by assumption) ?rest24
      case hy24 =>
        intro W' hSw
        obtain ⟨e0, e1, e2⟩ := hSw
        go_simp
        with_reducible rfl
      simp only [List.getElem_toArray, List.getElem_cons_zero, List.getElem_cons_succ, Act.put, List.setIfInBounds_toArray, List.set_cons_zero, List.set_cons_succ]
      refine wpAnyH_take (i := 15) (v := ?v25) rfl (by kernel_rfl) (by kernel_rfl) (by kernel_rfl) (fun _ _ _ h => h) (Or.inl ⟨by rfl, ?hy25⟩) (by assumption) ?rest25
      case hy25 =>
        intro W' hSw
        obtain ⟨e0, e1, e2⟩ := hSw
        go_simp
        with_reducible rfl
      simp only [List.getElem_toArray, List.getElem_cons_zero, List.getElem_cons_succ, Act.put, List.setIfInBounds_toArray, List.set_cons_zero, List.set_cons_succ]
      refine wpAnyH_take (i := 16) (v := ?v26) rfl (by kernel_rfl) (by kernel_rfl) (by kernel_rfl) (fun _ _ _ h => h) (Or.inl ⟨by rfl, ?hy26⟩) (by assumption) ?rest26
      case hy26 =>
        intro W' hSw
        obtain ⟨e0, e1, e2⟩ := hSw
        go_simp
        with_reducible rfl
      simp only [List.getElem_toArray, List.getElem_cons_zero, List.getElem_cons_succ, Act.put, List.setIfInBounds_toArray, List.set_cons_zero, List.set_cons_succ]
      refine wpAnyH_take (i := 17) (v := ?v27) rfl (by kernel_rfl) (by kernel_rfl) (by kernel_rfl) (fun _ _ _ h => h) (Or.inl ⟨by rfl, ?hy27⟩) (by assumption) ?rest27
      case hy27 =>
        intro W' hSw
        obtain ⟨e0, e1, e2⟩ := hSw
        go_simp
        with_reducible rfl
      simp only [List.getElem_toArray, List.getElem_cons_zero, List.getElem_cons_succ, Act.put, List.setIfInBounds_toArray, List.set_cons_zero, List.set_cons_succ]
      refine wpAnyH_take (i := 18) (v := ?v28) rfl (by kernel_rfl) (by kernel_rfl) (by kernel_rfl) (fun _ _ _ h => h) (Or.inl ⟨by rfl, ?hy28⟩) (by assumption) ?rest28
      case hy28 =>
        intro W' hSw
        obtain ⟨e0, e1, e2⟩ := hSw
        go_simp
        with_reducible rfl
      simp only [List.getElem_toArray, List.getElem_cons_zero, List.getElem_cons_succ, Act.put, List.setIfInBounds_toArray, List.set_cons_zero, List.set_cons_succ]
      refine wpAnyH_ready (rs := [19]) (by kernel_rfl) (by simp) ?_
      refine AllReadyH.cons (i := 19) rfl (fun K hK => ?_) AllReadyH.nil
      go_simp
      try rw [hwr]
      try rw [hW5]
      refine hK.out _ _ (HALL.out _ HB5.out) (fun hHeld3 => ?_)
      clear hK K
      refine wpAnyH_done (by kernel_rfl) ?_ _
      refine NoPanic.normal ?_
      clear hHeld hHeld3
      go_wp2_with fail
      go_roundw
      case rel => exact ⟨j + 1, by omega, by go_num, HB5, HR5⟩
      case measure => simp [Go.RowKit.intOf]; omega
    · obtain rfl : j = n := by omega
      have ilt : ¬ (j : Int) < (j : Int) := by omega
      have hfin : Hid (Below w.heap.size w wr ∧ wr.heap[g]? = some (.cells (ixC (thr l ix)) 3 (0, 0))) := Lib.hid ⟨HB.out, by
        have h := HR.out
        rw [Nat.sub_self, List.take_of_length_le (by rw [thr_len, hl.out]; exact Nat.le_refl _)] at h
        simpa [zn] using h⟩
      go_wp2_with fail
      go_ret
      exact ⟨hfin.out.1, by rw [HG.out]; rfl, by rw [← HG.out]; exact hfin.out.2⟩
end Go.Proofs.YtigidchicloleaaGreatDoor.Arr
