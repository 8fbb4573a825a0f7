/- The law ArrayTouches. -/
import Derived.Test.YtigidchicloleaaGreatDoorJM
import Derived.Test.YtigidchicloleaaGreatDoorJK
import Derived.Test.YtigidchicloleaaGreatDoorHH
set_option maxHeartbeats 8000000
set_option maxRecDepth 100000
namespace Go.Proofs.YtigidchicloleaaGreatDoor.Arr
open Go.RowKit Go.Shelf
open Go.Lib
attribute [local go_sem] Oper.semAt_some
theorem filter_at {α : Type} {l : List α} {M : α → Bool} {i : Nat} (hi : i < l.length) (hM : M l[i] = true) : ((l.take i).filter M).length < (l.filter M).length ∧ (l.filter M)[((l.take i).filter M).length]? = some l[i] ∧ ((l.take (i + 1)).filter M).length = ((l.take i).filter M).length + 1 := by
  have e : l = l.take i ++ l[i] :: l.drop (i + 1) := by
    rw [← List.drop_eq_getElem_cons hi, List.take_append_drop]
  have e2 : l.filter M = (l.take i).filter M ++ l[i] :: (l.drop (i + 1)).filter M := by
    conv => lhs; rw [e]
    rw [List.filter_append, List.filter_cons_of_pos hM]
  refine ⟨by rw [e2, List.length_append, List.length_cons]; omega, by rw [e2, List.getElem?_append_right (Nat.le_refl _), Nat.sub_self]; rfl, ?_⟩
  rw [List.take_succ_eq_append_getElem hi, List.filter_append, List.length_append, List.filter_cons_of_pos hM]
  rfl
theorem filter_not {α : Type} {l : List α} {M : α → Bool} {i : Nat} (hi : i < l.length) (hM : M l[i] = false) : ((l.take (i + 1)).filter M).length = ((l.take i).filter M).length := by
  rw [List.take_succ_eq_append_getElem hi, List.filter_append, List.length_append, List.filter_cons_of_neg (by rw [hM]; simp)]
  rfl
theorem tou_bad {s z : List Int} {cuts : List (Int × Int × Int)} (h : (touR s z cuts).1 ≠ 0) : (touR s z cuts).2 = [] := by
  unfold touR at h ⊢
  by_cases h1 : chkV s z ≠ 0
  · rw [if_pos h1]
  · rw [if_neg h1] at h ⊢
    by_cases h2 : slabOk (s.map Int.toNat) cuts = false
    · rw [if_pos h2]
    · rw [if_neg h2] at h; exact absurd rfl h
theorem tou_good {s z : List Int} {cuts : List (Int × Int × Int)} (h : (touR s z cuts).1 = 0) : ∃ s0 z0 : List Nat, s = s0.map Int.ofNat ∧ z = z0.map Int.ofNat ∧ Shp s0 ∧ z0.length = s0.length ∧ (∀ x ∈ z0, 1 ≤ x ∧ x ≤ 1024) ∧ slabOk s0 cuts = true ∧ (touR s z cuts).2 = (chunksL s0 z0).filter (meetsT s0 z0 cuts) ∧ chunksR s z = (0, chunksL s0 z0) := by
  unfold touR at h ⊢
  by_cases h1 : chkV s z ≠ 0
  · rw [if_pos h1] at h; exact absurd h h1
  · rw [if_neg h1] at h ⊢
    have h3 := Classical.not_not.1 h1
    by_cases h2 : slabOk (s.map Int.toNat) cuts = false
    · rw [if_pos h2] at h; cases h
    · rw [if_neg h2]
      obtain ⟨s0, z0, rfl, rfl, hsh, hzl, hzb⟩ := chk_zero h3
      rw [toNat_map] at h2 ⊢
      rw [toNat_map]
      refine ⟨s0, z0, rfl, rfl, hsh, hzl, hzb, by simpa using h2, touched_filter s0 z0 cuts, ?_⟩
      unfold chunksR
      rw [if_neg h1, toNat_map, toNat_map]
structure Vc (w W0 : World) (A : Nat) (p q r sq : Option Addr) (n c k d m f u g : Nat) (W : World) : Prop where
  below : Below w.heap.size w W
  more : Below W0.heap.size W0 W
  c0 : W.cell? ⟨A, 0, none⟩ = some (.slice p n c)
  c1 : W.cell? ⟨A, 1, none⟩ = some (.slice q k d)
  c2 : W.cell? ⟨A, 2, none⟩ = some (.slice r m f)
  c3 : W.cell? ⟨A, 3, none⟩ = some (.slice sq u g)
theorem touches_law (p q r sq : Option Addr) (c d f g n k m u : Nat) (s z ix0 : List Int) (cuts : List (Int × Int × Int)) (w : World) (he : Env w) (hs : Hid (s.length = n)) (hk : Hid (z.length = k)) (_hm : Hid (ix0.length = m)) (hu : Hid (cuts.length = u)) (hp : Rd w p s) (hq : Rd w q z) (_hr : Rd w r ix0) (hsq : RdC w sq cuts) :
    Calls Tryz.prog 8 #[.agg #[.slice p n c, .slice q k d, .slice r m f, .slice sq u g]] w fun e w' => Below w.heap.size w w' ∧ e = .returned (.bool true) := by
  have HP := Lib.hid hp
  have HQ := Lib.hid hq
  have HSQ := Lib.hid hsq
  have HE := Lib.hid he
  clear hp hq hsq he
  obtain ⟨A, HA⟩ : ∃ A, Hid (A = w.heap.size) := ⟨_, Lib.hid rfl⟩
  obtain ⟨W0, HW0⟩ : ∃ W0, Hid (w.alloc (.cells #[.slice p n c, .slice q k d, .slice r m f, .slice sq u g] 45) = W0) := ⟨_, Lib.hid rfl⟩
  have HB0 : Hid (Below w.heap.size w W0) := Lib.hid (by rw [← HW0.out]; exact (Below.refl _ w).alloc (Nat.le_refl _) _)
  have HX0 : Hid (W0.heap[A]? = some (.cells #[.slice p n c, .slice q k d, .slice r m f, .slice sq u g] 45 (0, 0))) := Lib.hid (by rw [← HW0.out, HA.out]; exact World.alloc_heap_new w _)
  have HBX : Hid (∀ W, Below W0.heap.size W0 W → Vc w W0 A p q r sq n c k d m f u g W) := Lib.hid (fun W hW => by
    have h0 := (hW.block A (Array.getElem?_eq_some_iff.1 HX0.out).1).trans HX0.out
    exact ⟨HB0.out.trans (hW.mono HB0.out.size), hW, by simp [World.cell?, h0], by simp [World.cell?, h0], by simp [World.cell?, h0], by simp [World.cell?, h0]⟩)
  have HSANE : Hid (∀ W, Below W0.heap.size W0 W → Calls Tryz.prog 14 #[] W fun e w' => Below W.heap.size W w' ∧ e = .returned (.bool true)) := Lib.hid (fun W hW => sane_any W (HE.out.below (HBX.out W hW).below))
  obtain ⟨b, HBG⟩ : ∃ b, Hid (b = bigT s) := ⟨_, Lib.hid rfl⟩
  have H12 : Hid (Calls Tryz.prog 13 #[.slice p n c] W0 fun e w' => W0 = w' ∧ e = .returned (.bool b)) := Lib.hid (by rw [HBG.out]; exact big_any p c n s W0 hs (HP.out.below HB0.out))
  have HR0 := Lib.hid (Below.refl W0.heap.size W0)
  by_cases hb : b = true
  · subst hb
    obtain ⟨-, -, b0, b1, b2, b3⟩ := HBX.out W0 HR0.out
    go_enter Tryz.func8, Tryz.ntmps8
    go_wp2_with fail
    rw [HW0.out, ← HA.out]
    go_wp2_with fail
    refine (H12.out).mono ?_
    rintro e w1 ⟨rfl, rfl⟩
    go_wp2_with fail
    refine (HSANE.out _ HR0.out).mono ?_
    rintro e w9 ⟨hb9, rfl⟩
    have HB9 := Lib.hid (HBX.out w9 (HR0.out.trans (hb9.mono HR0.out.size))).below
    clear hb9
    go_wp2_with fail
    go_ret
    exact ⟨HB9.out, rfl⟩
  obtain rfl : b = false := by simpa using hb
  by_cases hk10 : 10 < k
  · have ik : (10 : Int) < (k : Int) := by omega
    obtain ⟨-, -, b0, b1, b2, b3⟩ := HBX.out W0 HR0.out
    go_enter Tryz.func8, Tryz.ntmps8
    go_wp2_with fail
    rw [HW0.out, ← HA.out]
    go_wp2_with fail
    refine (H12.out).mono ?_
    rintro e w1 ⟨rfl, rfl⟩
    go_wp2_with fail
    refine (HSANE.out _ HR0.out).mono ?_
    rintro e w9 ⟨hb9, rfl⟩
    have HB9 := Lib.hid (HBX.out w9 (HR0.out.trans (hb9.mono HR0.out.size))).below
    clear hb9
    go_wp2_with fail
    go_ret
    exact ⟨HB9.out, rfl⟩
  have ik : ¬ (10 : Int) < (k : Int) := by omega
  by_cases hu10 : 10 < u
  · have iu : (10 : Int) < (u : Int) := by omega
    obtain ⟨-, -, b0, b1, b2, b3⟩ := HBX.out W0 HR0.out
    go_enter Tryz.func8, Tryz.ntmps8
    go_wp2_with fail
    rw [HW0.out, ← HA.out]
    go_wp2_with fail
    refine (H12.out).mono ?_
    rintro e w1 ⟨rfl, rfl⟩
    go_wp2_with fail
    refine (HSANE.out _ HR0.out).mono ?_
    rintro e w9 ⟨hb9, rfl⟩
    have HB9 := Lib.hid (HBX.out w9 (HR0.out.trans (hb9.mono HR0.out.size))).below
    clear hb9
    go_wp2_with fail
    go_ret
    exact ⟨HB9.out, rfl⟩
  have iu : ¬ (10 : Int) < (u : Int) := by omega
  obtain ⟨zT, HZT⟩ : ∃ x, Hid (x = (touR s z cuts).1) := ⟨_, Lib.hid rfl⟩
  obtain ⟨LT, HLT⟩ : ∃ x, Hid (x = (touR s z cuts).2) := ⟨_, Lib.hid rfl⟩
  obtain ⟨zC, HZC⟩ : ∃ x, Hid (x = (chunksR s z).1) := ⟨_, Lib.hid rfl⟩
  obtain ⟨LC, HLC⟩ : ∃ x, Hid (x = (chunksR s z).2) := ⟨_, Lib.hid rfl⟩
  have H33 : Hid (∀ W, Below W0.heap.size W0 W → Calls Tryz.prog 34 #[.slice p n c, .slice q k d, .slice sq u g] W (LstPost W zT LT)) := Lib.hid (fun W hW => by
    have h := (HBX.out W hW).below
    rw [HZT.out, HLT.out]; exact touched_any p q sq c d g n k u s z cuts W hs hk hu (HP.out.below h) (HQ.out.below h) (HSQ.out.below h))
  have H29 : Hid (∀ W, Below W0.heap.size W0 W → Calls Tryz.prog 30 #[.slice p n c, .slice q k d] W (LstPost W zC LC)) := Lib.hid (fun W hW => by
    have h := (HBX.out W hW).below
    rw [HZC.out, HLC.out]; exact chunks_any p q c d n k s z W hs hk (HP.out.below h) (HQ.out.below h))
  obtain ⟨-, -, b0, b1, b2, b3⟩ := HBX.out W0 HR0.out
  go_enter Tryz.func8, Tryz.ntmps8
  go_wp2_with fail
  rw [HW0.out, ← HA.out]
  go_wp2_with fail
  refine (H12.out).mono ?_
  rintro e w1 ⟨rfl, rfl⟩
  go_wp2_with fail
  refine (H33.out _ HR0.out).mono ?_
  rintro e v1 ⟨hb1, qT, nT, cT, rfl, hnT, hrT⟩
  have HBv1 := Lib.hid hb1
  have HNT := Lib.hid hnT
  have HRT := Lib.hid hrT
  clear hb1 hnT hrT b0 b1 b2 b3
  obtain ⟨-, -, b0, b1, b2, b3⟩ := HBX.out v1 HBv1.out
  go_wp2_with fail
  refine (H29.out _ HBv1.out).mono ?_
  rintro e v2 ⟨hb1, qC, nC, cC, rfl, hnC, hrC⟩
  have HB12 := Lib.hid hb1
  have HBv2 : Hid (Below W0.heap.size W0 v2) := Lib.hid (HBv1.out.trans (hb1.mono HBv1.out.size))
  have HNC := Lib.hid hnC
  have HRC := Lib.hid hrC
  clear hb1 hnC hrC b0 b1 b2 b3
  by_cases hz : zT = 0
  case neg =>
    have hzb : (zT != 0) = true := by rw [bne_iff_ne]; exact hz
    obtain rfl : nT = 0 := by
      rw [← HNT.out, HLT.out, tou_bad (by rw [← HZT.out]; exact hz)]; rfl
    go_wp2_with fail
    refine (HSANE.out _ HBv2.out).mono ?_
    rintro e w9 ⟨hb9, rfl⟩
    have HB9 := Lib.hid (HBX.out w9 (HBv2.out.trans (hb9.mono HBv2.out.size))).below
    clear hb9
    go_wp2_with fail
    go_ret
    exact ⟨HB9.out, rfl⟩
  subst hz
  obtain ⟨s0, z0, rfl, rfl, hsh, hzl, hzb, hsl, hlt, hch⟩ := tou_good HZT.out.symm
  obtain rfl : zC = 0 := by rw [HZC.out, hch]
  have HSH := Lib.hid hsh
  have HZL := Lib.hid hzl
  have HZB := Lib.hid hzb
  have HSL := Lib.hid hsl
  have HSN : Hid (s0.length = n) := Lib.hid (by rw [← hs.out, List.length_map])
  have HUN : Hid (u = n) := Lib.hid (by
    unfold slabOk at hsl
    rw [Bool.and_eq_true, decide_eq_true_eq] at hsl
    rw [← hu.out, hsl.1, HSN.out])
  obtain ⟨C, HC⟩ : ∃ C, Hid (C = nums s0 z0) := ⟨_, Lib.hid rfl⟩
  obtain ⟨M, HM⟩ : ∃ M, Hid (M = meetsT s0 z0 cuts) := ⟨_, Lib.hid rfl⟩
  have HLCE : Hid (LC = (List.range (prod C)).map (ixOf C)) := Lib.hid (by rw [HLC.out, hch, HC.out]; rfl)
  have HLTE : Hid (LT = LC.filter M) := Lib.hid (by rw [HLT.out, hlt, HLC.out, hch, HM.out])
  have HNCN : Hid (nC = prod C) := Lib.hid (by rw [← HNC.out, HLCE.out, List.length_map, List.length_range])
  have HN4 : Hid (nC ≤ 4096) := Lib.hid (by rw [HNCN.out, HC.out]; exact (nums_shp hsh hzl hzb).2.2)
  have iN : (nC : Int) ≤ 4096 := by have := HN4.out; omega
  have HNTC : Hid (nT ≤ nC) := Lib.hid (by rw [← HNT.out, ← HNC.out, HLTE.out]; exact List.length_filter_le _ _)
  have iT : (nT : Int) ≤ 4096 := by have := HN4.out; have := HNTC.out; omega
  obtain rfl : u = n := HUN.out
  clear hsh hzl hzb hsl hlt hch
  obtain ⟨-, -, b0, b1, b2, b3⟩ := HBX.out v2 HBv2.out
  have HRv2 := Lib.hid (Below.refl v2.heap.size v2)
  go_wp2_with fail
  clear b0 b1 b2 b3
  go_loopw [7, 8] (fun kv iv wr => ∃ i kk : Nat, i ≤ nC ∧ iv = .int .i64 i ∧ kv = .int .i64 kk ∧ Hid (kk = ((LC.take i).filter M).length) ∧ Hid (Below v2.heap.size v2 wr)) (fun _ iv _ => nC - (Go.RowKit.intOf iv).toNat)
  case atStart => exact ⟨0, 0, Nat.zero_le _, rfl, rfl, Lib.hid rfl, HRv2⟩
  case round =>
    obtain ⟨i, kk, hi, rfl, rfl, HKK, HBR⟩ := hrel
    have ii : (i : Int) ≤ (nC : Int) := by omega
    have HBWr : Hid (Below W0.heap.size W0 wr) := Lib.hid (HBv2.out.trans (HBR.out.mono HBv2.out.size))
    by_cases hlt : i < nC
    · have ilt : (i : Int) < (nC : Int) := by omega
      have hil : i < LC.length := by rw [HNC.out]; exact hlt
      have HB2r : Hid (Below v2.heap.size v2 wr) := HBR
      obtain ⟨bl, ol, pi, ci, eL, hbl, hcl, hrl⟩ := (HRC.out.below HB2r.out).at hil
      subst eL
      obtain ⟨ix, HIX⟩ : ∃ ix, Hid (ix = ixOf C i) := ⟨_, Lib.hid rfl⟩
      have eLL : LC.getD i [] = ix := by rw [HLCE.out, HIX.out, List.getD_eq_getElem?_getD, List.getElem?_map, List.getElem?_range (by rw [← HNCN.out]; exact hlt)]; rfl
      have HEL : Hid (LC[i] = ix) := Lib.hid (by
        rw [List.getD_eq_getElem?_getD, List.getElem?_eq_getElem hil] at eLL; exact eLL)
      rw [eLL] at hcl hrl
      have hiN : i < prod (nums s0 z0) := by rw [← HC.out, ← HNCN.out]; exact hlt
      have HIXI : Hid (IsIx (nums s0 z0) ix) := Lib.hid (by rw [HIX.out, HC.out]; exact (ixOf_is _ _ hiN).1)
      have HIXL : Hid (ix.length = u) := Lib.hid (by rw [HIXI.out.1, nums_len, HSN.out])
      rw [HIXL.out] at hcl
      have HRI := Lib.hid hrl
      obtain ⟨bx, HBOX⟩ : ∃ bx, Hid (bx = boxL s0 z0 ix) := ⟨_, Lib.hid rfl⟩
      have HBL : Hid (bx.length = u) := Lib.hid (by rw [HBOX.out, boxL_len, HSN.out])
      have ebox : boxR (s0.map Int.ofNat) (z0.map Int.ofNat) (ix.map Int.ofNat) = (0, bx) := by
        unfold boxR
        rw [if_neg (by rw [chk_of HSH.out HZL.out HZB.out]; simp), toNat_map, toNat_map, toNat_map, if_neg (by rw [ixOk_of HIXI.out]; simp), HBOX.out]
      have HSS : Hid (∀ X, Below wr.heap.size wr X → X.cell? ⟨A, 0, none⟩ = some (.slice p u c) ∧ X.cell? ⟨A, 1, none⟩ = some (.slice q k d) ∧ X.cell? ⟨bl, ol + i, none⟩ = some (.slice pi u ci)) := Lib.hid (fun X hX =>
        ⟨(HBX.out X (HBWr.out.trans (hX.mono HBWr.out.size))).c0, (HBX.out X (HBWr.out.trans (hX.mono HBWr.out.size))).c1, (hX.cell (p := ⟨bl, ol + i, none⟩) hbl).trans hcl⟩)
      have HBD : Hid (Below wr.heap.size wr wr.drew) := Lib.hid ⟨rfl, rfl, rfl, Nat.le_refl _, fun _ _ => rfl⟩
      have H31 : Hid (Calls Tryz.prog 32 #[.slice p u c, .slice q k d, .slice pi u ci] wr.drew (CutsPost wr.drew 0 bx)) := Lib.hid (by
        have h := (HBX.out _ (HBWr.out.trans (HBD.out.mono HBWr.out.size))).below
        have := box_all p q pi c d ci u k u (s0.map Int.ofNat) (z0.map Int.ofNat) (ix.map Int.ofNat) wr.drew hs hk (Lib.hid (by rw [List.length_map, HIXL.out])) (HP.out.below h) (HQ.out.below h) (RdN.below HRI.out HBD.out)
        rw [ebox] at this
        exact this)
      clear hcl hrl hbl eLL ebox hiN
      go_wp2_with fail
      refine wp_region_noPanic ?_
      refine wp_region_held_drew (S := fun W => W.cell? ⟨A, 0, none⟩ = some (.slice p u c) ∧ W.cell? ⟨A, 1, none⟩ = some (.slice q k d) ∧ W.cell? ⟨bl, ol + i, none⟩ = some (.slice pi u ci)) (by kernel_rfl) (HSS.out _ HBD.out) (fun hHeld => ?_)
      refine wpAnyH_take (i := 0) (v := ?v1) rfl (by kernel_rfl) (by kernel_rfl) (by kernel_rfl) (fun _ _ _ h => h) (Or.inl ⟨by rfl, ?hy1⟩) (by assumption) ?rest1
      case hy1 =>
        intro W' hSw
        obtain ⟨e0, e1, e2⟩ := hSw
        go_simp
        with_reducible rfl
      simp only [List.getElem_toArray, List.getElem_cons_zero, Act.put, List.setIfInBounds_toArray, List.set_cons_zero, List.set_cons_succ]
      refine wpAnyH_take (i := 1) (v := ?v2) rfl (by kernel_rfl) (by kernel_rfl) (by kernel_rfl) (fun _ _ _ h => h) (Or.inl ⟨by rfl, ?hy2⟩) (by assumption) ?rest2
      case hy2 =>
        intro W' hSw
        obtain ⟨e0, e1, e2⟩ := hSw
        go_simp
        with_reducible rfl
      simp only [List.getElem_toArray, List.getElem_cons_zero, List.getElem_cons_succ, Act.put, List.setIfInBounds_toArray, List.set_cons_zero, List.set_cons_succ]
      refine wpAnyH_take (i := 2) (v := ?v3) rfl (by kernel_rfl) (by kernel_rfl) (by kernel_rfl) (fun _ _ _ h => h) (Or.inl ⟨by rfl, ?hy3⟩) (by assumption) ?rest3
      case hy3 =>
        intro W' hSw
        obtain ⟨e0, e1, e2⟩ := hSw
        go_simp
        with_reducible rfl
      simp only [List.getElem_toArray, List.getElem_cons_zero, List.getElem_cons_succ, Act.put, List.setIfInBounds_toArray, List.set_cons_zero, List.set_cons_succ]
      refine wpAnyH_take (i := 3) (v := ?v4) rfl (by kernel_rfl) (by kernel_rfl) (by kernel_rfl) (fun _ _ _ h => h) (Or.inl ⟨by rfl, ?hy4⟩) (by assumption) ?rest4
      case hy4 =>
        intro W' hSw
        obtain ⟨e0, e1, e2⟩ := hSw
        go_simp
        with_reducible rfl
      simp only [List.getElem_toArray, List.getElem_cons_zero, List.getElem_cons_succ, Act.put, List.setIfInBounds_toArray, List.set_cons_zero, List.set_cons_succ]
      refine wpAnyH_take (i := 4) (v := ?v5) rfl (by kernel_rfl) (by kernel_rfl) (by kernel_rfl) (fun _ _ _ h => h) (Or.inl ⟨by rfl, ?hy5⟩) (by assumption) ?rest5
      case hy5 =>
        intro W' hSw
        obtain ⟨e0, e1, e2⟩ := hSw
        go_simp
        with_reducible rfl
      simp only [List.getElem_toArray, List.getElem_cons_zero, List.getElem_cons_succ, Act.put, List.setIfInBounds_toArray, List.set_cons_zero, List.set_cons_succ]
      refine wpAnyH_take (i := 5) (v := ?v6) rfl (by kernel_rfl) (by kernel_rfl) (by kernel_rfl) (fun _ _ _ h => h) (Or.inl ⟨by rfl, ?hy6⟩) (by assumption) ?rest6
      case hy6 =>
        intro W' hSw
        obtain ⟨e0, e1, e2⟩ := hSw
        go_simp
        with_reducible rfl
      simp only [List.getElem_toArray, List.getElem_cons_zero, List.getElem_cons_succ, Act.put, List.setIfInBounds_toArray, List.set_cons_zero, List.set_cons_succ]
      refine wpAnyH_take (i := 6) (v := ?v7) rfl (by kernel_rfl) (by kernel_rfl) (by kernel_rfl) (fun _ _ _ h => h) (Or.inl ⟨by rfl, ?hy7⟩) (by assumption) ?rest7
      case hy7 =>
        intro W' hSw
        obtain ⟨e0, e1, e2⟩ := hSw
        go_simp
        with_reducible rfl
      simp only [List.getElem_toArray, List.getElem_cons_zero, List.getElem_cons_succ, Act.put, List.setIfInBounds_toArray, List.set_cons_zero, List.set_cons_succ]
      refine wpAnyH_take (i := 7) (v := ?v8) rfl (by kernel_rfl) (by kernel_rfl) (by kernel_rfl) (fun _ _ _ h => h) (Or.inl ⟨by rfl, ?hy8⟩) (by assumption) ?rest8
      case hy8 =>
        intro W' hSw
        obtain ⟨e0, e1, e2⟩ := hSw
        go_simp
        with_reducible rfl
      simp only [List.getElem_toArray, List.getElem_cons_zero, List.getElem_cons_succ, Act.put, List.setIfInBounds_toArray, List.set_cons_zero, List.set_cons_succ]
      refine wpAnyH_ready (rs := [8]) (by kernel_rfl) (by simp) ?_
      refine AllReadyH.cons (i := 8) rfl (fun K hK => ?_) AllReadyH.nil
      go_simp
      refine (H31.out).mono ?_
      rintro e y1 ⟨hb1, qc, nc, cc, rfl, hnc, hrc⟩
      have HBy1 : Hid (Below wr.heap.size wr y1) := Lib.hid (HBD.out.trans (hb1.mono HBD.out.size))
      have HNC2 := Lib.hid hnc
      have HRC2 := Lib.hid hrc
      clear hb1 hnc hrc
      refine hK.out _ _ (HSS.out _ HBy1.out) (fun hHeld => ?_)
      clear hK K
      refine wpAnyH_take (i := 9) (v := ?v9) rfl (by kernel_rfl) (by kernel_rfl) (by kernel_rfl) (fun _ _ _ h => h) (Or.inl ⟨by rfl, ?hy9⟩) (by assumption) ?rest9
      case hy9 =>
        intro W' hSw
        obtain ⟨e0, e1, e2⟩ := hSw
        go_simp
        with_reducible rfl
      simp only [List.getElem_toArray, List.getElem_cons_zero, List.getElem_cons_succ, Act.put, List.setIfInBounds_toArray, List.set_cons_zero, List.set_cons_succ]
      refine wpAnyH_take (i := 10) (v := ?v10) rfl (by kernel_rfl) (by kernel_rfl) (by kernel_rfl) (fun _ _ _ h => h) (Or.inl ⟨by rfl, ?hy10⟩) (by assumption) ?rest10
      case hy10 =>
        intro W' hSw
        obtain ⟨e0, e1, e2⟩ := hSw
        go_simp
        with_reducible rfl
      simp only [List.getElem_toArray, List.getElem_cons_zero, List.getElem_cons_succ, Act.put, List.setIfInBounds_toArray, List.set_cons_zero, List.set_cons_succ]
      refine wpAnyH_take (i := 11) (v := ?v11) rfl (by kernel_rfl) (by kernel_rfl) (by kernel_rfl) (fun _ _ _ h => h) (Or.inl ⟨by rfl, ?hy11⟩) (by assumption) ?rest11
      case hy11 =>
        intro W' hSw
        obtain ⟨e0, e1, e2⟩ := hSw
        go_simp
        with_reducible rfl
      simp only [List.getElem_toArray, List.getElem_cons_zero, List.getElem_cons_succ, Act.put, List.setIfInBounds_toArray, List.set_cons_zero, List.set_cons_succ]
      refine wpAnyH_take (i := 12) (v := ?v12) rfl (by kernel_rfl) (by kernel_rfl) (by kernel_rfl) (fun _ _ _ h => h) (Or.inl ⟨by rfl, ?hy12⟩) (by assumption) ?rest12
      case hy12 =>
        intro W' hSw
        obtain ⟨e0, e1, e2⟩ := hSw
        go_simp
        with_reducible rfl
      simp only [List.getElem_toArray, List.getElem_cons_zero, List.getElem_cons_succ, Act.put, List.setIfInBounds_toArray, List.set_cons_zero, List.set_cons_succ]
      refine wpAnyH_take (i := 13) (v := ?v13) rfl (by kernel_rfl) (by kernel_rfl) (by kernel_rfl) (fun _ _ _ h => h) (Or.inl ⟨by rfl, ?hy13⟩) (by assumption) ?rest13
      case hy13 =>
        intro W' hSw
        obtain ⟨e0, e1, e2⟩ := hSw
        go_simp
        with_reducible rfl
      simp only [List.getElem_toArray, List.getElem_cons_zero, List.getElem_cons_succ, Act.put, List.setIfInBounds_toArray, List.set_cons_zero, List.set_cons_succ]
      refine wpAnyH_done (by kernel_rfl) ?_ _
      refine NoPanic.normal ?_
      clear hHeld
      obtain rfl : nc = u := by rw [← HNC2.out, HBL.out]
      have HBWy1 : Hid (Below W0.heap.size W0 y1) := Lib.hid (HBWr.out.trans (HBy1.out.mono HBWr.out.size))
      have H38 : Hid (Calls Tryz.prog 39 #[.slice qc nc cc, .slice sq nc g] y1 fun e w' => (∃ k, y1.drewN k = w') ∧ e = .returned (.bool (M ix))) := Lib.hid (by
        have h := (HBX.out _ HBWy1.out).below
        have h2 := HRC2.out
        rw [HBOX.out] at h2
        rw [HM.out]
        exact meets_any qc sq cc g nc s0 z0 ix cuts y1 (by rw [← HSN.out]; exact HSH.out.1) HSN (Lib.hid HSH.out.2.1) HZL HZB HIXI HSL h2 (HSQ.out.below h))
      obtain ⟨-, -, b0, b1, b2, b3⟩ := HBX.out y1 HBWy1.out
      have hnn : ((nc : Int) != (nc : Int)) = false := by simp
      obtain ⟨mm, HMM⟩ : ∃ mm, Hid (mm = M ix) := ⟨_, Lib.hid rfl⟩
      rw [← HMM.out] at H38
      go_wp2_with fail
      refine (H38.out).mono ?_
      rintro e y2' ⟨⟨q2, rfl⟩, rfl⟩
      have HBy2 : Hid (Below wr.heap.size wr (y1.drewN q2)) := Lib.hid (HBy1.out.trans ⟨rfl, rfl, rfl, Nat.le_refl _, fun _ _ => rfl⟩)
      obtain ⟨y2, HY2⟩ : ∃ y2, Hid (y1.drewN q2 = y2) := ⟨_, Lib.hid rfl⟩
      rw [HY2.out] at HBy2 ⊢
      have HBR2 : Hid (Below v2.heap.size v2 y2) := Lib.hid (HBR.out.trans (HBy2.out.mono HBR.out.size))
      clear b0 b1 b2 b3
      cases mm with
      | false =>
        have HK2 : Hid (kk = ((LC.take (i + 1)).filter M).length) := Lib.hid (by rw [filter_not hil (by rw [HEL.out]; exact HMM.out.symm)]; exact HKK.out)
        clear HEL hil
        go_wp2_with fail
        go_roundw
        case rel => exact ⟨i + 1, kk, by omega, by go_num, rfl, HK2, HBR2⟩
        case measure => simp [Go.RowKit.intOf]; omega
      | true =>
        obtain ⟨hf1, hf2, hf3⟩ := filter_at hil (show M LC[i] = true by rw [HEL.out]; exact HMM.out.symm)
        rw [← HKK.out, ← HLTE.out] at hf1 hf2
        rw [← HKK.out] at hf3
        have HK3 : Hid (kk + 1 = ((LC.take (i + 1)).filter M).length) := Lib.hid hf3.symm
        have hkT : kk < nT := by rw [← HNT.out]; exact hf1
        have hkT2 : ¬ nT ≤ kk := by omega
        have ikT : (kk : Int) < (nT : Int) := by omega
        have ikk : (kk : Int) ≤ 4096 := by omega
        obtain ⟨bT, oT, pk, ck, eT, hbT, hcT, hrT⟩ := ((HRT.out.below HB12.out).below HBR.out).at (k := kk) hf1
        subst eT
        have eTT : LT.getD kk [] = ix := by rw [List.getD_eq_getElem?_getD, hf2, HEL.out]; rfl
        rw [eTT] at hcT hrT
        rw [HIXL.out] at hcT
        have hwl : Below wr.heap.size wr wr := Below.refl _ _
        have HS2 : Hid (∀ X, Below y2.heap.size y2 X → X.cell? ⟨bT, oT + kk, none⟩ = some (.slice pk nc ck) ∧ X.cell? ⟨bl, ol + i, none⟩ = some (.slice pi nc ci)) := Lib.hid (fun X hX => by
          have hwX : Below wr.heap.size wr X := HBy2.out.trans (hX.mono HBy2.out.size)
          exact ⟨(hwX.cell (p := ⟨bT, oT + kk, none⟩) hbT).trans hcT, (HSS.out X hwX).2.2⟩)
        have HBD2 : Hid (Below y2.heap.size y2 y2.drew) := Lib.hid ⟨rfl, rfl, rfl, Nat.le_refl _, fun _ _ => rfl⟩
        have H39 : Hid (Calls Tryz.prog 40 #[.slice pk nc ck, .slice pi nc ci] y2.drew fun e w' => (∃ k, y2.drew.drewN k = w') ∧ e = .returned (.bool true)) := Lib.hid (by
          have hwd : Below wr.heap.size wr y2.drew := HBy2.out.trans (HBD2.out.mono HBy2.out.size)
          have := same39_any pk pi ck ci nc nc (ix.map Int.ofNat) (ix.map Int.ofNat) y2.drew (Lib.hid (by rw [List.length_map, HIXL.out])) (Lib.hid (by rw [List.length_map, HIXL.out])) (by have := HSH.out.1; rw [HSN.out] at this; omega) (RdN.below hrT hwd) (RdN.below HRI.out hwd)
          rwa [decide_eq_true rfl] at this)
        clear HEL hf1 hf2 hf3 hbT hcT hrT eTT hwl hil
        go_wp2_with fail
        refine wp_region_noPanic ?_
        refine wp_region_held_drew (S := fun W => W.cell? ⟨bT, oT + kk, none⟩ = some (.slice pk nc ck) ∧ W.cell? ⟨bl, ol + i, none⟩ = some (.slice pi nc ci)) (by kernel_rfl) (HS2.out _ HBD2.out) (fun hHeld => ?_)
        refine wpAnyH_take (i := 0) (v := ?v14) rfl (by kernel_rfl) (by kernel_rfl) (by kernel_rfl) (fun _ _ _ h => h) (Or.inl ⟨by rfl, ?hy14⟩) (by assumption) ?rest14
        case hy14 =>
          intro W' hSw
          obtain ⟨e0, e1⟩ := hSw
          go_simp
          with_reducible rfl
        simp only [List.getElem_toArray, List.getElem_cons_zero, Act.put, List.setIfInBounds_toArray, List.set_cons_zero, List.set_cons_succ]
        refine wpAnyH_take (i := 1) (v := ?v15) rfl (by kernel_rfl) (by kernel_rfl) (by kernel_rfl) (fun _ _ _ h => h) (Or.inl ⟨by rfl, ?hy15⟩) (by assumption) ?rest15
        case hy15 =>
          intro W' hSw
          obtain ⟨e0, e1⟩ := hSw
          go_simp
          with_reducible rfl
        simp only [List.getElem_toArray, List.getElem_cons_zero, List.getElem_cons_succ, Act.put, List.setIfInBounds_toArray, List.set_cons_zero, List.set_cons_succ]
        refine wpAnyH_take (i := 2) (v := ?v16) rfl (by kernel_rfl) (by kernel_rfl) (by kernel_rfl) (fun _ _ _ h => h) (Or.inl ⟨by rfl, ?hy16⟩) (by assumption) ?rest16
        case hy16 =>
          intro W' hSw
          obtain ⟨e0, e1⟩ := hSw
          go_simp
          with_reducible rfl
        simp only [List.getElem_toArray, List.getElem_cons_zero, List.getElem_cons_succ, Act.put, List.setIfInBounds_toArray, List.set_cons_zero, List.set_cons_succ]
        refine wpAnyH_take (i := 3) (v := ?v17) rfl (by kernel_rfl) (by kernel_rfl) (by kernel_rfl) (fun _ _ _ h => h) (Or.inl ⟨by rfl, ?hy17⟩) (by assumption) ?rest17
        case hy17 =>
          intro W' hSw
          obtain ⟨e0, e1⟩ := hSw
          go_simp
          with_reducible rfl
        simp only [List.getElem_toArray, List.getElem_cons_zero, List.getElem_cons_succ, Act.put, List.setIfInBounds_toArray, List.set_cons_zero, List.set_cons_succ]
        refine wpAnyH_take (i := 4) (v := ?v18) rfl (by kernel_rfl) (by kernel_rfl) (by kernel_rfl) (fun _ _ _ h => h) (Or.inl ⟨by rfl, ?hy18⟩) (by assumption) ?rest18
        case hy18 =>
          intro W' hSw
          obtain ⟨e0, e1⟩ := hSw
          go_simp
          with_reducible rfl
        simp only [List.getElem_toArray, List.getElem_cons_zero, List.getElem_cons_succ, Act.put, List.setIfInBounds_toArray, List.set_cons_zero, List.set_cons_succ]
        refine wpAnyH_take (i := 5) (v := ?v19) rfl (by kernel_rfl) (by kernel_rfl) (by kernel_rfl) (fun _ _ _ h => h) (Or.inl ⟨by rfl, ?hy19⟩) (by assumption) ?rest19
        case hy19 =>
          intro W' hSw
          obtain ⟨e0, e1⟩ := hSw
          go_simp
          with_reducible rfl
        simp only [List.getElem_toArray, List.getElem_cons_zero, List.getElem_cons_succ, Act.put, List.setIfInBounds_toArray, List.set_cons_zero, List.set_cons_succ]
        refine wpAnyH_take (i := 6) (v := ?v20) rfl (by kernel_rfl) (by kernel_rfl) (by kernel_rfl) (fun _ _ _ h => h) (Or.inl ⟨by rfl, ?hy20⟩) (by assumption) ?rest20
        case hy20 =>
          intro W' hSw
          obtain ⟨e0, e1⟩ := hSw
          go_simp
          with_reducible rfl
        simp only [List.getElem_toArray, List.getElem_cons_zero, List.getElem_cons_succ, Act.put, List.setIfInBounds_toArray, List.set_cons_zero, List.set_cons_succ]
        refine wpAnyH_take (i := 7) (v := ?v21) rfl (by kernel_rfl) (by kernel_rfl) (by kernel_rfl) (fun _ _ _ h => h) (Or.inl ⟨by rfl, ?hy21⟩) (by assumption) ?rest21
        case hy21 =>
          intro W' hSw
          obtain ⟨e0, e1⟩ := hSw
          go_simp
          with_reducible rfl
        simp only [List.getElem_toArray, List.getElem_cons_zero, List.getElem_cons_succ, Act.put, List.setIfInBounds_toArray, List.set_cons_zero, List.set_cons_succ]
        refine wpAnyH_take (i := 8) (v := ?v22) rfl (by kernel_rfl) (by kernel_rfl) (by kernel_rfl) (fun _ _ _ h => h) (Or.inl ⟨by rfl, ?hy22⟩) (by assumption) ?rest22
        case hy22 =>
          intro W' hSw
          obtain ⟨e0, e1⟩ := hSw
          go_simp
          with_reducible rfl
        simp only [List.getElem_toArray, List.getElem_cons_zero, List.getElem_cons_succ, Act.put, List.setIfInBounds_toArray, List.set_cons_zero, List.set_cons_succ]
        refine wpAnyH_take (i := 9) (v := ?v23) rfl (by kernel_rfl) (by kernel_rfl) (by kernel_rfl) (fun _ _ _ h => h) (Or.inl ⟨by rfl, ?hy23⟩) (by assumption) ?rest23
        case hy23 =>
          intro W' hSw
          obtain ⟨e0, e1⟩ := hSw
          go_simp
          with_reducible rfl
        simp only [List.getElem_toArray, List.getElem_cons_zero, List.getElem_cons_succ, Act.put, List.setIfInBounds_toArray, List.set_cons_zero, List.set_cons_succ]
        refine wpAnyH_take (i := 10) (v := ?v24) rfl (by kernel_rfl) (by kernel_rfl) (by kernel_rfl) (fun _ _ _ h => h) (Or.inl ⟨by rfl, ?hy24⟩) (by assumption) ?rest24
        case hy24 =>
          intro W' hSw
          obtain ⟨e0, e1⟩ := hSw
          go_simp
          with_reducible rfl
        simp only [List.getElem_toArray, List.getElem_cons_zero, List.getElem_cons_succ, Act.put, List.setIfInBounds_toArray, List.set_cons_zero, List.set_cons_succ]
        refine wpAnyH_take (i := 11) (v := ?v25) rfl (by kernel_rfl) (by kernel_rfl) (by kernel_rfl) (fun _ _ _ h => h) (Or.inl ⟨by rfl, ?hy25⟩) (by assumption) ?rest25
        case hy25 =>
          intro W' hSw
          obtain ⟨e0, e1⟩ := hSw
          go_simp
          with_reducible rfl
        simp only [List.getElem_toArray, List.getElem_cons_zero, List.getElem_cons_succ, Act.put, List.setIfInBounds_toArray, List.set_cons_zero, List.set_cons_succ]
        refine wpAnyH_take (i := 12) (v := ?v26) rfl (by kernel_rfl) (by kernel_rfl) (by kernel_rfl) (fun _ _ _ h => h) (Or.inl ⟨by rfl, ?hy26⟩) (by assumption) ?rest26
        case hy26 =>
          intro W' hSw
          obtain ⟨e0, e1⟩ := hSw
          go_simp
          with_reducible rfl
        simp only [List.getElem_toArray, List.getElem_cons_zero, List.getElem_cons_succ, Act.put, List.setIfInBounds_toArray, List.set_cons_zero, List.set_cons_succ]
        refine wpAnyH_ready (rs := [13]) (by kernel_rfl) (by simp) ?_
        refine AllReadyH.cons (i := 13) rfl (fun K hK => ?_) AllReadyH.nil
        go_simp
        refine (H39.out).mono ?_
        rintro e y3 ⟨⟨q3, rfl⟩, rfl⟩
        have HBy3 : Hid (Below y2.heap.size y2 (y2.drew.drewN q3)) := Lib.hid ⟨rfl, rfl, rfl, Nat.le_refl _, fun _ _ => rfl⟩
        obtain ⟨y3, HY3⟩ : ∃ y3, Hid (y2.drew.drewN q3 = y3) := ⟨_, Lib.hid rfl⟩
        rw [HY3.out] at HBy3 ⊢
        refine hK.out _ _ (HS2.out _ HBy3.out) (fun hHeld => ?_)
        clear hK K
        refine wpAnyH_take (i := 14) (v := ?v27) rfl (by kernel_rfl) (by kernel_rfl) (by kernel_rfl) (fun _ _ _ h => h) (Or.inl ⟨by rfl, ?hy27⟩) (by assumption) ?rest27
        case hy27 =>
          intro W' hSw
          obtain ⟨e0, e1⟩ := hSw
          go_simp
          with_reducible rfl
        simp only [List.getElem_toArray, List.getElem_cons_zero, List.getElem_cons_succ, Act.put, List.setIfInBounds_toArray, List.set_cons_zero, List.set_cons_succ]
        refine wpAnyH_take (i := 15) (v := ?v28) rfl (by kernel_rfl) (by kernel_rfl) (by kernel_rfl) (fun _ _ _ h => h) (Or.inl ⟨by rfl, ?hy28⟩) (by assumption) ?rest28
        case hy28 =>
          intro W' hSw
          obtain ⟨e0, e1⟩ := hSw
          go_simp
          with_reducible rfl
        simp only [List.getElem_toArray, List.getElem_cons_zero, List.getElem_cons_succ, Act.put, List.setIfInBounds_toArray, List.set_cons_zero, List.set_cons_succ]
        refine wpAnyH_done (by kernel_rfl) ?_ _
        refine NoPanic.normal ?_
        clear hHeld
        have HBR3 : Hid (Below v2.heap.size v2 y3) := Lib.hid (HBR2.out.trans (HBy3.out.mono HBR2.out.size))
        go_wp2_with fail
        go_roundw
        case rel => exact ⟨i + 1, kk + 1, by omega, by go_num, by go_num, HK3, HBR3⟩
        case measure => simp [Go.RowKit.intOf]; omega
    · obtain rfl : i = nC := by omega
      have ilt : ¬ (i : Int) < (i : Int) := by omega
      obtain rfl : kk = nT := by
        rw [HKK.out, List.take_of_length_le (by rw [HNC.out]; exact Nat.le_refl _), ← HLTE.out, HNT.out]
      go_wp2_with fail
      refine (HSANE.out _ HBWr.out).mono ?_
      rintro e w9 ⟨hb9, rfl⟩
      have HB9 := Lib.hid (HBX.out w9 (HBWr.out.trans (hb9.mono HBWr.out.size))).below
      clear hb9
      go_wp2_with fail
      go_ret
      exact ⟨HB9.out, rfl⟩
end Go.Proofs.YtigidchicloleaaGreatDoor.Arr
