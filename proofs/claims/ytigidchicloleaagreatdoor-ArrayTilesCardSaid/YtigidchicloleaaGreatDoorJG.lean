/- The law ArrayTiles. -/
import Derived.Test.YtigidchicloleaaGreatDoorHJ
import Derived.Deep.Cut
set_option maxHeartbeats 2000000
set_option maxRecDepth 100000
namespace Go.Proofs.YtigidchicloleaaGreatDoor.Arr
open Go.RowKit Go.Shelf
open Go.Lib
attribute [local go_sem] Oper.semAt_some
theorem gb_old {w X W : World} {E : Nat} (h : X.grownBy W (some E)) (hb : Below w.heap.size w X) (hE : w.heap.size ≤ E) : Below w.heap.size w W :=
  ⟨h.os.trans hb.os, h.tape.trans hb.tape, h.output.trans hb.output, Nat.le_trans hb.size h.size, fun k hk => (h.block k (Nat.lt_of_lt_of_le hk hb.size) (by intro e; injection e with e; omega)).trans (hb.block k hk)⟩
theorem chk_two {s z : List Int} (hv : vs s = true) (h : chkV s z ≠ 0) : chkV s z = 2 := by
  unfold chkV at h ⊢
  rw [if_neg (by rw [hv]; simp)] at h ⊢
  by_cases hz : sized s z = false
  · rw [if_pos hz]
  · rw [if_neg hz] at h; exact absurd rfl h
theorem rdn_ne {W : World} {p : Option Addr} {l : List Nat} {E b off : Nat} {a b1 : Option Addr} {n c m d : Nat} (h : RdN W p l) (hE : W.heap[E]? = some (.cells #[.slice a n c, .slice b1 m d] 25 (0, 0))) (e : p = some ⟨b, off, none⟩) (h0 : 0 < l.length) : b ≠ E := by
  rintro rfl
  obtain ⟨b', off', x, e', -, hc, -⟩ := h.at h0
  rw [e] at e'; cases e'
  simp [World.cell?, hE] at hc
  rcases off with _ | _ | k
  · simp at hc
  · simp at hc
  · simp at hc
theorem rds_ne {W : World} {p : Option Addr} {l : List (List UInt8)} {E b off : Nat} {a b1 : Option Addr} {n c m d : Nat} (h : RdS W p l) (hE : W.heap[E]? = some (.cells #[.slice a n c, .slice b1 m d] 25 (0, 0))) (e : p = some ⟨b, off, none⟩) (h0 : 0 < l.length) : b ≠ E := by
  rintro rfl
  obtain ⟨b', off', x, e', -, hc, -⟩ := h.at h0
  rw [e] at e'; cases e'
  simp [World.cell?, hE] at hc
  rcases off with _ | _ | k
  · simp at hc
  · simp at hc
  · simp at hc
structure TI (X1 : World) (E n m : Nat) (s z : List Nat) (l : List (List UInt8)) (i : Nat) (W : World) : Prop where
  old : X1.grownBy W (some E)
  row : ∃ qo co vo od out, W.heap[E]? = some (.cells #[.slice qo n co, .slice vo m od] 25 (0, 0)) ∧ RdN W qo s ∧ RdS W vo out ∧ Tiled s z l out i
theorem tiles_law (p q r : Option Addr) (c d f n m k : Nat) (s t : List Int) (l : List (List UInt8)) (w : World) (he : Env w) (hs : Hid (s.length = n)) (hl : Hid (l.length = m)) (hk : Hid (t.length = k)) (hp : Rd w p s) (hq : RdS w q l) (hr : Rd w r t) :
    Calls Tryz.prog 7 #[.agg #[.slice p n c, .slice q m d], .slice r k f] w fun e w' => Below w.heap.size w w' ∧ e = .returned (.bool true) := by
  have HP := Lib.hid hp
  have HQ := Lib.hid hq
  have HR := Lib.hid hr
  have HE := Lib.hid he
  clear hp hq hr he
  obtain ⟨A, HA⟩ : ∃ A, Hid (A = w.heap.size) := ⟨_, Lib.hid rfl⟩
  obtain ⟨W0, HW0⟩ : ∃ W0, Hid (w.alloc (.cells #[.slice p n c, .slice q m d] 25) = W0) := ⟨_, Lib.hid rfl⟩
  have HB0 : Hid (Below w.heap.size w W0) := Lib.hid (by rw [← HW0.out]; exact (Below.refl _ w).alloc (Nat.le_refl _) _)
  have HX0 : Hid (W0.heap[A]? = some (.cells #[.slice p n c, .slice q m d] 25 (0, 0))) := Lib.hid (by rw [← HW0.out, HA.out]; exact World.alloc_heap_new w _)
  have HBX : Hid (∀ W, Below W0.heap.size W0 W → Vz w W0 A p q n c m d W) := Lib.hid (fun W hW => by
    have h0 := (hW.block A (Array.getElem?_eq_some_iff.1 HX0.out).1).trans HX0.out
    exact ⟨HB0.out.trans (hW.mono HB0.out.size), hW, by simp [World.cell?, h0], by simp [World.cell?, h0]⟩)
  have H11 := Lib.hid (wide_any p q c d n m s l W0 hs hl (HQ.out.below HB0.out))
  have HSANE : Hid (∀ W, Below W0.heap.size W0 W → Calls Tryz.prog 14 #[] W fun e w' => Below W.heap.size W w' ∧ e = .returned (.bool true)) := Lib.hid (fun W hW => sane_any W (HE.out.below (HBX.out W hW).below))
  obtain ⟨b, HWB⟩ : ∃ b, Hid (b = wideT s l) := ⟨_, Lib.hid rfl⟩
  rw [← HWB.out] at H11
  by_cases hb : b = true
  · subst hb
    obtain ⟨-, -, b0, b1⟩ := HBX.out W0 (Below.refl _ _)
    go_enter Tryz.func7, Tryz.ntmps7
    go_wp2_with fail
    rw [HW0.out, ← HA.out]
    go_wp2_with fail
    refine (H11.out).mono ?_
    rintro e w1 ⟨hb1, rfl⟩
    have HBw1 := Lib.hid hb1
    clear hb1 b0 b1
    obtain ⟨-, -, b0, b1⟩ := HBX.out w1 HBw1.out
    go_wp2_with fail
    refine (HSANE.out _ HBw1.out).mono ?_
    rintro e w9 ⟨hb9, rfl⟩
    have HB9 := Lib.hid (HBX.out w9 (HBw1.out.trans (hb9.mono HBw1.out.size))).below
    clear hb9
    go_wp2_with fail
    go_ret
    exact ⟨HB9.out, rfl⟩
  obtain rfl : b = false := by simpa using hb
  have hm : m ≤ 5000 ∧ n ≤ 1000 := by
    have h : wideT s l = false := HWB.out.symm
    unfold wideT at h
    rw [Bool.or_eq_false_iff, Bool.or_eq_false_iff, decide_eq_false_iff_not, decide_eq_false_iff_not, hl.out, hs.out] at h
    omega
  have HM := Lib.hid hm
  obtain ⟨u, HU⟩ : ∃ u, Hid (u = validA s l) := ⟨_, Lib.hid rfl⟩
  have H21 : Hid (∀ W, Below W0.heap.size W0 W → Calls Tryz.prog 22 #[.agg #[.slice p n c, .slice q m d]] W fun e w' => Below W.heap.size W w' ∧ e = .returned (.bool u)) := Lib.hid (fun W hW => by
    have h := (HBX.out W hW).below
    rw [HU.out]; exact rvalidA_any p q c d n m s l W hs hl HM.out.1 (HP.out.below h) (HQ.out.below h))
  clear hm
  by_cases hu : u = false
  · subst hu
    obtain ⟨-, -, b0, b1⟩ := HBX.out W0 (Below.refl _ _)
    go_enter Tryz.func7, Tryz.ntmps7
    go_wp2_with fail
    rw [HW0.out, ← HA.out]
    go_wp2_with fail
    refine (H11.out).mono ?_
    rintro e w1 ⟨hb1, rfl⟩
    have HBw1 := Lib.hid hb1
    clear hb1 b0 b1
    obtain ⟨-, -, b0, b1⟩ := HBX.out w1 HBw1.out
    go_wp2_with fail
    refine (H21.out _ HBw1.out).mono ?_
    rintro e w2 ⟨hb2, rfl⟩
    have HBw2 : Hid (Below W0.heap.size W0 w2) := Lib.hid (HBw1.out.trans (hb2.mono HBw1.out.size))
    clear hb2 b0 b1
    obtain ⟨-, -, b0, b1⟩ := HBX.out w2 HBw2.out
    go_wp2_with fail
    refine (HSANE.out _ HBw2.out).mono ?_
    rintro e w9 ⟨hb9, rfl⟩
    have HB9 := Lib.hid (HBX.out w9 (HBw2.out.trans (hb9.mono HBw2.out.size))).below
    clear hb9
    go_wp2_with fail
    go_ret
    exact ⟨HB9.out, rfl⟩
  obtain rfl : u = true := by simpa using hu
  have hvs : vs s = true := by have h := HU.out.symm; unfold validA at h; rw [Bool.and_eq_true] at h; exact h.1
  obtain ⟨s0, rfl, hsh⟩ := vs_yes hvs
  have HSH := Lib.hid hsh
  have HSN : Hid (s0.length = n) := Lib.hid (by rw [← hs.out, List.length_map])
  have HML : Hid (m = prod s0) := Lib.hid (by
    have h := HU.out.symm
    unfold validA at h
    rw [Bool.and_eq_true, Bool.and_eq_true, decide_eq_true_eq, toNat_map, hl.out] at h
    exact h.2.1)
  obtain ⟨zc, HZC⟩ : ∃ x, Hid (x = (chunksR (s0.map Int.ofNat) t).1) := ⟨_, Lib.hid rfl⟩
  obtain ⟨LL, HLL⟩ : ∃ x, Hid (x = (chunksR (s0.map Int.ofNat) t).2) := ⟨_, Lib.hid rfl⟩
  have H29 : Hid (∀ W, Below W0.heap.size W0 W → Calls Tryz.prog 30 #[.slice p n c, .slice r k f] W (LstPost W zc LL)) := Lib.hid (fun W hW => by
    have h := (HBX.out W hW).below
    rw [HZC.out, HLL.out]; exact chunks_any p r c f n k (s0.map Int.ofNat) t W hs hk (HP.out.below h) (HR.out.below h))
  have efill : fillV (s0.map Int.ofNat) [] = (0, s0, List.replicate (prod s0) []) := by
    unfold fillV
    rw [if_neg (by rw [hvs]; simp), if_neg (by rw [show isV [] = true from rfl]; simp), toNat_map]
  have H14 : Hid (∀ W, Below W0.heap.size W0 W → Calls Tryz.prog 15 #[.slice p n c, .string ⟨#[]⟩] W (ArrPost W 0 s0 (List.replicate (prod s0) []))) := Lib.hid (fun W hW => by
    have h := (HBX.out W hW).below
    have := fill_any p c n (s0.map Int.ofNat) [] W (HE.out.below h) hs (HP.out.below h)
    rw [efill] at this
    exact this)
  have HCZ : Hid (zc ≠ 0 → zc = 2) := Lib.hid (fun h => by
    have e : zc = chkV (s0.map Int.ofNat) t := by
      rw [HZC.out]; unfold chunksR
      by_cases h2 : chkV (s0.map Int.ofNat) t ≠ 0
      · rw [if_pos h2]
      · rw [if_neg h2]; exact (Classical.not_not.1 h2).symm
    rw [e] at h ⊢
    exact chk_two hvs h)
  clear hvs hsh efill hu hb
  obtain ⟨-, -, b0, b1⟩ := HBX.out W0 (Below.refl _ _)
  go_enter Tryz.func7, Tryz.ntmps7
  go_wp2_with fail
  rw [HW0.out, ← HA.out]
  go_wp2_with fail
  refine (H11.out).mono ?_
  rintro e w1 ⟨hb1, rfl⟩
  have HBw1 := Lib.hid hb1
  clear hb1 b0 b1
  obtain ⟨-, -, b0, b1⟩ := HBX.out w1 HBw1.out
  go_wp2_with fail
  refine (H21.out _ HBw1.out).mono ?_
  rintro e w2 ⟨hb2, rfl⟩
  have HBw2 : Hid (Below W0.heap.size W0 w2) := Lib.hid (HBw1.out.trans (hb2.mono HBw1.out.size))
  clear hb2 b0 b1
  obtain ⟨-, -, b0, b1⟩ := HBX.out w2 HBw2.out
  go_wp2_with fail
  refine (H29.out _ HBw2.out).mono ?_
  rintro e v1 ⟨hb1, qL, nL, cL, rfl, hnL, hrL⟩
  have HBv1 : Hid (Below W0.heap.size W0 v1) := Lib.hid (HBw2.out.trans (hb1.mono HBw2.out.size))
  have HNL0 := Lib.hid hnL
  have HRL := Lib.hid hrL
  clear hb1 hnL hrL b0 b1
  obtain ⟨-, -, b0, b1⟩ := HBX.out v1 HBv1.out
  go_wp2_with fail
  refine (H14.out _ HBv1.out).mono ?_
  rintro e v2 ⟨hb2, qa2, qb2, na2, da2, nb2, db2, rfl, hn1, hm1, hr1, hr2⟩
  obtain ⟨E, HE2⟩ : ∃ E, Hid (E = v2.heap.size) := ⟨_, Lib.hid rfl⟩
  obtain ⟨X2, HX2⟩ : ∃ W, Hid (v2.alloc (.cells #[.slice qa2 na2 da2, .slice qb2 nb2 db2] 25) = W) := ⟨_, Lib.hid rfl⟩
  have hb22 : Below v2.heap.size v2 X2 := by rw [← HX2.out]; exact (Below.refl _ _).alloc (Nat.le_refl _) _
  have HN2 : Hid (Below v1.heap.size v1 X2) := Lib.hid (hb2.trans (hb22.mono hb2.size))
  have HEV : Hid (v1.heap.size ≤ E) := Lib.hid (by rw [HE2.out]; exact hb2.size)
  have HBX2 : Hid (Below W0.heap.size W0 X2) := Lib.hid (HBv1.out.trans (HN2.out.mono HBv1.out.size))
  have HBB2 : Hid (X2.heap[E]? = some (.cells #[.slice qa2 na2 da2, .slice qb2 nb2 db2] 25 (0, 0))) := Lib.hid (by rw [← HX2.out, HE2.out]; exact World.alloc_heap_new _ _)
  have HRA2 : Hid (RdN X2 qa2 s0) := Lib.hid (hr1.below hb22)
  have HRB2 : Hid (RdS X2 qb2 (List.replicate (prod s0) [])) := Lib.hid (hr2.below hb22)
  have HNA2 : Hid (s0.length = na2) := Lib.hid hn1
  have HNB2 : Hid ((List.replicate (prod s0) ([] : List UInt8)).length = nb2) := Lib.hid hm1
  clear hb2 hb22 hr1 hr2 hn1 hm1
  by_cases hz : zc = 0
  case neg =>
    obtain rfl : zc = 2 := HCZ.out hz
    clear hz b0 b1
    go_wp2_with fail
    rw [HX2.out]
    refine (HSANE.out _ HBX2.out).mono ?_
    rintro e w9 ⟨hb9, rfl⟩
    have HB9 := Lib.hid (HBX.out w9 (HBX2.out.trans (hb9.mono HBX2.out.size))).below
    clear hb9
    go_wp2_with fail
    go_ret
    exact ⟨HB9.out, rfl⟩
  subst hz
  have hz0 : chkV (s0.map Int.ofNat) t = 0 := by
    have h := HZC.out
    unfold chunksR at h
    by_cases h2 : chkV (s0.map Int.ofNat) t ≠ 0
    · rw [if_pos h2] at h; exact absurd h.symm h2
    · exact Classical.not_not.1 h2
  obtain ⟨s9, z0, e9, rfl, -, hzl, hzb⟩ := chk_zero hz0
  have e10 : s9 = s0 := by
    have h := congrArg (List.map Int.toNat) e9
    rw [toNat_map, toNat_map] at h; exact h.symm
  subst e10
  have HZL := Lib.hid hzl
  have HZB := Lib.hid hzb
  obtain ⟨C, HC⟩ : ∃ C, Hid (C = nums s9 z0) := ⟨_, Lib.hid rfl⟩
  obtain ⟨N, HN⟩ : ∃ N, Hid (N = prod C) := ⟨_, Lib.hid rfl⟩
  have HLE : Hid (LL = (List.range N).map (ixOf C)) := Lib.hid (by
    rw [HLL.out]; unfold chunksR
    rw [if_neg (by rw [hz0]; simp), toNat_map, toNat_map, HN.out, HC.out]; rfl)
  have HNL : Hid (nL = N) := Lib.hid (by rw [← HNL0.out, HLE.out, List.length_map, List.length_range])
  have HN4 : Hid (N ≤ 4096) := Lib.hid (by rw [HN.out, HC.out]; exact (nums_shp HSH.out hzl hzb).2.2)
  have HZK : Hid (z0.length = k) := Lib.hid (by rw [← hk.out, List.length_map])
  obtain ⟨F, HF⟩ : ∃ F : Nat → Nat, Hid (F = fun i => prod (cnts (boxL s9 z0 (ixOf C i)))) := ⟨_, Lib.hid rfl⟩
  have HFS : Hid (sumN F N = m) := Lib.hid (by rw [HF.out, HN.out, HC.out, HML.out]; exact box_sum s9 z0 hzl hzb)
  have HFM : Hid (∀ i, i ≤ N → sumN F i ≤ m) := Lib.hid (fun i hi => by
    have key : ∀ j, sumN F i ≤ sumN F (i + j) := fun j => by
      induction j with
      | zero => exact Nat.le_refl _
      | succ j ih => exact Nat.le_trans ih (Nat.le_add_right _ _)
    have := key (N - i)
    rwa [Nat.add_sub_cancel' hi, HFS.out] at this)
  have HM4 : Hid (m ≤ 4096) := Lib.hid (by rw [HML.out]; exact HSH.out.2.2)
  have iN : (N : Int) ≤ 4096 := by have := HN4.out; omega
  have HTI0 : Hid (TI X2 E n m s9 z0 l 0 X2) := Lib.hid ⟨⟨rfl, rfl, rfl, Nat.le_refl _, fun _ _ _ => rfl⟩, qa2, da2, qb2, db2, _, by
    have h1 := HNA2.out
    have h2 := HNB2.out
    rw [List.length_replicate, ← HML.out] at h2
    rw [HSN.out] at h1
    rw [h1, h2]; exact HBB2.out, HRA2.out, HRB2.out, Tiled.zero s9 z0 l⟩
  obtain rfl : nL = N := HNL.out
  clear hz0 hzl hzb e9 b0 b1
  go_wp2_with fail
  rw [HX2.out, ← HE2.out]
  go_loopw [9, 10] (fun nv iv wr => ∃ i a : Nat, i ≤ nL ∧ iv = .int .i64 i ∧ nv = .int .i64 a ∧ Hid (a = sumN F i) ∧ Hid (TI X2 E n m s9 z0 l i wr)) (fun _ iv _ => nL - (Go.RowKit.intOf iv).toNat)
  case atStart => exact ⟨0, 0, Nat.zero_le _, rfl, rfl, Lib.hid rfl, HTI0⟩
  case round =>
    obtain ⟨i, a, hi, rfl, rfl, HAS, HT⟩ := hrel
    have ii : (i : Int) ≤ (nL : Int) := by omega
    have HB2r : Hid (Below v1.heap.size v1 wr) := Lib.hid (gb_old HT.out.old HN2.out HEV.out)
    have HBWr : Hid (Below W0.heap.size W0 wr) := Lib.hid (HBv1.out.trans (HB2r.out.mono HBv1.out.size))
    obtain ⟨qo, co, vo, od, out, hrow, hrn, hrs, htl⟩ := HT.out.row
    have HROW := Lib.hid hrow
    have HRN := Lib.hid hrn
    have HRS := Lib.hid hrs
    have HTL := Lib.hid htl
    clear hrow hrn hrs htl
    by_cases hlt : i < nL
    · have ilt : (i : Int) < (nL : Int) := by omega
      have hil : i < LL.length := by rw [HNL0.out]; exact hlt
      obtain ⟨bl, ol, pi, ci, eL, hbl, hcl, hrl⟩ := (HRL.out.below HB2r.out).at hil
      subst eL
      obtain ⟨ix, HIX⟩ : ∃ ix, Hid (ix = ixOf C i) := ⟨_, Lib.hid rfl⟩
      have eLL : LL.getD i [] = ix := by rw [HLE.out, HIX.out, List.getD_eq_getElem?_getD, List.getElem?_map, List.getElem?_range hlt]; rfl
      rw [eLL] at hcl hrl
      have hiN : i < prod (nums s9 z0) := by rw [← HC.out, ← HN.out]; exact hlt
      have HIXI : Hid (IsIx (nums s9 z0) ix) := Lib.hid (by rw [HIX.out, HC.out]; exact (ixOf_is _ _ hiN).1)
      have HIXL : Hid (ix.length = n) := Lib.hid (by rw [HIXI.out.1, nums_len, HSN.out])
      rw [HIXL.out] at hcl
      have HRI := Lib.hid hrl
      obtain ⟨bx, HBOX⟩ : ∃ bx, Hid (bx = boxL s9 z0 ix) := ⟨_, Lib.hid rfl⟩
      have HBL : Hid (bx.length = n) := Lib.hid (by rw [HBOX.out, boxL_len, HSN.out])
      have HOK : Hid (slabOk s9 bx = true) := Lib.hid (by rw [HBOX.out]; exact box_ok HZL.out HZB.out HIXI.out)
      have HFI : Hid (F i = prod (cnts bx)) := Lib.hid (by rw [HF.out, HBOX.out, HIX.out])
      have ebox : boxR (s9.map Int.ofNat) (z0.map Int.ofNat) (ix.map Int.ofNat) = (0, bx) := by
        unfold boxR
        rw [if_neg (by rw [chk_of HSH.out HZL.out HZB.out]; simp), toNat_map, toNat_map, toNat_map, if_neg (by rw [ixOk_of HIXI.out]; simp), HBOX.out]
      have HSS : Hid (∀ X, Below wr.heap.size wr X → X.cell? ⟨A, 0, none⟩ = some (.slice p n c) ∧ X.cell? ⟨bl, ol + i, none⟩ = some (.slice pi n ci)) := Lib.hid (fun X hX =>
        ⟨(HBX.out X (HBWr.out.trans (hX.mono HBWr.out.size))).c0, (hX.cell (p := ⟨bl, ol + i, none⟩) hbl).trans hcl⟩)
      have HBD : Hid (Below wr.heap.size wr wr.drew) := Lib.hid ⟨rfl, rfl, rfl, Nat.le_refl _, fun _ _ => rfl⟩
      have H31 : Hid (Calls Tryz.prog 32 #[.slice p n c, .slice r k f, .slice pi n ci] wr.drew (CutsPost wr.drew 0 bx)) := Lib.hid (by
        have h := (HBX.out _ (HBWr.out.trans (HBD.out.mono HBWr.out.size))).below
        have := box_all p r pi c f ci n k n (s9.map Int.ofNat) (z0.map Int.ofNat) (ix.map Int.ofNat) wr.drew hs hk (Lib.hid (by rw [List.length_map, HIXL.out])) (HP.out.below h) (HR.out.below h) (RdN.below HRI.out HBD.out)
        rw [ebox] at this
        exact this)
      clear hcl hrl hbl eLL ebox hiN hil
      go_wp2_with fail
      refine wp_region_noPanic ?_
      refine wp_region_held_drew (S := fun W => W.cell? ⟨A, 0, none⟩ = some (.slice p n c) ∧ W.cell? ⟨bl, ol + i, none⟩ = some (.slice pi n ci)) (by kernel_rfl) (HSS.out _ HBD.out) (fun hHeld => ?_)
      refine wpAnyH_take (i := 0) (v := ?v1) rfl (by kernel_rfl) (by kernel_rfl) (by kernel_rfl) (fun _ _ _ h => h) (Or.inl ⟨by rfl, ?hy1⟩) (by assumption) ?rest1
      case hy1 =>
        intro W' hSw
        obtain ⟨e0, e1⟩ := hSw
        go_simp
        with_reducible rfl
      simp only [List.getElem_toArray, List.getElem_cons_zero, Act.put, List.setIfInBounds_toArray, List.set_cons_zero, List.set_cons_succ]
      refine wpAnyH_take (i := 1) (v := ?v2) rfl (by kernel_rfl) (by kernel_rfl) (by kernel_rfl) (fun _ _ _ h => h) (Or.inl ⟨by rfl, ?hy2⟩) (by assumption) ?rest2
      case hy2 =>
        intro W' hSw
        obtain ⟨e0, e1⟩ := hSw
        go_simp
        with_reducible rfl
      simp only [List.getElem_toArray, List.getElem_cons_zero, List.getElem_cons_succ, Act.put, List.setIfInBounds_toArray, List.set_cons_zero, List.set_cons_succ]
      refine wpAnyH_take (i := 2) (v := ?v3) rfl (by kernel_rfl) (by kernel_rfl) (by kernel_rfl) (fun _ _ _ h => h) (Or.inl ⟨by rfl, ?hy3⟩) (by assumption) ?rest3
      case hy3 =>
        intro W' hSw
        obtain ⟨e0, e1⟩ := hSw
        go_simp
        with_reducible rfl
      simp only [List.getElem_toArray, List.getElem_cons_zero, List.getElem_cons_succ, Act.put, List.setIfInBounds_toArray, List.set_cons_zero, List.set_cons_succ]
      refine wpAnyH_take (i := 3) (v := ?v4) rfl (by kernel_rfl) (by kernel_rfl) (by kernel_rfl) (fun _ _ _ h => h) (Or.inl ⟨by rfl, ?hy4⟩) (by assumption) ?rest4
      case hy4 =>
        intro W' hSw
        obtain ⟨e0, e1⟩ := hSw
        go_simp
        with_reducible rfl
      simp only [List.getElem_toArray, List.getElem_cons_zero, List.getElem_cons_succ, Act.put, List.setIfInBounds_toArray, List.set_cons_zero, List.set_cons_succ]
      refine wpAnyH_take (i := 4) (v := ?v5) rfl (by kernel_rfl) (by kernel_rfl) (by kernel_rfl) (fun _ _ _ h => h) (Or.inl ⟨by rfl, ?hy5⟩) (by assumption) ?rest5
      case hy5 =>
        intro W' hSw
        obtain ⟨e0, e1⟩ := hSw
        go_simp
        with_reducible rfl
      simp only [List.getElem_toArray, List.getElem_cons_zero, List.getElem_cons_succ, Act.put, List.setIfInBounds_toArray, List.set_cons_zero, List.set_cons_succ]
      refine wpAnyH_take (i := 5) (v := ?v6) rfl (by kernel_rfl) (by kernel_rfl) (by kernel_rfl) (fun _ _ _ h => h) (Or.inl ⟨by rfl, ?hy6⟩) (by assumption) ?rest6
      case hy6 =>
        intro W' hSw
        obtain ⟨e0, e1⟩ := hSw
        go_simp
        with_reducible rfl
      simp only [List.getElem_toArray, List.getElem_cons_zero, List.getElem_cons_succ, Act.put, List.setIfInBounds_toArray, List.set_cons_zero, List.set_cons_succ]
      refine wpAnyH_take (i := 6) (v := ?v7) rfl (by kernel_rfl) (by kernel_rfl) (by kernel_rfl) (fun _ _ _ h => h) (Or.inl ⟨by rfl, ?hy7⟩) (by assumption) ?rest7
      case hy7 =>
        intro W' hSw
        obtain ⟨e0, e1⟩ := hSw
        go_simp
        with_reducible rfl
      simp only [List.getElem_toArray, List.getElem_cons_zero, List.getElem_cons_succ, Act.put, List.setIfInBounds_toArray, List.set_cons_zero, List.set_cons_succ]
      refine wpAnyH_ready (rs := [7]) (by kernel_rfl) (by simp) ?_
      refine AllReadyH.cons (i := 7) rfl (fun K hK => ?_) AllReadyH.nil
      go_simp
      refine (H31.out).mono ?_
      rintro e y1 ⟨hb1, qc, nc, cc, rfl, hnc, hrc⟩
      have HBy1 : Hid (Below wr.heap.size wr y1) := Lib.hid (HBD.out.trans (hb1.mono HBD.out.size))
      have HNC := Lib.hid hnc
      have HRC := Lib.hid hrc
      clear hb1 hnc hrc
      refine hK.out _ _ (HSS.out _ HBy1.out) (fun hHeld => ?_)
      clear hK K
      refine wpAnyH_take (i := 8) (v := ?v8) rfl (by kernel_rfl) (by kernel_rfl) (by kernel_rfl) (fun _ _ _ h => h) (Or.inl ⟨by rfl, ?hy8⟩) (by assumption) ?rest8
      case hy8 =>
        intro W' hSw
        obtain ⟨e0, e1⟩ := hSw
        go_simp
        with_reducible rfl
      simp only [List.getElem_toArray, List.getElem_cons_zero, List.getElem_cons_succ, Act.put, List.setIfInBounds_toArray, List.set_cons_zero, List.set_cons_succ]
      refine wpAnyH_take (i := 9) (v := ?v9) rfl (by kernel_rfl) (by kernel_rfl) (by kernel_rfl) (fun _ _ _ h => h) (Or.inl ⟨by rfl, ?hy9⟩) (by assumption) ?rest9
      case hy9 =>
        intro W' hSw
        obtain ⟨e0, e1⟩ := hSw
        go_simp
        with_reducible rfl
      simp only [List.getElem_toArray, List.getElem_cons_zero, List.getElem_cons_succ, Act.put, List.setIfInBounds_toArray, List.set_cons_zero, List.set_cons_succ]
      refine wpAnyH_take (i := 10) (v := ?v10) rfl (by kernel_rfl) (by kernel_rfl) (by kernel_rfl) (fun _ _ _ h => h) (Or.inl ⟨by rfl, ?hy10⟩) (by assumption) ?rest10
      case hy10 =>
        intro W' hSw
        obtain ⟨e0, e1⟩ := hSw
        go_simp
        with_reducible rfl
      simp only [List.getElem_toArray, List.getElem_cons_zero, List.getElem_cons_succ, Act.put, List.setIfInBounds_toArray, List.set_cons_zero, List.set_cons_succ]
      refine wpAnyH_take (i := 11) (v := ?v11) rfl (by kernel_rfl) (by kernel_rfl) (by kernel_rfl) (fun _ _ _ h => h) (Or.inl ⟨by rfl, ?hy11⟩) (by assumption) ?rest11
      case hy11 =>
        intro W' hSw
        obtain ⟨e0, e1⟩ := hSw
        go_simp
        with_reducible rfl
      simp only [List.getElem_toArray, List.getElem_cons_zero, List.getElem_cons_succ, Act.put, List.setIfInBounds_toArray, List.set_cons_zero, List.set_cons_succ]
      refine wpAnyH_take (i := 12) (v := ?v12) rfl (by kernel_rfl) (by kernel_rfl) (by kernel_rfl) (fun _ _ _ h => h) (Or.inl ⟨by rfl, ?hy12⟩) (by assumption) ?rest12
      case hy12 =>
        intro W' hSw
        obtain ⟨e0, e1⟩ := hSw
        go_simp
        with_reducible rfl
      simp only [List.getElem_toArray, List.getElem_cons_zero, List.getElem_cons_succ, Act.put, List.setIfInBounds_toArray, List.set_cons_zero, List.set_cons_succ]
      refine wpAnyH_done (by kernel_rfl) ?_ _
      refine NoPanic.normal ?_
      clear hHeld
      obtain rfl : nc = n := by rw [← HNC.out, HBL.out]
      have HBWy1 : Hid (Below W0.heap.size W0 y1) := Lib.hid (HBWr.out.trans (HBy1.out.mono HBWr.out.size))
      obtain ⟨sl, HSLV⟩ : ∃ sl, Hid (sl = sliceV s9 l bx) := ⟨_, Lib.hid rfl⟩
      have H23 : Hid (Calls Tryz.prog 24 #[.agg #[.slice p nc c, .slice q m d], .slice qc nc cc] y1 (ArrPost y1 0 (cnts bx) sl)) := Lib.hid (by
        have h := (HBX.out _ HBWy1.out).below
        have := slice_ans p q qc c d nc m nc cc (s9.map Int.ofNat) l bx y1 (HE.out.below h) hs hl HM.out.1 HBL (HP.out.below h) (HQ.out.below h) HRC.out
        have e : slV (s9.map Int.ofNat) l bx = (0, cnts bx, sl) := by
          unfold slV
          rw [if_neg (by rw [← HU.out]; simp), toNat_map, if_neg (by rw [HOK.out]; simp), HSLV.out]
        rwa [e] at this)
      obtain ⟨-, -, b0, b1⟩ := HBX.out y1 HBWy1.out
      go_wp2_with fail
      refine (H23.out).mono ?_
      rintro e y2 ⟨hb2, q3, v3, n3, d3, m3, f3, rfl, hn1, hm1, hr1, hr2⟩
      obtain ⟨E3, HE3⟩ : ∃ E, Hid (E = y2.heap.size) := ⟨_, Lib.hid rfl⟩
      obtain ⟨X3, HX3⟩ : ∃ W, Hid (y2.alloc (.cells #[.slice q3 n3 d3, .slice v3 m3 f3] 25) = W) := ⟨_, Lib.hid rfl⟩
      have hb22 : Below y2.heap.size y2 X3 := by rw [← HX3.out]; exact (Below.refl _ _).alloc (Nat.le_refl _) _
      have HN3 : Hid (Below y1.heap.size y1 X3) := Lib.hid (hb2.trans (hb22.mono hb2.size))
      have HBr3 : Hid (Below wr.heap.size wr X3) := Lib.hid (HBy1.out.trans (HN3.out.mono HBy1.out.size))
      have HBX3 : Hid (Below W0.heap.size W0 X3) := Lib.hid (HBWr.out.trans (HBr3.out.mono HBWr.out.size))
      have HBB3 : Hid (X3.heap[E3]? = some (.cells #[.slice q3 n3 d3, .slice v3 m3 f3] 25 (0, 0))) := Lib.hid (by rw [← HX3.out, HE3.out]; exact World.alloc_heap_new _ _)
      have HRA3 : Hid (RdN X3 q3 (cnts bx)) := Lib.hid (hr1.below hb22)
      have HRB3 : Hid (RdS X3 v3 sl) := Lib.hid (hr2.below hb22)
      have HNA3 : Hid ((cnts bx).length = n3) := Lib.hid hn1
      have HNB3 : Hid (sl.length = m3) := Lib.hid hm1
      clear hb2 hb22 hr1 hr2 hn1 hm1 b0 b1
      obtain ⟨out2, HOUT2⟩ : ∃ o, Hid (o = pasteV s9 out bx sl) := ⟨_, Lib.hid rfl⟩
      have HTL2 : Hid (Tiled s9 z0 l out2 (i + 1)) := Lib.hid (by
        rw [HOUT2.out, HSLV.out, HBOX.out, HIX.out, HC.out]
        exact HTL.out.step HSH.out HZL.out HZB.out HU.out.symm (by rw [← HC.out, ← HN.out]; exact hlt))
      have H25 : Hid (Calls Tryz.prog 26 #[.agg #[.slice qo nc co, .slice vo m od], .slice qc nc cc, .agg #[.slice q3 n3 d3, .slice v3 m3 f3]] X3 (ArrPost X3 0 s9 out2)) := Lib.hid (by
        have h := (HBX.out _ HBX3.out).below
        have hsl : sl.length ≤ 5000 := by
          rw [HSLV.out, sliceV_len]
          have := (cnts_ok HOK.out HSH.out.2.1).2.2.2
          have := HSH.out.2.2
          omega
        have := ppaste_any qo vo q3 v3 qc co od d3 f3 nc m n3 m3 nc cc (s9.map Int.ofNat) ((cnts bx).map Int.ofNat) out sl bx X3 (HE.out.below h) hs (Lib.hid (by rw [HTL.out.1, HML.out])) HM.out.1 (Lib.hid (by rw [List.length_map, HNA3.out])) HNB3 (by rw [← HNB3.out]; exact hsl) HBL (RdN.below HRN.out HBr3.out) (HRS.out.below HBr3.out) HRA3.out HRB3.out (HRC.out.below HN3.out)
        have e : pstV (s9.map Int.ofNat) ((cnts bx).map Int.ofNat) out sl bx = (0, s9, out2) := by
          unfold pstV
          rw [if_neg (by rw [HTL.out.valid HSH.out]; simp), if_neg (by rw [HSLV.out, valid_slice HSH.out HOK.out HU.out.symm]; simp), toNat_map, if_neg (by rw [HOK.out]; simp), if_neg (by simp), HOUT2.out]
        rwa [e] at this)
      have hE3 : X3.heap[E]? = some (.cells #[.slice qo nc co, .slice vo m od] 25 (0, 0)) := (HBr3.out.block E (Array.getElem?_eq_some_iff.1 HROW.out).1).trans HROW.out
      have a0 : X3.cell? ⟨E, 0, none⟩ = some (.slice qo nc co) := by simp [World.cell?, hE3]
      have a1 : X3.cell? ⟨E, 1, none⟩ = some (.slice vo m od) := by simp [World.cell?, hE3]
      have a2 : X3.cell? ⟨E3, 0, none⟩ = some (.slice q3 n3 d3) := by have := HBB3.out; simp [World.cell?, this]
      have a3 : X3.cell? ⟨E3, 1, none⟩ = some (.slice v3 m3 f3) := by have := HBB3.out; simp [World.cell?, this]
      have HEE := Lib.hid hE3
      clear hE3
      rw [← HX3.out] at a0 a1 a2 a3
      rw [HE3.out] at a2 a3
      go_wp2_with fail
      rw [HX3.out, ← HE3.out]
      refine (H25.out).mono ?_
      rintro e y3 ⟨hb2, q4, v4, n4, d4, m4, f4, rfl, hn1, hm1, hr1, hr2⟩
      obtain ⟨E4, HE4⟩ : ∃ E, Hid (E = y3.heap.size) := ⟨_, Lib.hid rfl⟩
      obtain ⟨X4, HX4⟩ : ∃ W, Hid (y3.alloc (.cells #[.slice q4 n4 d4, .slice v4 m4 f4] 25) = W) := ⟨_, Lib.hid rfl⟩
      have hb22 : Below y3.heap.size y3 X4 := by rw [← HX4.out]; exact (Below.refl _ _).alloc (Nat.le_refl _) _
      have HN4 : Hid (Below X3.heap.size X3 X4) := Lib.hid (hb2.trans (hb22.mono hb2.size))
      have HBr4 : Hid (Below wr.heap.size wr X4) := Lib.hid (HBr3.out.trans (HN4.out.mono HBr3.out.size))
      have HBB4 : Hid (X4.heap[E4]? = some (.cells #[.slice q4 n4 d4, .slice v4 m4 f4] 25 (0, 0))) := Lib.hid (by rw [← HX4.out, HE4.out]; exact World.alloc_heap_new _ _)
      have HRA4 : Hid (RdN X4 q4 s9) := Lib.hid (hr1.below hb22)
      have HRB4 : Hid (RdS X4 v4 out2) := Lib.hid (hr2.below hb22)
      obtain rfl : nc = n4 := by rw [← hn1, HSN.out]
      obtain rfl : m = m4 := by rw [← hm1, HTL2.out.1, HML.out]
      clear hb2 hb22 hr1 hr2 hn1 hm1 a0 a1 a2 a3
      go_upto_region 14 with fail
      rw [HX4.out, ← HE4.out]
      have HE5 : Hid (X4.heap[E]? = some (.cells #[.slice qo nc co, .slice vo m od] 25 (0, 0))) := Lib.hid ((HN4.out.block E (Array.getElem?_eq_some_iff.1 HEE.out).1).trans HEE.out)
      have h35 := (HN4.out.block E3 (Array.getElem?_eq_some_iff.1 HBB3.out).1).trans HBB3.out
      have a3 : X4.cell? ⟨E3, 1, none⟩ = some (.slice v3 m3 f3) := by simp [World.cell?, h35]
      have a4 : X4.cell? ⟨E4, 0, none⟩ = some (.slice q4 nc d4) := by have := HBB4.out; simp [World.cell?, this]
      have a5 : X4.cell? ⟨E4, 1, none⟩ = some (.slice v4 m f4) := by have := HBB4.out; simp [World.cell?, this]
      have a6 : X4.cell? ⟨E, 0, none⟩ = some (.slice qo nc co) := by have := HE5.out; simp [World.cell?, this]
      have a7 : X4.cell? ⟨E, 1, none⟩ = some (.slice vo m od) := by have := HE5.out; simp [World.cell?, this]
      have f6 : X4.frozen? ⟨E, 0, none⟩ = false := by have := HE5.out; simp [World.frozen?, this]
      have f7 : X4.frozen? ⟨E, 1, none⟩ = false := by have := HE5.out; simp [World.frozen?, this]
      obtain ⟨a', HAN⟩ : ∃ a', Hid (a' = a + m3) := ⟨_, Lib.hid rfl⟩
      have HAS2 : Hid (a' = sumN F (i + 1)) := Lib.hid (by
        show a' = sumN F i + F i
        rw [HAN.out, HAS.out, HFI.out, ← HNB3.out, HSLV.out, sliceV_len])
      have hadd : (a : Int) + (m3 : Int) = (a' : Int) := by rw [HAN.out]; omega
      have ia : (a' : Int) ≤ 4096 := by
        have h1 := HFM.out (i + 1) hlt
        rw [← HAS2.out] at h1
        have h2 := HM4.out
        omega
      have ia0 : (a : Int) ≤ 4096 := by omega
      have ia3 : (m3 : Int) ≤ 4096 := by omega
      have hw1 := heap_set X4 E 0 (.slice q4 nc d4) _ _ HE5.out
      have hw2 := heap_set _ E 1 (.slice v4 m f4) _ _ hw1
      obtain ⟨X5, HX5⟩ : ∃ X5, Hid ((X4.setCell ⟨E, 0, none⟩ (.slice q4 nc d4)).setCell ⟨E, 1, none⟩ (.slice v4 m f4) = X5) := ⟨_, Lib.hid rfl⟩
      rw [HX5.out] at hw2
      have HT5 : Hid (TI X2 E nc m s9 z0 l (i + 1) X5) := Lib.hid (by
        have hg45 : X4.grownBy X5 (some E) := by rw [← HX5.out]; exact (gb_set _ _ _ _).trans (gb_set _ _ _ _)
        refine ⟨(HT.out.old.trans (gb_of_below HBr4.out (some E))).trans hg45, q4, d4, v4, f4, out2, hw2, ?_, ?_, HTL2.out⟩
        · refine HRA4.out.keep hg45.size (fun b off e h0 => hg45.block b ?_ (fun e2 => ?_))
          · obtain ⟨b', off', x, e', hb', -⟩ := RdN.at HRA4.out h0
            rw [e] at e'; cases e'; exact hb'
          · injection e2 with e2
            exact rdn_ne HRA4.out HE5.out e h0 e2
        · refine HRB4.out.keep hg45.size (fun b off e h0 => hg45.block b ?_ (fun e2 => ?_))
          · obtain ⟨b', off', x, e', hb', -⟩ := RdS.at HRB4.out h0
            rw [e] at e'; cases e'; exact hb'
          · injection e2 with e2
            exact rds_ne HRB4.out HE5.out e h0 e2)
      clear hw1 hw2 h35
      go_wp2_with fail
      rw [HX5.out]
      go_roundw
      case rel => exact ⟨i + 1, a', by omega, by go_num, rfl, HAS2, HT5⟩
      case measure => simp [Go.RowKit.intOf]; omega
    · obtain rfl : i = nL := by omega
      have ilt : ¬ (i : Int) < (i : Int) := by omega
      have eout : out = l := by
        have h := HTL.out
        rw [HN.out, HC.out] at h
        exact h.all HZL.out HZB.out (by rw [hl.out, HML.out])
      obtain rfl : a = m := by rw [HAS.out, HFS.out]
      have H37 : Hid (Calls Tryz.prog 38 #[.agg #[.slice qo n co, .slice vo a od], .agg #[.slice p n c, .slice q a d]] wr fun e w' => Below wr.heap.size wr w' ∧ e = .returned (.bool true)) := Lib.hid (by
        have h := (HBX.out wr HBWr.out).below
        have hrs := HRS.out
        rw [eout] at hrs
        have := same_any qo vo p q co od c d n a n a (s9.map Int.ofNat) (s9.map Int.ofNat) l l wr hs hl hs hl HM.out.2 HM.out.1 HM.out.2 HM.out.1 HRN.out hrs (HP.out.below h) (HQ.out.below h)
        simpa using this)
      obtain ⟨-, -, b0, b1⟩ := HBX.out wr HBWr.out
      have e0 : wr.cell? ⟨E, 0, none⟩ = some (.slice qo n co) := by have := HROW.out; simp [World.cell?, this]
      have e1 : wr.cell? ⟨E, 1, none⟩ = some (.slice vo a od) := by have := HROW.out; simp [World.cell?, this]
      clear eout
      go_wp2_with fail
      refine (H37.out).mono ?_
      rintro e w8 ⟨hb8, rfl⟩
      have HBw8 : Hid (Below W0.heap.size W0 w8) := Lib.hid (HBWr.out.trans (hb8.mono HBWr.out.size))
      clear hb8 b0 b1 e0 e1
      go_wp2_with fail
      refine (HSANE.out _ HBw8.out).mono ?_
      rintro e w9 ⟨hb9, rfl⟩
      have HB9 := Lib.hid (HBX.out w9 (HBw8.out.trans (hb9.mono HBw8.out.size))).below
      clear hb9
      go_wp2_with fail
      go_ret
      exact ⟨HB9.out, rfl⟩
end Go.Proofs.YtigidchicloleaaGreatDoor.Arr
