/- The program's Paste, where it is good. -/
import Derived.Test.YtigidchicloleaaGreatDoorHN
set_option maxHeartbeats 16000000
set_option maxRecDepth 100000
namespace Go.Proofs.YtigidchicloleaaGreatDoor.Arr
open Go.RowKit Go.Shelf
open Go.Lib
attribute [local go_sem] Oper.semAt_some
attribute [local go_sem] run_store_func
def pasF (pos : Nat → Nat) (bl : List (List UInt8)) (pre : List (Nat × Nat)) (l : List (List UInt8)) : List (List UInt8) := pre.foldl (fun L y => L.set (pos y.1) (bl.getD y.1 [])) l
theorem pasF_snoc (pos : Nat → Nat) (bl : List (List UInt8)) (pre : List (Nat × Nat)) (x : Nat × Nat) (l : List (List UInt8)) : pasF pos bl (pre ++ [x]) l = (pasF pos bl pre l).set (pos x.1) (bl.getD x.1 []) := by
  simp [pasF]
theorem pasF_len (pos : Nat → Nat) (bl : List (List UInt8)) : ∀ (pre : List (Nat × Nat)) (l : List (List UInt8)), (pasF pos bl pre l).length = l.length
  | [], _ => rfl
  | x :: pre, l => by
    show (pasF pos bl pre (l.set (pos x.1) (bl.getD x.1 []))).length = _
    rw [pasF_len pos bl pre, List.length_set]
theorem pasF_range {pos : Nat → Nat} {bl : List (List UInt8)} {pre : List (Nat × Nat)} {N : Nat} (h : pre.map (·.1) = List.range N) (l : List (List UInt8)) : pasF pos bl pre l = (List.range N).foldl (fun L i => L.set (pos i) (bl.getD i [])) l := by
  rw [← h, List.foldl_map]; rfl
theorem strs_set (l : List (List UInt8)) (k : Nat) (x : List UInt8) : (strs l).set k (.string ⟨List.toArray x⟩) = strs (l.set k x) := by
  unfold strs; rw [List.map_set]
theorem strs_at {l : List (List UInt8)} {k : Nat} (h : k < l.length) : (strs l)[k]? = some (.string ⟨List.toArray (l.getD k [])⟩) := by
  simp [strs, List.getD_eq_getElem?_getD, h]
theorem rds_own {W : World} {B m dv : Nat} {qv : Option Addr} {l : List (List UInt8)} (hl : l.length = m) (h : W.ownsRow B 9 1 (.slice qv m dv) m (strs l)) : RdS W qv l := by
  obtain ⟨-, ⟨e, e2⟩ | ⟨g, cap, cur, e, hg, hh, -⟩⟩ := id h
  · exact .inl (by rw [hl]; exact e2)
  · injection e with e _ e3
    subst e
    refine .inr ⟨g, 0, rfl, (Array.getElem?_eq_some_iff.1 hh).1, fun j hj => ?_⟩
    rw [Nat.zero_add, h.cellAt j (by omega)]
    exact strs_at hj
structure PI (W3 : World) (B R n m : Nat) (qv : Option Addr) (dv : Nat) (pos : Nat → Nat) (bl l : List (List UInt8)) (pre : List (Nat × Nat)) (W : World) : Prop where
  so : W.os = W3.os
  st : W.tape = W3.tape
  sp : W.output = W3.output
  size : W3.heap.size ≤ W.heap.size
  blk : ∀ k, k < W3.heap.size → k ≠ R → (Value.slice qv m dv).ownBlock ≠ some k → W.heap[k]? = W3.heap[k]?
  row : ∃ r0 : List Nat, r0.length = n ∧ W.heap[R]? = some (.cells (ixC r0) 3 (0, 0))
  vals : W.ownsRow B 9 1 (.slice qv m dv) m (strs (pasF pos bl pre l))
theorem PI.above {W3 X Y : World} {B R n m : Nat} {qv : Option Addr} {dv : Nat} {pos : Nat → Nat} {bl l : List (List UInt8)} {pre : List (Nat × Nat)} {r : Option Nat} (h : PI W3 B R n m qv dv pos bl l pre X) (hg : X.grownBy Y r) (hr : ∀ k, r = some k → W3.heap.size ≤ k) (hR : R < W3.heap.size) (hV : ∀ k, (Value.slice qv m dv).ownBlock = some k → k < W3.heap.size) : PI W3 B R n m qv dv pos bl l pre Y := by
  obtain ⟨r0, h1, h2⟩ := h.row
  refine ⟨hg.os.trans h.so, hg.tape.trans h.st, hg.output.trans h.sp, Nat.le_trans h.size hg.size, fun k hk h3 h4 => (hg.block k (Nat.lt_of_lt_of_le hk h.size) (by intro e; have := hr k e.symm; omega)).trans (h.blk k hk h3 h4), ⟨r0, h1, (hg.block R (Array.getElem?_eq_some_iff.1 h2).1 (by intro e; have := hr R e.symm; omega)).trans h2⟩, ?_⟩
  refine h.vals.kept hg ?_
  rcases Option.eq_none_or_eq_some (Value.slice qv m dv).ownBlock with e | ⟨k, e⟩
  · exact .inl e
  · refine .inr ?_
    rw [e]; intro e2
    have := hr k e2.symm
    have := hV k e
    omega
theorem ppaste_yes (p q p2 q2 cq : Option Addr) (c d c2 d2 k m m2 cd : Nat) (s : List Nat) (l bl : List (List UInt8)) (cuts : List (Int × Int × Int)) (w : World) (he : Env w) (hs : Hid (s.length = k)) (hl : Hid (l.length = m)) (hm : m ≤ 5000) (hbl : Hid (bl.length = m2)) (hm2 : m2 ≤ 5000) (hk : Hid (cuts.length = k)) (hsh : Hid (Shp s)) (hp : RdN w p s) (hq : RdS w q l) (hp2 : RdN w p2 (cnts cuts)) (hq2 : RdS w q2 bl) (hcq : RdC w cq cuts)
    (hva : validA (s.map Int.ofNat) l = true) (hvb : validA ((cnts cuts).map Int.ofNat) bl = true) (hsl : Hid (slabOk s cuts = true)) :
    Calls Tryz.prog 26 #[.agg #[.slice p k c, .slice q m d], .slice cq k cd, .agg #[.slice p2 k c2, .slice q2 m2 d2]] w (ArrPost w 0 s (pasteV s l cuts bl)) := by
  have HP := Lib.hid hp
  have HQ := Lib.hid hq
  have HP2 := Lib.hid hp2
  have HQ2 := Lib.hid hq2
  have HCQ := Lib.hid hcq
  have HE := Lib.hid he
  obtain ⟨hcl, hcz, hcb, hcp⟩ := cnts_ok hsl.out hsh.out.2.1
  have HCZ := Lib.hid hcz
  have HCB := Lib.hid hcb
  have HCN : Hid ((cnts cuts).length = k) := Lib.hid (by rw [cnts, List.length_map, hk.out])
  have hn4 : k ≤ 4 := by rw [← hs.out]; exact hsh.out.1
  obtain ⟨N, HN⟩ : ∃ N, Hid (N = prod (cnts cuts)) := ⟨_, rfl⟩
  have HML : Hid (m = prod s) := Lib.hid (by
    unfold validA at hva
    rw [Bool.and_eq_true, Bool.and_eq_true, decide_eq_true_eq, toNat_map, hl.out] at hva
    exact hva.2.1)
  have HMB : Hid (m2 = N) := Lib.hid (by
    unfold validA at hvb
    rw [Bool.and_eq_true, Bool.and_eq_true, decide_eq_true_eq, toNat_map, hbl.out] at hvb
    rw [HN.out]; exact hvb.2.1)
  have hN4 : N ≤ 4096 := by rw [HN.out]; exact Nat.le_trans hcp hsh.out.2.2
  obtain ⟨pos, HPOS⟩ : ∃ pos : Nat → Nat, Hid (pos = fun i => plc s (thr cuts (ixOf (cnts cuts) i)) 0) := ⟨_, Lib.hid rfl⟩
  obtain ⟨A, HA⟩ : ∃ A, Hid (A = w.heap.size) := ⟨_, Lib.hid rfl⟩
  obtain ⟨W0, HW0⟩ : ∃ W0, Hid (((w.alloc (.cells #[.slice p k c, .slice q m d] 25)).alloc (.cells #[.slice p2 k c2, .slice q2 m2 d2] 25)).alloc (.cells #[.slice none 0 0, .slice none 0 0] 25) = W0) := ⟨_, Lib.hid rfl⟩
  have HB0 : Hid (Below w.heap.size w W0) := Lib.hid (by rw [← HW0.out]; exact (((Below.refl _ w).alloc (Nat.le_refl _) _).alloc (by simp) _).alloc (by simp; omega) _)
  have HRB : Hid (w.heap.size ≤ A + 1 + 1) := Lib.hid (by rw [HA.out]; omega)
  have HS0 : Hid (W0.heap.size = A + 1 + 1 + 1) := Lib.hid (by rw [← HW0.out, HA.out]; simp)
  have HA0 : Hid (W0.heap[A]? = some (.cells #[.slice p k c, .slice q m d] 25 (0, 0))) := Lib.hid (by
    rw [← HW0.out, HA.out]; simp only [World.alloc, Array.getElem?_push, Array.size_push]
    repeat' (first | rw [if_pos (by omega)] | rw [if_neg (by omega)] | rfl))
  have HA1 : Hid (W0.heap[A + 1]? = some (.cells #[.slice p2 k c2, .slice q2 m2 d2] 25 (0, 0))) := Lib.hid (by
    rw [← HW0.out, HA.out]; simp only [World.alloc, Array.getElem?_push, Array.size_push]
    repeat' (first | rw [if_pos (by omega)] | rw [if_neg (by omega)] | rfl))
  have HA2 : Hid (W0.heap[A + 1 + 1]? = some (.cells #[.slice none 0 0, .slice none 0 0] 25 (0, 0))) := Lib.hid (by
    rw [← HW0.out, HA.out]; simp only [World.alloc, Array.getElem?_push, Array.size_push]
    repeat' (first | rw [if_pos (by omega)] | rw [if_neg (by omega)] | rfl))
  have HBX : Hid (∀ W, Below W0.heap.size W0 W → Below w.heap.size w W ∧ W.heap[A]? = some (.cells #[.slice p k c, .slice q m d] 25 (0, 0)) ∧ W.heap[A + 1]? = some (.cells #[.slice p2 k c2, .slice q2 m2 d2] 25 (0, 0)) ∧ W.heap[A + 1 + 1]? = some (.cells #[.slice none 0 0, .slice none 0 0] 25 (0, 0))) := Lib.hid (fun W hW =>
    ⟨HB0.out.trans (hW.mono HB0.out.size), (hW.block A (by rw [HS0.out]; omega)).trans HA0.out, (hW.block (A + 1) (by rw [HS0.out]; omega)).trans HA1.out, (hW.block (A + 1 + 1) (by rw [HS0.out]; omega)).trans HA2.out⟩)
  have HVA : Hid (Calls Tryz.prog 21 #[.agg #[.slice p k c, .slice q m d]] W0 fun e w' => Below W0.heap.size W0 w' ∧ e = .returned (.bool true)) := Lib.hid (by
    have := valid_any p q c d k m (s.map Int.ofNat) l W0 (HE.out.below HB0.out) (Lib.hid (by rw [List.length_map, hs.out])) hl hm (HP.out.below HB0.out) (HQ.out.below HB0.out)
    rwa [hva] at this)
  have HVB : Hid (∀ W, Below W0.heap.size W0 W → Calls Tryz.prog 21 #[.agg #[.slice p2 k c2, .slice q2 m2 d2]] W fun e w' => Below W.heap.size W w' ∧ e = .returned (.bool true)) := Lib.hid (fun W hW => by
    have := valid_any p2 q2 c2 d2 k m2 ((cnts cuts).map Int.ofNat) bl W (HE.out.below (HBX.out W hW).1) (Lib.hid (by rw [List.length_map, HCN.out])) hbl hm2 (HP2.out.below (HBX.out W hW).1) (HQ2.out.below (HBX.out W hW).1)
    rwa [hvb] at this)
  have HFI : Hid (∀ W, Below W0.heap.size W0 W → Calls Tryz.prog 59 #[.slice p k c, .slice cq k cd] W fun e w' => Below W.heap.size W w' ∧ e = .returned (.bool true)) := Lib.hid (fun W hW => by
    rw [← hsl.out]; exact isslab_any' p cq c cd k k s cuts W hs hk hn4 hsh.out.2.1 (HP.out.below (HBX.out W hW).1) (HCQ.out.below (HBX.out W hW).1))
  have HCO : Hid (∀ W, Below W0.heap.size W0 W → Calls Tryz.prog 61 #[.slice cq k cd] W fun e w' => ∃ g, e = .returned (.slice (some ⟨g, 0, none⟩) k k) ∧ w'.heap[g]? = some (.cells (ixC (cnts cuts)) 3 (0, 0)) ∧ Below W.heap.size W w') := Lib.hid (fun W hW =>
    (shapeof_any cq cd k cuts W hn4 hk HCZ (HCQ.out.below (HBX.out W hW).1)).mono (fun e w' h => by obtain ⟨h1, g, h2, h3, h4⟩ := h; exact ⟨g, h3, h4, h1⟩))
  have HEQ : Hid (∀ W g, Below W0.heap.size W0 W → W.heap[g]? = some (.cells (ixC (cnts cuts)) 3 (0, 0)) → Calls Tryz.prog 67 #[.slice p2 k c2, .slice (some ⟨g, 0, none⟩) k k] W fun e w' => Below W.heap.size W w' ∧ e = .returned (.bool true)) := Lib.hid (fun W g hW hg => by
    have := equal_any p2 (some ⟨g, 0, none⟩) c2 k k k ((cnts cuts).map Int.ofNat) ((cnts cuts).map Int.ofNat) W (Lib.hid (by rw [List.length_map, HCN.out])) (Lib.hid (by rw [List.length_map, HCN.out])) (by omega) (HP2.out.below (HBX.out W hW).1) (rdn_row hg (fun x hx => by have := HCB.out x hx; omega))
    rw [decide_eq_true rfl] at this
    exact this.mono (fun e w' h => ⟨by obtain ⟨j, rfl⟩ := h.1; exact ⟨rfl, rfl, rfl, Nat.le_refl _, fun _ _ => rfl⟩, h.2⟩))
  clear hp hq hp2 hq2 hcq he hva hvb hcl hcz hcb hcp
  refine (callsIn_wide (n := 9)).1 ?_
  refine callsIn_of_wp_marks Tryz.func26 rfl trivial ?_ rfl
  simp only [Tryz.ntmps26, List.size_toArray, List.length_cons, List.length_nil, Nat.reduceAdd, Nat.reduceSub, Array.replicate_succ, Array.replicate_zero, List.push_toArray, List.append_toArray, List.nil_append, List.cons_append]
  refine wpIn_wide.2 ?_
  go_wp2_with fail
  rw [HW0.out, ← HA.out]
  refine (HVA.out).mono ?_
  rintro e w1 ⟨hb1, rfl⟩
  have HB1 := Lib.hid hb1
  obtain ⟨-, x0, x1, y1⟩ := HBX.out w1 hb1
  have c1 : w1.cell? ⟨A + 1, 0, none⟩ = some (.slice p2 k c2) := by simp [World.cell?, x1]
  have c2' : w1.cell? ⟨A + 1, 1, none⟩ = some (.slice q2 m2 d2) := by simp [World.cell?, x1]
  clear hb1 x0 x1 y1
  go_wp2_with fail
  refine (HVB.out _ HB1.out).mono ?_
  rintro e w2 ⟨hb2, rfl⟩
  have HB2 := Lib.hid (HB1.out.trans (hb2.mono HB1.out.size))
  clear hb2 c1 c2'
  obtain ⟨-, x0, x1, y1⟩ := HBX.out w2 HB2.out
  have c0 : w2.cell? ⟨A, 0, none⟩ = some (.slice p k c) := by simp [World.cell?, x0]
  clear x0 x1 y1
  go_wp2_with fail
  refine (HFI.out _ HB2.out).mono ?_
  rintro e w3 ⟨hb3, rfl⟩
  have HB3 := Lib.hid (HB2.out.trans (hb3.mono HB2.out.size))
  clear hb3 c0
  have HSS : Hid (∀ W, Below W0.heap.size W0 W → (fun W => W.cell? ⟨A + 1, 0, none⟩ = some (.slice p2 k c2)) W) := Lib.hid (fun W hW => by
    have := (HBX.out W hW).2.2.1
    simp [World.cell?, this])
  have HBD : Hid (Below W0.heap.size W0 w3.drew) := Lib.hid (HB3.out.trans ⟨rfl, rfl, rfl, Nat.le_refl _, fun _ _ => rfl⟩)
  go_wp2_with fail
  refine wp_region_noPanic ?_
  refine wp_region_held_drew (S := fun W => W.cell? ⟨A + 1, 0, none⟩ = some (.slice p2 k c2)) (by kernel_rfl) (HSS.out _ HBD.out) (fun hHeld => ?_)
  refine wpAnyH_take (i := 0) (v := ?v1) rfl (by kernel_rfl) (by kernel_rfl) (by kernel_rfl) (fun _ _ _ h => h) (Or.inl ⟨by rfl, ?hy1⟩) (by assumption) ?rest1
  case hy1 =>
    intro W' hSw
    obtain e0 := hSw
    go_simp
    with_reducible rfl
  simp only [List.getElem_toArray, List.getElem_cons_zero, Act.put, List.setIfInBounds_toArray, List.set_cons_zero, List.set_cons_succ]
  refine wpAnyH_take (i := 1) (v := ?v2) rfl (by kernel_rfl) (by kernel_rfl) (by kernel_rfl) (fun _ _ _ h => h) (Or.inl ⟨by rfl, ?hy2⟩) (by assumption) ?rest2
  case hy2 =>
    intro W' hSw
    obtain e0 := hSw
    go_simp
    with_reducible rfl
  simp only [List.getElem_toArray, List.getElem_cons_zero, List.getElem_cons_succ, Act.put, List.setIfInBounds_toArray, List.set_cons_zero, List.set_cons_succ]
  refine wpAnyH_take (i := 2) (v := ?v3) rfl (by kernel_rfl) (by kernel_rfl) (by kernel_rfl) (fun _ _ _ h => h) (Or.inl ⟨by rfl, ?hy3⟩) (by assumption) ?rest3
  case hy3 =>
    intro W' hSw
    obtain e0 := hSw
    go_simp
    with_reducible rfl
  simp only [List.getElem_toArray, List.getElem_cons_zero, List.getElem_cons_succ, Act.put, List.setIfInBounds_toArray, List.set_cons_zero, List.set_cons_succ]
  refine wpAnyH_ready (rs := [3]) (by kernel_rfl) (by simp) ?_
  refine AllReadyH.cons (i := 3) rfl (fun K hK => ?_) AllReadyH.nil
  go_simp
  refine (HCO.out _ HBD.out).mono ?_
  rintro e w4 ⟨g4, rfl, hg4, hb4⟩
  have HG4 := Lib.hid hg4
  have HB4 : Hid (Below W0.heap.size W0 w4) := Lib.hid (HBD.out.trans (hb4.mono HBD.out.size))
  clear hg4 hb4
  refine hK.out _ _ (HSS.out _ HB4.out) (fun hHeld => ?_)
  clear hK K
  refine wpAnyH_ready (rs := [4]) (by kernel_rfl) (by simp) ?_
  refine AllReadyH.cons (i := 4) rfl (fun K hK => ?_) AllReadyH.nil
  go_simp
  refine (HEQ.out _ _ HB4.out HG4.out).mono ?_
  rintro e w5 ⟨hb5, rfl⟩
  have HB5 : Hid (Below W0.heap.size W0 w5) := Lib.hid (HB4.out.trans (hb5.mono HB4.out.size))
  clear hb5
  refine hK.out _ _ (HSS.out _ HB5.out) (fun hHeld => ?_)
  clear hK K
  refine wpAnyH_take (i := 5) (v := ?v4) rfl (by kernel_rfl) (by kernel_rfl) (by kernel_rfl) (fun _ _ _ h => h) (Or.inl ⟨by rfl, ?hy4⟩) (by assumption) ?rest4
  case hy4 =>
    intro W' hSw
    obtain e0 := hSw
    go_simp
    with_reducible rfl
  simp only [List.getElem_toArray, List.getElem_cons_zero, List.getElem_cons_succ, Act.put, List.setIfInBounds_toArray, List.set_cons_zero, List.set_cons_succ]
  refine wpAnyH_done (by kernel_rfl) ?_ _
  refine NoPanic.normal ?_
  clear hHeld
  obtain ⟨hbw, x0, x1, y1⟩ := HBX.out w5 HB5.out
  have HX5 := Lib.hid x0
  have HX51 := Lib.hid x1
  have HY5 := Lib.hid y1
  have HBk := Lib.hid hbw
  have c0 : w5.cell? ⟨A, 0, none⟩ = some (.slice p k c) := by simp [World.cell?, x0]
  have c1 : w5.cell? ⟨A, 1, none⟩ = some (.slice q m d) := by simp [World.cell?, x0]
  have HA5 : Hid (A + 1 + 1 + 1 ≤ w5.heap.size) := Lib.hid (by rw [← HS0.out]; exact HB5.out.size)
  have H65 := Lib.hid (pcopied_any p q c d k m s l w5 hs hn4 (Lib.hid hsh.out.2.1) hl hm (HP.out.below hbw) (HQ.out.below hbw))
  clear hbw x0 x1 y1
  go_wp2_with fail
  refine (H65.out).mono ?_
  rintro e w6 ⟨hb6, qs, ds, qv, dv, rfl, hqs, hqsb, hqsv, hown⟩
  obtain ⟨G, HG⟩ : ∃ G, Hid (G = w6.heap.size) := ⟨_, Lib.hid rfl⟩
  obtain ⟨W7, HW7⟩ : ∃ W7, Hid (w6.alloc (.cells #[.slice qs k ds, .slice qv m dv] 25) = W7) := ⟨_, Lib.hid rfl⟩
  have hb67 : Below w6.heap.size w6 W7 := by rw [← HW7.out]; exact (Below.refl _ _).alloc (Nat.le_refl _) _
  have HB57 : Hid (Below w5.heap.size w5 W7) := Lib.hid (hb6.trans (hb67.mono hb6.size))
  have HG7 : Hid (W7.heap[G]? = some (.cells #[.slice qs k ds, .slice qv m dv] 25 (0, 0))) := Lib.hid (by rw [← HW7.out, HG.out]; exact World.alloc_heap_new _ _)
  have HS7 : Hid (W7.heap.size = G + 1) := Lib.hid (by rw [← HW7.out, HG.out]; simp)
  have H56 : Hid (w5.heap.size ≤ G) := Lib.hid (by rw [HG.out]; exact hb6.size)
  have HQS : Hid (RdN W7 qs s) := Lib.hid (hqs.below hb67)
  have HQSB : Hid (∀ b off, qs = some ⟨b, off, none⟩ → 0 < s.length → w5.heap.size ≤ b ∧ b < G) := Lib.hid (fun b off e h0 => by
    refine ⟨hqsb b off e, ?_⟩
    obtain ⟨b', off', x, e', hb', -⟩ := hqs.at h0
    rw [e] at e'; cases e'; rw [HG.out]; exact hb')
  have HOW7 : Hid (W7.ownsRow w5.heap.size 9 1 (.slice qv m dv) m (strs l)) := Lib.hid (hown.kept (gb_of_below hb67 none) (by cases qv <;> simp [Value.ownBlock]))
  have HVB7 : Hid (∀ b, (Value.slice qv m dv).ownBlock = some b → w5.heap.size ≤ b ∧ b < G) := Lib.hid (fun b e => by
    obtain ⟨h1, h2⟩ := hown.lt b e
    exact ⟨h1, by rw [HG.out]; exact h2⟩)
  have HQSV := Lib.hid hqsv
  clear hb6 hqs hqsb hqsv hown hb67 c0 c1
  go_wp2_with fail
  rw [HW7.out, ← HG.out]
  refine (within_any cq cd k W7 hn4).mono ?_
  rintro e w8 ⟨rfl, e8⟩
  obtain ⟨C, HC⟩ : ∃ C, Hid (C = G + 1) := ⟨_, Lib.hid rfl⟩
  have hC : W7.heap.size = C := by rw [HS7.out, HC.out]
  rw [hC] at e8 ⊢
  have HE8 := Lib.hid e8
  have HS8 : Hid (w8.heap.size = C + 3) := Lib.hid (by rw [e8]; simp [hC])
  clear e8
  have n0 : (w8.alloc (.cells #[.nilFunc] 72)).heap[w8.heap.size]? = some (.cells #[.nilFunc] 72 (0, 0)) := World.alloc_heap_new w8 _
  have n1 : (w8.alloc (.cells #[.nilFunc] 72)).cell? ⟨w8.heap.size, 0, none⟩ = some .nilFunc := by unfold World.cell?; simp only [n0]; rfl
  have n2 : (w8.alloc (.cells #[.nilFunc] 72)).frozen? ⟨w8.heap.size, 0, none⟩ = false := by unfold World.frozen?; simp only [n0]; rfl
  have h78 : Below W7.heap.size W7 w8 := by
    rw [HE8.out]
    exact (((Below.refl _ W7).alloc (Nat.le_refl _) _).alloc (by simp) _).alloc (by simp; omega) _
  have x8 : w8.heap[A + 1]? = some (.cells #[.slice p2 k c2, .slice q2 m2 d2] 25 (0, 0)) := (h78.block (A + 1) (by have := HA5.out; have := HB57.out.size; omega)).trans ((HB57.out.block (A + 1) (by have := HA5.out; omega)).trans HX51.out)
  have hld : ∀ o, (w8.alloc o).cell? ⟨A + 1, 0, none⟩ = some (.slice p2 k c2) := fun o => by
    have h := (Below.heap_alloc w8 o (A + 1) (Array.getElem?_eq_some_iff.1 x8).1).trans x8
    simp [World.cell?, h]
  obtain ⟨F, HF⟩ : ∃ F, Hid (F = w8.heap.size) := ⟨_, Lib.hid rfl⟩
  clear hC
  go_wp2_with fail
  refine ((callsIn_wide (n := 9)).1 (indexes_in 9 _ _ _ _)).mono ?_
  rintro e w10 ⟨rfl, e10⟩
  clear n0 n1 n2 hld
  rw [← HF.out]
  obtain ⟨Bb, HBb⟩ : ∃ Bb, Hid (Bb = C + 4) := ⟨_, Lib.hid rfl⟩
  have hBb : (w8.alloc (.cells #[.func (.func 89) #[] #[.pointer (some ⟨C, 0, none⟩), .pointer (some ⟨C + 1 + 1, 0, none⟩)]] 72)).heap.size = Bb := by rw [HBb.out]; simp [HS8.out]
  rw [hBb]
  have HE10 := Lib.hid e10
  have hFC : F = C + 3 := by rw [HF.out, HS8.out]
  have HS10 : Hid (w10.heap.size = C + 5) := Lib.hid (by rw [e10]; simp [HS8.out])
  have h710 : Below W7.heap.size W7 w10 := by
    rw [e10]
    have h1 := h78.size
    exact (h78.alloc (by omega) _).alloc (by simp; omega) _
  have HB710 := Lib.hid h710
  have b0 : w10.heap[C]? = some (.cells #[.slice cq k cd] 36 (0, 0)) := by
    rw [HE10.out, HE8.out, ← (show W7.heap.size = C by rw [HS7.out, HC.out])]; simp only [World.alloc, Array.getElem?_push, Array.size_push]
    repeat' (first | rw [if_pos (by omega)] | rw [if_neg (by omega)] | rfl)
  have b1 : w10.heap[C + 1]? = some (.cells (ixC (zn k)) 3 (0, 0)) := by
    rw [HE10.out, HE8.out, ← (show W7.heap.size = C by rw [HS7.out, HC.out])]; simp only [World.alloc, Array.getElem?_push, Array.size_push]
    repeat' (first | rw [if_pos (by omega)] | rw [if_neg (by omega)] | rfl)
  have b2 : w10.heap[C + 1 + 1]? = some (.cells #[.slice (some ⟨C + 1, 0, none⟩) k k] 22 (0, 0)) := by
    rw [HE10.out, HE8.out, ← (show W7.heap.size = C by rw [HS7.out, HC.out])]; simp only [World.alloc, Array.getElem?_push, Array.size_push]
    repeat' (first | rw [if_pos (by omega)] | rw [if_neg (by omega)] | rfl)
  have b3 : w10.heap[F]? = some (.cells #[.func (.func 89) #[] #[.pointer (some ⟨C, 0, none⟩), .pointer (some ⟨C + 1 + 1, 0, none⟩)]] 72 (0, 0)) := by
    rw [HE10.out, HF.out]
    exact (Below.heap_alloc _ _ _ (by simp)).trans (World.alloc_heap_new w8 _)
  have b4 : w10.heap[Bb]? = some (.cells #[.slice p2 k c2] 22 (0, 0)) := by
    rw [HE10.out, ← hBb]; exact World.alloc_heap_new _ _
  clear e10 h78 x8 hBb
  obtain ⟨R, HR⟩ : ∃ R, Hid (R = C + 1) := ⟨_, Lib.hid rfl⟩
  rw [← HR.out] at b1
  have b2' : w10.heap[C + 1 + 1]? = some (.cells #[.slice (some ⟨R, 0, none⟩) k k] 22 (0, 0)) := by rw [HR.out]; exact b2
  have HORD : Hid (A + 1 + 1 + 1 ≤ w5.heap.size ∧ w5.heap.size ≤ G ∧ C = G + 1 ∧ R = C + 1 ∧ F = C + 3 ∧ Bb = C + 4 ∧ w10.heap.size = C + 5 ∧ A = w.heap.size) := Lib.hid ⟨HA5.out, H56.out, HC.out, HR.out, hFC, HBb.out, HS10.out, HA.out⟩
  clear hFC
  have HB510 : Hid (Below w5.heap.size w5 w10) := Lib.hid (HB57.out.trans (h710.mono HB57.out.size))
  have HBW10 : Hid (Below w.heap.size w w10) := Lib.hid (HBk.out.trans (HB510.out.mono HBk.out.size))
  have HK0 := Lib.hid b0
  have HK2 := Lib.hid b2'
  have HK3 := Lib.hid b3
  have HK4 := Lib.hid b4
  have HKA : Hid (w10.heap[A]? = some (.cells #[.slice p k c, .slice q m d] 25 (0, 0))) := Lib.hid ((HB510.out.block A (by have := HA5.out; omega)).trans HX5.out)
  have HKB : Hid (w10.heap[A + 1]? = some (.cells #[.slice p2 k c2, .slice q2 m2 d2] 25 (0, 0))) := Lib.hid ((HB510.out.block (A + 1) (by have := HA5.out; omega)).trans HX51.out)
  have HKR : Hid (w10.heap[A + 1 + 1]? = some (.cells #[.slice none 0 0, .slice none 0 0] 25 (0, 0))) := Lib.hid ((HB510.out.block (A + 1 + 1) (by have := HA5.out; omega)).trans HY5.out)
  have HKG : Hid (w10.heap[G]? = some (.cells #[.slice qs k ds, .slice qv m dv] 25 (0, 0))) := Lib.hid ((HB710.out.block G (by rw [HS7.out]; omega)).trans HG7.out)
  have HPI0 : Hid (PI w10 w5.heap.size R k m qv dv pos bl l [] w10) := Lib.hid ⟨rfl, rfl, rfl, Nat.le_refl _, fun _ _ _ _ => rfl, ⟨zn k, by simp [zn], b1⟩, HOW7.out.kept (gb_of_below HB710.out none) (by cases qv <;> simp [Value.ownBlock])⟩
  have HVL : Hid (∀ b, (Value.slice qv m dv).ownBlock = some b → b < w10.heap.size) := Lib.hid (fun b e => by have := HVB7.out b e; have := HORD.out; omega)
  have HRL : Hid (R < w10.heap.size) := Lib.hid (by have := HORD.out; omega)
  clear b0 b1 b2 b2' b3 b4 h710
  go_wp2_with fail
  refine (wpIn_wide (n := 9)).1 ?_
  refine wpIn_rangeFunc_cells rfl (by omega) (gf := 92) (lb := #[.pointer (some ⟨Bb, 0, none⟩)]) rfl trivial (enters_of Tryz.func92 (by kernel_rfl) rfl)
    (indexes_seq _ (by omega) Bb w10.heap.size k c2 p2 (cnts cuts) hn4 HCN HCB (by rw [← HN.out]; exact hN4) w10 (by omega) HK4.out (HP2.out.below HBW10.out))
    (fun x A l o o' ho hc hat => hat.put ho hc) (Below.refl _ _) (fun _ => rfl)
    (fun pre W => PI w10 w5.heap.size R k m qv dv pos bl l pre W)
    (fun pre A B r h hg hr => h.above hg (fun k e => (hr k e).1) HRL.out HVL.out)
    HPI0.out ?a1 ?assign ?body ?done
  case assign =>
    intro lo x W K hK
    gi_wp2
    exact hK
  case body =>
    rintro lo pre ⟨i, g⟩ W hPI hAt -
    have hiN : i < N := by rw [HN.out]; exact hAt.lt
    have him2 : (i : Int) < (m2 : Int) := by rw [HMB.out]; omega
    have hgn := hAt.new
    have HPIh := Lib.hid hPI
    have HAT := Lib.hid hAt
    obtain ⟨ix, HIX⟩ : ∃ ix, Hid (ixOf (cnts cuts) i = ix) := ⟨_, Lib.hid rfl⟩
    have hixc := (ixOf_is (cnts cuts) i (by rw [← HN.out]; exact hiN)).1
    rw [HIX.out] at hixc
    obtain ⟨hto, hti⟩ := thr_ok hsl.out hsh.out.2.1 hixc
    have HTO := Lib.hid hto
    have HTI := Lib.hid hti
    have HIXL : Hid (ix.length = k) := Lib.hid (by rw [hixc.1, HCN.out])
    have HIXB : Hid (∀ x ∈ ix, (x : Int) ≤ 9223372036854775807) := Lib.hid (fun x hx => by
      rw [← HIX.out] at hx
      have := ixOf_small (by rw [← HN.out]; exact hiN) HCB.out x hx; omega)
    have HTHB : Hid (∀ x ∈ thr cuts ix, (x : Int) ≤ 9223372036854775807) := Lib.hid (fun x hx => by
      obtain ⟨j, hj, e⟩ := List.getElem_of_mem hx
      have h1 := HTI.out.2 j (by rw [← HTI.out.1]; exact hj)
      have h2 := hsh.out.2.1 (s.getD j 0) (by rw [List.getD_eq_getElem?_getD, List.getElem?_eq_getElem (by rw [← HTI.out.1]; exact hj)]; exact List.getElem_mem _)
      rw [List.getD_eq_getElem?_getD, List.getElem?_eq_getElem hj, Option.getD_some, e] at h1
      omega)
    obtain ⟨y, HY⟩ : ∃ y, Hid (y = plc s (thr cuts ix) 0) := ⟨_, rfl⟩
    have hym : y < m := by
      have := (plc_lt s (thr cuts ix) 0 hti).1
      rw [HY.out, HML.out]; simpa using this
    have hyi : (y : Int) < (m : Int) := by omega
    have HYP : Hid (pos i = y) := Lib.hid (by rw [HPOS.out]; show plc s (thr cuts (ixOf (cnts cuts) i)) 0 = y; rw [HIX.out, HY.out])
    obtain ⟨V, eV, hVB⟩ : ∃ V, qv = some ⟨V, 0, none⟩ ∧ (w5.heap.size ≤ V ∧ V < G) := by
      obtain ⟨-, ⟨-, e⟩ | ⟨V, cap, _, e, -⟩⟩ := hPI.vals
      · omega
      · injection e with e _ _
        subst e
        exact ⟨V, rfl, HVB7.out V rfl⟩
    subst eV
    obtain ⟨bb, bo, xs, eq1, hbb, -, HXS⟩ := HQ2.out.at (k := i) (by rw [hbl.out, HMB.out]; exact hiN)
    subst eq1
    have HORDV : Hid (A + 1 + 1 + 1 ≤ w5.heap.size ∧ w5.heap.size ≤ G ∧ C = G + 1 ∧ R = C + 1 ∧ F = C + 3 ∧ Bb = C + 4 ∧ w10.heap.size = C + 5 ∧ A = w.heap.size ∧ w5.heap.size ≤ V ∧ V < G ∧ bb < w.heap.size ∧ C + 5 ≤ g) := Lib.hid (by have := HORD.out; omega)
    have HSO : Hid (∀ X : World, (∀ b, b < w10.heap.size → b ≠ R → b ≠ V → X.heap[b]? = w10.heap[b]?) → (fun W : World => W.cell? ⟨G, 1, none⟩ = some (.slice (some ⟨V, 0, none⟩) m dv) ∧ W.cell? ⟨A, 0, none⟩ = some (.slice p k c) ∧ W.cell? ⟨F, 0, none⟩ = some (.func (.func 89) #[] #[.pointer (some ⟨C, 0, none⟩), .pointer (some ⟨C + 1 + 1, 0, none⟩)]) ∧ W.cell? ⟨A + 1, 1, none⟩ = some (.slice (some ⟨bb, bo, none⟩) m2 d2) ∧ W.cell? ⟨bb, bo + i, none⟩ = some (.string ⟨List.toArray xs⟩)) X) := Lib.hid (fun X hX => by
      have ho := HORDV.out
      have hG := (hX G (by omega) (by omega) (by omega)).trans HKG.out
      have hA := (hX A (by omega) (by omega) (by omega)).trans HKA.out
      have hF := (hX F (by omega) (by omega) (by omega)).trans HK3.out
      have hB := (hX (A + 1) (by omega) (by omega) (by omega)).trans HKB.out
      obtain ⟨b', o', x', e', -, hc, hx'⟩ := (HQ2.out.below HBW10.out).at (k := i) (by rw [hbl.out, HMB.out]; exact hiN)
      cases e'
      rw [hx'.out, ← HXS.out] at hc
      have hbx := hX bb (by omega) (by omega) (by omega)
      exact ⟨by simp [World.cell?, hG], by simp [World.cell?, hA], by simp [World.cell?, hF], by simp [World.cell?, hB], (World.cell?_of_block (a := ⟨bb, bo + i, none⟩) hbx).trans hc⟩)
    have HBLK : Hid (∀ b, b < w10.heap.size → b ≠ R → b ≠ V → W.heap[b]? = w10.heap[b]?) := Lib.hid (fun b h1 h2 h3 => hPI.blk b h1 h2 (by intro e; injection e with e; exact h3 e.symm))
    have HSD : Hid ((fun W : World => W.cell? ⟨G, 1, none⟩ = some (.slice (some ⟨V, 0, none⟩) m dv) ∧ W.cell? ⟨A, 0, none⟩ = some (.slice p k c) ∧ W.cell? ⟨F, 0, none⟩ = some (.func (.func 89) #[] #[.pointer (some ⟨C, 0, none⟩), .pointer (some ⟨C + 1 + 1, 0, none⟩)]) ∧ W.cell? ⟨A + 1, 1, none⟩ = some (.slice (some ⟨bb, bo, none⟩) m2 d2) ∧ W.cell? ⟨bb, bo + i, none⟩ = some (.string ⟨List.toArray xs⟩)) W.drew) := Lib.hid (HSO.out W.drew (fun b h1 h2 h3 => HBLK.out b h1 h2 h3))
    obtain ⟨r0, hr0l, hr0⟩ := hPI.row
    have HR0 := Lib.hid (And.intro hr0l hr0)
    have HCW : Hid (RdC W cq cuts) := Lib.hid ((HCQ.out.below HBW10.out).keep hPI.size (fun b off e h0 => by
      obtain ⟨b', off', _, _, _, e', hb', -⟩ := HCQ.out.at h0
      rw [e] at e'; cases e'
      have ho := HORDV.out
      exact HBLK.out b (by omega) (by omega) (by omega)))
    have HPW : Hid (RdN W p s) := Lib.hid ((RdN.below HP.out HBW10.out).keep hPI.size (fun b off e h0 => by
      obtain ⟨b', off', _, e', hb', -⟩ := HP.out.at h0
      rw [e] at e'; cases e'
      have ho := HORDV.out
      exact HBLK.out b (by omega) (by omega) (by omega)))
    have H84 : Hid (Calls Tryz.prog 89 #[.slice (some ⟨g, 0, none⟩) k k, .pointer (some ⟨C, 0, none⟩), .pointer (some ⟨C + 1 + 1, 0, none⟩)] W.drew (ThrPost R k cuts ix W.drew)) := Lib.hid (by
      have ho := HORDV.out
      refine thr_any (some ⟨g, 0, none⟩) cq k cd k R C (C + 1 + 1) cuts ix r0 W.drew hn4 hk HIXL (Lib.hid HR0.out.1) HTO ⟨(HBLK.out C (by omega) (by omega) (by omega)).trans HK0.out, (HBLK.out (C + 1 + 1) (by omega) (by omega) (by omega)).trans HK2.out, HCW.out.below ⟨rfl, rfl, rfl, Nat.le_refl _, fun _ _ => rfl⟩, by omega, by omega, fun b off e h0 => ?_⟩ (rdn_row (by rw [← HIX.out]; exact HAT.out.row) HIXB.out) (fun b off e _ => by cases e; omega) HR0.out.2
      obtain ⟨b', off', _, _, _, e', hb', -⟩ := HCQ.out.at h0
      rw [e] at e'; cases e'; omega)
    clear hixc hto hti hym hbb hPI hAt hr0l hr0
    gi_wp2
    refine region_round (S := fun W : World => W.cell? ⟨G, 1, none⟩ = some (.slice (some ⟨V, 0, none⟩) m dv) ∧ W.cell? ⟨A, 0, none⟩ = some (.slice p k c) ∧ W.cell? ⟨F, 0, none⟩ = some (.func (.func 89) #[] #[.pointer (some ⟨C, 0, none⟩), .pointer (some ⟨C + 1 + 1, 0, none⟩)]) ∧ W.cell? ⟨A + 1, 1, none⟩ = some (.slice (some ⟨bb, bo, none⟩) m2 d2) ∧ W.cell? ⟨bb, bo + i, none⟩ = some (.string ⟨List.toArray xs⟩)) (by kernel_rfl) (by kernel_rfl) (fun ⟨_, _, h⟩ => h) HSD.out (fun hHeld => ?_)
    refine wpAnyH_take (i := 0) (v := ?v5) rfl (by kernel_rfl) (by kernel_rfl) (by kernel_rfl) (fun _ _ _ h => h) (Or.inl ⟨by rfl, ?hy5⟩) (by assumption) ?rest5
    case hy5 =>
      intro W' hSw
      obtain ⟨e0, e1, e2, e3, e4⟩ := hSw
      go_simp
      with_reducible rfl
    simp only [List.getElem_toArray, List.getElem_cons_zero, Act.put, List.setIfInBounds_toArray, List.set_cons_zero, List.set_cons_succ]
    refine wpAnyH_take (i := 1) (v := ?v6) rfl (by kernel_rfl) (by kernel_rfl) (by kernel_rfl) (fun _ _ _ h => h) (Or.inl ⟨by rfl, ?hy6⟩) (by assumption) ?rest6
    case hy6 =>
      intro W' hSw
      obtain ⟨e0, e1, e2, e3, e4⟩ := hSw
      go_simp
      with_reducible rfl
    simp only [List.getElem_toArray, List.getElem_cons_zero, List.getElem_cons_succ, Act.put, List.setIfInBounds_toArray, List.set_cons_zero, List.set_cons_succ]
    refine wpAnyH_take (i := 2) (v := ?v7) rfl (by kernel_rfl) (by kernel_rfl) (by kernel_rfl) (fun _ _ _ h => h) (Or.inl ⟨by rfl, ?hy7⟩) (by assumption) ?rest7
    case hy7 =>
      intro W' hSw
      obtain ⟨e0, e1, e2, e3, e4⟩ := hSw
      go_simp
      with_reducible rfl
    simp only [List.getElem_toArray, List.getElem_cons_zero, List.getElem_cons_succ, Act.put, List.setIfInBounds_toArray, List.set_cons_zero, List.set_cons_succ]
    refine wpAnyH_take (i := 3) (v := ?v8) rfl (by kernel_rfl) (by kernel_rfl) (by kernel_rfl) (fun _ _ _ h => h) (Or.inl ⟨by rfl, ?hy8⟩) (by assumption) ?rest8
    case hy8 =>
      intro W' hSw
      obtain ⟨e0, e1, e2, e3, e4⟩ := hSw
      go_simp
      with_reducible rfl
    simp only [List.getElem_toArray, List.getElem_cons_zero, List.getElem_cons_succ, Act.put, List.setIfInBounds_toArray, List.set_cons_zero, List.set_cons_succ]
    refine wpAnyH_take (i := 4) (v := ?v9) rfl (by kernel_rfl) (by kernel_rfl) (by kernel_rfl) (fun _ _ _ h => h) (Or.inl ⟨by rfl, ?hy9⟩) (by assumption) ?rest9
    case hy9 =>
      intro W' hSw
      obtain ⟨e0, e1, e2, e3, e4⟩ := hSw
      go_simp
      with_reducible rfl
    simp only [List.getElem_toArray, List.getElem_cons_zero, List.getElem_cons_succ, Act.put, List.setIfInBounds_toArray, List.set_cons_zero, List.set_cons_succ]
    refine wpAnyH_take (i := 5) (v := ?v10) rfl (by kernel_rfl) (by kernel_rfl) (by kernel_rfl) (fun _ _ _ h => h) (Or.inl ⟨by rfl, ?hy10⟩) (by assumption) ?rest10
    case hy10 =>
      intro W' hSw
      obtain ⟨e0, e1, e2, e3, e4⟩ := hSw
      go_simp
      with_reducible rfl
    simp only [List.getElem_toArray, List.getElem_cons_zero, List.getElem_cons_succ, Act.put, List.setIfInBounds_toArray, List.set_cons_zero, List.set_cons_succ]
    refine wpAnyH_take (i := 8) (v := ?v11) rfl (by kernel_rfl) (by kernel_rfl) (by kernel_rfl) (fun _ _ _ h => h) (Or.inl ⟨by rfl, ?hy11⟩) (by assumption) ?rest11
    case hy11 =>
      intro W' hSw
      obtain ⟨e0, e1, e2, e3, e4⟩ := hSw
      go_simp
      with_reducible rfl
    simp only [List.getElem_toArray, List.getElem_cons_zero, List.getElem_cons_succ, Act.put, List.setIfInBounds_toArray, List.set_cons_zero, List.set_cons_succ]
    refine wpAnyH_take (i := 9) (v := ?v12) rfl (by kernel_rfl) (by kernel_rfl) (by kernel_rfl) (fun _ _ _ h => h) (Or.inl ⟨by rfl, ?hy12⟩) (by assumption) ?rest12
    case hy12 =>
      intro W' hSw
      obtain ⟨e0, e1, e2, e3, e4⟩ := hSw
      go_simp
      with_reducible rfl
    simp only [List.getElem_toArray, List.getElem_cons_zero, List.getElem_cons_succ, Act.put, List.setIfInBounds_toArray, List.set_cons_zero, List.set_cons_succ]
    refine wpAnyH_take (i := 10) (v := ?v13) rfl (by kernel_rfl) (by kernel_rfl) (by kernel_rfl) (fun _ _ _ h => h) (Or.inl ⟨by rfl, ?hy13⟩) (by assumption) ?rest13
    case hy13 =>
      intro W' hSw
      obtain ⟨e0, e1, e2, e3, e4⟩ := hSw
      go_simp
      with_reducible rfl
    simp only [List.getElem_toArray, List.getElem_cons_zero, List.getElem_cons_succ, Act.put, List.setIfInBounds_toArray, List.set_cons_zero, List.set_cons_succ]
    refine wpAnyH_take (i := 11) (v := ?v14) rfl (by kernel_rfl) (by kernel_rfl) (by kernel_rfl) (fun _ _ _ h => h) (Or.inl ⟨by rfl, ?hy14⟩) (by assumption) ?rest14
    case hy14 =>
      intro W' hSw
      obtain ⟨e0, e1, e2, e3, e4⟩ := hSw
      go_simp
      with_reducible rfl
    simp only [List.getElem_toArray, List.getElem_cons_zero, List.getElem_cons_succ, Act.put, List.setIfInBounds_toArray, List.set_cons_zero, List.set_cons_succ]
    refine wpAnyH_take (i := 12) (v := ?v15) rfl (by kernel_rfl) (by kernel_rfl) (by kernel_rfl) (fun _ _ _ h => h) (Or.inl ⟨by rfl, ?hy15⟩) (by assumption) ?rest15
    case hy15 =>
      intro W' hSw
      obtain ⟨e0, e1, e2, e3, e4⟩ := hSw
      go_simp
      with_reducible rfl
    simp only [List.getElem_toArray, List.getElem_cons_zero, List.getElem_cons_succ, Act.put, List.setIfInBounds_toArray, List.set_cons_zero, List.set_cons_succ]
    refine wpAnyH_ready (rs := [6]) (by kernel_rfl) (by simp) ?_
    refine AllReadyH.cons (i := 6) rfl (fun K hK => ?_) AllReadyH.nil
    go_simp
    refine (H84.out).mono ?_
    rintro e w4 ⟨rfl, hg4, hr4⟩
    have HG4 := Lib.hid hg4
    have HR4 := Lib.hid hr4
    have HBLK4 : Hid (∀ b, b < w10.heap.size → b ≠ R → b ≠ V → w4.heap[b]? = w10.heap[b]?) := Lib.hid (fun b h1 h2 h3 => (hg4.block b (Nat.lt_of_lt_of_le h1 HPIh.out.size) (by intro e; injection e with e; exact h2 e)).trans (HBLK.out b h1 h2 h3))
    have H67 : Hid (Calls Tryz.prog 70 #[.slice p k c, .slice (some ⟨R, 0, none⟩) k k] w4 fun e w' => w4 = w' ∧ e = .returned (.int .i64 (y : Int))) := Lib.hid (by
      have := place_any p (some ⟨R, 0, none⟩) c k k s (thr cuts ix) w4 hn4 hs (Lib.hid (by rw [HTI.out.1, hs.out])) HTI.out hsh.out.2.2 (RdN.keep HPW.out hg4.size (fun b off e h0 => hg4.block b (by
        obtain ⟨b', off', _, e', hb', -⟩ := HPW.out.at h0
        rw [e] at e'; cases e'; exact hb') (by
        obtain ⟨b', off', _, e', hb', -⟩ := HP.out.at h0
        rw [e] at e'; cases e'
        have ho := HORDV.out
        intro e2; injection e2 with e2; omega))) (rdn_row hr4 HTHB.out)
      rwa [← HY.out] at this)
    have HOW4 : Hid (w4.ownsRow w5.heap.size 9 1 (.slice (some ⟨V, 0, none⟩) m dv) m (strs (pasF pos bl pre l))) := Lib.hid (HPIh.out.vals.kept (w := W) (⟨hg4.os, hg4.tape, hg4.output, hg4.size, hg4.block⟩ : W.grownBy w4 (some R)) (.inr (by have ho := HORDV.out; intro e; injection e with e; change V = R at e; omega)))
    clear hg4 hr4
    refine hK.out _ _ (HSO.out _ HBLK4.out) (fun hHeld => ?_)
    clear hK K
    refine wpAnyH_ready (rs := [7]) (by kernel_rfl) (by simp) ?_
    refine AllReadyH.cons (i := 7) rfl (fun K hK => ?_) AllReadyH.nil
    go_simp
    refine (H67.out).mono ?_
    rintro e w4' ⟨rfl, rfl⟩
    refine hK.out _ _ (HSO.out _ HBLK4.out) (fun hHeld => ?_)
    clear hK K
    refine wpAnyH_take (i := 13) (v := ?v16) rfl (by kernel_rfl) (by kernel_rfl) (by kernel_rfl) (fun _ _ _ h => h) (Or.inl ⟨by rfl, ?hy16⟩) (by assumption) ?rest16
    case hy16 =>
      intro W' hSw
      obtain ⟨e0, e1, e2, e3, e4⟩ := hSw
      go_simp
      with_reducible rfl
    simp only [List.getElem_toArray, List.getElem_cons_zero, List.getElem_cons_succ, Act.put, List.setIfInBounds_toArray, List.set_cons_zero, List.set_cons_succ]
    have hst := HOW4.out.stored y (.string ⟨List.toArray xs⟩)
    rw [strs_set] at hst
    have hcell : w4.cell? ⟨V, y, none⟩ = some (.string ⟨List.toArray ((pasF pos bl pre l).getD y [])⟩) := by
      rw [HOW4.out.cellAt y (by omega)]; exact strs_at (by rw [pasF_len, hl.out]; omega)
    have hfrz : w4.frozen? ⟨V, y, none⟩ = false := HOW4.out.frozenAt y
    obtain ⟨W9, HW9⟩ : ∃ W9, Hid (w4.setCell ⟨V, y, none⟩ (.string ⟨List.toArray xs⟩) = W9) := ⟨_, Lib.hid rfl⟩
    rw [HW9.out] at hst
    have HBLK9 : Hid (∀ b, b < w10.heap.size → b ≠ R → b ≠ V → W9.heap[b]? = w10.heap[b]?) := Lib.hid (fun b h1 h2 h3 => (hst.2.block b (Nat.lt_of_lt_of_le h1 (Nat.le_trans HPIh.out.size HG4.out.size)) (by intro e; injection e with e; exact h3 e)).trans (HBLK4.out b h1 h2 h3))
    have HNEW : Hid (∀ b o, w10.heap.size ≤ b → W.heap[b]? = some o → W9.heap[b]? = some o) := Lib.hid (fun b o h1 h2 => by
      have ho := HORDV.out
      have hb := (Array.getElem?_eq_some_iff.1 h2).1
      exact (hst.2.block b (Nat.lt_of_lt_of_le hb HG4.out.size) (by intro e; injection e with e; omega)).trans ((HG4.out.block b hb (by intro e; injection e with e; omega)).trans h2))
    have HFIN : Hid (KeepsOthers W W9 ∧ IxAt (cnts cuts) p2 k c2 Bb w10.heap.size (i, g) W9 ∧ PI w10 w5.heap.size R k m (some ⟨V, 0, none⟩) dv pos bl l (pre ++ [(i, g)]) W9) := Lib.hid (by
      have ho := HORDV.out
      refine ⟨(KeepsOthers.drew W).trans ((KeepsOthers.of_grownBy HG4.out (fun j o e hj => ?_)).trans (by rw [← HW9.out]; exact KeepsOthers.setCell _ _ _)), ⟨HNEW.out g _ (by omega) HAT.out.row, ?_, ?_, HAT.out.new, HAT.out.lt⟩, ?_⟩
      · cases e
        have : (some o) = some (Obj.cells (ixC r0) 3 (0, 0)) := hj.symm.trans HR0.out.2
        cases this; rfl
      · exact (HBLK9.out Bb (by omega) (by omega) (by omega)).trans HK4.out
      · refine (RdN.below HP2.out HBW10.out).keep (Nat.le_trans HPIh.out.size (Nat.le_trans HG4.out.size hst.2.size)) (fun b off e h0 => ?_)
        obtain ⟨b', off', _, e', hb', -⟩ := HP2.out.at h0
        rw [e] at e'; cases e'
        exact HBLK9.out b (by omega) (by omega) (by omega)
      · refine ⟨hst.2.os.trans (HG4.out.os.trans HPIh.out.so), hst.2.tape.trans (HG4.out.tape.trans HPIh.out.st), hst.2.output.trans (HG4.out.output.trans HPIh.out.sp), Nat.le_trans HPIh.out.size (Nat.le_trans HG4.out.size hst.2.size), fun b h1 h2 h3 => HBLK9.out b h1 h2 (by intro e; exact h3 (by rw [e]; rfl)), ⟨thr cuts ix, by rw [thr_len, hk.out], ?_⟩, ?_⟩
        · exact (hst.2.block R (Array.getElem?_eq_some_iff.1 HR4.out).1 (by intro e; injection e with e; omega)).trans HR4.out
        · rw [pasF_snoc]
          show W9.ownsRow _ 9 1 _ m (strs ((pasF pos bl pre l).set (pos i) (bl.getD i [])))
          rw [HYP.out, ← HXS.out]
          exact hst.1)
    clear hst
    refine wpAnyH_ready (rs := [14]) (by kernel_rfl) (by simp) ?_
    refine AllReadyH.cons (i := 14) rfl (fun K hK => ?_) AllReadyH.nil
    go_simp
    try rw [HW9.out]
    refine hK.out _ _ (HSO.out _ HBLK9.out) (fun hHeld3 => ?_)
    clear hK K
    refine wpAnyH_done (by kernel_rfl) ?_ _
    clear hHeld hHeld3 hcell hfrz
    gi_wp2
    exact HFIN.out
  case done =>
    rintro D9 xs W hD hS hPI hK
    have HPIh := Lib.hid hPI
    have HK := Lib.hid hK
    have ho := HORD.out
    have HD9 : Hid (w10.heap.size ≤ D9) := Lib.hid hD
    have HBLK : Hid (∀ b, b < w10.heap.size → b ≠ R → (Value.slice qv m dv).ownBlock ≠ some b → W.heap[b]? = w10.heap[b]?) := Lib.hid hPI.blk
    have HVN : Hid (∀ b, b < w5.heap.size ∨ G ≤ b → (Value.slice qv m dv).ownBlock ≠ some b) := Lib.hid (fun b hb e => by have := HVB7.out b e; omega)
    have hG := (hPI.blk G (by omega) (by omega) (HVN.out G (.inr (Nat.le_refl _)))).trans HKG.out
    have y6 := (hPI.blk (A + 1 + 1) (by omega) (by omega) (HVN.out (A + 1 + 1) (.inl (by omega)))).trans HKR.out
    have g0 : W.cell? ⟨G, 0, none⟩ = some (.slice qs k ds) := by simp [World.cell?, hG]
    have g1 : W.cell? ⟨G, 1, none⟩ = some (.slice qv m dv) := by simp [World.cell?, hG]
    have r0 : W.cell? ⟨A + 1 + 1, 0, none⟩ = some (.slice none 0 0) := by simp [World.cell?, y6]
    have r1 : W.cell? ⟨A + 1 + 1, 1, none⟩ = some (.slice none 0 0) := by simp [World.cell?, y6]
    have z0 : W.frozen? ⟨A + 1 + 1, 0, none⟩ = false := by simp [World.frozen?, y6]
    have z1 : W.frozen? ⟨A + 1 + 1, 1, none⟩ = false := by simp [World.frozen?, y6]
    have hE1 := heap_set W (A + 1 + 1) 0 (.slice qs k ds) _ _ y6
    have hE2 := heap_set _ (A + 1 + 1) 1 (.slice qv m dv) _ _ hE1
    obtain ⟨W5, hW5⟩ : ∃ W5, (W.setCell ⟨A + 1 + 1, 0, none⟩ (.slice qs k ds)).setCell ⟨A + 1 + 1, 1, none⟩ (.slice qv m dv) = W5 := ⟨_, rfl⟩
    rw [hW5] at hE2
    have hg25 : W.grownBy W5 (some (A + 1 + 1)) := by rw [← hW5]; exact (gb_set _ _ _ _).trans (gb_set _ _ _ _)
    have HK5 : Hid (W5.heap[D9]? = some (.deferred (some []))) := Lib.hid ((hg25.block D9 (Array.getElem?_eq_some_iff.1 hK).1 (by intro e; injection e with e; omega)).trans hK)
    have hput : ∀ {b : Nat}, b ≠ D9 → (W5.putObj D9 (.deferred none)).heap[b]? = W5.heap[b]? := fun {b} h => World.putObj_heap_other h
    have k0 : (W5.putObj D9 (.deferred none)).cell? ⟨A + 1 + 1, 0, none⟩ = some (.slice qs k ds) := by
      have := (hput (b := A + 1 + 1) (by omega)).trans hE2
      simp [World.cell?, this]
    have k1 : (W5.putObj D9 (.deferred none)).cell? ⟨A + 1 + 1, 1, none⟩ = some (.slice qv m dv) := by
      have := (hput (b := A + 1 + 1) (by omega)).trans hE2
      simp [World.cell?, this]
    have hgD : W5.grownBy (W5.putObj D9 (.deferred none)) (some D9) := grownBy_putObj' W5 D9 (.deferred none)
    have HFIN : Hid (ArrPost w 0 s (pasteV s l cuts bl) (.returned (.tuple #[.agg #[.slice qs k ds, .slice qv m dv], .int .i64 0])) (W5.putObj D9 (.deferred none))) := Lib.hid (by
      have hall : ∀ b, b < w10.heap.size → b ≠ R → b ≠ A + 1 + 1 → (Value.slice qv m dv).ownBlock ≠ some b → (W5.putObj D9 (.deferred none)).heap[b]? = w10.heap[b]? := fun b h1 h2 h3 h4 =>
        (hput (by omega)).trans ((hg25.block b (Nat.lt_of_lt_of_le h1 HPIh.out.size) (by intro e; injection e with e; exact h3 e)).trans (HBLK.out b h1 h2 h4))
      refine ⟨⟨hgD.os.trans (hg25.os.trans (HPIh.out.so.trans HBW10.out.os)), hgD.tape.trans (hg25.tape.trans (HPIh.out.st.trans HBW10.out.tape)), hgD.output.trans (hg25.output.trans (HPIh.out.sp.trans HBW10.out.output)), Nat.le_trans HBW10.out.size (Nat.le_trans HPIh.out.size (Nat.le_trans hg25.size hgD.size)), fun b hb => (hall b (by omega) (by omega) (by omega) (HVN.out b (.inl (by omega)))).trans (HBW10.out.block b hb)⟩, qs, qv, k, ds, m, dv, rfl, hs.out, ?_, ?_, ?_⟩
      · unfold pasteV
        have := pasF_len pos bl xs l
        rw [pasF_range hS] at this
        rw [← hl.out, ← this, HPOS.out]
      · refine (HQS.out.below HB710.out).keep (Nat.le_trans HPIh.out.size (Nat.le_trans hg25.size hgD.size)) (fun b off e h0 => ?_)
        obtain ⟨h1, h2⟩ := HQSB.out b off e h0
        exact hall b (by omega) (by omega) (by omega) (HQSV.out b off e h0)
      · have hv : pasF pos bl xs l = pasteV s l cuts bl := by rw [pasF_range hS, HPOS.out]; rfl
        rw [← hv]
        have h1 := HPIh.out.vals.kept hg25 (by
          rcases Option.eq_none_or_eq_some (Value.slice qv m dv).ownBlock with e | ⟨b, e⟩
          · exact .inl e
          · refine .inr ?_
            rw [e]; intro e2; injection e2 with e2
            have := HVB7.out b e
            omega)
        have h2 := h1.kept hgD (by
          rcases Option.eq_none_or_eq_some (Value.slice qv m dv).ownBlock with e | ⟨b, e⟩
          · exact .inl e
          · refine .inr ?_
            rw [e]; intro e2; injection e2 with e2
            have := HVB7.out b e
            omega)
        exact rds_own (by rw [pasF_len, hl.out]) h2)
    clear hE1 hE2 hg25 hput hgD hPI hK hG y6 ho
    go_wp2_with fail
    refine ⟨by simp, .inl ⟨_, _, rfl, run_takeDeferred HK5.out, ?_⟩⟩
    refine ⟨.tuple #[.agg #[.slice qs k ds, .slice qv m dv], .int .i64 0], ?_, HFIN.out⟩
    simp [results, Tryz.f26, go_sem, k0, k1]
end Go.Proofs.YtigidchicloleaaGreatDoor.Arr
