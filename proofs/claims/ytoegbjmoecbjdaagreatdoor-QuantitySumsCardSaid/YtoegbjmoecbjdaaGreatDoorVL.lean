/- The document's Total: its walk. -/
import Derived.Test.YtoegbjmoecbjdaaGreatDoorVI
import Derived.Test.YtoegbjmoecbjdaaGreatDoorRO
import Derived.OwnWalk
set_option maxHeartbeats 8000000
set_option maxRecDepth 100000
namespace Go.Proofs.YtoegbjmoecbjdaaGreatDoor
open Go.RowKit Big
open Go.Lib Go.Shelf
structure SumB (B : Nat) (w0 W : World) (q : Rat) : Prop where
  box : Resa B w0 W
  num : ∃ s p n c r m d, W.heap[B]? = some (.cells #[.bool s, .slice p n c, .slice r m d] 38 (0, 0)) ∧ QAt W (.agg #[.bool s, .slice p n c, .slice r m d]) q
theorem SumB.next {B : Nat} {w0 W W' : World} {q : Rat} (h : SumB B w0 W q) (hb : Below W.heap.size W W') : SumB B w0 W' q := by
  obtain ⟨s, p, n, c, r, m, d, h1, h2⟩ := h.num
  exact ⟨h.box.next hb, s, p, n, c, r, m, d, (hb.block _ (by have := h.box.size; omega)).trans h1, h2.below hb⟩
theorem SumB.put {B : Nat} {w0 W : World} {q q' : Rat} (h : SumB B w0 W q) (hB : w0.heap.size ≤ B) {s : Bool} {p r : Option Addr} {n c m d : Nat} (hq : QAt W (.agg #[.bool s, .slice p n c, .slice r m d]) q') : SumB B w0 (((W.setCell ⟨B, 0, none⟩ (.bool s)).setCell ⟨B, 1, none⟩ (.slice p n c)).setCell ⟨B, 2, none⟩ (.slice r m d)) q' := by
  refine ⟨h.box.put3 hB _ _ _ _ _ _ _, s, p, n, c, r, m, d, ?_, ?_⟩
  · obtain ⟨s', p', n', c', r', m', d', h1, -⟩ := h.num
    have e1 := heap_set B 0 _ 38 (.bool s) h1
    have e2 := heap_set B 1 _ 38 (.slice p n c) e1
    have e3 := heap_set B 2 _ 38 (.slice r m d) e2
    rw [e3]; rfl
  · obtain ⟨u, v, e, hu, hv⟩ := hq
    exact ⟨u, v, e, h.box.nat3 hB hu _ _ _ _ _ _ _, hv.imp (fun hv => h.box.nat3 hB hv _ _ _ _ _ _ _) fun hv => ⟨h.box.nat3 hB hv.1 _ _ _ _ _ _ _, hv.2⟩⟩
theorem SumB.start (w : World) : SumB w.heap.size w (w.alloc (.cells #[.bool false, .slice none 0 0, .slice none 0 0] 38)) 0 :=
  ⟨Resa.start w, false, none, 0, 0, none, 0, 0, heap_new _ _, .slice none 0 0, .slice none 0 0, rfl, Nat9.zero _, .inr ⟨Nat9.zero _, rfl⟩⟩
theorem sumQ_snoc (l : List Rat) (q : Rat) : sumQ (l ++ [q]) = sumQ l + q := by
  rw [sumQ_append]; simp [sumQ, Rat.add_zero]
theorem rtotal_walk (p : Option Addr) (n c : Nat) (ss : List (List UInt8)) (w : World) (hl : ss.length = n) (hn : n ≤ 1000) (h : RdS w p ss)
    (HG : Hid (∀ (s : ByteArray) (W : World), Calls Tryz.prog 38 #[.string s] W fun e w' => ∃ b p n c r m d, e = .returned (.tuple #[.agg #[.bool b, .slice p n c, .slice r m d], .bool (num s.data.toList).isSome]) ∧ Below W.heap.size W w' ∧ ∀ q, num s.data.toList = some q → QAt w' (.agg #[.bool b, .slice p n c, .slice r m d]) q))
    (HLT : Hid (∀ i, QLt 7000 (sumQ (numsL (ss.take i))))) (HNL : Hid (∀ l q, num l = some q → QLt 5 q)) :
    Calls Tryz.prog 94 #[.slice p n c] w fun e w' => ∃ s p n c r m d k, e = .returned (.tuple #[.agg #[.bool s, .slice p n c, .slice r m d], .int .i64 k]) ∧ QAt w' (.agg #[.bool s, .slice p n c, .slice r m d]) (sumQ (numsL ss)) ∧ Below w.heap.size w w' := by
  have HR := hiD h
  have HL := hiD hl
  have hn1 : (n : Int) ≤ 1000 := by omega
  obtain ⟨W1, HW1⟩ : ∃ W1, Hid (w.alloc (.cells #[.bool false, .slice none 0 0, .slice none 0 0] 38) = W1) := ⟨_, hiD rfl⟩
  have HRES : Hid (Resa w.heap.size w W1) := hiD (by rw [← HW1.out]; exact Resa.start w)
  obtain ⟨G, HGE⟩ : ∃ G, Hid (w.heap.size + 1 = G) := ⟨_, hiD rfl⟩
  have HG1 : Hid (W1.heap.size = G) := hiD (by rw [← HW1.out, ← HGE.out]; simp)
  obtain ⟨W2, HW2⟩ : ∃ W2, Hid (W1.alloc (.cells #[.bool false, .slice none 0 0, .slice none 0 0] 38) = W2) := ⟨_, hiD rfl⟩
  have HS : Hid (SumB G W1 W2 (sumQ (numsL (ss.take 0)))) := hiD (by rw [← HW2.out, ← HG1.out]; exact SumB.start W1)
  clear h hl
  go_enter Tryz.func94, Tryz.ntmps94
  go_wp2_with fail
  rw [HW1.out, HW2.out, HGE.out]
  go_loopw [5, 12] (fun kv iv wr => ∃ (i k : Nat), i ≤ n ∧ k ≤ i ∧ kv = .int .i64 (k : Int) ∧ iv = .int .i64 (i : Int) ∧ Hid (SumB G W1 wr (sumQ (numsL (ss.take i))))) (fun _ iv _ => n - (intOf iv).toNat)
  case atStart => exact ⟨0, 0, Nat.zero_le _, Nat.le_refl _, rfl, rfl, HS⟩
  case round =>
    obtain ⟨i, k, hin, hki, rfl, rfl, hs⟩ := hrel
    have HB := hiD hs.out
    clear hs HS
    have HB1 : Hid (Below w.heap.size w wr) := hiD ((HRES.out.below).trans (HB.out.box.below.mono (HRES.out.below.size)))
    obtain ⟨s0, p0, n0, c0, r0, m0, d0, hblk, hq0⟩ := HB.out.num
    by_cases hlt : i < n
    · obtain ⟨b, off, rfl, hbl, hcell⟩ : ∃ b off, p = some ⟨b, off, none⟩ ∧ b < w.heap.size ∧ ∀ j, j < ss.length → w.cell? ⟨b, off + j, none⟩ = some (.string ⟨(ss.getD j []).toArray⟩) := by
        rcases HR.out with h | h
        · have := HL.out; rw [h] at this; simp at this; omega
        · exact h
      obtain ⟨s, HS⟩ : ∃ s : ByteArray, Hid ((⟨(ss.getD i []).toArray⟩ : ByteArray) = s) := ⟨_, hiD rfl⟩
      have s1 : wr.cell? ⟨b, off + i, none⟩ = some (.string s) := by
        rw [← HS.out]
        exact (HB1.out.cell (p := ⟨b, off + i, none⟩) hbl).trans (hcell i (by have := HL.out; omega))
      have HSD : Hid (s.data.toList = ss.getD i []) := hiD (by rw [← HS.out])
      clear hcell hblk hq0
      have hi0 : (0 : Int) ≤ (i : Int) := by omega
      have hi1 : (i : Int) < (n : Int) := by omega
      have HRD := hiD (HG.out s wr)
      rw [HSD.out] at HRD
      have HTK := hiD (numsL_take (ss := ss) (i := i) (by have := HL.out; omega))
      go_wp2_with fail
      refine HRD.out.mono ?_
      rintro e w2 ⟨xb, xp, xn, xc, xr, xm, xd, rfl, hb2, hq⟩
      have HB2 := hiD hb2
      have HQ := hiD hq
      clear hb2 hq
      obtain ⟨W4, HW4⟩ : ∃ W4, Hid (w2.alloc (.cells #[.bool xb, .slice xp xn xc, .slice xr xm xd] 38) = W4) := ⟨_, hiD rfl⟩
      have HB4 : Hid (Below w2.heap.size w2 W4) := hiD (by rw [← HW4.out]; exact bea _ _)
      have HX4 : Hid (W4.heap[w2.heap.size]? = some (.cells #[.bool xb, .slice xp xn xc, .slice xr xm xd] 38 (0, 0))) := hiD (by rw [← HW4.out]; exact heap_new _ _)
      have HSB4 := hiD ((HB.out.next HB2.out).next HB4.out)
      cases hnq : num (ss.getD i []) with
      | none =>
        rw [hnq] at HTK HQ
        go_wp2_with fail
        rw [HW4.out]
        have HEND : Hid (SumB G W1 W4 (sumQ (numsL (ss.take (i + 1))))) := hiD (by
          rw [HTK.out]
          simp only [Option.toList_none, List.append_nil]
          exact HSB4.out)
        go_roundw
        case rel => exact ⟨i + 1, k, by omega, by omega, rfl, by go_num, HEND⟩
        case measure => simp [intOf]; omega
      | some q =>
        rw [hnq] at HTK HQ
        have HQ2 := hiD ((HQ.out q rfl).below HB4.out)
        obtain ⟨s0, p0, n0, c0, r0, m0, d0, hblk, hq0⟩ := HSB4.out.num
        have f0 := ceh hblk 0
        have f1 := ceh hblk 1
        have f2 := ceh hblk 2
        have g0 := ceh HX4.out 0
        have g1 := ceh HX4.out 1
        have g2 := ceh HX4.out 2
        simp only [List.getElem?_toArray, List.getElem?_cons_succ, List.getElem?_cons_zero] at f0 f1 f2 g0 g1 g2
        have HP := hiD (plus_any _ _ _ _ 7000 5 W4 (by omega) (HLT.out i) (HNL.out _ _ hnq) hq0 HQ2.out)
        clear hblk hq0
        go_upto_region 7 with fail
        rw [HW4.out]
        go_wp2_with fail
        refine HP.out.mono ?_
        rintro e w5 ⟨z, rfl, hz, hb5⟩
        obtain ⟨y1, y2, y3, y4, y5, y6, rfl, -, -⟩ := hz.slices
        have HSB5 := hiD (HSB4.out.next hb5)
        have HZ := hiD hz
        obtain ⟨z0, z1, z2, l0, l1, l2, e0, e1, e2⟩ := HSB5.out.box.slots
        have HEND : Hid (∀ W9, W9 = (((w5.setCell ⟨G, 0, none⟩ (.bool (decide ((sumQ (numsL (ss.take i)) + q).num < 0)))).setCell ⟨G, 1, none⟩ (.slice y1 y2 y3)).setCell ⟨G, 2, none⟩ (.slice y4 y5 y6)) → SumB G W1 W9 (sumQ (numsL (ss.take (i + 1))))) := hiD (by
          rintro W9 rfl
          rw [HTK.out]
          simp only [Option.toList_some]
          rw [sumQ_snoc]
          exact HSB5.out.put (by rw [HG1.out]; exact Nat.le_refl _) HZ.out)
        clear hz hb5
        generalize hdec : decide ((sumQ (numsL (ss.take i)) + q).num < 0) = dz at HEND ⊢
        clear hdec
        go_wp2_with fail
        go_roundw
        case rel => exact ⟨i + 1, k + 1, by omega, by omega, by go_num, by go_num, hiD (HEND.out _ rfl)⟩
        case measure => simp [intOf]; omega
    · obtain rfl : i = n := by omega
      have HTE : Hid (numsL (ss.take i) = numsL ss) := hiD (by rw [List.take_of_length_le (by have := HL.out; omega)])
      have f0 := ceh hblk 0
      have f1 := ceh hblk 1
      have f2 := ceh hblk 2
      simp only [List.getElem?_toArray, List.getElem?_cons_succ, List.getElem?_cons_zero] at f0 f1 f2
      have HRA := hiD (HRES.out.next HB.out.box.below)
      have HQ0 := hiD hq0
      clear hblk hq0
      obtain ⟨z0, z1, z2, l0, l1, l2, e0, e1, e2⟩ := HRA.out.slots
      have HEN : Hid (∀ W9, W9 = (((wr.setCell ⟨w.heap.size, 0, none⟩ (.bool s0)).setCell ⟨w.heap.size, 1, none⟩ (.slice p0 n0 c0)).setCell ⟨w.heap.size, 2, none⟩ (.slice r0 m0 d0)) → QAt W9 (.agg #[.bool s0, .slice p0 n0 c0, .slice r0 m0 d0]) (sumQ (numsL ss)) ∧ Below w.heap.size w W9) := hiD (by
        rintro W9 rfl
        rw [← HTE.out]
        obtain ⟨u, v, e, hu, hv⟩ := HQ0.out
        exact ⟨⟨u, v, e, HRA.out.nat3 (Nat.le_refl _) hu _ _ _ _ _ _ _, hv.imp (fun hv => HRA.out.nat3 (Nat.le_refl _) hv _ _ _ _ _ _ _) fun hv => ⟨HRA.out.nat3 (Nat.le_refl _) hv.1 _ _ _ _ _ _ _, hv.2⟩⟩, (HRA.out.put3 (Nat.le_refl _) _ _ _ _ _ _ _).below⟩)
      go_wp2_with fail
      refine bodyPost_ret (v := .tuple #[.agg #[.bool s0, .slice p0 n0 c0, .slice r0 m0 d0], .int .i64 k]) (by simp [results, Tryz.results94, go_sem, l0, l1, l2]) rfl ?_
      obtain ⟨h1, h2⟩ := HEN.out _ rfl
      exact ⟨s0, p0, n0, c0, r0, m0, d0, k, rfl, h1, h2⟩
end Go.Proofs.YtoegbjmoecbjdaaGreatDoor
namespace Go.Proofs.YtoegbjmoecbjdaaGreatDoor
open Go.RowKit Big
open Go.Lib Go.Shelf
theorem elem47 : Tryz.prog.underlying 47 = some (.slice (Tryz.prog.elem 47)) := by kernel_rfl
theorem size47 (W : World) : (sizeOf (Tryz.prog.elem 47)).run Tryz.prog W = .ok 1 W := by kernel_rfl
theorem low47 (b off n c k : Nat) (hkc : (k : Int) ≤ (c : Int)) (hc : ¬ c = 0) (W : World) : (Instr.sliceAt 47 (.slice (some ⟨b, off, none⟩) n c) none (some (.int .i64 (k : Int))) none).run Tryz.prog W = .ok (.slice (some ⟨b, off, none⟩) k c) W := by
  rw [run_sliceAt_slice W 47 _ _ _ _ elem47, run_slice_h W 47 _ _ _ elem47 .i64 (k : Int) (by omega) hkc, size47]
  simp [Result.andThen, sliced, hc, Addr.add]
theorem high47 (b off n c k : Nat) (hkn : k ≤ n) : ∃ p, (∀ W, (Instr.sliceAt 47 (.slice (some ⟨b, off, none⟩) n c) (some (.int .i64 (k : Int))) none none).run Tryz.prog W = .ok (.slice p (n - k) (c - k)) W) ∧ (¬ c = k → p = some ⟨b, off + k, none⟩) := by
  by_cases hc : c = k
  · refine ⟨some ⟨b, off, none⟩, fun W => ?_, fun h => absurd hc h⟩
    rw [run_sliceAt_slice W 47 _ _ _ _ elem47, run_slice_l W 47 _ _ _ elem47 .i64 (k : Int) (by omega) (by omega), size47]
    simp [Result.andThen, sliced, hc]
  · refine ⟨some ⟨b, off + k, none⟩, fun W => ?_, fun _ => rfl⟩
    rw [run_sliceAt_slice W 47 _ _ _ _ elem47, run_slice_l W 47 _ _ _ elem47 .i64 (k : Int) (by omega) (by omega), size47]
    simp [Result.andThen, sliced, hc, Addr.add]
theorem RdS.take {W : World} {p : Option Addr} {ss : List (List UInt8)} (h : RdS W p ss) (k : Nat) : RdS W p (ss.take k) := by
  rcases h with h | ⟨b, off, h1, h2, h3⟩
  · left; rw [h]; simp
  · refine .inr ⟨b, off, h1, h2, fun j hj => ?_⟩
    rw [List.length_take] at hj
    rw [h3 j (by omega), List.getD_eq_getElem?_getD, List.getD_eq_getElem?_getD, List.getElem?_take_of_lt (by omega)]
theorem RdS.drop {W : World} {b off : Nat} {ss : List (List UInt8)} (h : RdS W (some ⟨b, off, none⟩) ss) (k : Nat) {p : Option Addr} (hp : k < ss.length → p = some ⟨b, off + k, none⟩) : RdS W p (ss.drop k) := by
  by_cases hk : k < ss.length
  · rw [hp hk]
    rcases h with h | ⟨b', off', h1, h2, h3⟩
    · rw [h] at hk; simp at hk
    · cases h1
      refine .inr ⟨b, off + k, rfl, h2, fun j hj => ?_⟩
      rw [List.length_drop] at hj
      rw [Nat.add_assoc, h3 (k + j) (by omega), List.getD_eq_getElem?_getD, List.getD_eq_getElem?_getD, List.getElem?_drop]
  · left
    rw [List.drop_eq_nil_of_le (by omega)]
theorem numsL_append (a b : List (List UInt8)) : numsL (a ++ b) = numsL a ++ numsL b := List.filterMap_append ..
theorem sum_turned (ss : List (List UInt8)) (k : Nat) : sumT ((ss.drop k).reverse ++ ss.take k) = sumT ss := by
  unfold sumT
  have h : ((ss.drop k).reverse ++ ss.take k).Perm ss := by
    have h1 : ((ss.drop k).reverse ++ ss.take k).Perm (ss.drop k ++ ss.take k) := (List.reverse_perm _).append_right _
    have h2 : (ss.drop k ++ ss.take k).Perm (ss.take k ++ ss.drop k) := List.perm_append_comm
    have h3 := h1.trans h2
    rwa [List.take_append_drop] at h3
  unfold numsL
  rw [sumQ_perm (h.filterMap num)]
theorem sum_parts (ss : List (List UInt8)) (k : Nat) (ha : sumT (ss.take k) ≠ []) (hb : sumT (ss.drop k) ≠ []) : opT (· + ·) (sumT (ss.take k)) (sumT (ss.drop k)) = sumT ss := by
  unfold sumT at *
  rw [opT_some (num_txt ha) (num_txt hb)]
  rw [← sumQ_append, ← numsL_append, List.take_append_drop]
def StrsIn (W : World) (base : Nat) (v : Value) (ss : List (List UInt8)) : Prop := W.ownsRow base 9 1 v ss.length (ss.map fun s => Value.string ⟨s.toArray⟩)
theorem StrsIn.below {W W' : World} {base : Nat} {v : Value} {ss : List (List UInt8)} (h : StrsIn W base v ss) (hb : Below W.heap.size W W') : StrsIn W' base v ss := by
  obtain ⟨h1, h2⟩ := h
  refine ⟨h1, ?_⟩
  rcases h2 with h2 | ⟨g, cap, cur, rfl, hbg, hg, hr⟩
  · exact .inl h2
  · exact .inr ⟨g, cap, cur, rfl, hbg, (hb.block g (Array.getElem?_eq_some_iff.1 hg).1).trans hg, hr⟩
theorem StrsIn.own {W : World} {base : Nat} {v : Value} {ss : List (List UInt8)} (h : StrsIn W base v ss) {k : Nat} (hk : v.ownBlock = some k) : base ≤ k := by
  obtain ⟨-, h⟩ := h
  rcases h with ⟨rfl, -⟩ | ⟨g, cap, cur, rfl, hb, -⟩
  · cases hk
  · simp only [Value.ownBlock, Option.some.injEq] at hk
    omega
theorem StrsIn.rd {W : World} {base : Nat} {v : Value} {ss : List (List UInt8)} (h : StrsIn W base v ss) : ∃ p c, v = .slice p ss.length c ∧ RdS W p ss := by
  obtain ⟨hl, h⟩ := h
  rcases h with ⟨rfl, h0⟩ | ⟨g, cap, cur, rfl, hb, hg, hn, -, hs, ht⟩
  · rw [List.length_eq_zero_iff] at h0
    subst h0
    exact ⟨none, 0, rfl, .inl rfl⟩
  · refine ⟨some ⟨g, 0, none⟩, cap, rfl, .inr ⟨g, 0, rfl, (Array.getElem?_eq_some_iff.1 hg).1, fun j hj => ?_⟩⟩
    rw [Nat.zero_add, ceh hg, ← Array.getElem?_toList, ← List.getElem?_take_of_lt (show j < ss.length * 1 by omega), ht, List.getElem?_map, List.getD_eq_getElem?_getD, List.getElem?_eq_getElem hj]
    rfl
end Go.Proofs.YtoegbjmoecbjdaaGreatDoor
