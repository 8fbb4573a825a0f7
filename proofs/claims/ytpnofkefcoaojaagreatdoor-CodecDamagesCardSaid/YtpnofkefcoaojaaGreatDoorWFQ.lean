/- The program's newIndex: the places of each four bytes. -/
import Derived.Test.YtpnofkefcoaojaaGreatDoorKC
import Derived.Test.YtpnofkefcoaojaaGreatDoorWFP
set_option maxHeartbeats 4000000
set_option maxRecDepth 100000
namespace Go.Proofs.YtpnofkefcoaojaaGreatDoor
open Go.RowKit Go.Maps Go.ChangeShapes
open Go.Lib
variable {base b n : Nat} {D : DataW Unit} {W W' : World}
theorem info3 : (Tryz.prog.info? 3).map (fun i => (i.zero, i.size, i.bytes)) = some (some (.int .i64 0), 1, 8) := by kernel_rfl
theorem groups_made (w : World) (base : Nat) (hb : w.heap.size < base) : (w.alloc (.map #[] 0)).ownsGroups (H := Unit) Tryz.prog 79 base 3 .i64 w.heap.size 0 (.map []) :=
  ⟨#[], 0, (MapKept.heap_alloc w _).1, ⟨by simp, MapKept.stamped_empty 0, by simp⟩, Nat.le_refl _, rfl, hb, by simp, by simp⟩
theorem groups_next (h : W.ownsGroups Tryz.prog 79 base 3 .i64 b n D) (hb : Below W.heap.size W W') : W'.ownsGroups Tryz.prog 79 base 3 .i64 b n D :=
  h.kept (grown_below hb none) (by simp) (fun _ _ _ x _ => by cases x.val.ownBlock <;> simp)
theorem groups_set (h : W.ownsGroups Tryz.prog 79 base 3 .i64 b n D) {g k : Nat} (hg : g < base) (hb : b ≠ g) (v : Value) : (W.setCell ⟨g, k, none⟩ v).ownsGroups Tryz.prog 79 base 3 .i64 b n D :=
  h.kept (row := some g) ⟨rfl, rfl, rfl, by simp, fun i _ hi => Below.heap_setCell _ _ _ _ (fun e => hi (by rw [e]))⟩ (by intro e; cases e; exact hb rfl) (h.rowsAbove (fun j e => by cases e; exact hg))
def IdxG (l : List UInt8) (b0 off len c : Nat) (w : World) (e : Ending) (w1 : World) : Prop :=
  Below w.heap.size w w1 ∧ ∃ (b base : Nat) (D : DataW Unit), e = .returned (.agg #[.slice (some ⟨b0, off, none⟩) len c, .map (some b)]) ∧ Gm l (len - 3) D ∧ w1.ownsGroups Tryz.prog 79 base 3 .i64 b (len - 3) D
theorem new_kept {K w7 : World} {x : Value} {t : TypeId} {N : Nat} (hg : (K.alloc (.cells #[x] t)).grownBy w7 (some b)) (hN : K.heap.size = N) (hb : N ≠ b) : ∀ j u, [x][j]? = some u → w7.cell? ((⟨N, 0, none⟩ : Addr).add j) = some u := fun j u hj => by
  subst hN
  have h := hg.block K.heap.size (by simp) (by intro e; cases e; exact hb rfl)
  rw [World.cell?_of_block (a := (⟨K.heap.size, 0, none⟩ : Addr).add j) (w := K.alloc (.cells #[x] t)) (by rw [show ((⟨K.heap.size, 0, none⟩ : Addr).add j).block = K.heap.size by unfold Addr.add; split <;> rfl]; exact h)]
  exact cell_one_new _ _ _ j u hj
theorem round_kept {w5 w6 w7 w8 w9 : World} {v : Value} {zs : List Int} (h6 : Below w5.heap.size w5 w6) (hg7 : w6.grownBy w7 (some b)) (ho : w7.ownsInts base 3 .i64 v zs) (hg8 : w7.grownBy w8 v.ownBlock) (hg9 : w8.grownBy w9 (some b)) {k : Nat} (hk : k < base) (hk5 : k < w5.heap.size) (hkb : k ≠ b) : w9.heap[k]? = w5.heap[k]? := by
  have h1 := h6.block k hk5
  have h2 := hg7.block k (Nat.lt_of_lt_of_le hk5 h6.size) (by intro e; cases e; exact hkb rfl)
  have h3 := hg8.block k (Nat.lt_of_lt_of_le (Nat.lt_of_lt_of_le hk5 h6.size) hg7.size) (fun e => by have := (ho.1.lt k e.symm).1; omega)
  have h4 := hg9.block k (Nat.lt_of_lt_of_le (Nat.lt_of_lt_of_le (Nat.lt_of_lt_of_le hk5 h6.size) hg7.size) hg8.size) (by intro e; cases e; exact hkb rfl)
  exact h4.trans (h3.trans (h2.trans h1))
theorem index_any (b0 off len c : Nat) (l : List UInt8) (w : World) (hl : len ≤ 20000) (h : Came w (some ⟨b0, off, none⟩) len c l) :
    Calls Tryz.prog 152 #[.slice (some ⟨b0, off, none⟩) len c] w (IdxG l b0 off len c w) := by
  have H := Lib.hid h
  have il : (len : Int) ≤ 20000 := by omega
  have hmm := @run_makeMap Tryz.prog
  obtain ⟨i0, hi, hz0, hz1, hz2⟩ := info_parts info3
  obtain ⟨W0, HW0⟩ : ∃ W0, Hid (((w.alloc (.cells #[.slice none 0 0, .map none] 152)).alloc (.map #[] 0)).alloc (.cells #[.slice (some ⟨b0, off, none⟩) len c, .map (some (w.heap.size + 1))] 152) = W0) := ⟨_, Lib.hid rfl⟩
  have HB0 : Hid (Below w.heap.size w W0) := Lib.hid (by
    rw [← HW0.out]
    exact (((Below.refl _ w).alloc (Nat.le_refl _) _).alloc (by simp) _).alloc (by simp; omega) _)
  have HS0 : w.heap.size + 3 ≤ W0.heap.size := by rw [← HW0.out]; simp
  have HX0 : Hid (W0.heap[w.heap.size]? = some (.cells #[.slice none 0 0, .map none] 152 (0, 0)) ∧ W0.heap[w.heap.size + 1 + 1]? = some (.cells #[.slice (some ⟨b0, off, none⟩) len c, .map (some (w.heap.size + 1))] 152 (0, 0))) := Lib.hid (by
    rw [← HW0.out]
    constructor
    · exact (Below.heap_alloc _ _ _ (by simp; omega)).trans ((Below.heap_alloc _ _ _ (by simp)).trans (World.alloc_heap_new w _))
    · have := World.alloc_heap_new ((w.alloc (.cells #[.slice none 0 0, .map none] 152)).alloc (.map #[] 0)) (.cells #[.slice (some ⟨b0, off, none⟩) len c, .map (some (w.heap.size + 1))] 152); rwa [World.size_alloc, World.size_alloc] at this)
  have HG0 : Hid (W0.ownsGroups (H := Unit) Tryz.prog 79 (w.heap.size + 3) 3 .i64 (w.heap.size + 1) 0 (.map [])) := Lib.hid (by
    have h1 := groups_made (w.alloc (.cells #[.slice none 0 0, .map none] 152)) (w.heap.size + 3) (by simp)
    rw [World.size_alloc] at h1
    rw [← HW0.out]
    exact groups_next h1 ((Below.refl _ _).alloc (Nat.le_refl _) _))
  clear h
  go_enter Tryz.func152, Tryz.ntmps152
  go_wp2_with fail
  rw [HW0.out]
  clear hmm
  go_loopw [4] (fun pv wr => ∃ (m : Nat) (D : DataW Unit), m ≤ len - 3 ∧ pv = .int .i64 m ∧ Hid (wr.ownsGroups Tryz.prog 79 (w.heap.size + 3) 3 .i64 (w.heap.size + 1) m D) ∧ Hid (Gm l m D) ∧ Hid (Below w.heap.size w wr) ∧ w.heap.size + 3 ≤ wr.heap.size ∧ Hid (wr.heap[w.heap.size]? = some (.cells #[.slice none 0 0, .map none] 152 (0, 0)) ∧ wr.heap[w.heap.size + 1 + 1]? = some (.cells #[.slice (some ⟨b0, off, none⟩) len c, .map (some (w.heap.size + 1))] 152 (0, 0)))) (fun pv _ => len - (Go.RowKit.intOf pv).toNat)
  case atStart => exact ⟨0, _, Nat.zero_le _, rfl, HG0, Lib.hid (Gm.start l), HB0, HS0, HX0⟩
  case round =>
    obtain ⟨m, D, hm, rfl, hown, hG, HB, hwr, HX⟩ := hrel
    have c0 : wr.cell? ⟨w.heap.size + 1 + 1, 0, none⟩ = some (.slice (some ⟨b0, off, none⟩) len c) := by simp [World.cell?, HX.out.2]
    have c1 : wr.cell? ⟨w.heap.size + 1 + 1, 1, none⟩ = some (.map (some (w.heap.size + 1))) := by simp [World.cell?, HX.out.2]
    by_cases hlt : m + 4 ≤ len
    · have ilt : (m : Int) + 4 ≤ (len : Int) := by omega
      obtain ⟨x0, x1, x2, x3, HQ⟩ : ∃ x0 x1 x2 x3 : Nat, Hid (keyV l m = .agg #[.int .u8 (x0 : Int), .int .u8 (x1 : Int), .int .u8 (x2 : Int), .int .u8 (x3 : Int)]) := ⟨_, _, _, _, Lib.hid rfl⟩
      have HKC : Hid (Calls Tryz.prog 191 #[.agg #[.slice (some ⟨b0, off, none⟩) len c, .map (some (w.heap.size + 1))], .int .i64 (m : Int)] wr fun e w' => Below wr.heap.size wr w' ∧ e = .returned (.agg #[.int .u8 (x0 : Int), .int .u8 (x1 : Int), .int .u8 (x2 : Int), .int .u8 (x3 : Int)])) := Lib.hid (by
        rw [← HQ.out]
        exact key_any b0 off len c m (some (w.heap.size + 1)) l wr hl hlt ⟨H.out.hl, H.out.hc, H.out.lies.below HB.out⟩)
      have HKEY : Hid (keyOf Tryz.prog 79 (.agg #[.int .u8 (x0 : Int), .int .u8 (x1 : Int), .int .u8 (x2 : Int), .int .u8 (x3 : Int)]) = some (.string (k4 l m))) := Lib.hid (by rw [← HQ.out]; exact keyOf_at l m)
      have HWF : Hid ((Lit.int .i64 (m : Int)).wf = true) := Lib.hid (WalkArith.wf_i64 (by omega))
      go_wp2_with fail
      refine (HKC.out).mono ?_
      rintro e w5 ⟨hb5, rfl⟩
      have HB5 := Lib.hid hb5
      have hX5 : w5.heap[w.heap.size + 1 + 1]? = some (.cells #[.slice (some ⟨b0, off, none⟩) len c, .map (some (w.heap.size + 1))] 152 (0, 0)) := (hb5.block _ (by omega)).trans HX.out.2
      have hs5 : wr.heap.size ≤ w5.heap.size := hb5.size
      have d0 : w5.cell? ⟨w.heap.size + 1 + 1, 0, none⟩ = some (.slice (some ⟨b0, off, none⟩) len c) := by simp [World.cell?, hX5]
      have d1 : w5.cell? ⟨w.heap.size + 1 + 1, 1, none⟩ = some (.map (some (w.heap.size + 1))) := by simp [World.cell?, hX5]
      have HB6 : Hid (Below w5.heap.size w5 (w5.alloc (.cells #[.int .u8 (x0 : Int), .int .u8 (x1 : Int), .int .u8 (x2 : Int), .int .u8 (x3 : Int)] 79))) := Lib.hid ((Below.refl _ _).alloc (Nat.le_refl _) _)
      have HB7 : Hid (Below w5.heap.size w5 ((w5.alloc (.cells #[.int .u8 (x0 : Int), .int .u8 (x1 : Int), .int .u8 (x2 : Int), .int .u8 (x3 : Int)] 79)).alloc (.cells #[.int .i64 (m : Int)] 3))) := Lib.hid (HB6.out.trans (((Below.refl _ (w5.alloc (.cells #[.int .u8 (x0 : Int), .int .u8 (x1 : Int), .int .u8 (x2 : Int), .int .u8 (x3 : Int)] 79))).alloc (Nat.le_refl _) _).mono HB6.out.size))
      have hown6 : Hid (((w5.alloc (.cells #[.int .u8 (x0 : Int), .int .u8 (x1 : Int), .int .u8 (x2 : Int), .int .u8 (x3 : Int)] 79)).alloc (.cells #[.int .i64 (m : Int)] 3)).ownsGroups Tryz.prog 79 (w.heap.size + 3) 3 .i64 (w.heap.size + 1) m D) := Lib.hid (groups_next (groups_next hown.out HB5.out) HB7.out)
      have hs6 : Hid (w.heap.size + 3 ≤ ((w5.alloc (.cells #[.int .u8 (x0 : Int), .int .u8 (x1 : Int), .int .u8 (x2 : Int), .int .u8 (x3 : Int)] 79)).alloc (.cells #[.int .i64 (m : Int)] 3)).heap.size) := Lib.hid (Nat.le_trans hwr (Nat.le_trans hs5 HB7.out.size))
      have hNEW : Hid (∀ j u, [Value.int .i64 (m : Int)][j]? = some u → ((w5.alloc (.cells #[.int .u8 (x0 : Int), .int .u8 (x1 : Int), .int .u8 (x2 : Int), .int .u8 (x3 : Int)] 79)).alloc (.cells #[.int .i64 (m : Int)] 3)).cell? ((⟨(w5.alloc (.cells #[.int .u8 (x0 : Int), .int .u8 (x1 : Int), .int .u8 (x2 : Int), .int .u8 (x3 : Int)] 79)).heap.size, 0, none⟩ : Addr).add j) = some u) := Lib.hid (cell_one_new _ _ _)
      have e1 : (w5.alloc (.cells #[.int .u8 (x0 : Int), .int .u8 (x1 : Int), .int .u8 (x2 : Int), .int .u8 (x3 : Int)] 79)).cell? ⟨w.heap.size + 1 + 1, 1, none⟩ = some (.map (some (w.heap.size + 1))) := (World.cell?_of_block (a := ⟨w.heap.size + 1 + 1, 1, none⟩) (HB6.out.block (w.heap.size + 1 + 1) (by omega))).trans d1
      have hm1 : m ≤ 20000 := by omega
      have hbN : w5.heap.size + 1 ≠ w.heap.size + 1 := by omega
      clear hb5
      go_wp2_with (first
        | (refine wpList_entry (H := Unit) _ (o := ⟨some 25, _, _, _, _, _⟩) rfl (.tmp 20) (.tmp 21) 150 rfl 79 194 3 .i64 law84 Tryz.underlying150 zero86 (w.heap.size + 3) (w.heap.size + 1) m D rfl hown6.out (by unfold maxLen; omega) _ (.string (k4 l m)) rfl HKEY.out ?_; intro v zs st w7 hg7 hat hoi hzl hsz hback; have hNEW7 := Lib.hid (new_kept hg7 (World.size_alloc _ _) hbN); have HZL := Lib.hid hzl; have hb7 : Hid (w.heap.size + 3 ≤ w7.heap.size) := Lib.hid (by rw [hsz]; exact hs6.out); clear hzl)
        | (at_builtin; refine wpList_append_own_at _ rfl (.tmp 22) (.tmp 24) 194 rfl (w.heap.size + 3) 3 i0 (.int .i64 0) 1 8 Tryz.underlying194 hi hz0 hz1 hz2 rfl (by decide) _ _ _ rfl hoi.1 ⟨w5.heap.size + 1, 0, none⟩ 1 1 [.int .i64 (m : Int)] rfl rfl hNEW7.out (ints_oneCell .i64 [(m : Int)]) (by have := HZL.out; unfold maxLen; omega) (by have := HZL.out; omega) hb7.out ?_; intro v' w8 hown' hgrow hnil hloc)
        | (refine wpList_entryStore (H := Unit) _ (o := ⟨none, _, _, _, _, _⟩) rfl (.tmp 20) (.tmp 27) (.tmp 26) 150 rfl hback rfl rfl rfl hgrow (hoi.appended hown' HWF.out) (by have := HZL.out; simp; omega) (hloc.imp id (fun h => ⟨_, h, Nat.le_of_eq hsz.symm⟩)) ?_; intro w9 hown9 hg9))
      have HO9 := Lib.hid hown9
      have HG9 := Lib.hid (hG.out.put (hG.out.group hoi hat) (hoi.appended hown' HWF.out))
      have hB7 : Below w.heap.size w w7 := ((HB.out.trans (HB5.out.mono HB.out.size)).trans (HB7.out.mono (Nat.le_trans HB.out.size hs5))).grown hg7 (by have := hs6.out; omega) (fun k e => by cases e; omega)
      have HB9 := Lib.hid (hB7.groups hoi hgrow hg9 (by have := hb7.out; omega) (by omega) (by omega))
      have hs9 : w.heap.size + 3 ≤ w9.heap.size := Nat.le_trans hb7.out (Nat.le_trans hgrow.size hg9.size)
      have HX9 : Hid (w9.heap[w.heap.size]? = some (.cells #[.slice none 0 0, .map none] 152 (0, 0)) ∧ w9.heap[w.heap.size + 1 + 1]? = some (.cells #[.slice (some ⟨b0, off, none⟩) len c, .map (some (w.heap.size + 1))] 152 (0, 0))) := Lib.hid ⟨((round_kept HB7.out hg7 hoi hgrow hg9 (by omega) (by omega) (by omega)).trans (HB5.out.block _ (by omega))).trans HX.out.1, ((round_kept HB7.out hg7 hoi hgrow hg9 (by omega) (by omega) (by omega)).trans (HB5.out.block _ (by omega))).trans HX.out.2⟩
      clear hown9 hB7 hg9 hloc hnil hgrow hown' hback hsz hoi hat hg7
      go_wp2_with fail
      go_roundw
      case rel => exact ⟨m + 1, _, by omega, by go_num, HO9, HG9, HB9, hs9, HX9⟩
      case measure => simp [Go.RowKit.intOf]; omega
    · obtain rfl : m = len - 3 := by omega
      have ilt : ¬ ((len - 3 : Nat) : Int) + 4 ≤ (len : Int) := by omega
      have r0 : wr.cell? ⟨w.heap.size, 0, none⟩ = some (.slice none 0 0) := by simp [World.cell?, HX.out.1]
      have r1 : wr.cell? ⟨w.heap.size, 1, none⟩ = some (.map none) := by simp [World.cell?, HX.out.1]
      have z0 : wr.frozen? ⟨w.heap.size, 0, none⟩ = false := by simp [World.frozen?, HX.out.1]
      have z1 : wr.frozen? ⟨w.heap.size, 1, none⟩ = false := by simp [World.frozen?, HX.out.1]
      have hrow : ∀ (W : World) (y0 y1 s1 s2 : Value), W.heap[w.heap.size]? = some (.cells #[y0, y1] 152 (0, 0)) → ((W.setCell ⟨w.heap.size, 0, none⟩ s1).setCell ⟨w.heap.size, 1, none⟩ s2).heap[w.heap.size]? = some (.cells #[s1, s2] 152 (0, 0)) := fun W y0 y1 s1 s2 h0 => by
        have h1 := setRow_heap W w.heap.size _ (#[y0, y1].setIfInBounds 0 s1) 152 (0, 0) h0
        rw [← setCell_eq_setRow W w.heap.size 0 _ 152 (0, 0) _ h0] at h1
        have h2 := setRow_heap _ w.heap.size _ ((#[y0, y1].setIfInBounds 0 s1).setIfInBounds 1 s2) 152 (0, 0) h1
        rw [← setCell_eq_setRow _ w.heap.size 1 _ 152 (0, 0) _ h1] at h2
        exact h2
      have HEND : Hid (IdxG l b0 off len c w (.returned (.agg #[.slice (some ⟨b0, off, none⟩) len c, .map (some (w.heap.size + 1))])) ((wr.setCell ⟨w.heap.size, 0, none⟩ (.slice (some ⟨b0, off, none⟩) len c)).setCell ⟨w.heap.size, 1, none⟩ (.map (some (w.heap.size + 1))))) := Lib.hid
        ⟨(HB.out.setCell (p := ⟨w.heap.size, 0, none⟩) (Nat.le_refl _) _).setCell (p := ⟨w.heap.size, 1, none⟩) (Nat.le_refl _) _, w.heap.size + 1, w.heap.size + 3, D, rfl, hG.out, groups_set (groups_set hown.out (by omega) (by omega) _) (by omega) (by omega) _⟩
      have HROW := Lib.hid (hrow wr _ _ (.slice (some ⟨b0, off, none⟩) len c) (.map (some (w.heap.size + 1))) HX.out.1)
      clear hrow
      go_wp2_with fail
      refine bodyPost_ret (results_cell_row rfl _ _ w.heap.size 152 _ (0, 0) _ rfl HROW.out rfl rfl rfl) rfl ?_
      exact HEND.out
end Go.Proofs.YtpnofkefcoaojaaGreatDoor
