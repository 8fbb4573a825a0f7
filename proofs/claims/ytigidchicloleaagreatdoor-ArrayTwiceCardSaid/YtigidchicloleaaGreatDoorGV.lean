/- A slab of a slab is a slab. -/
import Derived.Test.YtigidchicloleaaGreatDoorGU
namespace Go.Proofs.YtigidchicloleaaGreatDoor.Arr
open Go.RowKit Go.Shelf
open Go.Lib
def bothC (a b : Int × Int × Int) : Int × Int × Int := ((if 0 < b.2.1 then a.1 + b.1 * a.2.2 else a.1), b.2.1, (if 1 < b.2.1 then a.2.2 * b.2.2 else 1))
def bothL (c1 c2 : List (Int × Int × Int)) : List (Int × Int × Int) := List.zipWith bothC c1 c2
theorem bothL_at {c1 c2 : List (Int × Int × Int)} {k : Nat} (h : c1.length = c2.length) (hk : k < c2.length) : (bothL c1 c2).getD k (0, 0, 0) = bothC (c1.getD k (0, 0, 0)) (c2.getD k (0, 0, 0)) := by
  unfold bothL
  rw [List.getD_eq_getElem?_getD, List.getD_eq_getElem?_getD, List.getD_eq_getElem?_getD, List.getElem?_eq_getElem (l := List.zipWith bothC c1 c2) (by rw [List.length_zipWith]; omega), List.getElem?_eq_getElem (l := c1) (by omega), List.getElem?_eq_getElem hk]
  simp
theorem bothL_len {c1 c2 : List (Int × Int × Int)} (h : c1.length = c2.length) : (bothL c1 c2).length = c2.length := by
  unfold bothL; rw [List.length_zipWith]; omega
theorem cnts_both {c1 c2 : List (Int × Int × Int)} (h : c1.length = c2.length) : cnts (bothL c1 c2) = cnts c2 := by
  refine List.ext_getElem (by rw [cnts, cnts, List.length_map, List.length_map, bothL_len h]) (fun k h1 h2 => ?_)
  simp only [cnts, bothL, List.getElem_map, List.getElem_zipWith, bothC]
theorem last_le {s : Nat} {a n st : Int} (h : cutOk s a n st = true) : 0 ≤ a ∧ 0 ≤ n ∧ 1 ≤ st ∧ a ≤ (s : Int) ∧ (1 ≤ n → a + (n - 1) * st ≤ (s : Int) - 1) := by
  unfold cutOk at h
  simp only [Bool.and_eq_true, Bool.or_eq_true, decide_eq_true_eq] at h
  obtain ⟨⟨⟨⟨h1, h2⟩, h3⟩, h4⟩, h5⟩ := h
  refine ⟨h1, h2, h3, h4, fun hn => ?_⟩
  rcases h5 with h5 | ⟨h5, h6⟩
  · omega
  · have e2 : (n - 1) * st ≤ ((s : Int) - 1 - a) / st * st := Int.mul_le_mul_of_nonneg_right h6 (by omega)
    have e3 : ((s : Int) - 1 - a) / st * st ≤ (s : Int) - 1 - a := Int.ediv_mul_le _ (by omega)
    omega
theorem cut_of {s : Nat} {a n st : Int} (h1 : 0 ≤ a) (h2 : 0 ≤ n) (h3 : 1 ≤ st) (h4 : a ≤ (s : Int)) (h5 : 1 ≤ n → a + (n - 1) * st ≤ (s : Int) - 1) : cutOk s a n st = true := by
  unfold cutOk
  simp only [Bool.and_eq_true, Bool.or_eq_true, decide_eq_true_eq]
  refine ⟨⟨⟨⟨h1, h2⟩, h3⟩, h4⟩, ?_⟩
  by_cases hn : n = 0
  · exact .inl hn
  · have h := h5 (by omega)
    have e1 : 0 ≤ (n - 1) * st := Int.mul_nonneg (by omega) (by omega)
    refine .inr ⟨by omega, ?_⟩
    rw [Int.le_ediv_iff_mul_le (by omega)]
    omega
theorem both_cut {s : Nat} {a b : Int × Int × Int} (ha : cutOk s a.1 a.2.1 a.2.2 = true) (hb : cutOk a.2.1.toNat b.1 b.2.1 b.2.2 = true) : cutOk s (bothC a b).1 (bothC a b).2.1 (bothC a b).2.2 = true := by
  obtain ⟨a0, an, ast⟩ := a
  obtain ⟨b0, bn, bst⟩ := b
  obtain ⟨h1, h2, h3, h4, h5⟩ := last_le ha
  obtain ⟨g1, g2, g3, g4, g5⟩ := last_le hb
  simp only at h1 h2 h3 h4 h5 g1 g2 g3 g4 g5
  rw [Int.toNat_of_nonneg h2] at g4 g5
  unfold bothC
  simp only
  by_cases hn : 0 < bn
  · have g6 := g5 (by omega)
    have p0 : 0 ≤ (bn - 1) * bst := Int.mul_nonneg (by omega) (by omega)
    have h6 := h5 (by omega)
    have p1 : (b0 + (bn - 1) * bst) * ast ≤ (an - 1) * ast := Int.mul_le_mul_of_nonneg_right g6 (by omega)
    have p2 : b0 * ast ≤ (an - 1) * ast := Int.mul_le_mul_of_nonneg_right (by omega) (by omega)
    have p3 : 0 ≤ b0 * ast := Int.mul_nonneg (by omega) (by omega)
    rw [if_pos hn]
    refine cut_of (by omega) g2 ?_ (by omega) (fun _ => ?_)
    · split
      · exact Int.le_trans (by omega) (Int.mul_le_mul h3 g3 (by omega) (by omega) : (1 : Int) * 1 ≤ ast * bst)
      · omega
    · split
      · have e : (b0 + (bn - 1) * bst) * ast = b0 * ast + (bn - 1) * (ast * bst) := by
          rw [Int.add_mul, Int.mul_assoc (bn - 1), Int.mul_comm bst ast]
        omega
      · have : bn = 1 := by omega
        subst this
        omega
  · rw [if_neg hn]
    refine cut_of h1 g2 ?_ h4 (fun h => by omega)
    rw [if_neg (by omega)]; omega
theorem slab_both {s : List Nat} {c1 c2 : List (Int × Int × Int)} (h1 : slabOk s c1 = true) (h2 : slabOk (cnts c1) c2 = true) : slabOk s (bothL c1 c2) = true := by
  unfold slabOk at h1 h2
  rw [Bool.and_eq_true, decide_eq_true_eq, List.all_eq_true] at h1 h2
  obtain ⟨l1, a1⟩ := h1
  obtain ⟨l2, a2⟩ := h2
  have l3 : (cnts c1).length = c1.length := by rw [cnts, List.length_map]
  refine slabOk_yes (by rw [bothL_len (by omega)]; omega) (fun k hk => ?_)
  have k1 := a1 k (List.mem_range.2 hk)
  have k2 := a2 k (List.mem_range.2 (by omega))
  unfold cutAt at k1 k2 ⊢
  rw [bothL_at (by omega) (by omega)]
  rw [cnts_at (by omega)] at k2
  exact both_cut k1 k2
theorem shp_cnts {s : List Nat} {c1 : List (Int × Int × Int)} (hs : Shp s) (h : slabOk s c1 = true) : Shp (cnts c1) := by
  obtain ⟨h1, h2, h3, h4⟩ := cnts_ok h hs.2.1
  exact ⟨by rw [cnts, List.length_map, h1]; exact hs.1, h3, Nat.le_trans h4 hs.2.2⟩
theorem sliceV_len (s : List Nat) (l : List (List UInt8)) (c : List (Int × Int × Int)) : (sliceV s l c).length = prod (cnts c) := by
  unfold sliceV; rw [List.length_map, List.length_range]
theorem place_lt {s : List Nat} {c : List (Int × Int × Int)} (hs : Shp s) (h : slabOk s c = true) {i : Nat} (hi : i < prod (cnts c)) : plc s (thr c (ixOf (cnts c) i)) 0 < prod s := by
  have h1 := (thr_ok h hs.2.1 (ixOf_is (cnts c) i hi).1).2
  have h2 := (plc_lt s _ 0 h1).1
  omega
theorem slice_slice {s : List Nat} {l : List (List UInt8)} {c1 c2 : List (Int × Int × Int)} (hs : Shp s) (h1 : slabOk s c1 = true) (h2 : slabOk (cnts c1) c2 = true) : sliceV (cnts c1) (sliceV s l c1) c2 = sliceV s l (bothL c1 c2) := by
  have l1 : c1.length = s.length := (cnts_ok h1 hs.2.1).1
  have hs2 := shp_cnts hs h1
  have l2 : c2.length = (cnts c1).length := (cnts_ok h2 hs2.2.1).1
  have l3 : (cnts c1).length = c1.length := by rw [cnts, List.length_map]
  have l4 : c1.length = c2.length := by omega
  unfold sliceV
  rw [cnts_both l4]
  refine List.map_congr_left (fun i hi => ?_)
  have hi2 := List.mem_range.1 hi
  have hix := (ixOf_is (cnts c2) i hi2).1
  obtain ⟨hto, hti⟩ := thr_ok h2 hs2.2.1 hix
  have hp := place_lt hs2 h2 hi2
  rw [List.getD_eq_getElem?_getD, List.getElem?_map, List.getElem?_range hp]
  show l.getD (plc s (thr c1 (ixOf (cnts c1) (plc (cnts c1) (thr c2 (ixOf (cnts c2) i)) 0))) 0) [] = _
  rw [ixOf_plc (cnts c1) _ hti]
  have e : thr c1 (thr c2 (ixOf (cnts c2) i)) = thr (bothL c1 c2) (ixOf (cnts c2) i) := by
    show (List.range c1.length).map (thrAt c1 (thr c2 (ixOf (cnts c2) i))) = (List.range (bothL c1 c2).length).map (thrAt (bothL c1 c2) (ixOf (cnts c2) i))
    rw [bothL_len l4, ← l4]
    refine List.map_congr_left (fun k hk => ?_)
    have hk2 := List.mem_range.1 hk
    have e1 : (thr c2 (ixOf (cnts c2) i)).getD k 0 = thrAt c2 (ixOf (cnts c2) i) k := thr_get (by omega)
    have hb := hix.2 k (by rw [cnts, List.length_map]; omega)
    rw [cnts_at (by omega)] at hb
    have ho := hto k (by omega)
    show ((c1.getD k (0, 0, 0)).1 + ((thr c2 (ixOf (cnts c2) i)).getD k 0 : Int) * (c1.getD k (0, 0, 0)).2.2).toNat = (((bothL c1 c2).getD k (0, 0, 0)).1 + ((ixOf (cnts c2) i).getD k 0 : Int) * ((bothL c1 c2).getD k (0, 0, 0)).2.2).toNat
    rw [e1, bothL_at l4 (by omega)]
    unfold thrAt bothC
    generalize c1.getD k (0, 0, 0) = a at ho ⊢
    generalize c2.getD k (0, 0, 0) = b at hb ho ⊢
    generalize (ixOf (cnts c2) i).getD k 0 = x at hb ho ⊢
    obtain ⟨a0, an, ast⟩ := a
    obtain ⟨b0, bn, bst⟩ := b
    simp only at hb ho ⊢
    rw [if_pos (show 0 < bn by omega), Int.toNat_of_nonneg (by omega)]
    congr 1
    split
    · rw [Int.add_mul, Int.mul_assoc, Int.mul_comm bst ast]; omega
    · have : x = 0 := by omega
      subst this
      simp
  rw [e]
end Go.Proofs.YtigidchicloleaaGreatDoor.Arr
