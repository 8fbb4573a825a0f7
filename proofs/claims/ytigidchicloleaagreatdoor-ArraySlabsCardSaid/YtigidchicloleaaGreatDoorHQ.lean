/- Pasting and slicing as plain lists; Paste whatever it is given. -/
import Derived.Test.YtigidchicloleaaGreatDoorHP
namespace Go.Proofs.YtigidchicloleaaGreatDoor.Arr
open Go.RowKit Go.Shelf
open Go.Lib
def posOf (s : List Nat) (cuts : List (Int × Int × Int)) (i : Nat) : Nat := plc s (thr cuts (ixOf (cnts cuts) i)) 0
theorem list_nat_eq {a b : List Nat} (h : a.length = b.length) (hk : ∀ k, k < a.length → a.getD k 0 = b.getD k 0) : a = b := by
  refine List.ext_getElem h (fun k h1 h2 => ?_)
  have := hk k h1
  rwa [List.getD_eq_getElem?_getD, List.getElem?_eq_getElem h1, List.getD_eq_getElem?_getD, List.getElem?_eq_getElem h2] at this
theorem posOf_inj {s : List Nat} {cuts : List (Int × Int × Int)} (hs : Shp s) (h : slabOk s cuts = true) {i j : Nat} (hi : i < prod (cnts cuts)) (hj : j < prod (cnts cuts)) (e : posOf s cuts i = posOf s cuts j) : i = j := by
  obtain ⟨hi1, hi2⟩ := ixOf_is (cnts cuts) i hi
  obtain ⟨hj1, hj2⟩ := ixOf_is (cnts cuts) j hj
  obtain ⟨ti, ui⟩ := thr_ok h hs.2.1 hi1
  obtain ⟨tj, uj⟩ := thr_ok h hs.2.1 hj1
  have e2 : thr cuts (ixOf (cnts cuts) i) = thr cuts (ixOf (cnts cuts) j) := by
    rw [← ixOf_plc s _ ui, ← ixOf_plc s _ uj]
    unfold posOf at e
    rw [e]
  have hlen : cuts.length = s.length := by
    unfold slabOk at h
    rw [Bool.and_eq_true, decide_eq_true_eq] at h
    exact h.1
  have hcl : (cnts cuts).length = cuts.length := by rw [cnts, List.length_map]
  have e3 : ixOf (cnts cuts) i = ixOf (cnts cuts) j := by
    refine list_nat_eq (by rw [ixOf_len, ixOf_len]) (fun k hk => ?_)
    rw [ixOf_len, hcl] at hk
    have h1 : thrAt cuts (ixOf (cnts cuts) i) k = thrAt cuts (ixOf (cnts cuts) j) k := by
      rw [← thr_get hk, ← thr_get hk, e2]
    obtain ⟨a1, -, a3, -⟩ := ti k hk
    obtain ⟨-, -, b3, -⟩ := tj k hk
    unfold thrAt at h1
    have hst : 1 ≤ (cuts.getD k (0, 0, 0)).2.2 := by
      unfold slabOk at h
      rw [Bool.and_eq_true, List.all_eq_true] at h
      have := h.2 k (List.mem_range.2 (by omega))
      unfold cutAt at this
      exact (last_le this).2.2.1
    generalize cuts.getD k (0, 0, 0) = z at *
    obtain ⟨za, zn', zs⟩ := z
    have e4 : ((ixOf (cnts cuts) i).getD k 0 : Int) * zs = ((ixOf (cnts cuts) j).getD k 0 : Int) * zs := by
      simp only at h1 a1 a3 b3
      omega
    have e5 := Int.eq_of_mul_eq_mul_right (show zs ≠ 0 by simp only at hst; omega) e4
    exact Int.ofNat_inj.1 e5
  rw [← hi2, ← hj2, e3]
theorem pasG_hit {pos : Nat → Nat} {bl l : List (List UInt8)} : ∀ (n : Nat), (∀ i j, i < n → j < n → pos i = pos j → i = j) → (∀ i, i < n → pos i < l.length) → ∀ i, i < n → (pasG pos bl n l).getD (pos i) [] = bl.getD i []
  | 0, _, _, i, hi => by omega
  | n + 1, h1, h2, i, hi => by
    rw [pasG_succ]
    by_cases e : i = n
    · subst e
      rw [List.getD_eq_getElem?_getD, List.getElem?_set_self (by rw [pasG_len]; exact h2 i hi)]; rfl
    · rw [List.getD_eq_getElem?_getD, List.getElem?_set_ne (fun e2 => e (h1 i n hi (by omega) e2.symm)), ← List.getD_eq_getElem?_getD]
      exact pasG_hit n (fun a b ha hb => h1 a b (by omega) (by omega)) (fun a ha => h2 a (by omega)) i (by omega)
theorem pasG_miss {pos : Nat → Nat} {bl l : List (List UInt8)} {y : Nat} : ∀ (n : Nat), (∀ i, i < n → pos i ≠ y) → (pasG pos bl n l).getD y [] = l.getD y []
  | 0, _ => rfl
  | n + 1, h => by
    rw [pasG_succ, List.getD_eq_getElem?_getD, List.getElem?_set_ne (h n (by omega)), ← List.getD_eq_getElem?_getD]
    exact pasG_miss n (fun i hi => h i (by omega))
theorem pasteV_is (s : List Nat) (l : List (List UInt8)) (cuts : List (Int × Int × Int)) (bl : List (List UInt8)) : pasteV s l cuts bl = pasG (posOf s cuts) bl (prod (cnts cuts)) l := rfl
theorem texts_eq {a b : List (List UInt8)} (h : a.length = b.length) (hk : ∀ k, k < a.length → a.getD k [] = b.getD k []) : a = b := by
  refine List.ext_getElem h (fun k h1 h2 => ?_)
  have := hk k h1
  rwa [List.getD_eq_getElem?_getD, List.getElem?_eq_getElem h1, List.getD_eq_getElem?_getD, List.getElem?_eq_getElem h2] at this
theorem sliceV_get {s : List Nat} {l : List (List UInt8)} {cuts : List (Int × Int × Int)} {i : Nat} (hi : i < prod (cnts cuts)) : (sliceV s l cuts).getD i [] = l.getD (posOf s cuts i) [] := by
  unfold sliceV
  rw [List.getD_eq_getElem?_getD, List.getElem?_map, List.getElem?_range hi]; rfl
theorem slice_paste {s : List Nat} {l bl : List (List UInt8)} {cuts : List (Int × Int × Int)} (hs : Shp s) (h : slabOk s cuts = true) (hl : l.length = prod s) (hb : bl.length = prod (cnts cuts)) : sliceV s (pasteV s l cuts bl) cuts = bl := by
  refine texts_eq (by rw [sliceV_len, hb]) (fun k hk => ?_)
  rw [sliceV_len] at hk
  rw [sliceV_get hk, pasteV_is]
  exact pasG_hit _ (fun i j hi hj e => posOf_inj hs h hi hj e) (fun i hi => by rw [hl]; exact place_lt hs h hi) k hk
theorem paste_back {s : List Nat} {l bl : List (List UInt8)} {cuts : List (Int × Int × Int)} (hs : Shp s) (h : slabOk s cuts = true) (hl : l.length = prod s) : pasteV s (pasteV s l cuts bl) cuts (sliceV s l cuts) = l := by
  have h1 : (pasteV s l cuts bl).length = l.length := by rw [pasteV_is, pasG_len]
  refine texts_eq (by rw [pasteV_is, pasG_len, h1]) (fun y hy => ?_)
  by_cases e : ∃ i, i < prod (cnts cuts) ∧ posOf s cuts i = y
  · obtain ⟨i, hi, rfl⟩ := e
    rw [pasteV_is, pasG_hit _ (fun i j hi hj e => posOf_inj hs h hi hj e) (fun i hi => by rw [h1, hl]; exact place_lt hs h hi) i hi, sliceV_get hi]
  · have hm : ∀ i, i < prod (cnts cuts) → posOf s cuts i ≠ y := fun i hi e2 => e ⟨i, hi, e2⟩
    rw [pasteV_is, pasG_miss _ hm, pasteV_is, pasG_miss _ hm]
theorem all_set {L : List (List UInt8)} {p : Nat} {x : List UInt8} (h : L.all isV = true) (hx : isV x = true) : (L.set p x).all isV = true := by
  rw [List.all_eq_true] at h ⊢
  intro y hy
  rcases List.mem_or_eq_of_mem_set hy with h1 | h1
  · exact h y h1
  · rw [h1]; exact hx
theorem pasG_all {pos : Nat → Nat} {bl l : List (List UInt8)} (h1 : l.all isV = true) (h2 : bl.all isV = true) : ∀ n, (pasG pos bl n l).all isV = true
  | 0 => h1
  | n + 1 => by
    rw [pasG_succ]
    refine all_set (pasG_all h1 h2 n) ?_
    rw [List.getD_eq_getElem?_getD]
    cases he : bl[n]? with
    | none => rfl
    | some x => exact List.all_eq_true.1 h2 x (List.mem_of_getElem? he)
theorem valid_paste {s : List Nat} {l bl : List (List UInt8)} {cuts : List (Int × Int × Int)} {t : List Int} (hv : validA (s.map Int.ofNat) l = true) (hw : validA t bl = true) : validA (s.map Int.ofNat) (pasteV s l cuts bl) = true := by
  unfold validA at hv hw ⊢
  simp only [Bool.and_eq_true, decide_eq_true_eq] at hv hw ⊢
  refine ⟨hv.1, ?_, ?_⟩
  · rw [pasteV_is, pasG_len]; exact hv.2.1
  · rw [pasteV_is]; exact pasG_all hv.2.2 hw.2.2 _
theorem pst_zero {s t : List Int} {l bl : List (List UInt8)} {cuts : List (Int × Int × Int)} (h : (pstV s t l bl cuts).1 = 0) : ∃ s0 : List Nat, s = s0.map Int.ofNat ∧ Shp s0 ∧ validA s l = true ∧ validA t bl = true ∧ slabOk s0 cuts = true ∧ t = (cnts cuts).map Int.ofNat ∧ pstV s t l bl cuts = (0, s0, pasteV s0 l cuts bl) := by
  unfold pstV at h ⊢
  by_cases hv : validA s l = false
  · rw [if_pos hv] at h; cases h
  rw [if_neg hv] at h ⊢
  by_cases hw : validA t bl = false
  · rw [if_pos hw] at h; cases h
  rw [if_neg hw] at h ⊢
  by_cases hf : slabOk (s.map Int.toNat) cuts = false
  · rw [if_pos hf] at h; cases h
  rw [if_neg hf] at h ⊢
  by_cases ht : ¬ t = (cnts cuts).map Int.ofNat
  · rw [if_pos ht] at h; cases h
  rw [if_neg ht]
  have hv2 : validA s l = true := by simpa using hv
  have hvs : vs s = true := by unfold validA at hv2; rw [Bool.and_eq_true] at hv2; exact hv2.1
  obtain ⟨s0, rfl, hs0⟩ := vs_yes hvs
  rw [toNat_map] at hf ⊢
  exact ⟨s0, rfl, hs0, hv2, by simpa using hw, by simpa using hf, by simpa using ht, rfl⟩
theorem ppaste_any (p q p2 q2 cq : Option Addr) (c d c2 d2 n m n2 m2 k cd : Nat) (s t : List Int) (l bl : List (List UInt8)) (cuts : List (Int × Int × Int)) (w : World) (he : Env w) (hs : Hid (s.length = n)) (hl : Hid (l.length = m)) (hm : m ≤ 5000) (ht : Hid (t.length = n2)) (hbl : Hid (bl.length = m2)) (hm2 : m2 ≤ 5000) (hk : Hid (cuts.length = k)) (hp : Rd w p s) (hq : RdS w q l) (hp2 : Rd w p2 t) (hq2 : RdS w q2 bl) (hcq : RdC w cq cuts) :
    Calls Tryz.prog 26 #[.agg #[.slice p n c, .slice q m d], .slice cq k cd, .agg #[.slice p2 n2 c2, .slice q2 m2 d2]] w (ArrPost w (pstV s t l bl cuts).1 (pstV s t l bl cuts).2.1 (pstV s t l bl cuts).2.2) := by
  by_cases h0 : (pstV s t l bl cuts).1 = 0
  · obtain ⟨s0, rfl, hsh, hva, hvb, hsl, rfl, e⟩ := pst_zero h0
    rw [e]
    obtain ⟨hcl, -, -, -⟩ := cnts_ok hsl hsh.2.1
    have hsn : s0.length = n := by rw [← hs.out, List.length_map]
    obtain rfl : k = n := by rw [← hk.out, hcl, hsn]
    obtain rfl : n2 = k := by rw [← ht.out, List.length_map, cnts, List.length_map, hk.out]
    exact ppaste_yes p q p2 q2 cq c d c2 d2 n2 m m2 cd s0 l bl cuts w he (Lib.hid hsn) hl hm hbl hm2 hk (Lib.hid hsh) hp hq hp2 hq2 hcq hva hvb (Lib.hid hsl)
  · exact ppaste_no p q p2 q2 cq c d c2 d2 n m n2 m2 k cd s t l bl cuts w he hs hl hm ht hbl hm2 hk hp hq hp2 hq2 hcq h0
theorem rpaste_any (p q p2 q2 cq : Option Addr) (c d c2 d2 n m n2 m2 k cd : Nat) (s t : List Int) (l bl : List (List UInt8)) (cuts : List (Int × Int × Int)) (w : World) (hs : Hid (s.length = n)) (hl : Hid (l.length = m)) (hm : m ≤ 5000) (ht : Hid (t.length = n2)) (hbl : Hid (bl.length = m2)) (hm2 : m2 ≤ 5000) (hk : Hid (cuts.length = k)) (hp : Rd w p s) (hq : RdS w q l) (hp2 : Rd w p2 t) (hq2 : RdS w q2 bl) (hcq : RdC w cq cuts) :
    Calls Tryz.prog 27 #[.agg #[.slice p n c, .slice q m d], .slice cq k cd, .agg #[.slice p2 n2 c2, .slice q2 m2 d2]] w (ArrPost w (pstV s t l bl cuts).1 (pstV s t l bl cuts).2.1 (pstV s t l bl cuts).2.2) := by
  by_cases h0 : (pstV s t l bl cuts).1 = 0
  · obtain ⟨s0, rfl, hsh, hva, hvb, hsl, rfl, e⟩ := pst_zero h0
    rw [e]
    obtain ⟨hcl, -, -, -⟩ := cnts_ok hsl hsh.2.1
    have hsn : s0.length = n := by rw [← hs.out, List.length_map]
    obtain rfl : k = n := by rw [← hk.out, hcl, hsn]
    obtain rfl : n2 = k := by rw [← ht.out, List.length_map, cnts, List.length_map, hk.out]
    exact rpaste_yes p q p2 q2 cq c d c2 d2 n2 m m2 cd s0 l bl cuts w (Lib.hid hsn) hl hm hbl hm2 hk (Lib.hid hsh) hp hq hp2 hq2 hcq hva hvb (Lib.hid hsl)
  · exact rpaste_no p q p2 q2 cq c d c2 d2 n m n2 m2 k cd s t l bl cuts w hs hl hm ht hbl hm2 hk hp hq hp2 hq2 hcq h0
end Go.Proofs.YtigidchicloleaaGreatDoor.Arr
