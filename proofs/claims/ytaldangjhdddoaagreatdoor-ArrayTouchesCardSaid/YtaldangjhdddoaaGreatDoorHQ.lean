/- Paste on both sides, where it is refused. -/
import Derived.Test.YtaldangjhdddoaaGreatDoorHE
import Derived.Test.YtaldangjhdddoaaGreatDoorGV
import Derived.Test.YtaldangjhdddoaaGreatDoorIF
import Derived.Test.YtaldangjhdddoaaGreatDoorGU
import Derived.Deep.RegionHeld3
namespace Go.Proofs.YtaldangjhdddoaaGreatDoor.Arr
open Go.RowKit Go.Shelf
open Go.Lib
attribute [local go_sem] Oper.semAt_some
def pasteV (s : List Nat) (l : List (List UInt8)) (cuts : List (Int × Int × Int)) (bl : List (List UInt8)) : List (List UInt8) :=
  (List.range (prod (cnts cuts))).foldl (fun L i => L.set (plc s (thr cuts (ixOf (cnts cuts) i)) 0) (bl.getD i [])) l
end Go.Proofs.YtaldangjhdddoaaGreatDoor.Arr
namespace Go.Proofs.YtaldangjhdddoaaGreatDoor.Arr
open Go.RowKit Go.Shelf
open Go.Lib
attribute [local go_sem] Oper.semAt_some
attribute [local go_sem] run_store_func
def pasF (pos : Nat → Nat) (bl : List (List UInt8)) (pre : List (Nat × Nat)) (l : List (List UInt8)) : List (List UInt8) := pre.foldl (fun L y => L.set (pos y.1) (bl.getD y.1 [])) l
structure PI (W3 : World) (B R n m : Nat) (qv : Option Addr) (dv : Nat) (pos : Nat → Nat) (bl l : List (List UInt8)) (pre : List (Nat × Nat)) (W : World) : Prop where
  so : W.os = W3.os
  st : W.tape = W3.tape
  sp : W.output = W3.output
  size : W3.heap.size ≤ W.heap.size
  blk : ∀ k, k < W3.heap.size → k ≠ R → (Value.slice qv m dv).ownBlock ≠ some k → W.heap[k]? = W3.heap[k]?
  row : ∃ r0 : List Nat, r0.length = n ∧ W.heap[R]? = some (.cells (ixC r0) 3 (0, 0))
  vals : W.ownsRow B 9 1 (.slice qv m dv) m (strs (pasF pos bl pre l))
theorem PI.above {W3 X Y : World} {B R n m : Nat} {qv : Option Addr} {dv : Nat} {pos : Nat → Nat} {bl l : List (List UInt8)} {pre : List (Nat × Nat)} {r : Option Nat} (h : PI W3 B R n m qv dv pos bl l pre X) (hg : X.grownBy Y r) (hr : ∀ k, r = some k → W3.heap.size ≤ k) (hR : R < W3.heap.size) (hV : ∀ k, (Value.slice qv m dv).ownBlock = some k → k < W3.heap.size) : PI W3 B R n m qv dv pos bl l pre Y := by
  obtain ⟨r0, h1, h2⟩ := h.row
  refine ⟨hg.os.trans h.so, hg.tape.trans h.st, hg.output.trans h.sp, Nat.le_trans h.size hg.size, fun k hk h3 h4 => (hg.block k (Nat.lt_of_lt_of_le hk h.size) (by intro e; have := hr k e.symm; omega)).trans (h.blk k hk h3 h4), ⟨r0, h1, (hg.block R (Array.getElem?_eq_some_iff.1 h2).1 (by intro e; have := hr R e.symm; omega)).trans h2⟩, ?_⟩
  refine h.vals.kept hg ?_
  rcases Option.eq_none_or_eq_some (Value.slice qv m dv).ownBlock with e | ⟨k, e⟩
  · exact .inl e
  · refine .inr ?_
    rw [e]; intro e2
    have := hr k e2.symm
    have := hV k e
    omega
end Go.Proofs.YtaldangjhdddoaaGreatDoor.Arr
namespace Go.Proofs.YtaldangjhdddoaaGreatDoor.Arr
open Go.RowKit Go.Shelf
open Go.Lib
attribute [local go_sem] Oper.semAt_some
def pasG (pos : Nat → Nat) (bl : List (List UInt8)) (n : Nat) (l : List (List UInt8)) : List (List UInt8) := (List.range n).foldl (fun L i => L.set (pos i) (bl.getD i [])) l
theorem pasG_succ (pos : Nat → Nat) (bl : List (List UInt8)) (n : Nat) (l : List (List UInt8)) : pasG pos bl (n + 1) l = (pasG pos bl n l).set (pos n) (bl.getD n []) := by
  simp [pasG, List.range_succ]
theorem pasG_len (pos : Nat → Nat) (bl : List (List UInt8)) : ∀ (n : Nat) (l : List (List UInt8)), (pasG pos bl n l).length = l.length
  | 0, _ => rfl
  | n + 1, l => by rw [pasG_succ, List.length_set, pasG_len pos bl n l]
end Go.Proofs.YtaldangjhdddoaaGreatDoor.Arr
namespace Go.Proofs.YtaldangjhdddoaaGreatDoor.Arr
open Go.RowKit Go.Shelf
open Go.Lib
def posOf (s : List Nat) (cuts : List (Int × Int × Int)) (i : Nat) : Nat := plc s (thr cuts (ixOf (cnts cuts) i)) 0
theorem list_nat_eq {a b : List Nat} (h : a.length = b.length) (hk : ∀ k, k < a.length → a.getD k 0 = b.getD k 0) : a = b := by
  refine List.ext_getElem h (fun k h1 h2 => ?_)
  have := hk k h1
  rwa [List.getD_eq_getElem?_getD, List.getElem?_eq_getElem h1, List.getD_eq_getElem?_getD, List.getElem?_eq_getElem h2] at this
theorem posOf_inj {s : List Nat} {cuts : List (Int × Int × Int)} (hs : Shp s) (h : slabOk s cuts = true) {i j : Nat} (hi : i < prod (cnts cuts)) (hj : j < prod (cnts cuts)) (e : posOf s cuts i = posOf s cuts j) : i = j := by
  obtain ⟨hi1, hi2⟩ := ixOf_is (cnts cuts) i hi
  obtain ⟨hj1, hj2⟩ := ixOf_is (cnts cuts) j hj
  obtain ⟨ti, ui⟩ := thr_ok h hs.2.1 hi1
  obtain ⟨tj, uj⟩ := thr_ok h hs.2.1 hj1
  have e2 : thr cuts (ixOf (cnts cuts) i) = thr cuts (ixOf (cnts cuts) j) := by
    rw [← ixOf_plc s _ ui, ← ixOf_plc s _ uj]
    unfold posOf at e
    rw [e]
  have hlen : cuts.length = s.length := by
    unfold slabOk at h
    rw [Bool.and_eq_true, decide_eq_true_eq] at h
    exact h.1
  have hcl : (cnts cuts).length = cuts.length := by rw [cnts, List.length_map]
  have e3 : ixOf (cnts cuts) i = ixOf (cnts cuts) j := by
    refine list_nat_eq (by rw [ixOf_len, ixOf_len]) (fun k hk => ?_)
    rw [ixOf_len, hcl] at hk
    have h1 : thrAt cuts (ixOf (cnts cuts) i) k = thrAt cuts (ixOf (cnts cuts) j) k := by
      rw [← thr_get hk, ← thr_get hk, e2]
    obtain ⟨a1, -, a3, -⟩ := ti k hk
    obtain ⟨-, -, b3, -⟩ := tj k hk
    unfold thrAt at h1
    have hst : 1 ≤ (cuts.getD k (0, 0, 0)).2.2 := by
      unfold slabOk at h
      rw [Bool.and_eq_true, List.all_eq_true] at h
      have := h.2 k (List.mem_range.2 (by omega))
      unfold cutAt at this
      exact (last_le this).2.2.1
    generalize cuts.getD k (0, 0, 0) = z at *
    obtain ⟨za, zn', zs⟩ := z
    have e4 : ((ixOf (cnts cuts) i).getD k 0 : Int) * zs = ((ixOf (cnts cuts) j).getD k 0 : Int) * zs := by
      simp only at h1 a1 a3 b3
      omega
    have e5 := Int.eq_of_mul_eq_mul_right (show zs ≠ 0 by simp only at hst; omega) e4
    exact Int.ofNat_inj.1 e5
  rw [← hi2, ← hj2, e3]
theorem pasG_hit {pos : Nat → Nat} {bl l : List (List UInt8)} : ∀ (n : Nat), (∀ i j, i < n → j < n → pos i = pos j → i = j) → (∀ i, i < n → pos i < l.length) → ∀ i, i < n → (pasG pos bl n l).getD (pos i) [] = bl.getD i []
  | 0, _, _, i, hi => by omega
  | n + 1, h1, h2, i, hi => by
    rw [pasG_succ]
    by_cases e : i = n
    · subst e
      rw [List.getD_eq_getElem?_getD, List.getElem?_set_self (by rw [pasG_len]; exact h2 i hi)]; rfl
    · rw [List.getD_eq_getElem?_getD, List.getElem?_set_ne (fun e2 => e (h1 i n hi (by omega) e2.symm)), ← List.getD_eq_getElem?_getD]
      exact pasG_hit n (fun a b ha hb => h1 a b (by omega) (by omega)) (fun a ha => h2 a (by omega)) i (by omega)
theorem pasG_miss {pos : Nat → Nat} {bl l : List (List UInt8)} {y : Nat} : ∀ (n : Nat), (∀ i, i < n → pos i ≠ y) → (pasG pos bl n l).getD y [] = l.getD y []
  | 0, _ => rfl
  | n + 1, h => by
    rw [pasG_succ, List.getD_eq_getElem?_getD, List.getElem?_set_ne (h n (by omega)), ← List.getD_eq_getElem?_getD]
    exact pasG_miss n (fun i hi => h i (by omega))
theorem pasteV_is (s : List Nat) (l : List (List UInt8)) (cuts : List (Int × Int × Int)) (bl : List (List UInt8)) : pasteV s l cuts bl = pasG (posOf s cuts) bl (prod (cnts cuts)) l := rfl
theorem texts_eq {a b : List (List UInt8)} (h : a.length = b.length) (hk : ∀ k, k < a.length → a.getD k [] = b.getD k []) : a = b := by
  refine List.ext_getElem h (fun k h1 h2 => ?_)
  have := hk k h1
  rwa [List.getD_eq_getElem?_getD, List.getElem?_eq_getElem h1, List.getD_eq_getElem?_getD, List.getElem?_eq_getElem h2] at this
theorem sliceV_get {s : List Nat} {l : List (List UInt8)} {cuts : List (Int × Int × Int)} {i : Nat} (hi : i < prod (cnts cuts)) : (sliceV s l cuts).getD i [] = l.getD (posOf s cuts i) [] := by
  unfold sliceV
  rw [List.getD_eq_getElem?_getD, List.getElem?_map, List.getElem?_range hi]; rfl
theorem all_set {L : List (List UInt8)} {p : Nat} {x : List UInt8} (h : L.all isV = true) (hx : isV x = true) : (L.set p x).all isV = true := by
  rw [List.all_eq_true] at h ⊢
  intro y hy
  rcases List.mem_or_eq_of_mem_set hy with h1 | h1
  · exact h y h1
  · rw [h1]; exact hx
theorem pasG_all {pos : Nat → Nat} {bl l : List (List UInt8)} (h1 : l.all isV = true) (h2 : bl.all isV = true) : ∀ n, (pasG pos bl n l).all isV = true
  | 0 => h1
  | n + 1 => by
    rw [pasG_succ]
    refine all_set (pasG_all h1 h2 n) ?_
    rw [List.getD_eq_getElem?_getD]
    cases he : bl[n]? with
    | none => rfl
    | some x => exact List.all_eq_true.1 h2 x (List.mem_of_getElem? he)
theorem valid_paste {s : List Nat} {l bl : List (List UInt8)} {cuts : List (Int × Int × Int)} {t : List Int} (hv : validA (s.map Int.ofNat) l = true) (hw : validA t bl = true) : validA (s.map Int.ofNat) (pasteV s l cuts bl) = true := by
  unfold validA at hv hw ⊢
  simp only [Bool.and_eq_true, decide_eq_true_eq] at hv hw ⊢
  refine ⟨hv.1, ?_, ?_⟩
  · rw [pasteV_is, pasG_len]; exact hv.2.1
  · rw [pasteV_is]; exact pasG_all hv.2.2 hw.2.2 _
end Go.Proofs.YtaldangjhdddoaaGreatDoor.Arr
