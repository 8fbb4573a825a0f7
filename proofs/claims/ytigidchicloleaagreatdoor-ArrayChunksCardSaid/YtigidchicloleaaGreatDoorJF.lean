/- Paste on both sides, where it is refused. -/
import Derived.Test.YtigidchicloleaaGreatDoorIA
import Derived.Test.YtigidchicloleaaGreatDoorGV
import Derived.Test.YtigidchicloleaaGreatDoorJA
import Derived.Test.YtigidchicloleaaGreatDoorHK
import Derived.Test.YtigidchicloleaaGreatDoorJE
namespace Go.Proofs.YtigidchicloleaaGreatDoor.Arr
open Go.RowKit Go.Shelf
open Go.Lib
attribute [local go_sem] Oper.semAt_some
def pasteV (s : List Nat) (l : List (List UInt8)) (cuts : List (Int × Int × Int)) (bl : List (List UInt8)) : List (List UInt8) :=
  (List.range (prod (cnts cuts))).foldl (fun L i => L.set (plc s (thr cuts (ixOf (cnts cuts) i)) 0) (bl.getD i [])) l
end Go.Proofs.YtigidchicloleaaGreatDoor.Arr
namespace Go.Proofs.YtigidchicloleaaGreatDoor.Arr
open Go.RowKit Go.Shelf
open Go.Lib
attribute [local go_sem] Oper.semAt_some
attribute [local go_sem] run_store_func
def pasF (pos : Nat → Nat) (bl : List (List UInt8)) (pre : List (Nat × Nat)) (l : List (List UInt8)) : List (List UInt8) := pre.foldl (fun L y => L.set (pos y.1) (bl.getD y.1 [])) l
structure PI (W3 : World) (B R n m : Nat) (qv : Option Addr) (dv : Nat) (pos : Nat → Nat) (bl l : List (List UInt8)) (pre : List (Nat × Nat)) (W : World) : Prop where
  so : W.os = W3.os
  st : W.tape = W3.tape
  sp : W.output = W3.output
  size : W3.heap.size ≤ W.heap.size
  blk : ∀ k, k < W3.heap.size → k ≠ R → (Value.slice qv m dv).ownBlock ≠ some k → W.heap[k]? = W3.heap[k]?
  row : ∃ r0 : List Nat, r0.length = n ∧ W.heap[R]? = some (.cells (ixC r0) 3 (0, 0))
  vals : W.ownsRow B 9 1 (.slice qv m dv) m (strs (pasF pos bl pre l))
theorem PI.above {W3 X Y : World} {B R n m : Nat} {qv : Option Addr} {dv : Nat} {pos : Nat → Nat} {bl l : List (List UInt8)} {pre : List (Nat × Nat)} {r : Option Nat} (h : PI W3 B R n m qv dv pos bl l pre X) (hg : X.grownBy Y r) (hr : ∀ k, r = some k → W3.heap.size ≤ k) (hR : R < W3.heap.size) (hV : ∀ k, (Value.slice qv m dv).ownBlock = some k → k < W3.heap.size) : PI W3 B R n m qv dv pos bl l pre Y := by
  obtain ⟨r0, h1, h2⟩ := h.row
  refine ⟨hg.os.trans h.so, hg.tape.trans h.st, hg.output.trans h.sp, Nat.le_trans h.size hg.size, fun k hk h3 h4 => (hg.block k (Nat.lt_of_lt_of_le hk h.size) (by intro e; have := hr k e.symm; omega)).trans (h.blk k hk h3 h4), ⟨r0, h1, (hg.block R (Array.getElem?_eq_some_iff.1 h2).1 (by intro e; have := hr R e.symm; omega)).trans h2⟩, ?_⟩
  refine h.vals.kept hg ?_
  rcases Option.eq_none_or_eq_some (Value.slice qv m dv).ownBlock with e | ⟨k, e⟩
  · exact .inl e
  · refine .inr ?_
    rw [e]; intro e2
    have := hr k e2.symm
    have := hV k e
    omega
end Go.Proofs.YtigidchicloleaaGreatDoor.Arr
namespace Go.Proofs.YtigidchicloleaaGreatDoor.Arr
open Go.RowKit Go.Shelf
open Go.Lib
attribute [local go_sem] Oper.semAt_some
def pasG (pos : Nat → Nat) (bl : List (List UInt8)) (n : Nat) (l : List (List UInt8)) : List (List UInt8) := (List.range n).foldl (fun L i => L.set (pos i) (bl.getD i [])) l
theorem pasG_succ (pos : Nat → Nat) (bl : List (List UInt8)) (n : Nat) (l : List (List UInt8)) : pasG pos bl (n + 1) l = (pasG pos bl n l).set (pos n) (bl.getD n []) := by
  simp [pasG, List.range_succ]
theorem pasG_len (pos : Nat → Nat) (bl : List (List UInt8)) : ∀ (n : Nat) (l : List (List UInt8)), (pasG pos bl n l).length = l.length
  | 0, _ => rfl
  | n + 1, l => by rw [pasG_succ, List.length_set, pasG_len pos bl n l]
end Go.Proofs.YtigidchicloleaaGreatDoor.Arr
namespace Go.Proofs.YtigidchicloleaaGreatDoor.Arr
open Go.RowKit Go.Shelf
open Go.Lib
def posOf (s : List Nat) (cuts : List (Int × Int × Int)) (i : Nat) : Nat := plc s (thr cuts (ixOf (cnts cuts) i)) 0
theorem list_nat_eq {a b : List Nat} (h : a.length = b.length) (hk : ∀ k, k < a.length → a.getD k 0 = b.getD k 0) : a = b := by
  refine List.ext_getElem h (fun k h1 h2 => ?_)
  have := hk k h1
  rwa [List.getD_eq_getElem?_getD, List.getElem?_eq_getElem h1, List.getD_eq_getElem?_getD, List.getElem?_eq_getElem h2] at this
theorem posOf_inj {s : List Nat} {cuts : List (Int × Int × Int)} (hs : Shp s) (h : slabOk s cuts = true) {i j : Nat} (hi : i < prod (cnts cuts)) (hj : j < prod (cnts cuts)) (e : posOf s cuts i = posOf s cuts j) : i = j := by
  obtain ⟨hi1, hi2⟩ := ixOf_is (cnts cuts) i hi
  obtain ⟨hj1, hj2⟩ := ixOf_is (cnts cuts) j hj
  obtain ⟨ti, ui⟩ := thr_ok h hs.2.1 hi1
  obtain ⟨tj, uj⟩ := thr_ok h hs.2.1 hj1
  have e2 : thr cuts (ixOf (cnts cuts) i) = thr cuts (ixOf (cnts cuts) j) := by
    rw [← ixOf_plc s _ ui, ← ixOf_plc s _ uj]
    unfold posOf at e
    rw [e]
  have hlen : cuts.length = s.length := by
    unfold slabOk at h
    rw [Bool.and_eq_true, decide_eq_true_eq] at h
    exact h.1
  have hcl : (cnts cuts).length = cuts.length := by rw [cnts, List.length_map]
  have e3 : ixOf (cnts cuts) i = ixOf (cnts cuts) j := by
    refine list_nat_eq (by rw [ixOf_len, ixOf_len]) (fun k hk => ?_)
    rw [ixOf_len, hcl] at hk
    have h1 : thrAt cuts (ixOf (cnts cuts) i) k = thrAt cuts (ixOf (cnts cuts) j) k := by
      rw [← thr_get hk, ← thr_get hk, e2]
    obtain ⟨a1, -, a3, -⟩ := ti k hk
    obtain ⟨-, -, b3, -⟩ := tj k hk
    unfold thrAt at h1
    have hst : 1 ≤ (cuts.getD k (0, 0, 0)).2.2 := by
      unfold slabOk at h
      rw [Bool.and_eq_true, List.all_eq_true] at h
      have := h.2 k (List.mem_range.2 (by omega))
      unfold cutAt at this
      exact (last_le this).2.2.1
    generalize cuts.getD k (0, 0, 0) = z at *
    obtain ⟨za, zn', zs⟩ := z
    have e4 : ((ixOf (cnts cuts) i).getD k 0 : Int) * zs = ((ixOf (cnts cuts) j).getD k 0 : Int) * zs := by
      simp only at h1 a1 a3 b3
      omega
    have e5 := Int.eq_of_mul_eq_mul_right (show zs ≠ 0 by simp only at hst; omega) e4
    exact Int.ofNat_inj.1 e5
  rw [← hi2, ← hj2, e3]
theorem pasG_hit {pos : Nat → Nat} {bl l : List (List UInt8)} : ∀ (n : Nat), (∀ i j, i < n → j < n → pos i = pos j → i = j) → (∀ i, i < n → pos i < l.length) → ∀ i, i < n → (pasG pos bl n l).getD (pos i) [] = bl.getD i []
  | 0, _, _, i, hi => by omega
  | n + 1, h1, h2, i, hi => by
    rw [pasG_succ]
    by_cases e : i = n
    · subst e
      rw [List.getD_eq_getElem?_getD, List.getElem?_set_self (by rw [pasG_len]; exact h2 i hi)]; rfl
    · rw [List.getD_eq_getElem?_getD, List.getElem?_set_ne (fun e2 => e (h1 i n hi (by omega) e2.symm)), ← List.getD_eq_getElem?_getD]
      exact pasG_hit n (fun a b ha hb => h1 a b (by omega) (by omega)) (fun a ha => h2 a (by omega)) i (by omega)
theorem pasG_miss {pos : Nat → Nat} {bl l : List (List UInt8)} {y : Nat} : ∀ (n : Nat), (∀ i, i < n → pos i ≠ y) → (pasG pos bl n l).getD y [] = l.getD y []
  | 0, _ => rfl
  | n + 1, h => by
    rw [pasG_succ, List.getD_eq_getElem?_getD, List.getElem?_set_ne (h n (by omega)), ← List.getD_eq_getElem?_getD]
    exact pasG_miss n (fun i hi => h i (by omega))
theorem pasteV_is (s : List Nat) (l : List (List UInt8)) (cuts : List (Int × Int × Int)) (bl : List (List UInt8)) : pasteV s l cuts bl = pasG (posOf s cuts) bl (prod (cnts cuts)) l := rfl
theorem texts_eq {a b : List (List UInt8)} (h : a.length = b.length) (hk : ∀ k, k < a.length → a.getD k [] = b.getD k []) : a = b := by
  refine List.ext_getElem h (fun k h1 h2 => ?_)
  have := hk k h1
  rwa [List.getD_eq_getElem?_getD, List.getElem?_eq_getElem h1, List.getD_eq_getElem?_getD, List.getElem?_eq_getElem h2] at this
theorem sliceV_get {s : List Nat} {l : List (List UInt8)} {cuts : List (Int × Int × Int)} {i : Nat} (hi : i < prod (cnts cuts)) : (sliceV s l cuts).getD i [] = l.getD (posOf s cuts i) [] := by
  unfold sliceV
  rw [List.getD_eq_getElem?_getD, List.getElem?_map, List.getElem?_range hi]; rfl
theorem all_set {L : List (List UInt8)} {p : Nat} {x : List UInt8} (h : L.all isV = true) (hx : isV x = true) : (L.set p x).all isV = true := by
  rw [List.all_eq_true] at h ⊢
  intro y hy
  rcases List.mem_or_eq_of_mem_set hy with h1 | h1
  · exact h y h1
  · rw [h1]; exact hx
theorem pasG_all {pos : Nat → Nat} {bl l : List (List UInt8)} (h1 : l.all isV = true) (h2 : bl.all isV = true) : ∀ n, (pasG pos bl n l).all isV = true
  | 0 => h1
  | n + 1 => by
    rw [pasG_succ]
    refine all_set (pasG_all h1 h2 n) ?_
    rw [List.getD_eq_getElem?_getD]
    cases he : bl[n]? with
    | none => rfl
    | some x => exact List.all_eq_true.1 h2 x (List.mem_of_getElem? he)
theorem valid_paste {s : List Nat} {l bl : List (List UInt8)} {cuts : List (Int × Int × Int)} {t : List Int} (hv : validA (s.map Int.ofNat) l = true) (hw : validA t bl = true) : validA (s.map Int.ofNat) (pasteV s l cuts bl) = true := by
  unfold validA at hv hw ⊢
  simp only [Bool.and_eq_true, decide_eq_true_eq] at hv hw ⊢
  refine ⟨hv.1, ?_, ?_⟩
  · rw [pasteV_is, pasG_len]; exact hv.2.1
  · rw [pasteV_is]; exact pasG_all hv.2.2 hw.2.2 _
end Go.Proofs.YtigidchicloleaaGreatDoor.Arr
namespace Go.Proofs.YtigidchicloleaaGreatDoor.Arr
open Go.RowKit Go.Shelf
open Go.Lib
attribute [local go_sem] Oper.semAt_some
theorem box_cnt {s z ix : List Nat} {k : Nat} (hk : k < s.length) : (cnts (boxL s z ix)).getD k 0 = min (z.getD k 0) (s.getD k 0 - ix.getD k 0 * z.getD k 0) := by
  rw [cnts_at (by rw [boxL_len]; exact hk), boxL_at hk]
  rfl
theorem box_ok {s z ix : List Nat} (hz : z.length = s.length) (hzb : ∀ x ∈ z, 1 ≤ x ∧ x ≤ 1024) (h : IsIx (nums s z) ix) : slabOk s (boxL s z ix) = true := by
  refine slabOk_yes (boxL_len s z ix) (fun k hk => ?_)
  unfold cutAt
  rw [boxL_at hk]
  unfold boxAt
  have h1 := chunk_lt hz hzb h hk
  refine cut_of (Int.natCast_nonneg _) (Int.natCast_nonneg _) (Int.le_refl _) ?_ (fun h2 => ?_)
  · simp only; omega
  · simp only at h2 ⊢; omega
theorem box_all_in {s z : List Nat} (hz : z.length = s.length) (hzb : ∀ x ∈ z, 1 ≤ x ∧ x ≤ 1024) {y : Nat} (hy : y < prod s) : ∃ j k, j < prod (nums s z) ∧ k < prod (cnts (boxL s z (ixOf (nums s z) j))) ∧ posOf s (boxL s z (ixOf (nums s z) j)) k = y := by
  obtain ⟨hi1, hi2⟩ := ixOf_is s y hy
  obtain ⟨e, HE⟩ : ∃ e, e = ixOf s y := ⟨_, rfl⟩
  rw [← HE] at hi1 hi2
  have hzp : ∀ k, k < s.length → 1 ≤ z.getD k 0 := fun k hk => by
    rw [List.getD_eq_getElem?_getD, List.getElem?_eq_getElem (by rw [hz]; exact hk)]
    exact (hzb _ (List.getElem_mem _)).1
  obtain ⟨c, HC⟩ : ∃ c, c = (List.range s.length).map (fun k => e.getD k 0 / z.getD k 0) := ⟨_, rfl⟩
  have hcat : ∀ k, k < s.length → c.getD k 0 = e.getD k 0 / z.getD k 0 := fun k hk => by
    rw [HC, List.getD_eq_getElem?_getD, List.getElem?_map, List.getElem?_range hk]; rfl
  have hcl : c.length = s.length := by rw [HC, List.length_map, List.length_range]
  have hci : IsIx (nums s z) c := ⟨by rw [hcl, nums_len], fun k hk => by
    rw [nums_len] at hk
    rw [hcat k hk, nums_at hk]
    have h1 := hi1.2 k hk
    have h2 := hzp k hk
    have h3 := Nat.div_mul_le_self (e.getD k 0) (z.getD k 0)
    show e.getD k 0 / z.getD k 0 + 1 ≤ _
    rw [Nat.le_div_iff_mul_le (by omega), Nat.add_mul, Nat.one_mul]
    omega⟩
  have hj : plc (nums s z) c 0 < prod (nums s z) := by
    have := (plc_lt _ _ 0 hci).1
    simpa using this
  have ec := ixOf_plc (nums s z) c hci
  obtain ⟨r, HR⟩ : ∃ r, r = (List.range s.length).map (fun k => e.getD k 0 % z.getD k 0) := ⟨_, rfl⟩
  have hrat : ∀ k, k < s.length → r.getD k 0 = e.getD k 0 % z.getD k 0 := fun k hk => by
    rw [HR, List.getD_eq_getElem?_getD, List.getElem?_map, List.getElem?_range hk]; rfl
  have hrl : r.length = s.length := by rw [HR, List.length_map, List.length_range]
  have hri : IsIx (cnts (boxL s z c)) r := ⟨by rw [hrl, cnts, List.length_map, boxL_len], fun k hk => by
    rw [cnts, List.length_map, boxL_len] at hk
    rw [hrat k hk, box_cnt hk, hcat k hk]
    have h1 := hi1.2 k hk
    have h2 := hzp k hk
    have h3 := Nat.div_add_mod (e.getD k 0) (z.getD k 0)
    have h4 := Nat.mod_lt (e.getD k 0) (show 0 < z.getD k 0 by omega)
    rw [Nat.mul_comm] at h3
    omega⟩
  have hk : plc (cnts (boxL s z c)) r 0 < prod (cnts (boxL s z c)) := by
    have := (plc_lt _ _ 0 hri).1
    simpa using this
  have er := ixOf_plc (cnts (boxL s z c)) r hri
  refine ⟨plc (nums s z) c 0, plc (cnts (boxL s z c)) r 0, hj, by rw [ec]; exact hk, ?_⟩
  unfold posOf
  rw [ec, er]
  have et : thr (boxL s z c) r = e := ext_getD (by rw [thr_len, boxL_len, hi1.1]) (fun k hk => by
    rw [thr_len, boxL_len] at hk
    rw [thr_get (by rw [boxL_len]; exact hk)]
    unfold thrAt
    rw [boxL_at hk]
    unfold boxAt
    rw [hcat k hk, hrat k hk]
    have h3 := Nat.div_add_mod (e.getD k 0) (z.getD k 0)
    rw [Nat.mul_comm] at h3
    simp only [Int.mul_one]
    omega)
  rw [et]
  exact hi2
def Tiled (s z : List Nat) (l out : List (List UInt8)) (i : Nat) : Prop := out.length = prod s ∧ out.all isV = true ∧ ∀ j k, j < i → k < prod (cnts (boxL s z (ixOf (nums s z) j))) → out.getD (posOf s (boxL s z (ixOf (nums s z) j)) k) [] = l.getD (posOf s (boxL s z (ixOf (nums s z) j)) k) []
theorem Tiled.zero (s z : List Nat) (l : List (List UInt8)) : Tiled s z l (List.replicate (prod s) []) 0 := ⟨List.length_replicate .., by rw [List.all_eq_true]; intro x hx; obtain rfl := List.eq_of_mem_replicate hx; rfl, fun j k hj => by omega⟩
theorem Tiled.valid {s z : List Nat} {l out : List (List UInt8)} {i : Nat} (hs : Shp s) (h : Tiled s z l out i) : validA (s.map Int.ofNat) out = true := by
  unfold validA
  rw [vs_of_shp hs, toNat_map, decide_eq_true h.1, h.2.1]; rfl
theorem Tiled.step {s z : List Nat} {l out : List (List UInt8)} {i : Nat} (hs : Shp s) (hz : z.length = s.length) (hzb : ∀ x ∈ z, 1 ≤ x ∧ x ≤ 1024) (hv : validA (s.map Int.ofNat) l = true) (h : Tiled s z l out i) (hi : i < prod (nums s z)) : Tiled s z l (pasteV s out (boxL s z (ixOf (nums s z) i)) (sliceV s l (boxL s z (ixOf (nums s z) i)))) (i + 1) := by
  have hok := box_ok hz hzb (ixOf_is (nums s z) i hi).1
  have hvs := valid_slice hs hok hv
  have hvp := valid_paste (t := (cnts (boxL s z (ixOf (nums s z) i))).map Int.ofNat) (h.valid hs) hvs (cuts := boxL s z (ixOf (nums s z) i))
  have hpl : ∀ k, k < prod (cnts (boxL s z (ixOf (nums s z) i))) → posOf s (boxL s z (ixOf (nums s z) i)) k < out.length := fun k hk => by rw [h.1]; exact place_lt hs hok hk
  have hself : ∀ k, k < prod (cnts (boxL s z (ixOf (nums s z) i))) → (pasteV s out (boxL s z (ixOf (nums s z) i)) (sliceV s l (boxL s z (ixOf (nums s z) i)))).getD (posOf s (boxL s z (ixOf (nums s z) i)) k) [] = l.getD (posOf s (boxL s z (ixOf (nums s z) i)) k) [] := fun k hk => by
    rw [pasteV_is, pasG_hit _ (fun a b ha hb e => posOf_inj hs hok ha hb e) hpl k hk, sliceV_get hk]
  refine ⟨by rw [pasteV_is, pasG_len]; exact h.1, by unfold validA at hvp; rw [Bool.and_eq_true, Bool.and_eq_true] at hvp; exact hvp.2.2, fun j k hj hk => ?_⟩
  by_cases e : ∃ k', k' < prod (cnts (boxL s z (ixOf (nums s z) i))) ∧ posOf s (boxL s z (ixOf (nums s z) i)) k' = posOf s (boxL s z (ixOf (nums s z) j)) k
  · obtain ⟨k', hk', e⟩ := e
    rw [← e]
    exact hself k' hk'
  · rw [pasteV_is, pasG_miss _ (fun k' hk' e2 => e ⟨k', hk', e2⟩)]
    by_cases ej : j = i
    · subst ej
      exact absurd ⟨k, hk, rfl⟩ e
    · exact h.2.2 j k (by omega) hk
theorem Tiled.all {s z : List Nat} {l out : List (List UInt8)} (hz : z.length = s.length) (hzb : ∀ x ∈ z, 1 ≤ x ∧ x ≤ 1024) (hl : l.length = prod s) (h : Tiled s z l out (prod (nums s z))) : out = l := by
  refine texts_eq (by rw [h.1, hl]) (fun y hy => ?_)
  rw [h.1] at hy
  obtain ⟨j, k, hj, hk, e⟩ := box_all_in hz hzb hy
  rw [← e]
  exact h.2.2 j k hj hk
end Go.Proofs.YtigidchicloleaaGreatDoor.Arr
