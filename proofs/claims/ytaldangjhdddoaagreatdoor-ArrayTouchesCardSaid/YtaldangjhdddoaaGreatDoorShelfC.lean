/- The boxes of the chunks tile a shape. -/
import Derived.Test.YtaldangjhdddoaaGreatDoorJE
import Derived.Test.YtaldangjhdddoaaGreatDoorHQ
import Derived.Shelf.LaysM
import Derived.Shelf.LaysC
import Derived.Ground.MpProg
import Derived.Ground.Names2Prog
import Derived.Test.YtaldangjhdddoaaGreatDoorProg
import Derived.Shelf.Slices.CompactI
import Derived.Shelf.Slices.Cells
namespace Go.Proofs.YtaldangjhdddoaaGreatDoor.Arr
open Go.RowKit Go.Shelf
open Go.Lib
attribute [local go_sem] Oper.semAt_some
theorem box_cnt {s z ix : List Nat} {k : Nat} (hk : k < s.length) : (cnts (boxL s z ix)).getD k 0 = min (z.getD k 0) (s.getD k 0 - ix.getD k 0 * z.getD k 0) := by
  rw [cnts_at (by rw [boxL_len]; exact hk), boxL_at hk]
  rfl
theorem box_ok {s z ix : List Nat} (hz : z.length = s.length) (hzb : ∀ x ∈ z, 1 ≤ x ∧ x ≤ 1024) (h : IsIx (nums s z) ix) : slabOk s (boxL s z ix) = true := by
  refine slabOk_yes (boxL_len s z ix) (fun k hk => ?_)
  unfold cutAt
  rw [boxL_at hk]
  unfold boxAt
  have h1 := chunk_lt hz hzb h hk
  refine cut_of (Int.natCast_nonneg _) (Int.natCast_nonneg _) (Int.le_refl _) ?_ (fun h2 => ?_)
  · simp only; omega
  · simp only at h2 ⊢; omega
theorem box_all_in {s z : List Nat} (hz : z.length = s.length) (hzb : ∀ x ∈ z, 1 ≤ x ∧ x ≤ 1024) {y : Nat} (hy : y < prod s) : ∃ j k, j < prod (nums s z) ∧ k < prod (cnts (boxL s z (ixOf (nums s z) j))) ∧ posOf s (boxL s z (ixOf (nums s z) j)) k = y := by
  obtain ⟨hi1, hi2⟩ := ixOf_is s y hy
  obtain ⟨e, HE⟩ : ∃ e, e = ixOf s y := ⟨_, rfl⟩
  rw [← HE] at hi1 hi2
  have hzp : ∀ k, k < s.length → 1 ≤ z.getD k 0 := fun k hk => by
    rw [List.getD_eq_getElem?_getD, List.getElem?_eq_getElem (by rw [hz]; exact hk)]
    exact (hzb _ (List.getElem_mem _)).1
  obtain ⟨c, HC⟩ : ∃ c, c = (List.range s.length).map (fun k => e.getD k 0 / z.getD k 0) := ⟨_, rfl⟩
  have hcat : ∀ k, k < s.length → c.getD k 0 = e.getD k 0 / z.getD k 0 := fun k hk => by
    rw [HC, List.getD_eq_getElem?_getD, List.getElem?_map, List.getElem?_range hk]; rfl
  have hcl : c.length = s.length := by rw [HC, List.length_map, List.length_range]
  have hci : IsIx (nums s z) c := ⟨by rw [hcl, nums_len], fun k hk => by
    rw [nums_len] at hk
    rw [hcat k hk, nums_at hk]
    have h1 := hi1.2 k hk
    have h2 := hzp k hk
    have h3 := Nat.div_mul_le_self (e.getD k 0) (z.getD k 0)
    show e.getD k 0 / z.getD k 0 + 1 ≤ _
    rw [Nat.le_div_iff_mul_le (by omega), Nat.add_mul, Nat.one_mul]
    omega⟩
  have hj : plc (nums s z) c 0 < prod (nums s z) := by
    have := (plc_lt _ _ 0 hci).1
    simpa using this
  have ec := ixOf_plc (nums s z) c hci
  obtain ⟨r, HR⟩ : ∃ r, r = (List.range s.length).map (fun k => e.getD k 0 % z.getD k 0) := ⟨_, rfl⟩
  have hrat : ∀ k, k < s.length → r.getD k 0 = e.getD k 0 % z.getD k 0 := fun k hk => by
    rw [HR, List.getD_eq_getElem?_getD, List.getElem?_map, List.getElem?_range hk]; rfl
  have hrl : r.length = s.length := by rw [HR, List.length_map, List.length_range]
  have hri : IsIx (cnts (boxL s z c)) r := ⟨by rw [hrl, cnts, List.length_map, boxL_len], fun k hk => by
    rw [cnts, List.length_map, boxL_len] at hk
    rw [hrat k hk, box_cnt hk, hcat k hk]
    have h1 := hi1.2 k hk
    have h2 := hzp k hk
    have h3 := Nat.div_add_mod (e.getD k 0) (z.getD k 0)
    have h4 := Nat.mod_lt (e.getD k 0) (show 0 < z.getD k 0 by omega)
    rw [Nat.mul_comm] at h3
    omega⟩
  have hk : plc (cnts (boxL s z c)) r 0 < prod (cnts (boxL s z c)) := by
    have := (plc_lt _ _ 0 hri).1
    simpa using this
  have er := ixOf_plc (cnts (boxL s z c)) r hri
  refine ⟨plc (nums s z) c 0, plc (cnts (boxL s z c)) r 0, hj, by rw [ec]; exact hk, ?_⟩
  unfold posOf
  rw [ec, er]
  have et : thr (boxL s z c) r = e := ext_getD (by rw [thr_len, boxL_len, hi1.1]) (fun k hk => by
    rw [thr_len, boxL_len] at hk
    rw [thr_get (by rw [boxL_len]; exact hk)]
    unfold thrAt
    rw [boxL_at hk]
    unfold boxAt
    rw [hcat k hk, hrat k hk]
    have h3 := Nat.div_add_mod (e.getD k 0) (z.getD k 0)
    rw [Nat.mul_comm] at h3
    simp only [Int.mul_one]
    omega)
  rw [et]
  exact hi2
def Tiled (s z : List Nat) (l out : List (List UInt8)) (i : Nat) : Prop := out.length = prod s ∧ out.all isV = true ∧ ∀ j k, j < i → k < prod (cnts (boxL s z (ixOf (nums s z) j))) → out.getD (posOf s (boxL s z (ixOf (nums s z) j)) k) [] = l.getD (posOf s (boxL s z (ixOf (nums s z) j)) k) []
theorem Tiled.zero (s z : List Nat) (l : List (List UInt8)) : Tiled s z l (List.replicate (prod s) []) 0 := ⟨List.length_replicate .., by rw [List.all_eq_true]; intro x hx; obtain rfl := List.eq_of_mem_replicate hx; rfl, fun j k hj => by omega⟩
theorem Tiled.valid {s z : List Nat} {l out : List (List UInt8)} {i : Nat} (hs : Shp s) (h : Tiled s z l out i) : validA (s.map Int.ofNat) out = true := by
  unfold validA
  rw [vs_of_shp hs, toNat_map, decide_eq_true h.1, h.2.1]; rfl
theorem Tiled.step {s z : List Nat} {l out : List (List UInt8)} {i : Nat} (hs : Shp s) (hz : z.length = s.length) (hzb : ∀ x ∈ z, 1 ≤ x ∧ x ≤ 1024) (hv : validA (s.map Int.ofNat) l = true) (h : Tiled s z l out i) (hi : i < prod (nums s z)) : Tiled s z l (pasteV s out (boxL s z (ixOf (nums s z) i)) (sliceV s l (boxL s z (ixOf (nums s z) i)))) (i + 1) := by
  have hok := box_ok hz hzb (ixOf_is (nums s z) i hi).1
  have hvs := valid_slice hs hok hv
  have hvp := valid_paste (t := (cnts (boxL s z (ixOf (nums s z) i))).map Int.ofNat) (h.valid hs) hvs (cuts := boxL s z (ixOf (nums s z) i))
  have hpl : ∀ k, k < prod (cnts (boxL s z (ixOf (nums s z) i))) → posOf s (boxL s z (ixOf (nums s z) i)) k < out.length := fun k hk => by rw [h.1]; exact place_lt hs hok hk
  have hself : ∀ k, k < prod (cnts (boxL s z (ixOf (nums s z) i))) → (pasteV s out (boxL s z (ixOf (nums s z) i)) (sliceV s l (boxL s z (ixOf (nums s z) i)))).getD (posOf s (boxL s z (ixOf (nums s z) i)) k) [] = l.getD (posOf s (boxL s z (ixOf (nums s z) i)) k) [] := fun k hk => by
    rw [pasteV_is, pasG_hit _ (fun a b ha hb e => posOf_inj hs hok ha hb e) hpl k hk, sliceV_get hk]
  refine ⟨by rw [pasteV_is, pasG_len]; exact h.1, by unfold validA at hvp; rw [Bool.and_eq_true, Bool.and_eq_true] at hvp; exact hvp.2.2, fun j k hj hk => ?_⟩
  by_cases e : ∃ k', k' < prod (cnts (boxL s z (ixOf (nums s z) i))) ∧ posOf s (boxL s z (ixOf (nums s z) i)) k' = posOf s (boxL s z (ixOf (nums s z) j)) k
  · obtain ⟨k', hk', e⟩ := e
    rw [← e]
    exact hself k' hk'
  · rw [pasteV_is, pasG_miss _ (fun k' hk' e2 => e ⟨k', hk', e2⟩)]
    by_cases ej : j = i
    · subst ej
      exact absurd ⟨k, hk, rfl⟩ e
    · exact h.2.2 j k (by omega) hk
theorem Tiled.all {s z : List Nat} {l out : List (List UInt8)} (hz : z.length = s.length) (hzb : ∀ x ∈ z, 1 ≤ x ∧ x ≤ 1024) (hl : l.length = prod s) (h : Tiled s z l out (prod (nums s z))) : out = l := by
  refine texts_eq (by rw [h.1, hl]) (fun y hy => ?_)
  rw [h.1] at hy
  obtain ⟨j, k, hj, hk, e⟩ := box_all_in hz hzb hy
  rw [← e]
  exact h.2.2 j k hj hk
end Go.Proofs.YtaldangjhdddoaaGreatDoor.Arr
namespace Go.Proofs
open Go.Shelf
def Tryz.laysNm220_ren : Go.Shelf.Ren := ⟨fun | 20 => 89 | n => n, fun | 22 => 22 | 3 => 3 | 4 => 4 | 0 => 0 | n => n, fun | n => n⟩
theorem Tryz.laysNm220 : Go.Proofs.Lays2.n20 Tryz.prog Tryz.laysNm220_ren := {
  mixed := by kernel_rfl
  f20 := Tryz.func89.trans (congrArg some (by kernel_rfl))
  t0 := Tryz.underlying0
  a0 := Tryz.isAgg0
  z0 := Tryz.sizeOf0
  v0 := Tryz.zeroValue0
  t3 := Tryz.underlying3
  a3 := Tryz.isAgg3
  z3 := Tryz.sizeOf3
  v3 := Tryz.zeroValue3
  t4 := Tryz.underlying4
  a4 := Tryz.isAgg4
  z4 := Tryz.sizeOf4
  v4 := Tryz.zeroValue4
  t22 := Tryz.underlying22
  a22 := Tryz.isAgg22
  z22 := Tryz.sizeOf22
  v22 := Tryz.zeroValue22
  i3 := by kernel_rfl }
open Go.RowKit Go.Lib Go.Sort in
/-- The same at a slice of length 0, a nil one too: it comes back as it is. (LAID: no walk: one application.) -/
theorem Tryz.slices_Compact_int_empty (a : Option Addr) (cap : Nat) (w : World) :
    Calls Tryz.prog 89 #[.slice a 0 cap] w fun e w' => e = .returned (.slice a 0 cap) ∧ w' = w := Any.slices_Compact_int_empty Tryz.laysNm220 a cap w
open Go.RowKit Go.Lib Go.Sort in
/-- slices.Compact at []int, of an argument: the slice cut to 'Lib.compact (elements)'; the n cells hold that, then zeros. (LAID: no walk: one application.) -/
theorem Tryz.slices_Compact_int_cells (b off n c : Nat) (zs : List Int) (w : World) (hz : n ≤ zs.length) (hbig : n ≤ 9223372036854775807) (hcap : n ≤ c) (hc : ∀ j, j < zs.length → w.cell? ⟨b, off + j, none⟩ = some (.int .i64 (zs.getD j 0))) (hf : ∀ j, j < n → w.frozen? ⟨b, off + j, none⟩ = false) :
    Calls Tryz.prog 89 #[.slice (some ⟨b, off, none⟩) n c] w fun e w' => e = .returned (.slice (some ⟨b, off, none⟩) (Lib.compact (zs.take n)).length c) ∧ ∃ q, w' = (w.drewN q).setCells b off ((Lib.compact (zs.take n) ++ List.replicate (n - (Lib.compact (zs.take n)).length) 0).map (Value.int .i64)) := Any.slices_Compact_int_cells Tryz.laysNm220 b off n c zs w hz hbig hcap hc hf
end Go.Proofs
