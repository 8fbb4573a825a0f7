/- Which chunks a slab's elements lie in. -/
import Derived.Test.YtigidchicloleaaGreatDoorJR
import Derived.Test.YtigidchicloleaaGreatDoorHK
import Derived.Test.YtigidchicloleaaGreatDoorJM
namespace Go.Proofs.YtigidchicloleaaGreatDoor.Arr
open Go.RowKit Go.Shelf
open Go.Lib
attribute [local go_sem] Oper.semAt_some
def dv (T z : List Nat) : List Nat := (List.range T.length).map (fun k => T.getD k 0 / z.getD k 0)
theorem dv_len (T z : List Nat) : (dv T z).length = T.length := by simp [dv]
theorem dv_at {T z : List Nat} {k : Nat} (hk : k < T.length) : (dv T z).getD k 0 = T.getD k 0 / z.getD k 0 := by
  unfold dv
  rw [List.getD_eq_getElem?_getD, List.getElem?_map, List.getElem?_range hk]; rfl
theorem div_lt_cdiv {v s z : Nat} (hz : 1 ≤ z) (h : v < s) : v / z < (s + z - 1) / z := by
  have h1 : v / z * z ≤ v := Nat.div_mul_le_self v z
  refine (Nat.le_div_iff_mul_le (by omega)).2 ?_
  rw [Nat.succ_mul]; omega
theorem z_pos {s z : List Nat} (hz : z.length = s.length) (hzb : ∀ x ∈ z, 1 ≤ x ∧ x ≤ 1024) {k : Nat} (hk : k < s.length) : 1 ≤ z.getD k 0 := by
  rw [List.getD_eq_getElem?_getD, List.getElem?_eq_getElem (by rw [hz]; exact hk)]
  exact (hzb _ (List.getElem_mem _)).1
theorem dv_is {s z T : List Nat} (hz : z.length = s.length) (hzb : ∀ x ∈ z, 1 ≤ x ∧ x ≤ 1024) (h : IsIx s T) : IsIx (nums s z) (dv T z) := by
  refine ⟨by rw [dv_len, nums_len, h.1], fun k hk => ?_⟩
  rw [nums_len] at hk
  rw [nums_at hk, dv_at (by rw [h.1]; exact hk)]
  exact div_lt_cdiv (z_pos hz hzb hk) (h.2 k hk)
theorem slab_cut {s : List Nat} {cuts : List (Int × Int × Int)} (h : slabOk s cuts = true) {k : Nat} (hk : k < s.length) : cuts.length = s.length ∧ ∃ a b t : Nat, cuts.getD k (0, 0, 0) = ((a : Int), (b : Int), (t : Int)) := by
  unfold slabOk at h
  rw [Bool.and_eq_true, decide_eq_true_eq, List.all_eq_true] at h
  have h2 := h.2 k (List.mem_range.2 hk)
  unfold cutAt at h2
  obtain ⟨a, b, t, h3, h4, h5, -⟩ := cut_in h2
  exact ⟨h.1, a, b, t, by rw [← h3, ← h4, ← h5]⟩
def tgt (z : List Nat) (cuts : List (Int × Int × Int)) (X : List Nat) : List Nat := dv (thr cuts X) z
theorem tgt_at {s z X : List Nat} {cuts : List (Int × Int × Int)} (h : slabOk s cuts = true) {k : Nat} (hk : k < s.length) : (tgt z cuts X).getD k 0 = ((cuts.getD k (0, 0, 0)).1.toNat + X.getD k 0 * (cuts.getD k (0, 0, 0)).2.2.toNat) / z.getD k 0 := by
  obtain ⟨hl, a, b, t, e⟩ := slab_cut h hk
  unfold tgt
  rw [dv_at (by rw [thr_len, hl]; exact hk), thr_get (by rw [hl]; exact hk)]
  unfold thrAt
  rw [e]
  show ((a : Int) + (X.getD k 0 : Int) * (t : Int)).toNat / _ = (a + X.getD k 0 * t) / _
  rw [← Int.natCast_mul, ← Int.natCast_add, Int.toNat_natCast]
theorem tgt_is {s z X : List Nat} {cuts : List (Int × Int × Int)} (hs : ∀ x ∈ s, x ≤ 1024) (hz : z.length = s.length) (hzb : ∀ x ∈ z, 1 ≤ x ∧ x ≤ 1024) (h : slabOk s cuts = true) (hX : IsIx (cnts cuts) X) : IsIx (nums s z) (tgt z cuts X) := dv_is hz hzb (thr_ok h hs hX).2
theorem tgt_iff {s z : List Nat} {cuts : List (Int × Int × Int)} (hs : ∀ x ∈ s, x ≤ 1024) (hz : z.length = s.length) (hzb : ∀ x ∈ z, 1 ≤ x ∧ x ≤ 1024) (h : slabOk s cuts = true) {j : Nat} (hj : j < prod (nums s z)) :
    (∃ i, i < prod (cnts cuts) ∧ plc (nums s z) (tgt z cuts (ixOf (cnts cuts) i)) 0 = j) ↔ meetsT s z cuts (ixOf (nums s z) j) = true := by
  unfold meetsT metP
  rw [List.all_eq_true]
  constructor
  · rintro ⟨i, hi, rfl⟩ k hk
    have hk2 := List.mem_range.1 hk
    have hI := (ixOf_is (cnts cuts) i hi).1
    rw [ixOf_plc _ _ (tgt_is hs hz hzb h hI), List.any_eq_true]
    have hl := (slab_cut h hk2).1
    have h1 := hI.2 k (by rw [cnts, List.length_map, hl]; exact hk2)
    rw [cnts_at (by rw [hl]; exact hk2)] at h1
    exact ⟨_, List.mem_range.2 h1, by rw [tgt_at h hk2]; exact decide_eq_true rfl⟩
  · intro hall
    have hex : ∀ k, ∃ x, k < s.length → x < (cuts.getD k (0, 0, 0)).2.1.toNat ∧ ((cuts.getD k (0, 0, 0)).1.toNat + x * (cuts.getD k (0, 0, 0)).2.2.toNat) / z.getD k 0 = (ixOf (nums s z) j).getD k 0 := fun k => by
      by_cases hk : k < s.length
      · have h1 := hall k (List.mem_range.2 hk)
        rw [List.any_eq_true] at h1
        obtain ⟨x, hx, h2⟩ := h1
        exact ⟨x, fun _ => ⟨List.mem_range.1 hx, of_decide_eq_true h2⟩⟩
      · exact ⟨0, fun h => absurd h hk⟩
    obtain ⟨g, hg⟩ := Classical.axiomOfChoice hex
    have hgx : ∀ k, k < s.length → ((List.range s.length).map g).getD k 0 = g k := fun k hk => by
      rw [List.getD_eq_getElem?_getD, List.getElem?_map, List.getElem?_range hk]; rfl
    have hlen : ∀ k, k < s.length → cuts.length = s.length := fun k hk => (slab_cut h hk).1
    have hl : cuts.length = s.length := by
      unfold slabOk at h
      rw [Bool.and_eq_true, decide_eq_true_eq] at h
      exact h.1
    have hX : IsIx (cnts cuts) ((List.range s.length).map g) := by
      refine ⟨by simp [cnts, hl], fun k hk => ?_⟩
      rw [cnts, List.length_map, hl] at hk
      rw [cnts_at (by rw [hl]; exact hk), hgx k hk]
      exact (hg k hk).1
    refine ⟨plc (cnts cuts) ((List.range s.length).map g) 0, by have := (plc_lt _ _ 0 hX).1; omega, ?_⟩
    rw [ixOf_plc _ _ hX]
    have hT := tgt_is hs hz hzb h hX
    have hJ := ixOf_is (nums s z) j hj
    have e : tgt z cuts ((List.range s.length).map g) = ixOf (nums s z) j := by
      refine List.ext_getElem (by rw [hT.1, hJ.1.1]) (fun k h1 h2 => ?_)
      have hk : k < s.length := by rw [hT.1, nums_len] at h1; exact h1
      have e1 := tgt_at (z := z) (X := (List.range s.length).map g) h hk
      rw [hgx k hk, (hg k hk).2, List.getD_eq_getElem?_getD, List.getElem?_eq_getElem h1, List.getD_eq_getElem?_getD, List.getElem?_eq_getElem h2] at e1
      exact e1
    rw [e]; exact hJ.2
def hitB (s z : List Nat) (cuts : List (Int × Int × Int)) (i j : Nat) : Bool := (List.range i).any (fun x => decide (plc (nums s z) (tgt z cuts (ixOf (cnts cuts) x)) 0 = j))
theorem hitB_succ (s z : List Nat) (cuts : List (Int × Int × Int)) (i j : Nat) : hitB s z cuts (i + 1) j = (hitB s z cuts i j || decide (plc (nums s z) (tgt z cuts (ixOf (cnts cuts) i)) 0 = j)) := by
  unfold hitB
  rw [List.range_succ, List.any_append]; simp
theorem hit_all {s z : List Nat} {cuts : List (Int × Int × Int)} (hs : ∀ x ∈ s, x ≤ 1024) (hz : z.length = s.length) (hzb : ∀ x ∈ z, 1 ≤ x ∧ x ≤ 1024) (h : slabOk s cuts = true) :
    ((List.range (prod (nums s z))).filter (hitB s z cuts (prod (cnts cuts)))).map (ixOf (nums s z)) = touL (mets s z cuts) := by
  rw [touched_filter]
  unfold chunksL
  rw [List.filter_map]
  congr 1
  refine List.filter_congr (fun j hj => ?_)
  have hj2 := List.mem_range.1 hj
  have e := tgt_iff hs hz hzb h hj2
  rw [Function.comp]
  cases hm : meetsT s z cuts (ixOf (nums s z) j) with
  | true =>
    obtain ⟨i, hi, h1⟩ := e.2 hm
    unfold hitB
    rw [List.any_eq_true]
    exact ⟨i, List.mem_range.2 hi, decide_eq_true h1⟩
  | false =>
    cases hb : hitB s z cuts (prod (cnts cuts)) j with
    | false => rfl
    | true =>
      unfold hitB at hb
      rw [List.any_eq_true] at hb
      obtain ⟨i, hi, h1⟩ := hb
      have := e.1 ⟨i, List.mem_range.1 hi, of_decide_eq_true h1⟩
      rw [hm] at this; cases this
def Hits (H N : Nat) (f : Nat → Bool) (W : World) : Prop := ∃ cs : Array Value, W.heap[H]? = some (.cells cs 4 (0, 0)) ∧ cs.size = N ∧ ∀ j, j < N → cs[j]? = some (.bool (f j))
theorem Hits.step {H N j0 : Nat} {f f' : Nat → Bool} {W : World} (h : Hits H N f W) (h0 : j0 < N) (e : ∀ j, f' j = (f j || decide (j0 = j))) : Hits H N f' (W.setCell ⟨H, j0, none⟩ (.bool true)) := by
  obtain ⟨cs, h1, h2, h3⟩ := h
  refine ⟨_, heap_set W H j0 (.bool true) _ _ h1, by simp [h2], fun j hj => ?_⟩
  rw [Array.getElem?_setIfInBounds, e]
  by_cases ej : j0 = j
  · rw [if_pos ej, if_pos (by rw [h2]; exact h0), decide_eq_true ej, Bool.or_true]
  · rw [if_neg ej, h3 j hj, decide_eq_false ej, Bool.or_false]
theorem Hits.at {H N j : Nat} {f : Nat → Bool} {W : World} (h : Hits H N f W) (hj : j < N) : W.cell? ⟨H, j, none⟩ = some (.bool (f j)) ∧ W.frozen? ⟨H, j, none⟩ = false := by
  obtain ⟨cs, h1, h2, h3⟩ := h
  exact ⟨by simp [World.cell?, h1, h3 j hj], by simp [World.frozen?, h1]⟩
theorem Hits.keep {H N : Nat} {f : Nat → Bool} {W W' : World} (h : Hits H N f W) (e : W'.heap[H]? = W.heap[H]?) : Hits H N f W' := by
  obtain ⟨cs, h1, h2⟩ := h
  exact ⟨cs, e.trans h1, h2⟩
theorem info4 : (Tryz.prog.info? 4).map (fun i => (i.zero, i.size, i.bytes)) = some (some (.bool false), 1, 1) := by kernel_rfl
theorem make_marks (n : Nat) (hn : n ≤ 10000) : ∃ Z : Array Value, (Z.size = n ∧ ∀ j, j < n → Z[j]? = some (.bool false)) ∧ ∀ W, (Instr.makeSlice 89 (.int .i64 (n : Int)) (.int .i64 (n : Int))).run Tryz.prog W = .ok (.slice (some ⟨W.heap.size, 0, none⟩) n n) (W.alloc (.cells Z 4)) := by
  obtain ⟨i0, hi, hz0, hz1, hz2⟩ := info_parts info4
  refine ⟨madeCells (Value.cells (.bool false)) (n * 1), ⟨by rw [size_madeCells, Nat.mul_one], fun j hj => ?_⟩, fun W => ?_⟩
  · simp [madeCells, Value.cells, Nat.mod_one, hj]
  · have h := run_make (P := Tryz.prog) W 89 4 i0 (.bool false) Tryz.underlying89 hi hz0 .i64 .i64 (n : Int) (n : Int) (by omega) (by omega) (by rw [hz2]; omega) (by omega)
    rw [hz1, Int.toNat_natCast] at h
    exact h
end Go.Proofs.YtigidchicloleaaGreatDoor.Arr
