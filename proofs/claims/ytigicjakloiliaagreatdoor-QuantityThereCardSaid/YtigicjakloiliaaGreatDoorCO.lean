/- QuantityUnits: the law's walk. -/
import Derived.Test.YtigicjakloiliaaGreatDoorCN
import Derived.Test.YtigicjakloiliaaGreatDoorCK
import Derived.Test.YtigicjakloiliaaGreatDoorCM
import Derived.Laws.StructEq
import Derived.ChangeKeysEq
namespace Go.Proofs.YtigicjakloiliaaGreatDoor
open Go.RowKit Go.Lib Big

theorem Keep.fresh9 {w0 W : World} {L : List Blk} (h : Keep w0 W L) (a0 a1 a2 a3 a4 a5 a6 a7 a8 : Value) : Keep w0 ((((((((((W.alloc (.cells #[.string ⟨#[]⟩, .string ⟨#[]⟩, .int .i64 0, .int .i64 0, .int .i64 0, .int .i64 0, .int .i64 0, .int .i64 0, .int .i64 0] 53)).setCell ⟨W.heap.size, 0, none⟩ a0).setCell ⟨W.heap.size, 1, none⟩ a1).setCell ⟨W.heap.size, 2, none⟩ a2).setCell ⟨W.heap.size, 3, none⟩ a3).setCell ⟨W.heap.size, 4, none⟩ a4).setCell ⟨W.heap.size, 5, none⟩ a5).setCell ⟨W.heap.size, 6, none⟩ a6).setCell ⟨W.heap.size, 7, none⟩ a7).setCell ⟨W.heap.size, 8, none⟩ a8) ((W.heap.size, #[a0, a1, a2, a3, a4, a5, a6, a7, a8], 53) :: L) := by
  have h0 := h.next (below_alloc W (.cells #[.string ⟨#[]⟩, .string ⟨#[]⟩, .int .i64 0, .int .i64 0, .int .i64 0, .int .i64 0, .int .i64 0, .int .i64 0, .int .i64 0] 53))
  have hg := h.below.size
  have hne : ∀ x ∈ L, x.1 ≠ W.heap.size := fun x hx => by have := h.lt hx; omega
  have h1 := Keep.put9_far h0 hg hne a0 a1 a2 a3 a4 a5 a6 a7 a8
  have h2 := (ResU.start W).put9_heap a0 a1 a2 a3 a4 a5 a6 a7 a8
  exact ⟨h1.below, fun x hx => by
    rcases List.mem_cons.1 hx with rfl | hx
    · exact h2
    · exact h1.all x hx⟩
set_option maxRecDepth 100000 in
theorem powers_same (a0 a1 a2 a3 a4 a5 a6 : Int) (W : World) : (Op.equalIn 9999 51 (.agg #[.int .i64 a0, .int .i64 a1, .int .i64 a2, .int .i64 a3, .int .i64 a4, .int .i64 a5, .int .i64 a6]) (.agg #[.int .i64 a0, .int .i64 a1, .int .i64 a2, .int .i64 a3, .int .i64 a4, .int .i64 a5, .int .i64 a6])).run Tryz.prog W = .ok true W := by
  obtain ⟨i, hi⟩ := Option.isSome_iff_exists.1 (by kernel_rfl : (Tryz.prog.info? 3).isSome = true)
  have u3 := Tryz.underlying3
  rw [show (9999 : Nat) = 9998 + 1 from rfl, run_equalIn_array W 9998 _ _ Tryz.underlying51 hi]
  simp only [show List.range 7 = [0, 1, 2, 3, 4, 5, 6] from rfl]
  have hc : Tryz.prog.cellsOf 3 = 1 := by kernel_rfl
  simp only [Op.eqItems, hc]
  go_simp
set_option maxRecDepth 100000 in
set_option maxHeartbeats 1600000 in
theorem units_00 (fu ou : ByteArray) (u0 u1 u2 u3 u4 u5 u6 : Int) (fv ov : ByteArray) (v0 v1 v2 v3 v4 v5 v6 : Int) (fa oa : ByteArray) (a0 a1 a2 a3 a4 a5 a6 : Int)  (m n : Int) (w : World) (h1 : Hid (∀ W, Below w.heap.size w W → Calls Tryz.prog 60 #[.agg #[.string fu, .string ou, .int .i64 u0, .int .i64 u1, .int .i64 u2, .int .i64 u3, .int .i64 u4, .int .i64 u5, .int .i64 u6], .agg #[.string fv, .string ov, .int .i64 v0, .int .i64 v1, .int .i64 v2, .int .i64 v3, .int .i64 v4, .int .i64 v5, .int .i64 v6]] W (fun e w' => e = .returned (.tuple #[.agg #[.string fa, .string oa, .int .i64 a0, .int .i64 a1, .int .i64 a2, .int .i64 a3, .int .i64 a4, .int .i64 a5, .int .i64 a6], .int .i64 0]) ∧ Below W.heap.size W w'))) (h2 : Hid (∀ W, Below w.heap.size w W → Calls Tryz.prog 60 #[.agg #[.string fv, .string ov, .int .i64 v0, .int .i64 v1, .int .i64 v2, .int .i64 v3, .int .i64 v4, .int .i64 v5, .int .i64 v6], .agg #[.string fu, .string ou, .int .i64 u0, .int .i64 u1, .int .i64 u2, .int .i64 u3, .int .i64 u4, .int .i64 u5, .int .i64 u6]] W (fun e w' => e = .returned (.tuple #[.agg #[.string fa, .string oa, .int .i64 a0, .int .i64 a1, .int .i64 a2, .int .i64 a3, .int .i64 a4, .int .i64 a5, .int .i64 a6], .int .i64 0]) ∧ Below W.heap.size W w'))) (h3 : Hid (∀ W, Below w.heap.size w W → Calls Tryz.prog 62 #[.agg #[.string fa, .string oa, .int .i64 a0, .int .i64 a1, .int .i64 a2, .int .i64 a3, .int .i64 a4, .int .i64 a5, .int .i64 a6], .agg #[.string fv, .string ov, .int .i64 v0, .int .i64 v1, .int .i64 v2, .int .i64 v3, .int .i64 v4, .int .i64 v5, .int .i64 v6]] W (fun e w' => e = .returned (.tuple #[.agg #[.string fu, .string ou, .int .i64 u0, .int .i64 u1, .int .i64 u2, .int .i64 u3, .int .i64 u4, .int .i64 u5, .int .i64 u6], .int .i64 0]) ∧ Below W.heap.size W w'))) (hm : m < -12) (hw : Hid (AwakeIs w)) : Calls Tryz.prog 16 #[.agg #[.string fu, .string ou, .int .i64 u0, .int .i64 u1, .int .i64 u2, .int .i64 u3, .int .i64 u4, .int .i64 u5, .int .i64 u6], .agg #[.string fv, .string ov, .int .i64 v0, .int .i64 v1, .int .i64 v2, .int .i64 v3, .int .i64 v4, .int .i64 v5, .int .i64 v6], .int .i64 m, .int .i64 n] w (OrdPost w) := by
  have hk0 : Hid (Keep w ((w.alloc (.cells #[.string fu, .string ou, .int .i64 u0, .int .i64 u1, .int .i64 u2, .int .i64 u3, .int .i64 u4, .int .i64 u5, .int .i64 u6] 53)).alloc (.cells #[.string fv, .string ov, .int .i64 v0, .int .i64 v1, .int .i64 v2, .int .i64 v3, .int .i64 v4, .int .i64 v5, .int .i64 v6] 53)) [(w.heap.size + 1, #[.string fv, .string ov, .int .i64 v0, .int .i64 v1, .int .i64 v2, .int .i64 v3, .int .i64 v4, .int .i64 v5, .int .i64 v6], 53), (w.heap.size, #[.string fu, .string ou, .int .i64 u0, .int .i64 u1, .int .i64 u2, .int .i64 u3, .int .i64 u4, .int .i64 u5, .int .i64 u6], 53)]) := Lib.hid (Keep.two w _ _ 53 53)
  go_enter Tryz.func16, Tryz.ntmps16
  go_wp2_with fail
  have hqa := powers_same a0 a1 a2 a3 a4 a5 a6
  have hqu := powers_same u0 u1 u2 u3 u4 u5 u6
  refine (h1.out _ hk0.out.below).mono ?_
  rintro e w1 ⟨rfl, hb⟩
  have hk1 := Lib.hid (hk0.out.next hb)
  clear hb hk0
  have hm1 := Lib.hid (hk1.out.more #[.string fa, .string oa, .int .i64 a0, .int .i64 a1, .int .i64 a2, .int .i64 a3, .int .i64 a4, .int .i64 a5, .int .i64 a6] 53)
  clear hk1
  have hx : (w1.alloc (.cells #[.string fa, .string oa, .int .i64 a0, .int .i64 a1, .int .i64 a2, .int .i64 a3, .int .i64 a4, .int .i64 a5, .int .i64 a6] 53)).heap[w.heap.size + 1]? = some (.cells #[.string fv, .string ov, .int .i64 v0, .int .i64 v1, .int .i64 v2, .int .i64 v3, .int .i64 v4, .int .i64 v5, .int .i64 v6] 53 (0, 0)) := hm1.out.one _ (List.mem_cons_of_mem _ (List.mem_cons_self ..))
  have cwb_0 := cell_of_heap hx 0
  have cwb_1 := cell_of_heap hx 1
  have cwb_2 := cell_of_heap hx 2
  have cwb_3 := cell_of_heap hx 3
  have cwb_4 := cell_of_heap hx 4
  have cwb_5 := cell_of_heap hx 5
  have cwb_6 := cell_of_heap hx 6
  have cwb_7 := cell_of_heap hx 7
  have cwb_8 := cell_of_heap hx 8
  clear hx
  have hx : (w1.alloc (.cells #[.string fa, .string oa, .int .i64 a0, .int .i64 a1, .int .i64 a2, .int .i64 a3, .int .i64 a4, .int .i64 a5, .int .i64 a6] 53)).heap[w.heap.size]? = some (.cells #[.string fu, .string ou, .int .i64 u0, .int .i64 u1, .int .i64 u2, .int .i64 u3, .int .i64 u4, .int .i64 u5, .int .i64 u6] 53 (0, 0)) := hm1.out.one _ (List.mem_cons_of_mem _ (List.mem_cons_of_mem _ (List.mem_cons_self ..)))
  have cw_0 := cell_of_heap hx 0
  have cw_1 := cell_of_heap hx 1
  have cw_2 := cell_of_heap hx 2
  have cw_3 := cell_of_heap hx 3
  have cw_4 := cell_of_heap hx 4
  have cw_5 := cell_of_heap hx 5
  have cw_6 := cell_of_heap hx 6
  have cw_7 := cell_of_heap hx 7
  have cw_8 := cell_of_heap hx 8
  clear hx
  go_wp2_with fail
  clear cwb_0 cwb_1 cwb_2 cwb_3 cwb_4 cwb_5 cwb_6 cwb_7 cwb_8 cw_0 cw_1 cw_2 cw_3 cw_4 cw_5 cw_6 cw_7 cw_8
  refine (h2.out _ hm1.out.below).mono ?_
  rintro e w2 ⟨rfl, hb⟩
  have hk2 := Lib.hid (hm1.out.next hb)
  clear hb hm1
  have hm2 := Lib.hid (hk2.out.more #[.string fa, .string oa, .int .i64 a0, .int .i64 a1, .int .i64 a2, .int .i64 a3, .int .i64 a4, .int .i64 a5, .int .i64 a6] 53)
  clear hk2
  have hx : (w2.alloc (.cells #[.string fa, .string oa, .int .i64 a0, .int .i64 a1, .int .i64 a2, .int .i64 a3, .int .i64 a4, .int .i64 a5, .int .i64 a6] 53)).heap[w1.heap.size]? = some (.cells #[.string fa, .string oa, .int .i64 a0, .int .i64 a1, .int .i64 a2, .int .i64 a3, .int .i64 a4, .int .i64 a5, .int .i64 a6] 53 (0, 0)) := hm2.out.one _ (List.mem_cons_of_mem _ (List.mem_cons_self ..))
  have cw1_0 := cell_of_heap hx 0
  have cw1_1 := cell_of_heap hx 1
  have cw1_2 := cell_of_heap hx 2
  have cw1_3 := cell_of_heap hx 3
  have cw1_4 := cell_of_heap hx 4
  have cw1_5 := cell_of_heap hx 5
  have cw1_6 := cell_of_heap hx 6
  have cw1_7 := cell_of_heap hx 7
  have cw1_8 := cell_of_heap hx 8
  clear hx
  have hx : (w2.alloc (.cells #[.string fa, .string oa, .int .i64 a0, .int .i64 a1, .int .i64 a2, .int .i64 a3, .int .i64 a4, .int .i64 a5, .int .i64 a6] 53)).heap[w2.heap.size]? = some (.cells #[.string fa, .string oa, .int .i64 a0, .int .i64 a1, .int .i64 a2, .int .i64 a3, .int .i64 a4, .int .i64 a5, .int .i64 a6] 53 (0, 0)) := hm2.out.one _ (List.mem_cons_self ..)
  have cw2_0 := cell_of_heap hx 0
  have cw2_1 := cell_of_heap hx 1
  have cw2_2 := cell_of_heap hx 2
  have cw2_3 := cell_of_heap hx 3
  have cw2_4 := cell_of_heap hx 4
  have cw2_5 := cell_of_heap hx 5
  have cw2_6 := cell_of_heap hx 6
  have cw2_7 := cell_of_heap hx 7
  have cw2_8 := cell_of_heap hx 8
  clear hx
  have hx : (w2.alloc (.cells #[.string fa, .string oa, .int .i64 a0, .int .i64 a1, .int .i64 a2, .int .i64 a3, .int .i64 a4, .int .i64 a5, .int .i64 a6] 53)).heap[w.heap.size + 1]? = some (.cells #[.string fv, .string ov, .int .i64 v0, .int .i64 v1, .int .i64 v2, .int .i64 v3, .int .i64 v4, .int .i64 v5, .int .i64 v6] 53 (0, 0)) := hm2.out.one _ (List.mem_cons_of_mem _ (List.mem_cons_of_mem _ (List.mem_cons_self ..)))
  have cwb_0 := cell_of_heap hx 0
  have cwb_1 := cell_of_heap hx 1
  have cwb_2 := cell_of_heap hx 2
  have cwb_3 := cell_of_heap hx 3
  have cwb_4 := cell_of_heap hx 4
  have cwb_5 := cell_of_heap hx 5
  have cwb_6 := cell_of_heap hx 6
  have cwb_7 := cell_of_heap hx 7
  have cwb_8 := cell_of_heap hx 8
  clear hx
  go_wp2_with fail
  clear cw1_0 cw1_1 cw1_2 cw1_3 cw1_4 cw1_5 cw1_6 cw1_7 cw1_8 cw2_0 cw2_1 cw2_2 cw2_3 cw2_4 cw2_5 cw2_6 cw2_7 cw2_8 cwb_0 cwb_1 cwb_2 cwb_3 cwb_4 cwb_5 cwb_6 cwb_7 cwb_8
  refine (h3.out _ hm2.out.below).mono ?_
  rintro e w3 ⟨rfl, hb⟩
  have hk3 := Lib.hid (hm2.out.next hb)
  clear hb hm2
  have hm3 := Lib.hid (hk3.out.more #[.string fu, .string ou, .int .i64 u0, .int .i64 u1, .int .i64 u2, .int .i64 u3, .int .i64 u4, .int .i64 u5, .int .i64 u6] 53)
  clear hk3
  have hx : (w3.alloc (.cells #[.string fu, .string ou, .int .i64 u0, .int .i64 u1, .int .i64 u2, .int .i64 u3, .int .i64 u4, .int .i64 u5, .int .i64 u6] 53)).heap[w3.heap.size]? = some (.cells #[.string fu, .string ou, .int .i64 u0, .int .i64 u1, .int .i64 u2, .int .i64 u3, .int .i64 u4, .int .i64 u5, .int .i64 u6] 53 (0, 0)) := hm3.out.one _ (List.mem_cons_self ..)
  have cw3_0 := cell_of_heap hx 0
  have cw3_1 := cell_of_heap hx 1
  have cw3_2 := cell_of_heap hx 2
  have cw3_3 := cell_of_heap hx 3
  have cw3_4 := cell_of_heap hx 4
  have cw3_5 := cell_of_heap hx 5
  have cw3_6 := cell_of_heap hx 6
  have cw3_7 := cell_of_heap hx 7
  have cw3_8 := cell_of_heap hx 8
  clear hx
  have hx : (w3.alloc (.cells #[.string fu, .string ou, .int .i64 u0, .int .i64 u1, .int .i64 u2, .int .i64 u3, .int .i64 u4, .int .i64 u5, .int .i64 u6] 53)).heap[w.heap.size]? = some (.cells #[.string fu, .string ou, .int .i64 u0, .int .i64 u1, .int .i64 u2, .int .i64 u3, .int .i64 u4, .int .i64 u5, .int .i64 u6] 53 (0, 0)) := hm3.out.one _ (List.mem_cons_of_mem _ (List.mem_cons_of_mem _ (List.mem_cons_of_mem _ (List.mem_cons_of_mem _ (List.mem_cons_self ..)))))
  have cw_0 := cell_of_heap hx 0
  have cw_1 := cell_of_heap hx 1
  have cw_2 := cell_of_heap hx 2
  have cw_3 := cell_of_heap hx 3
  have cw_4 := cell_of_heap hx 4
  have cw_5 := cell_of_heap hx 5
  have cw_6 := cell_of_heap hx 6
  have cw_7 := cell_of_heap hx 7
  have cw_8 := cell_of_heap hx 8
  clear hx
  go_wp2_with fail
  refine (hw.out _ hm3.out.below).mono ?_
  rintro e w9 ⟨rfl, hb⟩
  have hk9 := Lib.hid (hm3.out.next hb)
  clear hb hm3
  go_wp2_with fail
  refine bodyPost_ret (v := .bool true) (by simp [results, Tryz.results16, go_sem]) rfl ?_
  exact ⟨rfl, hk9.out.below⟩
set_option maxRecDepth 100000 in
set_option maxHeartbeats 1600000 in
theorem units_01 (fu ou : ByteArray) (u0 u1 u2 u3 u4 u5 u6 : Int) (fv ov : ByteArray) (v0 v1 v2 v3 v4 v5 v6 : Int) (fa oa : ByteArray) (a0 a1 a2 a3 a4 a5 a6 : Int)  (m n : Int) (w : World) (h1 : Hid (∀ W, Below w.heap.size w W → Calls Tryz.prog 60 #[.agg #[.string fu, .string ou, .int .i64 u0, .int .i64 u1, .int .i64 u2, .int .i64 u3, .int .i64 u4, .int .i64 u5, .int .i64 u6], .agg #[.string fv, .string ov, .int .i64 v0, .int .i64 v1, .int .i64 v2, .int .i64 v3, .int .i64 v4, .int .i64 v5, .int .i64 v6]] W (fun e w' => e = .returned (.tuple #[.agg #[.string fa, .string oa, .int .i64 a0, .int .i64 a1, .int .i64 a2, .int .i64 a3, .int .i64 a4, .int .i64 a5, .int .i64 a6], .int .i64 0]) ∧ Below W.heap.size W w'))) (h2 : Hid (∀ W, Below w.heap.size w W → Calls Tryz.prog 60 #[.agg #[.string fv, .string ov, .int .i64 v0, .int .i64 v1, .int .i64 v2, .int .i64 v3, .int .i64 v4, .int .i64 v5, .int .i64 v6], .agg #[.string fu, .string ou, .int .i64 u0, .int .i64 u1, .int .i64 u2, .int .i64 u3, .int .i64 u4, .int .i64 u5, .int .i64 u6]] W (fun e w' => e = .returned (.tuple #[.agg #[.string fa, .string oa, .int .i64 a0, .int .i64 a1, .int .i64 a2, .int .i64 a3, .int .i64 a4, .int .i64 a5, .int .i64 a6], .int .i64 0]) ∧ Below W.heap.size W w'))) (h3 : Hid (∀ W, Below w.heap.size w W → Calls Tryz.prog 62 #[.agg #[.string fa, .string oa, .int .i64 a0, .int .i64 a1, .int .i64 a2, .int .i64 a3, .int .i64 a4, .int .i64 a5, .int .i64 a6], .agg #[.string fv, .string ov, .int .i64 v0, .int .i64 v1, .int .i64 v2, .int .i64 v3, .int .i64 v4, .int .i64 v5, .int .i64 v6]] W (fun e w' => e = .returned (.tuple #[.agg #[.string fu, .string ou, .int .i64 u0, .int .i64 u1, .int .i64 u2, .int .i64 u3, .int .i64 u4, .int .i64 u5, .int .i64 u6], .int .i64 0]) ∧ Below W.heap.size W w'))) (hm : ¬ m < -12) (hm2 : 12 < m) (hw : Hid (AwakeIs w)) : Calls Tryz.prog 16 #[.agg #[.string fu, .string ou, .int .i64 u0, .int .i64 u1, .int .i64 u2, .int .i64 u3, .int .i64 u4, .int .i64 u5, .int .i64 u6], .agg #[.string fv, .string ov, .int .i64 v0, .int .i64 v1, .int .i64 v2, .int .i64 v3, .int .i64 v4, .int .i64 v5, .int .i64 v6], .int .i64 m, .int .i64 n] w (OrdPost w) := by
  have hk0 : Hid (Keep w ((w.alloc (.cells #[.string fu, .string ou, .int .i64 u0, .int .i64 u1, .int .i64 u2, .int .i64 u3, .int .i64 u4, .int .i64 u5, .int .i64 u6] 53)).alloc (.cells #[.string fv, .string ov, .int .i64 v0, .int .i64 v1, .int .i64 v2, .int .i64 v3, .int .i64 v4, .int .i64 v5, .int .i64 v6] 53)) [(w.heap.size + 1, #[.string fv, .string ov, .int .i64 v0, .int .i64 v1, .int .i64 v2, .int .i64 v3, .int .i64 v4, .int .i64 v5, .int .i64 v6], 53), (w.heap.size, #[.string fu, .string ou, .int .i64 u0, .int .i64 u1, .int .i64 u2, .int .i64 u3, .int .i64 u4, .int .i64 u5, .int .i64 u6], 53)]) := Lib.hid (Keep.two w _ _ 53 53)
  go_enter Tryz.func16, Tryz.ntmps16
  go_wp2_with fail
  have hqa := powers_same a0 a1 a2 a3 a4 a5 a6
  have hqu := powers_same u0 u1 u2 u3 u4 u5 u6
  refine (h1.out _ hk0.out.below).mono ?_
  rintro e w1 ⟨rfl, hb⟩
  have hk1 := Lib.hid (hk0.out.next hb)
  clear hb hk0
  have hm1 := Lib.hid (hk1.out.more #[.string fa, .string oa, .int .i64 a0, .int .i64 a1, .int .i64 a2, .int .i64 a3, .int .i64 a4, .int .i64 a5, .int .i64 a6] 53)
  clear hk1
  have hx : (w1.alloc (.cells #[.string fa, .string oa, .int .i64 a0, .int .i64 a1, .int .i64 a2, .int .i64 a3, .int .i64 a4, .int .i64 a5, .int .i64 a6] 53)).heap[w.heap.size + 1]? = some (.cells #[.string fv, .string ov, .int .i64 v0, .int .i64 v1, .int .i64 v2, .int .i64 v3, .int .i64 v4, .int .i64 v5, .int .i64 v6] 53 (0, 0)) := hm1.out.one _ (List.mem_cons_of_mem _ (List.mem_cons_self ..))
  have cwb_0 := cell_of_heap hx 0
  have cwb_1 := cell_of_heap hx 1
  have cwb_2 := cell_of_heap hx 2
  have cwb_3 := cell_of_heap hx 3
  have cwb_4 := cell_of_heap hx 4
  have cwb_5 := cell_of_heap hx 5
  have cwb_6 := cell_of_heap hx 6
  have cwb_7 := cell_of_heap hx 7
  have cwb_8 := cell_of_heap hx 8
  clear hx
  have hx : (w1.alloc (.cells #[.string fa, .string oa, .int .i64 a0, .int .i64 a1, .int .i64 a2, .int .i64 a3, .int .i64 a4, .int .i64 a5, .int .i64 a6] 53)).heap[w.heap.size]? = some (.cells #[.string fu, .string ou, .int .i64 u0, .int .i64 u1, .int .i64 u2, .int .i64 u3, .int .i64 u4, .int .i64 u5, .int .i64 u6] 53 (0, 0)) := hm1.out.one _ (List.mem_cons_of_mem _ (List.mem_cons_of_mem _ (List.mem_cons_self ..)))
  have cw_0 := cell_of_heap hx 0
  have cw_1 := cell_of_heap hx 1
  have cw_2 := cell_of_heap hx 2
  have cw_3 := cell_of_heap hx 3
  have cw_4 := cell_of_heap hx 4
  have cw_5 := cell_of_heap hx 5
  have cw_6 := cell_of_heap hx 6
  have cw_7 := cell_of_heap hx 7
  have cw_8 := cell_of_heap hx 8
  clear hx
  go_wp2_with fail
  clear cwb_0 cwb_1 cwb_2 cwb_3 cwb_4 cwb_5 cwb_6 cwb_7 cwb_8 cw_0 cw_1 cw_2 cw_3 cw_4 cw_5 cw_6 cw_7 cw_8
  refine (h2.out _ hm1.out.below).mono ?_
  rintro e w2 ⟨rfl, hb⟩
  have hk2 := Lib.hid (hm1.out.next hb)
  clear hb hm1
  have hm2 := Lib.hid (hk2.out.more #[.string fa, .string oa, .int .i64 a0, .int .i64 a1, .int .i64 a2, .int .i64 a3, .int .i64 a4, .int .i64 a5, .int .i64 a6] 53)
  clear hk2
  have hx : (w2.alloc (.cells #[.string fa, .string oa, .int .i64 a0, .int .i64 a1, .int .i64 a2, .int .i64 a3, .int .i64 a4, .int .i64 a5, .int .i64 a6] 53)).heap[w1.heap.size]? = some (.cells #[.string fa, .string oa, .int .i64 a0, .int .i64 a1, .int .i64 a2, .int .i64 a3, .int .i64 a4, .int .i64 a5, .int .i64 a6] 53 (0, 0)) := hm2.out.one _ (List.mem_cons_of_mem _ (List.mem_cons_self ..))
  have cw1_0 := cell_of_heap hx 0
  have cw1_1 := cell_of_heap hx 1
  have cw1_2 := cell_of_heap hx 2
  have cw1_3 := cell_of_heap hx 3
  have cw1_4 := cell_of_heap hx 4
  have cw1_5 := cell_of_heap hx 5
  have cw1_6 := cell_of_heap hx 6
  have cw1_7 := cell_of_heap hx 7
  have cw1_8 := cell_of_heap hx 8
  clear hx
  have hx : (w2.alloc (.cells #[.string fa, .string oa, .int .i64 a0, .int .i64 a1, .int .i64 a2, .int .i64 a3, .int .i64 a4, .int .i64 a5, .int .i64 a6] 53)).heap[w2.heap.size]? = some (.cells #[.string fa, .string oa, .int .i64 a0, .int .i64 a1, .int .i64 a2, .int .i64 a3, .int .i64 a4, .int .i64 a5, .int .i64 a6] 53 (0, 0)) := hm2.out.one _ (List.mem_cons_self ..)
  have cw2_0 := cell_of_heap hx 0
  have cw2_1 := cell_of_heap hx 1
  have cw2_2 := cell_of_heap hx 2
  have cw2_3 := cell_of_heap hx 3
  have cw2_4 := cell_of_heap hx 4
  have cw2_5 := cell_of_heap hx 5
  have cw2_6 := cell_of_heap hx 6
  have cw2_7 := cell_of_heap hx 7
  have cw2_8 := cell_of_heap hx 8
  clear hx
  have hx : (w2.alloc (.cells #[.string fa, .string oa, .int .i64 a0, .int .i64 a1, .int .i64 a2, .int .i64 a3, .int .i64 a4, .int .i64 a5, .int .i64 a6] 53)).heap[w.heap.size + 1]? = some (.cells #[.string fv, .string ov, .int .i64 v0, .int .i64 v1, .int .i64 v2, .int .i64 v3, .int .i64 v4, .int .i64 v5, .int .i64 v6] 53 (0, 0)) := hm2.out.one _ (List.mem_cons_of_mem _ (List.mem_cons_of_mem _ (List.mem_cons_self ..)))
  have cwb_0 := cell_of_heap hx 0
  have cwb_1 := cell_of_heap hx 1
  have cwb_2 := cell_of_heap hx 2
  have cwb_3 := cell_of_heap hx 3
  have cwb_4 := cell_of_heap hx 4
  have cwb_5 := cell_of_heap hx 5
  have cwb_6 := cell_of_heap hx 6
  have cwb_7 := cell_of_heap hx 7
  have cwb_8 := cell_of_heap hx 8
  clear hx
  go_wp2_with fail
  clear cw1_0 cw1_1 cw1_2 cw1_3 cw1_4 cw1_5 cw1_6 cw1_7 cw1_8 cw2_0 cw2_1 cw2_2 cw2_3 cw2_4 cw2_5 cw2_6 cw2_7 cw2_8 cwb_0 cwb_1 cwb_2 cwb_3 cwb_4 cwb_5 cwb_6 cwb_7 cwb_8
  refine (h3.out _ hm2.out.below).mono ?_
  rintro e w3 ⟨rfl, hb⟩
  have hk3 := Lib.hid (hm2.out.next hb)
  clear hb hm2
  have hm3 := Lib.hid (hk3.out.more #[.string fu, .string ou, .int .i64 u0, .int .i64 u1, .int .i64 u2, .int .i64 u3, .int .i64 u4, .int .i64 u5, .int .i64 u6] 53)
  clear hk3
  have hx : (w3.alloc (.cells #[.string fu, .string ou, .int .i64 u0, .int .i64 u1, .int .i64 u2, .int .i64 u3, .int .i64 u4, .int .i64 u5, .int .i64 u6] 53)).heap[w3.heap.size]? = some (.cells #[.string fu, .string ou, .int .i64 u0, .int .i64 u1, .int .i64 u2, .int .i64 u3, .int .i64 u4, .int .i64 u5, .int .i64 u6] 53 (0, 0)) := hm3.out.one _ (List.mem_cons_self ..)
  have cw3_0 := cell_of_heap hx 0
  have cw3_1 := cell_of_heap hx 1
  have cw3_2 := cell_of_heap hx 2
  have cw3_3 := cell_of_heap hx 3
  have cw3_4 := cell_of_heap hx 4
  have cw3_5 := cell_of_heap hx 5
  have cw3_6 := cell_of_heap hx 6
  have cw3_7 := cell_of_heap hx 7
  have cw3_8 := cell_of_heap hx 8
  clear hx
  have hx : (w3.alloc (.cells #[.string fu, .string ou, .int .i64 u0, .int .i64 u1, .int .i64 u2, .int .i64 u3, .int .i64 u4, .int .i64 u5, .int .i64 u6] 53)).heap[w.heap.size]? = some (.cells #[.string fu, .string ou, .int .i64 u0, .int .i64 u1, .int .i64 u2, .int .i64 u3, .int .i64 u4, .int .i64 u5, .int .i64 u6] 53 (0, 0)) := hm3.out.one _ (List.mem_cons_of_mem _ (List.mem_cons_of_mem _ (List.mem_cons_of_mem _ (List.mem_cons_of_mem _ (List.mem_cons_self ..)))))
  have cw_0 := cell_of_heap hx 0
  have cw_1 := cell_of_heap hx 1
  have cw_2 := cell_of_heap hx 2
  have cw_3 := cell_of_heap hx 3
  have cw_4 := cell_of_heap hx 4
  have cw_5 := cell_of_heap hx 5
  have cw_6 := cell_of_heap hx 6
  have cw_7 := cell_of_heap hx 7
  have cw_8 := cell_of_heap hx 8
  clear hx
  go_wp2_with fail
  refine (hw.out _ hm3.out.below).mono ?_
  rintro e w9 ⟨rfl, hb⟩
  have hk9 := Lib.hid (hm3.out.next hb)
  clear hb hm3
  go_wp2_with fail
  refine bodyPost_ret (v := .bool true) (by simp [results, Tryz.results16, go_sem]) rfl ?_
  exact ⟨rfl, hk9.out.below⟩
set_option maxRecDepth 100000 in
set_option maxHeartbeats 1600000 in
theorem units_02 (fu ou : ByteArray) (u0 u1 u2 u3 u4 u5 u6 : Int) (fv ov : ByteArray) (v0 v1 v2 v3 v4 v5 v6 : Int) (fa oa : ByteArray) (a0 a1 a2 a3 a4 a5 a6 : Int)  (m n : Int) (w : World) (h1 : Hid (∀ W, Below w.heap.size w W → Calls Tryz.prog 60 #[.agg #[.string fu, .string ou, .int .i64 u0, .int .i64 u1, .int .i64 u2, .int .i64 u3, .int .i64 u4, .int .i64 u5, .int .i64 u6], .agg #[.string fv, .string ov, .int .i64 v0, .int .i64 v1, .int .i64 v2, .int .i64 v3, .int .i64 v4, .int .i64 v5, .int .i64 v6]] W (fun e w' => e = .returned (.tuple #[.agg #[.string fa, .string oa, .int .i64 a0, .int .i64 a1, .int .i64 a2, .int .i64 a3, .int .i64 a4, .int .i64 a5, .int .i64 a6], .int .i64 0]) ∧ Below W.heap.size W w'))) (h2 : Hid (∀ W, Below w.heap.size w W → Calls Tryz.prog 60 #[.agg #[.string fv, .string ov, .int .i64 v0, .int .i64 v1, .int .i64 v2, .int .i64 v3, .int .i64 v4, .int .i64 v5, .int .i64 v6], .agg #[.string fu, .string ou, .int .i64 u0, .int .i64 u1, .int .i64 u2, .int .i64 u3, .int .i64 u4, .int .i64 u5, .int .i64 u6]] W (fun e w' => e = .returned (.tuple #[.agg #[.string fa, .string oa, .int .i64 a0, .int .i64 a1, .int .i64 a2, .int .i64 a3, .int .i64 a4, .int .i64 a5, .int .i64 a6], .int .i64 0]) ∧ Below W.heap.size W w'))) (h3 : Hid (∀ W, Below w.heap.size w W → Calls Tryz.prog 62 #[.agg #[.string fa, .string oa, .int .i64 a0, .int .i64 a1, .int .i64 a2, .int .i64 a3, .int .i64 a4, .int .i64 a5, .int .i64 a6], .agg #[.string fv, .string ov, .int .i64 v0, .int .i64 v1, .int .i64 v2, .int .i64 v3, .int .i64 v4, .int .i64 v5, .int .i64 v6]] W (fun e w' => e = .returned (.tuple #[.agg #[.string fu, .string ou, .int .i64 u0, .int .i64 u1, .int .i64 u2, .int .i64 u3, .int .i64 u4, .int .i64 u5, .int .i64 u6], .int .i64 0]) ∧ Below W.heap.size W w'))) (hm : ¬ m < -12) (hm2 : ¬ 12 < m) (hn : n < -12) (hw : Hid (AwakeIs w)) : Calls Tryz.prog 16 #[.agg #[.string fu, .string ou, .int .i64 u0, .int .i64 u1, .int .i64 u2, .int .i64 u3, .int .i64 u4, .int .i64 u5, .int .i64 u6], .agg #[.string fv, .string ov, .int .i64 v0, .int .i64 v1, .int .i64 v2, .int .i64 v3, .int .i64 v4, .int .i64 v5, .int .i64 v6], .int .i64 m, .int .i64 n] w (OrdPost w) := by
  have hk0 : Hid (Keep w ((w.alloc (.cells #[.string fu, .string ou, .int .i64 u0, .int .i64 u1, .int .i64 u2, .int .i64 u3, .int .i64 u4, .int .i64 u5, .int .i64 u6] 53)).alloc (.cells #[.string fv, .string ov, .int .i64 v0, .int .i64 v1, .int .i64 v2, .int .i64 v3, .int .i64 v4, .int .i64 v5, .int .i64 v6] 53)) [(w.heap.size + 1, #[.string fv, .string ov, .int .i64 v0, .int .i64 v1, .int .i64 v2, .int .i64 v3, .int .i64 v4, .int .i64 v5, .int .i64 v6], 53), (w.heap.size, #[.string fu, .string ou, .int .i64 u0, .int .i64 u1, .int .i64 u2, .int .i64 u3, .int .i64 u4, .int .i64 u5, .int .i64 u6], 53)]) := Lib.hid (Keep.two w _ _ 53 53)
  go_enter Tryz.func16, Tryz.ntmps16
  go_wp2_with fail
  have hqa := powers_same a0 a1 a2 a3 a4 a5 a6
  have hqu := powers_same u0 u1 u2 u3 u4 u5 u6
  refine (h1.out _ hk0.out.below).mono ?_
  rintro e w1 ⟨rfl, hb⟩
  have hk1 := Lib.hid (hk0.out.next hb)
  clear hb hk0
  have hm1 := Lib.hid (hk1.out.more #[.string fa, .string oa, .int .i64 a0, .int .i64 a1, .int .i64 a2, .int .i64 a3, .int .i64 a4, .int .i64 a5, .int .i64 a6] 53)
  clear hk1
  have hx : (w1.alloc (.cells #[.string fa, .string oa, .int .i64 a0, .int .i64 a1, .int .i64 a2, .int .i64 a3, .int .i64 a4, .int .i64 a5, .int .i64 a6] 53)).heap[w.heap.size + 1]? = some (.cells #[.string fv, .string ov, .int .i64 v0, .int .i64 v1, .int .i64 v2, .int .i64 v3, .int .i64 v4, .int .i64 v5, .int .i64 v6] 53 (0, 0)) := hm1.out.one _ (List.mem_cons_of_mem _ (List.mem_cons_self ..))
  have cwb_0 := cell_of_heap hx 0
  have cwb_1 := cell_of_heap hx 1
  have cwb_2 := cell_of_heap hx 2
  have cwb_3 := cell_of_heap hx 3
  have cwb_4 := cell_of_heap hx 4
  have cwb_5 := cell_of_heap hx 5
  have cwb_6 := cell_of_heap hx 6
  have cwb_7 := cell_of_heap hx 7
  have cwb_8 := cell_of_heap hx 8
  clear hx
  have hx : (w1.alloc (.cells #[.string fa, .string oa, .int .i64 a0, .int .i64 a1, .int .i64 a2, .int .i64 a3, .int .i64 a4, .int .i64 a5, .int .i64 a6] 53)).heap[w.heap.size]? = some (.cells #[.string fu, .string ou, .int .i64 u0, .int .i64 u1, .int .i64 u2, .int .i64 u3, .int .i64 u4, .int .i64 u5, .int .i64 u6] 53 (0, 0)) := hm1.out.one _ (List.mem_cons_of_mem _ (List.mem_cons_of_mem _ (List.mem_cons_self ..)))
  have cw_0 := cell_of_heap hx 0
  have cw_1 := cell_of_heap hx 1
  have cw_2 := cell_of_heap hx 2
  have cw_3 := cell_of_heap hx 3
  have cw_4 := cell_of_heap hx 4
  have cw_5 := cell_of_heap hx 5
  have cw_6 := cell_of_heap hx 6
  have cw_7 := cell_of_heap hx 7
  have cw_8 := cell_of_heap hx 8
  clear hx
  go_wp2_with fail
  clear cwb_0 cwb_1 cwb_2 cwb_3 cwb_4 cwb_5 cwb_6 cwb_7 cwb_8 cw_0 cw_1 cw_2 cw_3 cw_4 cw_5 cw_6 cw_7 cw_8
  refine (h2.out _ hm1.out.below).mono ?_
  rintro e w2 ⟨rfl, hb⟩
  have hk2 := Lib.hid (hm1.out.next hb)
  clear hb hm1
  have hm2 := Lib.hid (hk2.out.more #[.string fa, .string oa, .int .i64 a0, .int .i64 a1, .int .i64 a2, .int .i64 a3, .int .i64 a4, .int .i64 a5, .int .i64 a6] 53)
  clear hk2
  have hx : (w2.alloc (.cells #[.string fa, .string oa, .int .i64 a0, .int .i64 a1, .int .i64 a2, .int .i64 a3, .int .i64 a4, .int .i64 a5, .int .i64 a6] 53)).heap[w1.heap.size]? = some (.cells #[.string fa, .string oa, .int .i64 a0, .int .i64 a1, .int .i64 a2, .int .i64 a3, .int .i64 a4, .int .i64 a5, .int .i64 a6] 53 (0, 0)) := hm2.out.one _ (List.mem_cons_of_mem _ (List.mem_cons_self ..))
  have cw1_0 := cell_of_heap hx 0
  have cw1_1 := cell_of_heap hx 1
  have cw1_2 := cell_of_heap hx 2
  have cw1_3 := cell_of_heap hx 3
  have cw1_4 := cell_of_heap hx 4
  have cw1_5 := cell_of_heap hx 5
  have cw1_6 := cell_of_heap hx 6
  have cw1_7 := cell_of_heap hx 7
  have cw1_8 := cell_of_heap hx 8
  clear hx
  have hx : (w2.alloc (.cells #[.string fa, .string oa, .int .i64 a0, .int .i64 a1, .int .i64 a2, .int .i64 a3, .int .i64 a4, .int .i64 a5, .int .i64 a6] 53)).heap[w2.heap.size]? = some (.cells #[.string fa, .string oa, .int .i64 a0, .int .i64 a1, .int .i64 a2, .int .i64 a3, .int .i64 a4, .int .i64 a5, .int .i64 a6] 53 (0, 0)) := hm2.out.one _ (List.mem_cons_self ..)
  have cw2_0 := cell_of_heap hx 0
  have cw2_1 := cell_of_heap hx 1
  have cw2_2 := cell_of_heap hx 2
  have cw2_3 := cell_of_heap hx 3
  have cw2_4 := cell_of_heap hx 4
  have cw2_5 := cell_of_heap hx 5
  have cw2_6 := cell_of_heap hx 6
  have cw2_7 := cell_of_heap hx 7
  have cw2_8 := cell_of_heap hx 8
  clear hx
  have hx : (w2.alloc (.cells #[.string fa, .string oa, .int .i64 a0, .int .i64 a1, .int .i64 a2, .int .i64 a3, .int .i64 a4, .int .i64 a5, .int .i64 a6] 53)).heap[w.heap.size + 1]? = some (.cells #[.string fv, .string ov, .int .i64 v0, .int .i64 v1, .int .i64 v2, .int .i64 v3, .int .i64 v4, .int .i64 v5, .int .i64 v6] 53 (0, 0)) := hm2.out.one _ (List.mem_cons_of_mem _ (List.mem_cons_of_mem _ (List.mem_cons_self ..)))
  have cwb_0 := cell_of_heap hx 0
  have cwb_1 := cell_of_heap hx 1
  have cwb_2 := cell_of_heap hx 2
  have cwb_3 := cell_of_heap hx 3
  have cwb_4 := cell_of_heap hx 4
  have cwb_5 := cell_of_heap hx 5
  have cwb_6 := cell_of_heap hx 6
  have cwb_7 := cell_of_heap hx 7
  have cwb_8 := cell_of_heap hx 8
  clear hx
  go_wp2_with fail
  clear cw1_0 cw1_1 cw1_2 cw1_3 cw1_4 cw1_5 cw1_6 cw1_7 cw1_8 cw2_0 cw2_1 cw2_2 cw2_3 cw2_4 cw2_5 cw2_6 cw2_7 cw2_8 cwb_0 cwb_1 cwb_2 cwb_3 cwb_4 cwb_5 cwb_6 cwb_7 cwb_8
  refine (h3.out _ hm2.out.below).mono ?_
  rintro e w3 ⟨rfl, hb⟩
  have hk3 := Lib.hid (hm2.out.next hb)
  clear hb hm2
  have hm3 := Lib.hid (hk3.out.more #[.string fu, .string ou, .int .i64 u0, .int .i64 u1, .int .i64 u2, .int .i64 u3, .int .i64 u4, .int .i64 u5, .int .i64 u6] 53)
  clear hk3
  have hx : (w3.alloc (.cells #[.string fu, .string ou, .int .i64 u0, .int .i64 u1, .int .i64 u2, .int .i64 u3, .int .i64 u4, .int .i64 u5, .int .i64 u6] 53)).heap[w3.heap.size]? = some (.cells #[.string fu, .string ou, .int .i64 u0, .int .i64 u1, .int .i64 u2, .int .i64 u3, .int .i64 u4, .int .i64 u5, .int .i64 u6] 53 (0, 0)) := hm3.out.one _ (List.mem_cons_self ..)
  have cw3_0 := cell_of_heap hx 0
  have cw3_1 := cell_of_heap hx 1
  have cw3_2 := cell_of_heap hx 2
  have cw3_3 := cell_of_heap hx 3
  have cw3_4 := cell_of_heap hx 4
  have cw3_5 := cell_of_heap hx 5
  have cw3_6 := cell_of_heap hx 6
  have cw3_7 := cell_of_heap hx 7
  have cw3_8 := cell_of_heap hx 8
  clear hx
  have hx : (w3.alloc (.cells #[.string fu, .string ou, .int .i64 u0, .int .i64 u1, .int .i64 u2, .int .i64 u3, .int .i64 u4, .int .i64 u5, .int .i64 u6] 53)).heap[w.heap.size]? = some (.cells #[.string fu, .string ou, .int .i64 u0, .int .i64 u1, .int .i64 u2, .int .i64 u3, .int .i64 u4, .int .i64 u5, .int .i64 u6] 53 (0, 0)) := hm3.out.one _ (List.mem_cons_of_mem _ (List.mem_cons_of_mem _ (List.mem_cons_of_mem _ (List.mem_cons_of_mem _ (List.mem_cons_self ..)))))
  have cw_0 := cell_of_heap hx 0
  have cw_1 := cell_of_heap hx 1
  have cw_2 := cell_of_heap hx 2
  have cw_3 := cell_of_heap hx 3
  have cw_4 := cell_of_heap hx 4
  have cw_5 := cell_of_heap hx 5
  have cw_6 := cell_of_heap hx 6
  have cw_7 := cell_of_heap hx 7
  have cw_8 := cell_of_heap hx 8
  clear hx
  go_wp2_with fail
  refine (hw.out _ hm3.out.below).mono ?_
  rintro e w9 ⟨rfl, hb⟩
  have hk9 := Lib.hid (hm3.out.next hb)
  clear hb hm3
  go_wp2_with fail
  refine bodyPost_ret (v := .bool true) (by simp [results, Tryz.results16, go_sem]) rfl ?_
  exact ⟨rfl, hk9.out.below⟩
set_option maxRecDepth 100000 in
set_option maxHeartbeats 1600000 in
theorem units_03 (fu ou : ByteArray) (u0 u1 u2 u3 u4 u5 u6 : Int) (fv ov : ByteArray) (v0 v1 v2 v3 v4 v5 v6 : Int) (fa oa : ByteArray) (a0 a1 a2 a3 a4 a5 a6 : Int)  (m n : Int) (w : World) (h1 : Hid (∀ W, Below w.heap.size w W → Calls Tryz.prog 60 #[.agg #[.string fu, .string ou, .int .i64 u0, .int .i64 u1, .int .i64 u2, .int .i64 u3, .int .i64 u4, .int .i64 u5, .int .i64 u6], .agg #[.string fv, .string ov, .int .i64 v0, .int .i64 v1, .int .i64 v2, .int .i64 v3, .int .i64 v4, .int .i64 v5, .int .i64 v6]] W (fun e w' => e = .returned (.tuple #[.agg #[.string fa, .string oa, .int .i64 a0, .int .i64 a1, .int .i64 a2, .int .i64 a3, .int .i64 a4, .int .i64 a5, .int .i64 a6], .int .i64 0]) ∧ Below W.heap.size W w'))) (h2 : Hid (∀ W, Below w.heap.size w W → Calls Tryz.prog 60 #[.agg #[.string fv, .string ov, .int .i64 v0, .int .i64 v1, .int .i64 v2, .int .i64 v3, .int .i64 v4, .int .i64 v5, .int .i64 v6], .agg #[.string fu, .string ou, .int .i64 u0, .int .i64 u1, .int .i64 u2, .int .i64 u3, .int .i64 u4, .int .i64 u5, .int .i64 u6]] W (fun e w' => e = .returned (.tuple #[.agg #[.string fa, .string oa, .int .i64 a0, .int .i64 a1, .int .i64 a2, .int .i64 a3, .int .i64 a4, .int .i64 a5, .int .i64 a6], .int .i64 0]) ∧ Below W.heap.size W w'))) (h3 : Hid (∀ W, Below w.heap.size w W → Calls Tryz.prog 62 #[.agg #[.string fa, .string oa, .int .i64 a0, .int .i64 a1, .int .i64 a2, .int .i64 a3, .int .i64 a4, .int .i64 a5, .int .i64 a6], .agg #[.string fv, .string ov, .int .i64 v0, .int .i64 v1, .int .i64 v2, .int .i64 v3, .int .i64 v4, .int .i64 v5, .int .i64 v6]] W (fun e w' => e = .returned (.tuple #[.agg #[.string fu, .string ou, .int .i64 u0, .int .i64 u1, .int .i64 u2, .int .i64 u3, .int .i64 u4, .int .i64 u5, .int .i64 u6], .int .i64 0]) ∧ Below W.heap.size W w'))) (hm : ¬ m < -12) (hm2 : ¬ 12 < m) (hn : ¬ n < -12) (hn2 : 12 < n) (hw : Hid (AwakeIs w)) : Calls Tryz.prog 16 #[.agg #[.string fu, .string ou, .int .i64 u0, .int .i64 u1, .int .i64 u2, .int .i64 u3, .int .i64 u4, .int .i64 u5, .int .i64 u6], .agg #[.string fv, .string ov, .int .i64 v0, .int .i64 v1, .int .i64 v2, .int .i64 v3, .int .i64 v4, .int .i64 v5, .int .i64 v6], .int .i64 m, .int .i64 n] w (OrdPost w) := by
  have hk0 : Hid (Keep w ((w.alloc (.cells #[.string fu, .string ou, .int .i64 u0, .int .i64 u1, .int .i64 u2, .int .i64 u3, .int .i64 u4, .int .i64 u5, .int .i64 u6] 53)).alloc (.cells #[.string fv, .string ov, .int .i64 v0, .int .i64 v1, .int .i64 v2, .int .i64 v3, .int .i64 v4, .int .i64 v5, .int .i64 v6] 53)) [(w.heap.size + 1, #[.string fv, .string ov, .int .i64 v0, .int .i64 v1, .int .i64 v2, .int .i64 v3, .int .i64 v4, .int .i64 v5, .int .i64 v6], 53), (w.heap.size, #[.string fu, .string ou, .int .i64 u0, .int .i64 u1, .int .i64 u2, .int .i64 u3, .int .i64 u4, .int .i64 u5, .int .i64 u6], 53)]) := Lib.hid (Keep.two w _ _ 53 53)
  go_enter Tryz.func16, Tryz.ntmps16
  go_wp2_with fail
  have hqa := powers_same a0 a1 a2 a3 a4 a5 a6
  have hqu := powers_same u0 u1 u2 u3 u4 u5 u6
  refine (h1.out _ hk0.out.below).mono ?_
  rintro e w1 ⟨rfl, hb⟩
  have hk1 := Lib.hid (hk0.out.next hb)
  clear hb hk0
  have hm1 := Lib.hid (hk1.out.more #[.string fa, .string oa, .int .i64 a0, .int .i64 a1, .int .i64 a2, .int .i64 a3, .int .i64 a4, .int .i64 a5, .int .i64 a6] 53)
  clear hk1
  have hx : (w1.alloc (.cells #[.string fa, .string oa, .int .i64 a0, .int .i64 a1, .int .i64 a2, .int .i64 a3, .int .i64 a4, .int .i64 a5, .int .i64 a6] 53)).heap[w.heap.size + 1]? = some (.cells #[.string fv, .string ov, .int .i64 v0, .int .i64 v1, .int .i64 v2, .int .i64 v3, .int .i64 v4, .int .i64 v5, .int .i64 v6] 53 (0, 0)) := hm1.out.one _ (List.mem_cons_of_mem _ (List.mem_cons_self ..))
  have cwb_0 := cell_of_heap hx 0
  have cwb_1 := cell_of_heap hx 1
  have cwb_2 := cell_of_heap hx 2
  have cwb_3 := cell_of_heap hx 3
  have cwb_4 := cell_of_heap hx 4
  have cwb_5 := cell_of_heap hx 5
  have cwb_6 := cell_of_heap hx 6
  have cwb_7 := cell_of_heap hx 7
  have cwb_8 := cell_of_heap hx 8
  clear hx
  have hx : (w1.alloc (.cells #[.string fa, .string oa, .int .i64 a0, .int .i64 a1, .int .i64 a2, .int .i64 a3, .int .i64 a4, .int .i64 a5, .int .i64 a6] 53)).heap[w.heap.size]? = some (.cells #[.string fu, .string ou, .int .i64 u0, .int .i64 u1, .int .i64 u2, .int .i64 u3, .int .i64 u4, .int .i64 u5, .int .i64 u6] 53 (0, 0)) := hm1.out.one _ (List.mem_cons_of_mem _ (List.mem_cons_of_mem _ (List.mem_cons_self ..)))
  have cw_0 := cell_of_heap hx 0
  have cw_1 := cell_of_heap hx 1
  have cw_2 := cell_of_heap hx 2
  have cw_3 := cell_of_heap hx 3
  have cw_4 := cell_of_heap hx 4
  have cw_5 := cell_of_heap hx 5
  have cw_6 := cell_of_heap hx 6
  have cw_7 := cell_of_heap hx 7
  have cw_8 := cell_of_heap hx 8
  clear hx
  go_wp2_with fail
  clear cwb_0 cwb_1 cwb_2 cwb_3 cwb_4 cwb_5 cwb_6 cwb_7 cwb_8 cw_0 cw_1 cw_2 cw_3 cw_4 cw_5 cw_6 cw_7 cw_8
  refine (h2.out _ hm1.out.below).mono ?_
  rintro e w2 ⟨rfl, hb⟩
  have hk2 := Lib.hid (hm1.out.next hb)
  clear hb hm1
  have hm2 := Lib.hid (hk2.out.more #[.string fa, .string oa, .int .i64 a0, .int .i64 a1, .int .i64 a2, .int .i64 a3, .int .i64 a4, .int .i64 a5, .int .i64 a6] 53)
  clear hk2
  have hx : (w2.alloc (.cells #[.string fa, .string oa, .int .i64 a0, .int .i64 a1, .int .i64 a2, .int .i64 a3, .int .i64 a4, .int .i64 a5, .int .i64 a6] 53)).heap[w1.heap.size]? = some (.cells #[.string fa, .string oa, .int .i64 a0, .int .i64 a1, .int .i64 a2, .int .i64 a3, .int .i64 a4, .int .i64 a5, .int .i64 a6] 53 (0, 0)) := hm2.out.one _ (List.mem_cons_of_mem _ (List.mem_cons_self ..))
  have cw1_0 := cell_of_heap hx 0
  have cw1_1 := cell_of_heap hx 1
  have cw1_2 := cell_of_heap hx 2
  have cw1_3 := cell_of_heap hx 3
  have cw1_4 := cell_of_heap hx 4
  have cw1_5 := cell_of_heap hx 5
  have cw1_6 := cell_of_heap hx 6
  have cw1_7 := cell_of_heap hx 7
  have cw1_8 := cell_of_heap hx 8
  clear hx
  have hx : (w2.alloc (.cells #[.string fa, .string oa, .int .i64 a0, .int .i64 a1, .int .i64 a2, .int .i64 a3, .int .i64 a4, .int .i64 a5, .int .i64 a6] 53)).heap[w2.heap.size]? = some (.cells #[.string fa, .string oa, .int .i64 a0, .int .i64 a1, .int .i64 a2, .int .i64 a3, .int .i64 a4, .int .i64 a5, .int .i64 a6] 53 (0, 0)) := hm2.out.one _ (List.mem_cons_self ..)
  have cw2_0 := cell_of_heap hx 0
  have cw2_1 := cell_of_heap hx 1
  have cw2_2 := cell_of_heap hx 2
  have cw2_3 := cell_of_heap hx 3
  have cw2_4 := cell_of_heap hx 4
  have cw2_5 := cell_of_heap hx 5
  have cw2_6 := cell_of_heap hx 6
  have cw2_7 := cell_of_heap hx 7
  have cw2_8 := cell_of_heap hx 8
  clear hx
  have hx : (w2.alloc (.cells #[.string fa, .string oa, .int .i64 a0, .int .i64 a1, .int .i64 a2, .int .i64 a3, .int .i64 a4, .int .i64 a5, .int .i64 a6] 53)).heap[w.heap.size + 1]? = some (.cells #[.string fv, .string ov, .int .i64 v0, .int .i64 v1, .int .i64 v2, .int .i64 v3, .int .i64 v4, .int .i64 v5, .int .i64 v6] 53 (0, 0)) := hm2.out.one _ (List.mem_cons_of_mem _ (List.mem_cons_of_mem _ (List.mem_cons_self ..)))
  have cwb_0 := cell_of_heap hx 0
  have cwb_1 := cell_of_heap hx 1
  have cwb_2 := cell_of_heap hx 2
  have cwb_3 := cell_of_heap hx 3
  have cwb_4 := cell_of_heap hx 4
  have cwb_5 := cell_of_heap hx 5
  have cwb_6 := cell_of_heap hx 6
  have cwb_7 := cell_of_heap hx 7
  have cwb_8 := cell_of_heap hx 8
  clear hx
  go_wp2_with fail
  clear cw1_0 cw1_1 cw1_2 cw1_3 cw1_4 cw1_5 cw1_6 cw1_7 cw1_8 cw2_0 cw2_1 cw2_2 cw2_3 cw2_4 cw2_5 cw2_6 cw2_7 cw2_8 cwb_0 cwb_1 cwb_2 cwb_3 cwb_4 cwb_5 cwb_6 cwb_7 cwb_8
  refine (h3.out _ hm2.out.below).mono ?_
  rintro e w3 ⟨rfl, hb⟩
  have hk3 := Lib.hid (hm2.out.next hb)
  clear hb hm2
  have hm3 := Lib.hid (hk3.out.more #[.string fu, .string ou, .int .i64 u0, .int .i64 u1, .int .i64 u2, .int .i64 u3, .int .i64 u4, .int .i64 u5, .int .i64 u6] 53)
  clear hk3
  have hx : (w3.alloc (.cells #[.string fu, .string ou, .int .i64 u0, .int .i64 u1, .int .i64 u2, .int .i64 u3, .int .i64 u4, .int .i64 u5, .int .i64 u6] 53)).heap[w3.heap.size]? = some (.cells #[.string fu, .string ou, .int .i64 u0, .int .i64 u1, .int .i64 u2, .int .i64 u3, .int .i64 u4, .int .i64 u5, .int .i64 u6] 53 (0, 0)) := hm3.out.one _ (List.mem_cons_self ..)
  have cw3_0 := cell_of_heap hx 0
  have cw3_1 := cell_of_heap hx 1
  have cw3_2 := cell_of_heap hx 2
  have cw3_3 := cell_of_heap hx 3
  have cw3_4 := cell_of_heap hx 4
  have cw3_5 := cell_of_heap hx 5
  have cw3_6 := cell_of_heap hx 6
  have cw3_7 := cell_of_heap hx 7
  have cw3_8 := cell_of_heap hx 8
  clear hx
  have hx : (w3.alloc (.cells #[.string fu, .string ou, .int .i64 u0, .int .i64 u1, .int .i64 u2, .int .i64 u3, .int .i64 u4, .int .i64 u5, .int .i64 u6] 53)).heap[w.heap.size]? = some (.cells #[.string fu, .string ou, .int .i64 u0, .int .i64 u1, .int .i64 u2, .int .i64 u3, .int .i64 u4, .int .i64 u5, .int .i64 u6] 53 (0, 0)) := hm3.out.one _ (List.mem_cons_of_mem _ (List.mem_cons_of_mem _ (List.mem_cons_of_mem _ (List.mem_cons_of_mem _ (List.mem_cons_self ..)))))
  have cw_0 := cell_of_heap hx 0
  have cw_1 := cell_of_heap hx 1
  have cw_2 := cell_of_heap hx 2
  have cw_3 := cell_of_heap hx 3
  have cw_4 := cell_of_heap hx 4
  have cw_5 := cell_of_heap hx 5
  have cw_6 := cell_of_heap hx 6
  have cw_7 := cell_of_heap hx 7
  have cw_8 := cell_of_heap hx 8
  clear hx
  go_wp2_with fail
  refine (hw.out _ hm3.out.below).mono ?_
  rintro e w9 ⟨rfl, hb⟩
  have hk9 := Lib.hid (hm3.out.next hb)
  clear hb hm3
  go_wp2_with fail
  refine bodyPost_ret (v := .bool true) (by simp [results, Tryz.results16, go_sem]) rfl ?_
  exact ⟨rfl, hk9.out.below⟩
set_option maxRecDepth 100000 in
set_option maxHeartbeats 1600000 in
theorem units_04 (fu ou : ByteArray) (u0 u1 u2 u3 u4 u5 u6 : Int) (fv ov : ByteArray) (v0 v1 v2 v3 v4 v5 v6 : Int) (fa oa : ByteArray) (a0 a1 a2 a3 a4 a5 a6 : Int) (fb ob : ByteArray) (b0 b1 b2 b3 b4 b5 b6 : Int) (fc oc : ByteArray) (c0 c1 c2 c3 c4 c5 c6 : Int) (fd od : ByteArray) (d0 d1 d2 d3 d4 d5 d6 : Int) (e2 : Int) (e3 : Int) (e4 : Int) (m n : Int) (w : World) (h1 : Hid (∀ W, Below w.heap.size w W → Calls Tryz.prog 60 #[.agg #[.string fu, .string ou, .int .i64 u0, .int .i64 u1, .int .i64 u2, .int .i64 u3, .int .i64 u4, .int .i64 u5, .int .i64 u6], .agg #[.string fv, .string ov, .int .i64 v0, .int .i64 v1, .int .i64 v2, .int .i64 v3, .int .i64 v4, .int .i64 v5, .int .i64 v6]] W (fun e w' => e = .returned (.tuple #[.agg #[.string fa, .string oa, .int .i64 a0, .int .i64 a1, .int .i64 a2, .int .i64 a3, .int .i64 a4, .int .i64 a5, .int .i64 a6], .int .i64 0]) ∧ Below W.heap.size W w'))) (h2 : Hid (∀ W, Below w.heap.size w W → Calls Tryz.prog 60 #[.agg #[.string fv, .string ov, .int .i64 v0, .int .i64 v1, .int .i64 v2, .int .i64 v3, .int .i64 v4, .int .i64 v5, .int .i64 v6], .agg #[.string fu, .string ou, .int .i64 u0, .int .i64 u1, .int .i64 u2, .int .i64 u3, .int .i64 u4, .int .i64 u5, .int .i64 u6]] W (fun e w' => e = .returned (.tuple #[.agg #[.string fa, .string oa, .int .i64 a0, .int .i64 a1, .int .i64 a2, .int .i64 a3, .int .i64 a4, .int .i64 a5, .int .i64 a6], .int .i64 0]) ∧ Below W.heap.size W w'))) (h3 : Hid (∀ W, Below w.heap.size w W → Calls Tryz.prog 62 #[.agg #[.string fa, .string oa, .int .i64 a0, .int .i64 a1, .int .i64 a2, .int .i64 a3, .int .i64 a4, .int .i64 a5, .int .i64 a6], .agg #[.string fv, .string ov, .int .i64 v0, .int .i64 v1, .int .i64 v2, .int .i64 v3, .int .i64 v4, .int .i64 v5, .int .i64 v6]] W (fun e w' => e = .returned (.tuple #[.agg #[.string fu, .string ou, .int .i64 u0, .int .i64 u1, .int .i64 u2, .int .i64 u3, .int .i64 u4, .int .i64 u5, .int .i64 u6], .int .i64 0]) ∧ Below W.heap.size W w'))) (hm : ¬ m < -12) (hm2 : ¬ 12 < m) (hn : ¬ n < -12) (hn2 : ¬ 12 < n) (hs : IntKind.i64.wrap (m + n) = m + n) (h4 : Hid (∀ W, Below w.heap.size w W → Calls Tryz.prog 64 #[.agg #[.string fu, .string ou, .int .i64 u0, .int .i64 u1, .int .i64 u2, .int .i64 u3, .int .i64 u4, .int .i64 u5, .int .i64 u6], .int .i64 m] W (fun e w' => e = .returned (.tuple #[.agg #[.string fb, .string ob, .int .i64 b0, .int .i64 b1, .int .i64 b2, .int .i64 b3, .int .i64 b4, .int .i64 b5, .int .i64 b6], .int .i64 e2]) ∧ Below W.heap.size W w'))) (h5 : Hid (∀ W, Below w.heap.size w W → Calls Tryz.prog 64 #[.agg #[.string fu, .string ou, .int .i64 u0, .int .i64 u1, .int .i64 u2, .int .i64 u3, .int .i64 u4, .int .i64 u5, .int .i64 u6], .int .i64 n] W (fun e w' => e = .returned (.tuple #[.agg #[.string fc, .string oc, .int .i64 c0, .int .i64 c1, .int .i64 c2, .int .i64 c3, .int .i64 c4, .int .i64 c5, .int .i64 c6], .int .i64 e3]) ∧ Below W.heap.size W w'))) (h6 : Hid (∀ W, Below w.heap.size w W → Calls Tryz.prog 64 #[.agg #[.string fu, .string ou, .int .i64 u0, .int .i64 u1, .int .i64 u2, .int .i64 u3, .int .i64 u4, .int .i64 u5, .int .i64 u6], .int .i64 (m + n)] W (fun e w' => e = .returned (.tuple #[.agg #[.string fd, .string od, .int .i64 d0, .int .i64 d1, .int .i64 d2, .int .i64 d3, .int .i64 d4, .int .i64 d5, .int .i64 d6], .int .i64 e4]) ∧ Below W.heap.size W w'))) (hne : e2 ≠ 0) (hw : Hid (AwakeIs w)) : Calls Tryz.prog 16 #[.agg #[.string fu, .string ou, .int .i64 u0, .int .i64 u1, .int .i64 u2, .int .i64 u3, .int .i64 u4, .int .i64 u5, .int .i64 u6], .agg #[.string fv, .string ov, .int .i64 v0, .int .i64 v1, .int .i64 v2, .int .i64 v3, .int .i64 v4, .int .i64 v5, .int .i64 v6], .int .i64 m, .int .i64 n] w (OrdPost w) := by
  have hk0 : Hid (Keep w ((w.alloc (.cells #[.string fu, .string ou, .int .i64 u0, .int .i64 u1, .int .i64 u2, .int .i64 u3, .int .i64 u4, .int .i64 u5, .int .i64 u6] 53)).alloc (.cells #[.string fv, .string ov, .int .i64 v0, .int .i64 v1, .int .i64 v2, .int .i64 v3, .int .i64 v4, .int .i64 v5, .int .i64 v6] 53)) [(w.heap.size + 1, #[.string fv, .string ov, .int .i64 v0, .int .i64 v1, .int .i64 v2, .int .i64 v3, .int .i64 v4, .int .i64 v5, .int .i64 v6], 53), (w.heap.size, #[.string fu, .string ou, .int .i64 u0, .int .i64 u1, .int .i64 u2, .int .i64 u3, .int .i64 u4, .int .i64 u5, .int .i64 u6], 53)]) := Lib.hid (Keep.two w _ _ 53 53)
  go_enter Tryz.func16, Tryz.ntmps16
  go_wp2_with fail
  have hqa := powers_same a0 a1 a2 a3 a4 a5 a6
  have hqu := powers_same u0 u1 u2 u3 u4 u5 u6
  refine (h1.out _ hk0.out.below).mono ?_
  rintro e w1 ⟨rfl, hb⟩
  have hk1 := Lib.hid (hk0.out.next hb)
  clear hb hk0
  have hm1 := Lib.hid (hk1.out.more #[.string fa, .string oa, .int .i64 a0, .int .i64 a1, .int .i64 a2, .int .i64 a3, .int .i64 a4, .int .i64 a5, .int .i64 a6] 53)
  clear hk1
  have hx : (w1.alloc (.cells #[.string fa, .string oa, .int .i64 a0, .int .i64 a1, .int .i64 a2, .int .i64 a3, .int .i64 a4, .int .i64 a5, .int .i64 a6] 53)).heap[w.heap.size + 1]? = some (.cells #[.string fv, .string ov, .int .i64 v0, .int .i64 v1, .int .i64 v2, .int .i64 v3, .int .i64 v4, .int .i64 v5, .int .i64 v6] 53 (0, 0)) := hm1.out.one _ (List.mem_cons_of_mem _ (List.mem_cons_self ..))
  have cwb_0 := cell_of_heap hx 0
  have cwb_1 := cell_of_heap hx 1
  have cwb_2 := cell_of_heap hx 2
  have cwb_3 := cell_of_heap hx 3
  have cwb_4 := cell_of_heap hx 4
  have cwb_5 := cell_of_heap hx 5
  have cwb_6 := cell_of_heap hx 6
  have cwb_7 := cell_of_heap hx 7
  have cwb_8 := cell_of_heap hx 8
  clear hx
  have hx : (w1.alloc (.cells #[.string fa, .string oa, .int .i64 a0, .int .i64 a1, .int .i64 a2, .int .i64 a3, .int .i64 a4, .int .i64 a5, .int .i64 a6] 53)).heap[w.heap.size]? = some (.cells #[.string fu, .string ou, .int .i64 u0, .int .i64 u1, .int .i64 u2, .int .i64 u3, .int .i64 u4, .int .i64 u5, .int .i64 u6] 53 (0, 0)) := hm1.out.one _ (List.mem_cons_of_mem _ (List.mem_cons_of_mem _ (List.mem_cons_self ..)))
  have cw_0 := cell_of_heap hx 0
  have cw_1 := cell_of_heap hx 1
  have cw_2 := cell_of_heap hx 2
  have cw_3 := cell_of_heap hx 3
  have cw_4 := cell_of_heap hx 4
  have cw_5 := cell_of_heap hx 5
  have cw_6 := cell_of_heap hx 6
  have cw_7 := cell_of_heap hx 7
  have cw_8 := cell_of_heap hx 8
  clear hx
  go_wp2_with fail
  clear cwb_0 cwb_1 cwb_2 cwb_3 cwb_4 cwb_5 cwb_6 cwb_7 cwb_8 cw_0 cw_1 cw_2 cw_3 cw_4 cw_5 cw_6 cw_7 cw_8
  refine (h2.out _ hm1.out.below).mono ?_
  rintro e w2 ⟨rfl, hb⟩
  have hk2 := Lib.hid (hm1.out.next hb)
  clear hb hm1
  have hm2 := Lib.hid (hk2.out.more #[.string fa, .string oa, .int .i64 a0, .int .i64 a1, .int .i64 a2, .int .i64 a3, .int .i64 a4, .int .i64 a5, .int .i64 a6] 53)
  clear hk2
  have hx : (w2.alloc (.cells #[.string fa, .string oa, .int .i64 a0, .int .i64 a1, .int .i64 a2, .int .i64 a3, .int .i64 a4, .int .i64 a5, .int .i64 a6] 53)).heap[w1.heap.size]? = some (.cells #[.string fa, .string oa, .int .i64 a0, .int .i64 a1, .int .i64 a2, .int .i64 a3, .int .i64 a4, .int .i64 a5, .int .i64 a6] 53 (0, 0)) := hm2.out.one _ (List.mem_cons_of_mem _ (List.mem_cons_self ..))
  have cw1_0 := cell_of_heap hx 0
  have cw1_1 := cell_of_heap hx 1
  have cw1_2 := cell_of_heap hx 2
  have cw1_3 := cell_of_heap hx 3
  have cw1_4 := cell_of_heap hx 4
  have cw1_5 := cell_of_heap hx 5
  have cw1_6 := cell_of_heap hx 6
  have cw1_7 := cell_of_heap hx 7
  have cw1_8 := cell_of_heap hx 8
  clear hx
  have hx : (w2.alloc (.cells #[.string fa, .string oa, .int .i64 a0, .int .i64 a1, .int .i64 a2, .int .i64 a3, .int .i64 a4, .int .i64 a5, .int .i64 a6] 53)).heap[w2.heap.size]? = some (.cells #[.string fa, .string oa, .int .i64 a0, .int .i64 a1, .int .i64 a2, .int .i64 a3, .int .i64 a4, .int .i64 a5, .int .i64 a6] 53 (0, 0)) := hm2.out.one _ (List.mem_cons_self ..)
  have cw2_0 := cell_of_heap hx 0
  have cw2_1 := cell_of_heap hx 1
  have cw2_2 := cell_of_heap hx 2
  have cw2_3 := cell_of_heap hx 3
  have cw2_4 := cell_of_heap hx 4
  have cw2_5 := cell_of_heap hx 5
  have cw2_6 := cell_of_heap hx 6
  have cw2_7 := cell_of_heap hx 7
  have cw2_8 := cell_of_heap hx 8
  clear hx
  have hx : (w2.alloc (.cells #[.string fa, .string oa, .int .i64 a0, .int .i64 a1, .int .i64 a2, .int .i64 a3, .int .i64 a4, .int .i64 a5, .int .i64 a6] 53)).heap[w.heap.size + 1]? = some (.cells #[.string fv, .string ov, .int .i64 v0, .int .i64 v1, .int .i64 v2, .int .i64 v3, .int .i64 v4, .int .i64 v5, .int .i64 v6] 53 (0, 0)) := hm2.out.one _ (List.mem_cons_of_mem _ (List.mem_cons_of_mem _ (List.mem_cons_self ..)))
  have cwb_0 := cell_of_heap hx 0
  have cwb_1 := cell_of_heap hx 1
  have cwb_2 := cell_of_heap hx 2
  have cwb_3 := cell_of_heap hx 3
  have cwb_4 := cell_of_heap hx 4
  have cwb_5 := cell_of_heap hx 5
  have cwb_6 := cell_of_heap hx 6
  have cwb_7 := cell_of_heap hx 7
  have cwb_8 := cell_of_heap hx 8
  clear hx
  go_wp2_with fail
  clear cw1_0 cw1_1 cw1_2 cw1_3 cw1_4 cw1_5 cw1_6 cw1_7 cw1_8 cw2_0 cw2_1 cw2_2 cw2_3 cw2_4 cw2_5 cw2_6 cw2_7 cw2_8 cwb_0 cwb_1 cwb_2 cwb_3 cwb_4 cwb_5 cwb_6 cwb_7 cwb_8
  refine (h3.out _ hm2.out.below).mono ?_
  rintro e w3 ⟨rfl, hb⟩
  have hk3 := Lib.hid (hm2.out.next hb)
  clear hb hm2
  have hm3 := Lib.hid (hk3.out.more #[.string fu, .string ou, .int .i64 u0, .int .i64 u1, .int .i64 u2, .int .i64 u3, .int .i64 u4, .int .i64 u5, .int .i64 u6] 53)
  clear hk3
  have hx : (w3.alloc (.cells #[.string fu, .string ou, .int .i64 u0, .int .i64 u1, .int .i64 u2, .int .i64 u3, .int .i64 u4, .int .i64 u5, .int .i64 u6] 53)).heap[w3.heap.size]? = some (.cells #[.string fu, .string ou, .int .i64 u0, .int .i64 u1, .int .i64 u2, .int .i64 u3, .int .i64 u4, .int .i64 u5, .int .i64 u6] 53 (0, 0)) := hm3.out.one _ (List.mem_cons_self ..)
  have cw3_0 := cell_of_heap hx 0
  have cw3_1 := cell_of_heap hx 1
  have cw3_2 := cell_of_heap hx 2
  have cw3_3 := cell_of_heap hx 3
  have cw3_4 := cell_of_heap hx 4
  have cw3_5 := cell_of_heap hx 5
  have cw3_6 := cell_of_heap hx 6
  have cw3_7 := cell_of_heap hx 7
  have cw3_8 := cell_of_heap hx 8
  clear hx
  have hx : (w3.alloc (.cells #[.string fu, .string ou, .int .i64 u0, .int .i64 u1, .int .i64 u2, .int .i64 u3, .int .i64 u4, .int .i64 u5, .int .i64 u6] 53)).heap[w.heap.size]? = some (.cells #[.string fu, .string ou, .int .i64 u0, .int .i64 u1, .int .i64 u2, .int .i64 u3, .int .i64 u4, .int .i64 u5, .int .i64 u6] 53 (0, 0)) := hm3.out.one _ (List.mem_cons_of_mem _ (List.mem_cons_of_mem _ (List.mem_cons_of_mem _ (List.mem_cons_of_mem _ (List.mem_cons_self ..)))))
  have cw_0 := cell_of_heap hx 0
  have cw_1 := cell_of_heap hx 1
  have cw_2 := cell_of_heap hx 2
  have cw_3 := cell_of_heap hx 3
  have cw_4 := cell_of_heap hx 4
  have cw_5 := cell_of_heap hx 5
  have cw_6 := cell_of_heap hx 6
  have cw_7 := cell_of_heap hx 7
  have cw_8 := cell_of_heap hx 8
  clear hx
  go_wp2_with fail
  clear cw3_0 cw3_1 cw3_2 cw3_3 cw3_4 cw3_5 cw3_6 cw3_7 cw3_8 cw_0 cw_1 cw_2 cw_3 cw_4 cw_5 cw_6 cw_7 cw_8
  refine (h4.out _ hm3.out.below).mono ?_
  rintro e w4 ⟨rfl, hb⟩
  have hk4 := Lib.hid (hm3.out.next hb)
  clear hb hm3
  have hm4 := Lib.hid (hk4.out.more #[.string fb, .string ob, .int .i64 b0, .int .i64 b1, .int .i64 b2, .int .i64 b3, .int .i64 b4, .int .i64 b5, .int .i64 b6] 53)
  clear hk4
  have hx : (w4.alloc (.cells #[.string fb, .string ob, .int .i64 b0, .int .i64 b1, .int .i64 b2, .int .i64 b3, .int .i64 b4, .int .i64 b5, .int .i64 b6] 53)).heap[w.heap.size]? = some (.cells #[.string fu, .string ou, .int .i64 u0, .int .i64 u1, .int .i64 u2, .int .i64 u3, .int .i64 u4, .int .i64 u5, .int .i64 u6] 53 (0, 0)) := hm4.out.one _ (List.mem_cons_of_mem _ (List.mem_cons_of_mem _ (List.mem_cons_of_mem _ (List.mem_cons_of_mem _ (List.mem_cons_of_mem _ (List.mem_cons_self ..))))))
  have cw_0 := cell_of_heap hx 0
  have cw_1 := cell_of_heap hx 1
  have cw_2 := cell_of_heap hx 2
  have cw_3 := cell_of_heap hx 3
  have cw_4 := cell_of_heap hx 4
  have cw_5 := cell_of_heap hx 5
  have cw_6 := cell_of_heap hx 6
  have cw_7 := cell_of_heap hx 7
  have cw_8 := cell_of_heap hx 8
  clear hx
  go_wp2_with fail
  clear cw_0 cw_1 cw_2 cw_3 cw_4 cw_5 cw_6 cw_7 cw_8
  refine (h5.out _ hm4.out.below).mono ?_
  rintro e w5 ⟨rfl, hb⟩
  have hk5 := Lib.hid (hm4.out.next hb)
  clear hb hm4
  have hm5 := Lib.hid (hk5.out.more #[.string fc, .string oc, .int .i64 c0, .int .i64 c1, .int .i64 c2, .int .i64 c3, .int .i64 c4, .int .i64 c5, .int .i64 c6] 53)
  clear hk5
  have hx : (w5.alloc (.cells #[.string fc, .string oc, .int .i64 c0, .int .i64 c1, .int .i64 c2, .int .i64 c3, .int .i64 c4, .int .i64 c5, .int .i64 c6] 53)).heap[w.heap.size]? = some (.cells #[.string fu, .string ou, .int .i64 u0, .int .i64 u1, .int .i64 u2, .int .i64 u3, .int .i64 u4, .int .i64 u5, .int .i64 u6] 53 (0, 0)) := hm5.out.one _ (List.mem_cons_of_mem _ (List.mem_cons_of_mem _ (List.mem_cons_of_mem _ (List.mem_cons_of_mem _ (List.mem_cons_of_mem _ (List.mem_cons_of_mem _ (List.mem_cons_self ..)))))))
  have cw_0 := cell_of_heap hx 0
  have cw_1 := cell_of_heap hx 1
  have cw_2 := cell_of_heap hx 2
  have cw_3 := cell_of_heap hx 3
  have cw_4 := cell_of_heap hx 4
  have cw_5 := cell_of_heap hx 5
  have cw_6 := cell_of_heap hx 6
  have cw_7 := cell_of_heap hx 7
  have cw_8 := cell_of_heap hx 8
  clear hx
  go_wp2_with fail
  clear cw_0 cw_1 cw_2 cw_3 cw_4 cw_5 cw_6 cw_7 cw_8
  refine (h6.out _ hm5.out.below).mono ?_
  rintro e w6 ⟨rfl, hb⟩
  have hk6 := Lib.hid (hm5.out.next hb)
  clear hb hm5
  have hm6 := Lib.hid (hk6.out.more #[.string fd, .string od, .int .i64 d0, .int .i64 d1, .int .i64 d2, .int .i64 d3, .int .i64 d4, .int .i64 d5, .int .i64 d6] 53)
  clear hk6
  go_wp2_with fail
  refine (hw.out _ hm6.out.below).mono ?_
  rintro e w9 ⟨rfl, hb⟩
  have hk9 := Lib.hid (hm6.out.next hb)
  clear hb hm6
  go_wp2_with fail
  refine bodyPost_ret (v := .bool true) (by simp [results, Tryz.results16, go_sem]) rfl ?_
  exact ⟨rfl, hk9.out.below⟩
set_option maxRecDepth 100000 in
set_option maxHeartbeats 1600000 in
theorem units_05 (fu ou : ByteArray) (u0 u1 u2 u3 u4 u5 u6 : Int) (fv ov : ByteArray) (v0 v1 v2 v3 v4 v5 v6 : Int) (fa oa : ByteArray) (a0 a1 a2 a3 a4 a5 a6 : Int) (fb ob : ByteArray) (b0 b1 b2 b3 b4 b5 b6 : Int) (fc oc : ByteArray) (c0 c1 c2 c3 c4 c5 c6 : Int) (fd od : ByteArray) (d0 d1 d2 d3 d4 d5 d6 : Int) (e3 : Int) (e4 : Int) (m n : Int) (w : World) (h1 : Hid (∀ W, Below w.heap.size w W → Calls Tryz.prog 60 #[.agg #[.string fu, .string ou, .int .i64 u0, .int .i64 u1, .int .i64 u2, .int .i64 u3, .int .i64 u4, .int .i64 u5, .int .i64 u6], .agg #[.string fv, .string ov, .int .i64 v0, .int .i64 v1, .int .i64 v2, .int .i64 v3, .int .i64 v4, .int .i64 v5, .int .i64 v6]] W (fun e w' => e = .returned (.tuple #[.agg #[.string fa, .string oa, .int .i64 a0, .int .i64 a1, .int .i64 a2, .int .i64 a3, .int .i64 a4, .int .i64 a5, .int .i64 a6], .int .i64 0]) ∧ Below W.heap.size W w'))) (h2 : Hid (∀ W, Below w.heap.size w W → Calls Tryz.prog 60 #[.agg #[.string fv, .string ov, .int .i64 v0, .int .i64 v1, .int .i64 v2, .int .i64 v3, .int .i64 v4, .int .i64 v5, .int .i64 v6], .agg #[.string fu, .string ou, .int .i64 u0, .int .i64 u1, .int .i64 u2, .int .i64 u3, .int .i64 u4, .int .i64 u5, .int .i64 u6]] W (fun e w' => e = .returned (.tuple #[.agg #[.string fa, .string oa, .int .i64 a0, .int .i64 a1, .int .i64 a2, .int .i64 a3, .int .i64 a4, .int .i64 a5, .int .i64 a6], .int .i64 0]) ∧ Below W.heap.size W w'))) (h3 : Hid (∀ W, Below w.heap.size w W → Calls Tryz.prog 62 #[.agg #[.string fa, .string oa, .int .i64 a0, .int .i64 a1, .int .i64 a2, .int .i64 a3, .int .i64 a4, .int .i64 a5, .int .i64 a6], .agg #[.string fv, .string ov, .int .i64 v0, .int .i64 v1, .int .i64 v2, .int .i64 v3, .int .i64 v4, .int .i64 v5, .int .i64 v6]] W (fun e w' => e = .returned (.tuple #[.agg #[.string fu, .string ou, .int .i64 u0, .int .i64 u1, .int .i64 u2, .int .i64 u3, .int .i64 u4, .int .i64 u5, .int .i64 u6], .int .i64 0]) ∧ Below W.heap.size W w'))) (hm : ¬ m < -12) (hm2 : ¬ 12 < m) (hn : ¬ n < -12) (hn2 : ¬ 12 < n) (hs : IntKind.i64.wrap (m + n) = m + n) (h4 : Hid (∀ W, Below w.heap.size w W → Calls Tryz.prog 64 #[.agg #[.string fu, .string ou, .int .i64 u0, .int .i64 u1, .int .i64 u2, .int .i64 u3, .int .i64 u4, .int .i64 u5, .int .i64 u6], .int .i64 m] W (fun e w' => e = .returned (.tuple #[.agg #[.string fb, .string ob, .int .i64 b0, .int .i64 b1, .int .i64 b2, .int .i64 b3, .int .i64 b4, .int .i64 b5, .int .i64 b6], .int .i64 0]) ∧ Below W.heap.size W w'))) (h5 : Hid (∀ W, Below w.heap.size w W → Calls Tryz.prog 64 #[.agg #[.string fu, .string ou, .int .i64 u0, .int .i64 u1, .int .i64 u2, .int .i64 u3, .int .i64 u4, .int .i64 u5, .int .i64 u6], .int .i64 n] W (fun e w' => e = .returned (.tuple #[.agg #[.string fc, .string oc, .int .i64 c0, .int .i64 c1, .int .i64 c2, .int .i64 c3, .int .i64 c4, .int .i64 c5, .int .i64 c6], .int .i64 e3]) ∧ Below W.heap.size W w'))) (h6 : Hid (∀ W, Below w.heap.size w W → Calls Tryz.prog 64 #[.agg #[.string fu, .string ou, .int .i64 u0, .int .i64 u1, .int .i64 u2, .int .i64 u3, .int .i64 u4, .int .i64 u5, .int .i64 u6], .int .i64 (m + n)] W (fun e w' => e = .returned (.tuple #[.agg #[.string fd, .string od, .int .i64 d0, .int .i64 d1, .int .i64 d2, .int .i64 d3, .int .i64 d4, .int .i64 d5, .int .i64 d6], .int .i64 e4]) ∧ Below W.heap.size W w'))) (hne : e3 ≠ 0) (hw : Hid (AwakeIs w)) : Calls Tryz.prog 16 #[.agg #[.string fu, .string ou, .int .i64 u0, .int .i64 u1, .int .i64 u2, .int .i64 u3, .int .i64 u4, .int .i64 u5, .int .i64 u6], .agg #[.string fv, .string ov, .int .i64 v0, .int .i64 v1, .int .i64 v2, .int .i64 v3, .int .i64 v4, .int .i64 v5, .int .i64 v6], .int .i64 m, .int .i64 n] w (OrdPost w) := by
  have hk0 : Hid (Keep w ((w.alloc (.cells #[.string fu, .string ou, .int .i64 u0, .int .i64 u1, .int .i64 u2, .int .i64 u3, .int .i64 u4, .int .i64 u5, .int .i64 u6] 53)).alloc (.cells #[.string fv, .string ov, .int .i64 v0, .int .i64 v1, .int .i64 v2, .int .i64 v3, .int .i64 v4, .int .i64 v5, .int .i64 v6] 53)) [(w.heap.size + 1, #[.string fv, .string ov, .int .i64 v0, .int .i64 v1, .int .i64 v2, .int .i64 v3, .int .i64 v4, .int .i64 v5, .int .i64 v6], 53), (w.heap.size, #[.string fu, .string ou, .int .i64 u0, .int .i64 u1, .int .i64 u2, .int .i64 u3, .int .i64 u4, .int .i64 u5, .int .i64 u6], 53)]) := Lib.hid (Keep.two w _ _ 53 53)
  go_enter Tryz.func16, Tryz.ntmps16
  go_wp2_with fail
  have hqa := powers_same a0 a1 a2 a3 a4 a5 a6
  have hqu := powers_same u0 u1 u2 u3 u4 u5 u6
  refine (h1.out _ hk0.out.below).mono ?_
  rintro e w1 ⟨rfl, hb⟩
  have hk1 := Lib.hid (hk0.out.next hb)
  clear hb hk0
  have hm1 := Lib.hid (hk1.out.more #[.string fa, .string oa, .int .i64 a0, .int .i64 a1, .int .i64 a2, .int .i64 a3, .int .i64 a4, .int .i64 a5, .int .i64 a6] 53)
  clear hk1
  have hx : (w1.alloc (.cells #[.string fa, .string oa, .int .i64 a0, .int .i64 a1, .int .i64 a2, .int .i64 a3, .int .i64 a4, .int .i64 a5, .int .i64 a6] 53)).heap[w.heap.size + 1]? = some (.cells #[.string fv, .string ov, .int .i64 v0, .int .i64 v1, .int .i64 v2, .int .i64 v3, .int .i64 v4, .int .i64 v5, .int .i64 v6] 53 (0, 0)) := hm1.out.one _ (List.mem_cons_of_mem _ (List.mem_cons_self ..))
  have cwb_0 := cell_of_heap hx 0
  have cwb_1 := cell_of_heap hx 1
  have cwb_2 := cell_of_heap hx 2
  have cwb_3 := cell_of_heap hx 3
  have cwb_4 := cell_of_heap hx 4
  have cwb_5 := cell_of_heap hx 5
  have cwb_6 := cell_of_heap hx 6
  have cwb_7 := cell_of_heap hx 7
  have cwb_8 := cell_of_heap hx 8
  clear hx
  have hx : (w1.alloc (.cells #[.string fa, .string oa, .int .i64 a0, .int .i64 a1, .int .i64 a2, .int .i64 a3, .int .i64 a4, .int .i64 a5, .int .i64 a6] 53)).heap[w.heap.size]? = some (.cells #[.string fu, .string ou, .int .i64 u0, .int .i64 u1, .int .i64 u2, .int .i64 u3, .int .i64 u4, .int .i64 u5, .int .i64 u6] 53 (0, 0)) := hm1.out.one _ (List.mem_cons_of_mem _ (List.mem_cons_of_mem _ (List.mem_cons_self ..)))
  have cw_0 := cell_of_heap hx 0
  have cw_1 := cell_of_heap hx 1
  have cw_2 := cell_of_heap hx 2
  have cw_3 := cell_of_heap hx 3
  have cw_4 := cell_of_heap hx 4
  have cw_5 := cell_of_heap hx 5
  have cw_6 := cell_of_heap hx 6
  have cw_7 := cell_of_heap hx 7
  have cw_8 := cell_of_heap hx 8
  clear hx
  go_wp2_with fail
  clear cwb_0 cwb_1 cwb_2 cwb_3 cwb_4 cwb_5 cwb_6 cwb_7 cwb_8 cw_0 cw_1 cw_2 cw_3 cw_4 cw_5 cw_6 cw_7 cw_8
  refine (h2.out _ hm1.out.below).mono ?_
  rintro e w2 ⟨rfl, hb⟩
  have hk2 := Lib.hid (hm1.out.next hb)
  clear hb hm1
  have hm2 := Lib.hid (hk2.out.more #[.string fa, .string oa, .int .i64 a0, .int .i64 a1, .int .i64 a2, .int .i64 a3, .int .i64 a4, .int .i64 a5, .int .i64 a6] 53)
  clear hk2
  have hx : (w2.alloc (.cells #[.string fa, .string oa, .int .i64 a0, .int .i64 a1, .int .i64 a2, .int .i64 a3, .int .i64 a4, .int .i64 a5, .int .i64 a6] 53)).heap[w1.heap.size]? = some (.cells #[.string fa, .string oa, .int .i64 a0, .int .i64 a1, .int .i64 a2, .int .i64 a3, .int .i64 a4, .int .i64 a5, .int .i64 a6] 53 (0, 0)) := hm2.out.one _ (List.mem_cons_of_mem _ (List.mem_cons_self ..))
  have cw1_0 := cell_of_heap hx 0
  have cw1_1 := cell_of_heap hx 1
  have cw1_2 := cell_of_heap hx 2
  have cw1_3 := cell_of_heap hx 3
  have cw1_4 := cell_of_heap hx 4
  have cw1_5 := cell_of_heap hx 5
  have cw1_6 := cell_of_heap hx 6
  have cw1_7 := cell_of_heap hx 7
  have cw1_8 := cell_of_heap hx 8
  clear hx
  have hx : (w2.alloc (.cells #[.string fa, .string oa, .int .i64 a0, .int .i64 a1, .int .i64 a2, .int .i64 a3, .int .i64 a4, .int .i64 a5, .int .i64 a6] 53)).heap[w2.heap.size]? = some (.cells #[.string fa, .string oa, .int .i64 a0, .int .i64 a1, .int .i64 a2, .int .i64 a3, .int .i64 a4, .int .i64 a5, .int .i64 a6] 53 (0, 0)) := hm2.out.one _ (List.mem_cons_self ..)
  have cw2_0 := cell_of_heap hx 0
  have cw2_1 := cell_of_heap hx 1
  have cw2_2 := cell_of_heap hx 2
  have cw2_3 := cell_of_heap hx 3
  have cw2_4 := cell_of_heap hx 4
  have cw2_5 := cell_of_heap hx 5
  have cw2_6 := cell_of_heap hx 6
  have cw2_7 := cell_of_heap hx 7
  have cw2_8 := cell_of_heap hx 8
  clear hx
  have hx : (w2.alloc (.cells #[.string fa, .string oa, .int .i64 a0, .int .i64 a1, .int .i64 a2, .int .i64 a3, .int .i64 a4, .int .i64 a5, .int .i64 a6] 53)).heap[w.heap.size + 1]? = some (.cells #[.string fv, .string ov, .int .i64 v0, .int .i64 v1, .int .i64 v2, .int .i64 v3, .int .i64 v4, .int .i64 v5, .int .i64 v6] 53 (0, 0)) := hm2.out.one _ (List.mem_cons_of_mem _ (List.mem_cons_of_mem _ (List.mem_cons_self ..)))
  have cwb_0 := cell_of_heap hx 0
  have cwb_1 := cell_of_heap hx 1
  have cwb_2 := cell_of_heap hx 2
  have cwb_3 := cell_of_heap hx 3
  have cwb_4 := cell_of_heap hx 4
  have cwb_5 := cell_of_heap hx 5
  have cwb_6 := cell_of_heap hx 6
  have cwb_7 := cell_of_heap hx 7
  have cwb_8 := cell_of_heap hx 8
  clear hx
  go_wp2_with fail
  clear cw1_0 cw1_1 cw1_2 cw1_3 cw1_4 cw1_5 cw1_6 cw1_7 cw1_8 cw2_0 cw2_1 cw2_2 cw2_3 cw2_4 cw2_5 cw2_6 cw2_7 cw2_8 cwb_0 cwb_1 cwb_2 cwb_3 cwb_4 cwb_5 cwb_6 cwb_7 cwb_8
  refine (h3.out _ hm2.out.below).mono ?_
  rintro e w3 ⟨rfl, hb⟩
  have hk3 := Lib.hid (hm2.out.next hb)
  clear hb hm2
  have hm3 := Lib.hid (hk3.out.more #[.string fu, .string ou, .int .i64 u0, .int .i64 u1, .int .i64 u2, .int .i64 u3, .int .i64 u4, .int .i64 u5, .int .i64 u6] 53)
  clear hk3
  have hx : (w3.alloc (.cells #[.string fu, .string ou, .int .i64 u0, .int .i64 u1, .int .i64 u2, .int .i64 u3, .int .i64 u4, .int .i64 u5, .int .i64 u6] 53)).heap[w3.heap.size]? = some (.cells #[.string fu, .string ou, .int .i64 u0, .int .i64 u1, .int .i64 u2, .int .i64 u3, .int .i64 u4, .int .i64 u5, .int .i64 u6] 53 (0, 0)) := hm3.out.one _ (List.mem_cons_self ..)
  have cw3_0 := cell_of_heap hx 0
  have cw3_1 := cell_of_heap hx 1
  have cw3_2 := cell_of_heap hx 2
  have cw3_3 := cell_of_heap hx 3
  have cw3_4 := cell_of_heap hx 4
  have cw3_5 := cell_of_heap hx 5
  have cw3_6 := cell_of_heap hx 6
  have cw3_7 := cell_of_heap hx 7
  have cw3_8 := cell_of_heap hx 8
  clear hx
  have hx : (w3.alloc (.cells #[.string fu, .string ou, .int .i64 u0, .int .i64 u1, .int .i64 u2, .int .i64 u3, .int .i64 u4, .int .i64 u5, .int .i64 u6] 53)).heap[w.heap.size]? = some (.cells #[.string fu, .string ou, .int .i64 u0, .int .i64 u1, .int .i64 u2, .int .i64 u3, .int .i64 u4, .int .i64 u5, .int .i64 u6] 53 (0, 0)) := hm3.out.one _ (List.mem_cons_of_mem _ (List.mem_cons_of_mem _ (List.mem_cons_of_mem _ (List.mem_cons_of_mem _ (List.mem_cons_self ..)))))
  have cw_0 := cell_of_heap hx 0
  have cw_1 := cell_of_heap hx 1
  have cw_2 := cell_of_heap hx 2
  have cw_3 := cell_of_heap hx 3
  have cw_4 := cell_of_heap hx 4
  have cw_5 := cell_of_heap hx 5
  have cw_6 := cell_of_heap hx 6
  have cw_7 := cell_of_heap hx 7
  have cw_8 := cell_of_heap hx 8
  clear hx
  go_wp2_with fail
  clear cw3_0 cw3_1 cw3_2 cw3_3 cw3_4 cw3_5 cw3_6 cw3_7 cw3_8 cw_0 cw_1 cw_2 cw_3 cw_4 cw_5 cw_6 cw_7 cw_8
  refine (h4.out _ hm3.out.below).mono ?_
  rintro e w4 ⟨rfl, hb⟩
  have hk4 := Lib.hid (hm3.out.next hb)
  clear hb hm3
  have hm4 := Lib.hid (hk4.out.more #[.string fb, .string ob, .int .i64 b0, .int .i64 b1, .int .i64 b2, .int .i64 b3, .int .i64 b4, .int .i64 b5, .int .i64 b6] 53)
  clear hk4
  have hx : (w4.alloc (.cells #[.string fb, .string ob, .int .i64 b0, .int .i64 b1, .int .i64 b2, .int .i64 b3, .int .i64 b4, .int .i64 b5, .int .i64 b6] 53)).heap[w.heap.size]? = some (.cells #[.string fu, .string ou, .int .i64 u0, .int .i64 u1, .int .i64 u2, .int .i64 u3, .int .i64 u4, .int .i64 u5, .int .i64 u6] 53 (0, 0)) := hm4.out.one _ (List.mem_cons_of_mem _ (List.mem_cons_of_mem _ (List.mem_cons_of_mem _ (List.mem_cons_of_mem _ (List.mem_cons_of_mem _ (List.mem_cons_self ..))))))
  have cw_0 := cell_of_heap hx 0
  have cw_1 := cell_of_heap hx 1
  have cw_2 := cell_of_heap hx 2
  have cw_3 := cell_of_heap hx 3
  have cw_4 := cell_of_heap hx 4
  have cw_5 := cell_of_heap hx 5
  have cw_6 := cell_of_heap hx 6
  have cw_7 := cell_of_heap hx 7
  have cw_8 := cell_of_heap hx 8
  clear hx
  go_wp2_with fail
  clear cw_0 cw_1 cw_2 cw_3 cw_4 cw_5 cw_6 cw_7 cw_8
  refine (h5.out _ hm4.out.below).mono ?_
  rintro e w5 ⟨rfl, hb⟩
  have hk5 := Lib.hid (hm4.out.next hb)
  clear hb hm4
  have hm5 := Lib.hid (hk5.out.more #[.string fc, .string oc, .int .i64 c0, .int .i64 c1, .int .i64 c2, .int .i64 c3, .int .i64 c4, .int .i64 c5, .int .i64 c6] 53)
  clear hk5
  have hx : (w5.alloc (.cells #[.string fc, .string oc, .int .i64 c0, .int .i64 c1, .int .i64 c2, .int .i64 c3, .int .i64 c4, .int .i64 c5, .int .i64 c6] 53)).heap[w.heap.size]? = some (.cells #[.string fu, .string ou, .int .i64 u0, .int .i64 u1, .int .i64 u2, .int .i64 u3, .int .i64 u4, .int .i64 u5, .int .i64 u6] 53 (0, 0)) := hm5.out.one _ (List.mem_cons_of_mem _ (List.mem_cons_of_mem _ (List.mem_cons_of_mem _ (List.mem_cons_of_mem _ (List.mem_cons_of_mem _ (List.mem_cons_of_mem _ (List.mem_cons_self ..)))))))
  have cw_0 := cell_of_heap hx 0
  have cw_1 := cell_of_heap hx 1
  have cw_2 := cell_of_heap hx 2
  have cw_3 := cell_of_heap hx 3
  have cw_4 := cell_of_heap hx 4
  have cw_5 := cell_of_heap hx 5
  have cw_6 := cell_of_heap hx 6
  have cw_7 := cell_of_heap hx 7
  have cw_8 := cell_of_heap hx 8
  clear hx
  go_wp2_with fail
  clear cw_0 cw_1 cw_2 cw_3 cw_4 cw_5 cw_6 cw_7 cw_8
  refine (h6.out _ hm5.out.below).mono ?_
  rintro e w6 ⟨rfl, hb⟩
  have hk6 := Lib.hid (hm5.out.next hb)
  clear hb hm5
  have hm6 := Lib.hid (hk6.out.more #[.string fd, .string od, .int .i64 d0, .int .i64 d1, .int .i64 d2, .int .i64 d3, .int .i64 d4, .int .i64 d5, .int .i64 d6] 53)
  clear hk6
  go_wp2_with fail
  refine (hw.out _ hm6.out.below).mono ?_
  rintro e w9 ⟨rfl, hb⟩
  have hk9 := Lib.hid (hm6.out.next hb)
  clear hb hm6
  go_wp2_with fail
  refine bodyPost_ret (v := .bool true) (by simp [results, Tryz.results16, go_sem]) rfl ?_
  exact ⟨rfl, hk9.out.below⟩
set_option maxRecDepth 100000 in
set_option maxHeartbeats 1600000 in
theorem units_06 (fu ou : ByteArray) (u0 u1 u2 u3 u4 u5 u6 : Int) (fv ov : ByteArray) (v0 v1 v2 v3 v4 v5 v6 : Int) (fa oa : ByteArray) (a0 a1 a2 a3 a4 a5 a6 : Int) (fb ob : ByteArray) (b0 b1 b2 b3 b4 b5 b6 : Int) (fc oc : ByteArray) (c0 c1 c2 c3 c4 c5 c6 : Int) (fd od : ByteArray) (d0 d1 d2 d3 d4 d5 d6 : Int) (e4 : Int) (m n : Int) (w : World) (h1 : Hid (∀ W, Below w.heap.size w W → Calls Tryz.prog 60 #[.agg #[.string fu, .string ou, .int .i64 u0, .int .i64 u1, .int .i64 u2, .int .i64 u3, .int .i64 u4, .int .i64 u5, .int .i64 u6], .agg #[.string fv, .string ov, .int .i64 v0, .int .i64 v1, .int .i64 v2, .int .i64 v3, .int .i64 v4, .int .i64 v5, .int .i64 v6]] W (fun e w' => e = .returned (.tuple #[.agg #[.string fa, .string oa, .int .i64 a0, .int .i64 a1, .int .i64 a2, .int .i64 a3, .int .i64 a4, .int .i64 a5, .int .i64 a6], .int .i64 0]) ∧ Below W.heap.size W w'))) (h2 : Hid (∀ W, Below w.heap.size w W → Calls Tryz.prog 60 #[.agg #[.string fv, .string ov, .int .i64 v0, .int .i64 v1, .int .i64 v2, .int .i64 v3, .int .i64 v4, .int .i64 v5, .int .i64 v6], .agg #[.string fu, .string ou, .int .i64 u0, .int .i64 u1, .int .i64 u2, .int .i64 u3, .int .i64 u4, .int .i64 u5, .int .i64 u6]] W (fun e w' => e = .returned (.tuple #[.agg #[.string fa, .string oa, .int .i64 a0, .int .i64 a1, .int .i64 a2, .int .i64 a3, .int .i64 a4, .int .i64 a5, .int .i64 a6], .int .i64 0]) ∧ Below W.heap.size W w'))) (h3 : Hid (∀ W, Below w.heap.size w W → Calls Tryz.prog 62 #[.agg #[.string fa, .string oa, .int .i64 a0, .int .i64 a1, .int .i64 a2, .int .i64 a3, .int .i64 a4, .int .i64 a5, .int .i64 a6], .agg #[.string fv, .string ov, .int .i64 v0, .int .i64 v1, .int .i64 v2, .int .i64 v3, .int .i64 v4, .int .i64 v5, .int .i64 v6]] W (fun e w' => e = .returned (.tuple #[.agg #[.string fu, .string ou, .int .i64 u0, .int .i64 u1, .int .i64 u2, .int .i64 u3, .int .i64 u4, .int .i64 u5, .int .i64 u6], .int .i64 0]) ∧ Below W.heap.size W w'))) (hm : ¬ m < -12) (hm2 : ¬ 12 < m) (hn : ¬ n < -12) (hn2 : ¬ 12 < n) (hs : IntKind.i64.wrap (m + n) = m + n) (h4 : Hid (∀ W, Below w.heap.size w W → Calls Tryz.prog 64 #[.agg #[.string fu, .string ou, .int .i64 u0, .int .i64 u1, .int .i64 u2, .int .i64 u3, .int .i64 u4, .int .i64 u5, .int .i64 u6], .int .i64 m] W (fun e w' => e = .returned (.tuple #[.agg #[.string fb, .string ob, .int .i64 b0, .int .i64 b1, .int .i64 b2, .int .i64 b3, .int .i64 b4, .int .i64 b5, .int .i64 b6], .int .i64 0]) ∧ Below W.heap.size W w'))) (h5 : Hid (∀ W, Below w.heap.size w W → Calls Tryz.prog 64 #[.agg #[.string fu, .string ou, .int .i64 u0, .int .i64 u1, .int .i64 u2, .int .i64 u3, .int .i64 u4, .int .i64 u5, .int .i64 u6], .int .i64 n] W (fun e w' => e = .returned (.tuple #[.agg #[.string fc, .string oc, .int .i64 c0, .int .i64 c1, .int .i64 c2, .int .i64 c3, .int .i64 c4, .int .i64 c5, .int .i64 c6], .int .i64 0]) ∧ Below W.heap.size W w'))) (h6 : Hid (∀ W, Below w.heap.size w W → Calls Tryz.prog 64 #[.agg #[.string fu, .string ou, .int .i64 u0, .int .i64 u1, .int .i64 u2, .int .i64 u3, .int .i64 u4, .int .i64 u5, .int .i64 u6], .int .i64 (m + n)] W (fun e w' => e = .returned (.tuple #[.agg #[.string fd, .string od, .int .i64 d0, .int .i64 d1, .int .i64 d2, .int .i64 d3, .int .i64 d4, .int .i64 d5, .int .i64 d6], .int .i64 e4]) ∧ Below W.heap.size W w'))) (hne : e4 ≠ 0) (hw : Hid (AwakeIs w)) : Calls Tryz.prog 16 #[.agg #[.string fu, .string ou, .int .i64 u0, .int .i64 u1, .int .i64 u2, .int .i64 u3, .int .i64 u4, .int .i64 u5, .int .i64 u6], .agg #[.string fv, .string ov, .int .i64 v0, .int .i64 v1, .int .i64 v2, .int .i64 v3, .int .i64 v4, .int .i64 v5, .int .i64 v6], .int .i64 m, .int .i64 n] w (OrdPost w) := by
  have hk0 : Hid (Keep w ((w.alloc (.cells #[.string fu, .string ou, .int .i64 u0, .int .i64 u1, .int .i64 u2, .int .i64 u3, .int .i64 u4, .int .i64 u5, .int .i64 u6] 53)).alloc (.cells #[.string fv, .string ov, .int .i64 v0, .int .i64 v1, .int .i64 v2, .int .i64 v3, .int .i64 v4, .int .i64 v5, .int .i64 v6] 53)) [(w.heap.size + 1, #[.string fv, .string ov, .int .i64 v0, .int .i64 v1, .int .i64 v2, .int .i64 v3, .int .i64 v4, .int .i64 v5, .int .i64 v6], 53), (w.heap.size, #[.string fu, .string ou, .int .i64 u0, .int .i64 u1, .int .i64 u2, .int .i64 u3, .int .i64 u4, .int .i64 u5, .int .i64 u6], 53)]) := Lib.hid (Keep.two w _ _ 53 53)
  go_enter Tryz.func16, Tryz.ntmps16
  go_wp2_with fail
  have hqa := powers_same a0 a1 a2 a3 a4 a5 a6
  have hqu := powers_same u0 u1 u2 u3 u4 u5 u6
  refine (h1.out _ hk0.out.below).mono ?_
  rintro e w1 ⟨rfl, hb⟩
  have hk1 := Lib.hid (hk0.out.next hb)
  clear hb hk0
  have hm1 := Lib.hid (hk1.out.more #[.string fa, .string oa, .int .i64 a0, .int .i64 a1, .int .i64 a2, .int .i64 a3, .int .i64 a4, .int .i64 a5, .int .i64 a6] 53)
  clear hk1
  have hx : (w1.alloc (.cells #[.string fa, .string oa, .int .i64 a0, .int .i64 a1, .int .i64 a2, .int .i64 a3, .int .i64 a4, .int .i64 a5, .int .i64 a6] 53)).heap[w.heap.size + 1]? = some (.cells #[.string fv, .string ov, .int .i64 v0, .int .i64 v1, .int .i64 v2, .int .i64 v3, .int .i64 v4, .int .i64 v5, .int .i64 v6] 53 (0, 0)) := hm1.out.one _ (List.mem_cons_of_mem _ (List.mem_cons_self ..))
  have cwb_0 := cell_of_heap hx 0
  have cwb_1 := cell_of_heap hx 1
  have cwb_2 := cell_of_heap hx 2
  have cwb_3 := cell_of_heap hx 3
  have cwb_4 := cell_of_heap hx 4
  have cwb_5 := cell_of_heap hx 5
  have cwb_6 := cell_of_heap hx 6
  have cwb_7 := cell_of_heap hx 7
  have cwb_8 := cell_of_heap hx 8
  clear hx
  have hx : (w1.alloc (.cells #[.string fa, .string oa, .int .i64 a0, .int .i64 a1, .int .i64 a2, .int .i64 a3, .int .i64 a4, .int .i64 a5, .int .i64 a6] 53)).heap[w.heap.size]? = some (.cells #[.string fu, .string ou, .int .i64 u0, .int .i64 u1, .int .i64 u2, .int .i64 u3, .int .i64 u4, .int .i64 u5, .int .i64 u6] 53 (0, 0)) := hm1.out.one _ (List.mem_cons_of_mem _ (List.mem_cons_of_mem _ (List.mem_cons_self ..)))
  have cw_0 := cell_of_heap hx 0
  have cw_1 := cell_of_heap hx 1
  have cw_2 := cell_of_heap hx 2
  have cw_3 := cell_of_heap hx 3
  have cw_4 := cell_of_heap hx 4
  have cw_5 := cell_of_heap hx 5
  have cw_6 := cell_of_heap hx 6
  have cw_7 := cell_of_heap hx 7
  have cw_8 := cell_of_heap hx 8
  clear hx
  go_wp2_with fail
  clear cwb_0 cwb_1 cwb_2 cwb_3 cwb_4 cwb_5 cwb_6 cwb_7 cwb_8 cw_0 cw_1 cw_2 cw_3 cw_4 cw_5 cw_6 cw_7 cw_8
  refine (h2.out _ hm1.out.below).mono ?_
  rintro e w2 ⟨rfl, hb⟩
  have hk2 := Lib.hid (hm1.out.next hb)
  clear hb hm1
  have hm2 := Lib.hid (hk2.out.more #[.string fa, .string oa, .int .i64 a0, .int .i64 a1, .int .i64 a2, .int .i64 a3, .int .i64 a4, .int .i64 a5, .int .i64 a6] 53)
  clear hk2
  have hx : (w2.alloc (.cells #[.string fa, .string oa, .int .i64 a0, .int .i64 a1, .int .i64 a2, .int .i64 a3, .int .i64 a4, .int .i64 a5, .int .i64 a6] 53)).heap[w1.heap.size]? = some (.cells #[.string fa, .string oa, .int .i64 a0, .int .i64 a1, .int .i64 a2, .int .i64 a3, .int .i64 a4, .int .i64 a5, .int .i64 a6] 53 (0, 0)) := hm2.out.one _ (List.mem_cons_of_mem _ (List.mem_cons_self ..))
  have cw1_0 := cell_of_heap hx 0
  have cw1_1 := cell_of_heap hx 1
  have cw1_2 := cell_of_heap hx 2
  have cw1_3 := cell_of_heap hx 3
  have cw1_4 := cell_of_heap hx 4
  have cw1_5 := cell_of_heap hx 5
  have cw1_6 := cell_of_heap hx 6
  have cw1_7 := cell_of_heap hx 7
  have cw1_8 := cell_of_heap hx 8
  clear hx
  have hx : (w2.alloc (.cells #[.string fa, .string oa, .int .i64 a0, .int .i64 a1, .int .i64 a2, .int .i64 a3, .int .i64 a4, .int .i64 a5, .int .i64 a6] 53)).heap[w2.heap.size]? = some (.cells #[.string fa, .string oa, .int .i64 a0, .int .i64 a1, .int .i64 a2, .int .i64 a3, .int .i64 a4, .int .i64 a5, .int .i64 a6] 53 (0, 0)) := hm2.out.one _ (List.mem_cons_self ..)
  have cw2_0 := cell_of_heap hx 0
  have cw2_1 := cell_of_heap hx 1
  have cw2_2 := cell_of_heap hx 2
  have cw2_3 := cell_of_heap hx 3
  have cw2_4 := cell_of_heap hx 4
  have cw2_5 := cell_of_heap hx 5
  have cw2_6 := cell_of_heap hx 6
  have cw2_7 := cell_of_heap hx 7
  have cw2_8 := cell_of_heap hx 8
  clear hx
  have hx : (w2.alloc (.cells #[.string fa, .string oa, .int .i64 a0, .int .i64 a1, .int .i64 a2, .int .i64 a3, .int .i64 a4, .int .i64 a5, .int .i64 a6] 53)).heap[w.heap.size + 1]? = some (.cells #[.string fv, .string ov, .int .i64 v0, .int .i64 v1, .int .i64 v2, .int .i64 v3, .int .i64 v4, .int .i64 v5, .int .i64 v6] 53 (0, 0)) := hm2.out.one _ (List.mem_cons_of_mem _ (List.mem_cons_of_mem _ (List.mem_cons_self ..)))
  have cwb_0 := cell_of_heap hx 0
  have cwb_1 := cell_of_heap hx 1
  have cwb_2 := cell_of_heap hx 2
  have cwb_3 := cell_of_heap hx 3
  have cwb_4 := cell_of_heap hx 4
  have cwb_5 := cell_of_heap hx 5
  have cwb_6 := cell_of_heap hx 6
  have cwb_7 := cell_of_heap hx 7
  have cwb_8 := cell_of_heap hx 8
  clear hx
  go_wp2_with fail
  clear cw1_0 cw1_1 cw1_2 cw1_3 cw1_4 cw1_5 cw1_6 cw1_7 cw1_8 cw2_0 cw2_1 cw2_2 cw2_3 cw2_4 cw2_5 cw2_6 cw2_7 cw2_8 cwb_0 cwb_1 cwb_2 cwb_3 cwb_4 cwb_5 cwb_6 cwb_7 cwb_8
  refine (h3.out _ hm2.out.below).mono ?_
  rintro e w3 ⟨rfl, hb⟩
  have hk3 := Lib.hid (hm2.out.next hb)
  clear hb hm2
  have hm3 := Lib.hid (hk3.out.more #[.string fu, .string ou, .int .i64 u0, .int .i64 u1, .int .i64 u2, .int .i64 u3, .int .i64 u4, .int .i64 u5, .int .i64 u6] 53)
  clear hk3
  have hx : (w3.alloc (.cells #[.string fu, .string ou, .int .i64 u0, .int .i64 u1, .int .i64 u2, .int .i64 u3, .int .i64 u4, .int .i64 u5, .int .i64 u6] 53)).heap[w3.heap.size]? = some (.cells #[.string fu, .string ou, .int .i64 u0, .int .i64 u1, .int .i64 u2, .int .i64 u3, .int .i64 u4, .int .i64 u5, .int .i64 u6] 53 (0, 0)) := hm3.out.one _ (List.mem_cons_self ..)
  have cw3_0 := cell_of_heap hx 0
  have cw3_1 := cell_of_heap hx 1
  have cw3_2 := cell_of_heap hx 2
  have cw3_3 := cell_of_heap hx 3
  have cw3_4 := cell_of_heap hx 4
  have cw3_5 := cell_of_heap hx 5
  have cw3_6 := cell_of_heap hx 6
  have cw3_7 := cell_of_heap hx 7
  have cw3_8 := cell_of_heap hx 8
  clear hx
  have hx : (w3.alloc (.cells #[.string fu, .string ou, .int .i64 u0, .int .i64 u1, .int .i64 u2, .int .i64 u3, .int .i64 u4, .int .i64 u5, .int .i64 u6] 53)).heap[w.heap.size]? = some (.cells #[.string fu, .string ou, .int .i64 u0, .int .i64 u1, .int .i64 u2, .int .i64 u3, .int .i64 u4, .int .i64 u5, .int .i64 u6] 53 (0, 0)) := hm3.out.one _ (List.mem_cons_of_mem _ (List.mem_cons_of_mem _ (List.mem_cons_of_mem _ (List.mem_cons_of_mem _ (List.mem_cons_self ..)))))
  have cw_0 := cell_of_heap hx 0
  have cw_1 := cell_of_heap hx 1
  have cw_2 := cell_of_heap hx 2
  have cw_3 := cell_of_heap hx 3
  have cw_4 := cell_of_heap hx 4
  have cw_5 := cell_of_heap hx 5
  have cw_6 := cell_of_heap hx 6
  have cw_7 := cell_of_heap hx 7
  have cw_8 := cell_of_heap hx 8
  clear hx
  go_wp2_with fail
  clear cw3_0 cw3_1 cw3_2 cw3_3 cw3_4 cw3_5 cw3_6 cw3_7 cw3_8 cw_0 cw_1 cw_2 cw_3 cw_4 cw_5 cw_6 cw_7 cw_8
  refine (h4.out _ hm3.out.below).mono ?_
  rintro e w4 ⟨rfl, hb⟩
  have hk4 := Lib.hid (hm3.out.next hb)
  clear hb hm3
  have hm4 := Lib.hid (hk4.out.more #[.string fb, .string ob, .int .i64 b0, .int .i64 b1, .int .i64 b2, .int .i64 b3, .int .i64 b4, .int .i64 b5, .int .i64 b6] 53)
  clear hk4
  have hx : (w4.alloc (.cells #[.string fb, .string ob, .int .i64 b0, .int .i64 b1, .int .i64 b2, .int .i64 b3, .int .i64 b4, .int .i64 b5, .int .i64 b6] 53)).heap[w.heap.size]? = some (.cells #[.string fu, .string ou, .int .i64 u0, .int .i64 u1, .int .i64 u2, .int .i64 u3, .int .i64 u4, .int .i64 u5, .int .i64 u6] 53 (0, 0)) := hm4.out.one _ (List.mem_cons_of_mem _ (List.mem_cons_of_mem _ (List.mem_cons_of_mem _ (List.mem_cons_of_mem _ (List.mem_cons_of_mem _ (List.mem_cons_self ..))))))
  have cw_0 := cell_of_heap hx 0
  have cw_1 := cell_of_heap hx 1
  have cw_2 := cell_of_heap hx 2
  have cw_3 := cell_of_heap hx 3
  have cw_4 := cell_of_heap hx 4
  have cw_5 := cell_of_heap hx 5
  have cw_6 := cell_of_heap hx 6
  have cw_7 := cell_of_heap hx 7
  have cw_8 := cell_of_heap hx 8
  clear hx
  go_wp2_with fail
  clear cw_0 cw_1 cw_2 cw_3 cw_4 cw_5 cw_6 cw_7 cw_8
  refine (h5.out _ hm4.out.below).mono ?_
  rintro e w5 ⟨rfl, hb⟩
  have hk5 := Lib.hid (hm4.out.next hb)
  clear hb hm4
  have hm5 := Lib.hid (hk5.out.more #[.string fc, .string oc, .int .i64 c0, .int .i64 c1, .int .i64 c2, .int .i64 c3, .int .i64 c4, .int .i64 c5, .int .i64 c6] 53)
  clear hk5
  have hx : (w5.alloc (.cells #[.string fc, .string oc, .int .i64 c0, .int .i64 c1, .int .i64 c2, .int .i64 c3, .int .i64 c4, .int .i64 c5, .int .i64 c6] 53)).heap[w.heap.size]? = some (.cells #[.string fu, .string ou, .int .i64 u0, .int .i64 u1, .int .i64 u2, .int .i64 u3, .int .i64 u4, .int .i64 u5, .int .i64 u6] 53 (0, 0)) := hm5.out.one _ (List.mem_cons_of_mem _ (List.mem_cons_of_mem _ (List.mem_cons_of_mem _ (List.mem_cons_of_mem _ (List.mem_cons_of_mem _ (List.mem_cons_of_mem _ (List.mem_cons_self ..)))))))
  have cw_0 := cell_of_heap hx 0
  have cw_1 := cell_of_heap hx 1
  have cw_2 := cell_of_heap hx 2
  have cw_3 := cell_of_heap hx 3
  have cw_4 := cell_of_heap hx 4
  have cw_5 := cell_of_heap hx 5
  have cw_6 := cell_of_heap hx 6
  have cw_7 := cell_of_heap hx 7
  have cw_8 := cell_of_heap hx 8
  clear hx
  go_wp2_with fail
  clear cw_0 cw_1 cw_2 cw_3 cw_4 cw_5 cw_6 cw_7 cw_8
  refine (h6.out _ hm5.out.below).mono ?_
  rintro e w6 ⟨rfl, hb⟩
  have hk6 := Lib.hid (hm5.out.next hb)
  clear hb hm5
  have hm6 := Lib.hid (hk6.out.more #[.string fd, .string od, .int .i64 d0, .int .i64 d1, .int .i64 d2, .int .i64 d3, .int .i64 d4, .int .i64 d5, .int .i64 d6] 53)
  clear hk6
  go_wp2_with fail
  refine (hw.out _ hm6.out.below).mono ?_
  rintro e w9 ⟨rfl, hb⟩
  have hk9 := Lib.hid (hm6.out.next hb)
  clear hb hm6
  go_wp2_with fail
  refine bodyPost_ret (v := .bool true) (by simp [results, Tryz.results16, go_sem]) rfl ?_
  exact ⟨rfl, hk9.out.below⟩
set_option maxRecDepth 100000 in
set_option maxHeartbeats 1600000 in
theorem units_07 (fu ou : ByteArray) (u0 u1 u2 u3 u4 u5 u6 : Int) (fv ov : ByteArray) (v0 v1 v2 v3 v4 v5 v6 : Int) (fa oa : ByteArray) (a0 a1 a2 a3 a4 a5 a6 : Int) (fb ob : ByteArray) (b0 b1 b2 b3 b4 b5 b6 : Int) (fc oc : ByteArray) (c0 c1 c2 c3 c4 c5 c6 : Int) (fd od : ByteArray) (d0 d1 d2 d3 d4 d5 d6 : Int)  (m n : Int) (w : World) (h1 : Hid (∀ W, Below w.heap.size w W → Calls Tryz.prog 60 #[.agg #[.string fu, .string ou, .int .i64 u0, .int .i64 u1, .int .i64 u2, .int .i64 u3, .int .i64 u4, .int .i64 u5, .int .i64 u6], .agg #[.string fv, .string ov, .int .i64 v0, .int .i64 v1, .int .i64 v2, .int .i64 v3, .int .i64 v4, .int .i64 v5, .int .i64 v6]] W (fun e w' => e = .returned (.tuple #[.agg #[.string fa, .string oa, .int .i64 a0, .int .i64 a1, .int .i64 a2, .int .i64 a3, .int .i64 a4, .int .i64 a5, .int .i64 a6], .int .i64 0]) ∧ Below W.heap.size W w'))) (h2 : Hid (∀ W, Below w.heap.size w W → Calls Tryz.prog 60 #[.agg #[.string fv, .string ov, .int .i64 v0, .int .i64 v1, .int .i64 v2, .int .i64 v3, .int .i64 v4, .int .i64 v5, .int .i64 v6], .agg #[.string fu, .string ou, .int .i64 u0, .int .i64 u1, .int .i64 u2, .int .i64 u3, .int .i64 u4, .int .i64 u5, .int .i64 u6]] W (fun e w' => e = .returned (.tuple #[.agg #[.string fa, .string oa, .int .i64 a0, .int .i64 a1, .int .i64 a2, .int .i64 a3, .int .i64 a4, .int .i64 a5, .int .i64 a6], .int .i64 0]) ∧ Below W.heap.size W w'))) (h3 : Hid (∀ W, Below w.heap.size w W → Calls Tryz.prog 62 #[.agg #[.string fa, .string oa, .int .i64 a0, .int .i64 a1, .int .i64 a2, .int .i64 a3, .int .i64 a4, .int .i64 a5, .int .i64 a6], .agg #[.string fv, .string ov, .int .i64 v0, .int .i64 v1, .int .i64 v2, .int .i64 v3, .int .i64 v4, .int .i64 v5, .int .i64 v6]] W (fun e w' => e = .returned (.tuple #[.agg #[.string fu, .string ou, .int .i64 u0, .int .i64 u1, .int .i64 u2, .int .i64 u3, .int .i64 u4, .int .i64 u5, .int .i64 u6], .int .i64 0]) ∧ Below W.heap.size W w'))) (hm : ¬ m < -12) (hm2 : ¬ 12 < m) (hn : ¬ n < -12) (hn2 : ¬ 12 < n) (hs : IntKind.i64.wrap (m + n) = m + n) (h4 : Hid (∀ W, Below w.heap.size w W → Calls Tryz.prog 64 #[.agg #[.string fu, .string ou, .int .i64 u0, .int .i64 u1, .int .i64 u2, .int .i64 u3, .int .i64 u4, .int .i64 u5, .int .i64 u6], .int .i64 m] W (fun e w' => e = .returned (.tuple #[.agg #[.string fb, .string ob, .int .i64 b0, .int .i64 b1, .int .i64 b2, .int .i64 b3, .int .i64 b4, .int .i64 b5, .int .i64 b6], .int .i64 0]) ∧ Below W.heap.size W w'))) (h5 : Hid (∀ W, Below w.heap.size w W → Calls Tryz.prog 64 #[.agg #[.string fu, .string ou, .int .i64 u0, .int .i64 u1, .int .i64 u2, .int .i64 u3, .int .i64 u4, .int .i64 u5, .int .i64 u6], .int .i64 n] W (fun e w' => e = .returned (.tuple #[.agg #[.string fc, .string oc, .int .i64 c0, .int .i64 c1, .int .i64 c2, .int .i64 c3, .int .i64 c4, .int .i64 c5, .int .i64 c6], .int .i64 0]) ∧ Below W.heap.size W w'))) (h6 : Hid (∀ W, Below w.heap.size w W → Calls Tryz.prog 64 #[.agg #[.string fu, .string ou, .int .i64 u0, .int .i64 u1, .int .i64 u2, .int .i64 u3, .int .i64 u4, .int .i64 u5, .int .i64 u6], .int .i64 (m + n)] W (fun e w' => e = .returned (.tuple #[.agg #[.string fd, .string od, .int .i64 d0, .int .i64 d1, .int .i64 d2, .int .i64 d3, .int .i64 d4, .int .i64 d5, .int .i64 d6], .int .i64 0]) ∧ Below W.heap.size W w'))) (h7 : Hid (∀ W, Below w.heap.size w W → Calls Tryz.prog 60 #[.agg #[.string fb, .string ob, .int .i64 b0, .int .i64 b1, .int .i64 b2, .int .i64 b3, .int .i64 b4, .int .i64 b5, .int .i64 b6], .agg #[.string fc, .string oc, .int .i64 c0, .int .i64 c1, .int .i64 c2, .int .i64 c3, .int .i64 c4, .int .i64 c5, .int .i64 c6]] W (fun e w' => e = .returned (.tuple #[.agg #[.string fd, .string od, .int .i64 d0, .int .i64 d1, .int .i64 d2, .int .i64 d3, .int .i64 d4, .int .i64 d5, .int .i64 d6], .int .i64 0]) ∧ Below W.heap.size W w'))) (hw : Hid (AwakeIs w)) : Calls Tryz.prog 16 #[.agg #[.string fu, .string ou, .int .i64 u0, .int .i64 u1, .int .i64 u2, .int .i64 u3, .int .i64 u4, .int .i64 u5, .int .i64 u6], .agg #[.string fv, .string ov, .int .i64 v0, .int .i64 v1, .int .i64 v2, .int .i64 v3, .int .i64 v4, .int .i64 v5, .int .i64 v6], .int .i64 m, .int .i64 n] w (OrdPost w) := by
  have hk0 : Hid (Keep w ((w.alloc (.cells #[.string fu, .string ou, .int .i64 u0, .int .i64 u1, .int .i64 u2, .int .i64 u3, .int .i64 u4, .int .i64 u5, .int .i64 u6] 53)).alloc (.cells #[.string fv, .string ov, .int .i64 v0, .int .i64 v1, .int .i64 v2, .int .i64 v3, .int .i64 v4, .int .i64 v5, .int .i64 v6] 53)) [(w.heap.size + 1, #[.string fv, .string ov, .int .i64 v0, .int .i64 v1, .int .i64 v2, .int .i64 v3, .int .i64 v4, .int .i64 v5, .int .i64 v6], 53), (w.heap.size, #[.string fu, .string ou, .int .i64 u0, .int .i64 u1, .int .i64 u2, .int .i64 u3, .int .i64 u4, .int .i64 u5, .int .i64 u6], 53)]) := Lib.hid (Keep.two w _ _ 53 53)
  go_enter Tryz.func16, Tryz.ntmps16
  go_wp2_with fail
  have hqa := powers_same a0 a1 a2 a3 a4 a5 a6
  have hqu := powers_same u0 u1 u2 u3 u4 u5 u6
  have hqd := powers_same d0 d1 d2 d3 d4 d5 d6
  refine (h1.out _ hk0.out.below).mono ?_
  rintro e w1 ⟨rfl, hb⟩
  have hk1 := Lib.hid (hk0.out.next hb)
  clear hb hk0
  have hm1 := Lib.hid (hk1.out.more #[.string fa, .string oa, .int .i64 a0, .int .i64 a1, .int .i64 a2, .int .i64 a3, .int .i64 a4, .int .i64 a5, .int .i64 a6] 53)
  clear hk1
  have hx : (w1.alloc (.cells #[.string fa, .string oa, .int .i64 a0, .int .i64 a1, .int .i64 a2, .int .i64 a3, .int .i64 a4, .int .i64 a5, .int .i64 a6] 53)).heap[w.heap.size + 1]? = some (.cells #[.string fv, .string ov, .int .i64 v0, .int .i64 v1, .int .i64 v2, .int .i64 v3, .int .i64 v4, .int .i64 v5, .int .i64 v6] 53 (0, 0)) := hm1.out.one _ (List.mem_cons_of_mem _ (List.mem_cons_self ..))
  have cwb_0 := cell_of_heap hx 0
  have cwb_1 := cell_of_heap hx 1
  have cwb_2 := cell_of_heap hx 2
  have cwb_3 := cell_of_heap hx 3
  have cwb_4 := cell_of_heap hx 4
  have cwb_5 := cell_of_heap hx 5
  have cwb_6 := cell_of_heap hx 6
  have cwb_7 := cell_of_heap hx 7
  have cwb_8 := cell_of_heap hx 8
  clear hx
  have hx : (w1.alloc (.cells #[.string fa, .string oa, .int .i64 a0, .int .i64 a1, .int .i64 a2, .int .i64 a3, .int .i64 a4, .int .i64 a5, .int .i64 a6] 53)).heap[w.heap.size]? = some (.cells #[.string fu, .string ou, .int .i64 u0, .int .i64 u1, .int .i64 u2, .int .i64 u3, .int .i64 u4, .int .i64 u5, .int .i64 u6] 53 (0, 0)) := hm1.out.one _ (List.mem_cons_of_mem _ (List.mem_cons_of_mem _ (List.mem_cons_self ..)))
  have cw_0 := cell_of_heap hx 0
  have cw_1 := cell_of_heap hx 1
  have cw_2 := cell_of_heap hx 2
  have cw_3 := cell_of_heap hx 3
  have cw_4 := cell_of_heap hx 4
  have cw_5 := cell_of_heap hx 5
  have cw_6 := cell_of_heap hx 6
  have cw_7 := cell_of_heap hx 7
  have cw_8 := cell_of_heap hx 8
  clear hx
  go_wp2_with fail
  clear cwb_0 cwb_1 cwb_2 cwb_3 cwb_4 cwb_5 cwb_6 cwb_7 cwb_8 cw_0 cw_1 cw_2 cw_3 cw_4 cw_5 cw_6 cw_7 cw_8
  refine (h2.out _ hm1.out.below).mono ?_
  rintro e w2 ⟨rfl, hb⟩
  have hk2 := Lib.hid (hm1.out.next hb)
  clear hb hm1
  have hm2 := Lib.hid (hk2.out.more #[.string fa, .string oa, .int .i64 a0, .int .i64 a1, .int .i64 a2, .int .i64 a3, .int .i64 a4, .int .i64 a5, .int .i64 a6] 53)
  clear hk2
  have hx : (w2.alloc (.cells #[.string fa, .string oa, .int .i64 a0, .int .i64 a1, .int .i64 a2, .int .i64 a3, .int .i64 a4, .int .i64 a5, .int .i64 a6] 53)).heap[w1.heap.size]? = some (.cells #[.string fa, .string oa, .int .i64 a0, .int .i64 a1, .int .i64 a2, .int .i64 a3, .int .i64 a4, .int .i64 a5, .int .i64 a6] 53 (0, 0)) := hm2.out.one _ (List.mem_cons_of_mem _ (List.mem_cons_self ..))
  have cw1_0 := cell_of_heap hx 0
  have cw1_1 := cell_of_heap hx 1
  have cw1_2 := cell_of_heap hx 2
  have cw1_3 := cell_of_heap hx 3
  have cw1_4 := cell_of_heap hx 4
  have cw1_5 := cell_of_heap hx 5
  have cw1_6 := cell_of_heap hx 6
  have cw1_7 := cell_of_heap hx 7
  have cw1_8 := cell_of_heap hx 8
  clear hx
  have hx : (w2.alloc (.cells #[.string fa, .string oa, .int .i64 a0, .int .i64 a1, .int .i64 a2, .int .i64 a3, .int .i64 a4, .int .i64 a5, .int .i64 a6] 53)).heap[w2.heap.size]? = some (.cells #[.string fa, .string oa, .int .i64 a0, .int .i64 a1, .int .i64 a2, .int .i64 a3, .int .i64 a4, .int .i64 a5, .int .i64 a6] 53 (0, 0)) := hm2.out.one _ (List.mem_cons_self ..)
  have cw2_0 := cell_of_heap hx 0
  have cw2_1 := cell_of_heap hx 1
  have cw2_2 := cell_of_heap hx 2
  have cw2_3 := cell_of_heap hx 3
  have cw2_4 := cell_of_heap hx 4
  have cw2_5 := cell_of_heap hx 5
  have cw2_6 := cell_of_heap hx 6
  have cw2_7 := cell_of_heap hx 7
  have cw2_8 := cell_of_heap hx 8
  clear hx
  have hx : (w2.alloc (.cells #[.string fa, .string oa, .int .i64 a0, .int .i64 a1, .int .i64 a2, .int .i64 a3, .int .i64 a4, .int .i64 a5, .int .i64 a6] 53)).heap[w.heap.size + 1]? = some (.cells #[.string fv, .string ov, .int .i64 v0, .int .i64 v1, .int .i64 v2, .int .i64 v3, .int .i64 v4, .int .i64 v5, .int .i64 v6] 53 (0, 0)) := hm2.out.one _ (List.mem_cons_of_mem _ (List.mem_cons_of_mem _ (List.mem_cons_self ..)))
  have cwb_0 := cell_of_heap hx 0
  have cwb_1 := cell_of_heap hx 1
  have cwb_2 := cell_of_heap hx 2
  have cwb_3 := cell_of_heap hx 3
  have cwb_4 := cell_of_heap hx 4
  have cwb_5 := cell_of_heap hx 5
  have cwb_6 := cell_of_heap hx 6
  have cwb_7 := cell_of_heap hx 7
  have cwb_8 := cell_of_heap hx 8
  clear hx
  go_wp2_with fail
  clear cw1_0 cw1_1 cw1_2 cw1_3 cw1_4 cw1_5 cw1_6 cw1_7 cw1_8 cw2_0 cw2_1 cw2_2 cw2_3 cw2_4 cw2_5 cw2_6 cw2_7 cw2_8 cwb_0 cwb_1 cwb_2 cwb_3 cwb_4 cwb_5 cwb_6 cwb_7 cwb_8
  refine (h3.out _ hm2.out.below).mono ?_
  rintro e w3 ⟨rfl, hb⟩
  have hk3 := Lib.hid (hm2.out.next hb)
  clear hb hm2
  have hm3 := Lib.hid (hk3.out.more #[.string fu, .string ou, .int .i64 u0, .int .i64 u1, .int .i64 u2, .int .i64 u3, .int .i64 u4, .int .i64 u5, .int .i64 u6] 53)
  clear hk3
  have hx : (w3.alloc (.cells #[.string fu, .string ou, .int .i64 u0, .int .i64 u1, .int .i64 u2, .int .i64 u3, .int .i64 u4, .int .i64 u5, .int .i64 u6] 53)).heap[w3.heap.size]? = some (.cells #[.string fu, .string ou, .int .i64 u0, .int .i64 u1, .int .i64 u2, .int .i64 u3, .int .i64 u4, .int .i64 u5, .int .i64 u6] 53 (0, 0)) := hm3.out.one _ (List.mem_cons_self ..)
  have cw3_0 := cell_of_heap hx 0
  have cw3_1 := cell_of_heap hx 1
  have cw3_2 := cell_of_heap hx 2
  have cw3_3 := cell_of_heap hx 3
  have cw3_4 := cell_of_heap hx 4
  have cw3_5 := cell_of_heap hx 5
  have cw3_6 := cell_of_heap hx 6
  have cw3_7 := cell_of_heap hx 7
  have cw3_8 := cell_of_heap hx 8
  clear hx
  have hx : (w3.alloc (.cells #[.string fu, .string ou, .int .i64 u0, .int .i64 u1, .int .i64 u2, .int .i64 u3, .int .i64 u4, .int .i64 u5, .int .i64 u6] 53)).heap[w.heap.size]? = some (.cells #[.string fu, .string ou, .int .i64 u0, .int .i64 u1, .int .i64 u2, .int .i64 u3, .int .i64 u4, .int .i64 u5, .int .i64 u6] 53 (0, 0)) := hm3.out.one _ (List.mem_cons_of_mem _ (List.mem_cons_of_mem _ (List.mem_cons_of_mem _ (List.mem_cons_of_mem _ (List.mem_cons_self ..)))))
  have cw_0 := cell_of_heap hx 0
  have cw_1 := cell_of_heap hx 1
  have cw_2 := cell_of_heap hx 2
  have cw_3 := cell_of_heap hx 3
  have cw_4 := cell_of_heap hx 4
  have cw_5 := cell_of_heap hx 5
  have cw_6 := cell_of_heap hx 6
  have cw_7 := cell_of_heap hx 7
  have cw_8 := cell_of_heap hx 8
  clear hx
  go_wp2_with fail
  clear cw3_0 cw3_1 cw3_2 cw3_3 cw3_4 cw3_5 cw3_6 cw3_7 cw3_8 cw_0 cw_1 cw_2 cw_3 cw_4 cw_5 cw_6 cw_7 cw_8
  refine (h4.out _ hm3.out.below).mono ?_
  rintro e w4 ⟨rfl, hb⟩
  have hk4 := Lib.hid (hm3.out.next hb)
  clear hb hm3
  have hm4 := Lib.hid (hk4.out.more #[.string fb, .string ob, .int .i64 b0, .int .i64 b1, .int .i64 b2, .int .i64 b3, .int .i64 b4, .int .i64 b5, .int .i64 b6] 53)
  clear hk4
  have hx : (w4.alloc (.cells #[.string fb, .string ob, .int .i64 b0, .int .i64 b1, .int .i64 b2, .int .i64 b3, .int .i64 b4, .int .i64 b5, .int .i64 b6] 53)).heap[w.heap.size]? = some (.cells #[.string fu, .string ou, .int .i64 u0, .int .i64 u1, .int .i64 u2, .int .i64 u3, .int .i64 u4, .int .i64 u5, .int .i64 u6] 53 (0, 0)) := hm4.out.one _ (List.mem_cons_of_mem _ (List.mem_cons_of_mem _ (List.mem_cons_of_mem _ (List.mem_cons_of_mem _ (List.mem_cons_of_mem _ (List.mem_cons_self ..))))))
  have cw_0 := cell_of_heap hx 0
  have cw_1 := cell_of_heap hx 1
  have cw_2 := cell_of_heap hx 2
  have cw_3 := cell_of_heap hx 3
  have cw_4 := cell_of_heap hx 4
  have cw_5 := cell_of_heap hx 5
  have cw_6 := cell_of_heap hx 6
  have cw_7 := cell_of_heap hx 7
  have cw_8 := cell_of_heap hx 8
  clear hx
  go_wp2_with fail
  clear cw_0 cw_1 cw_2 cw_3 cw_4 cw_5 cw_6 cw_7 cw_8
  refine (h5.out _ hm4.out.below).mono ?_
  rintro e w5 ⟨rfl, hb⟩
  have hk5 := Lib.hid (hm4.out.next hb)
  clear hb hm4
  have hm5 := Lib.hid (hk5.out.more #[.string fc, .string oc, .int .i64 c0, .int .i64 c1, .int .i64 c2, .int .i64 c3, .int .i64 c4, .int .i64 c5, .int .i64 c6] 53)
  clear hk5
  have hx : (w5.alloc (.cells #[.string fc, .string oc, .int .i64 c0, .int .i64 c1, .int .i64 c2, .int .i64 c3, .int .i64 c4, .int .i64 c5, .int .i64 c6] 53)).heap[w.heap.size]? = some (.cells #[.string fu, .string ou, .int .i64 u0, .int .i64 u1, .int .i64 u2, .int .i64 u3, .int .i64 u4, .int .i64 u5, .int .i64 u6] 53 (0, 0)) := hm5.out.one _ (List.mem_cons_of_mem _ (List.mem_cons_of_mem _ (List.mem_cons_of_mem _ (List.mem_cons_of_mem _ (List.mem_cons_of_mem _ (List.mem_cons_of_mem _ (List.mem_cons_self ..)))))))
  have cw_0 := cell_of_heap hx 0
  have cw_1 := cell_of_heap hx 1
  have cw_2 := cell_of_heap hx 2
  have cw_3 := cell_of_heap hx 3
  have cw_4 := cell_of_heap hx 4
  have cw_5 := cell_of_heap hx 5
  have cw_6 := cell_of_heap hx 6
  have cw_7 := cell_of_heap hx 7
  have cw_8 := cell_of_heap hx 8
  clear hx
  go_wp2_with fail
  clear cw_0 cw_1 cw_2 cw_3 cw_4 cw_5 cw_6 cw_7 cw_8
  refine (h6.out _ hm5.out.below).mono ?_
  rintro e w6 ⟨rfl, hb⟩
  have hk6 := Lib.hid (hm5.out.next hb)
  clear hb hm5
  have hm6 := Lib.hid (hk6.out.more #[.string fd, .string od, .int .i64 d0, .int .i64 d1, .int .i64 d2, .int .i64 d3, .int .i64 d4, .int .i64 d5, .int .i64 d6] 53)
  clear hk6
  have hx : (w6.alloc (.cells #[.string fd, .string od, .int .i64 d0, .int .i64 d1, .int .i64 d2, .int .i64 d3, .int .i64 d4, .int .i64 d5, .int .i64 d6] 53)).heap[w4.heap.size]? = some (.cells #[.string fb, .string ob, .int .i64 b0, .int .i64 b1, .int .i64 b2, .int .i64 b3, .int .i64 b4, .int .i64 b5, .int .i64 b6] 53 (0, 0)) := hm6.out.one _ (List.mem_cons_of_mem _ (List.mem_cons_of_mem _ (List.mem_cons_self ..)))
  have cw4_0 := cell_of_heap hx 0
  have cw4_1 := cell_of_heap hx 1
  have cw4_2 := cell_of_heap hx 2
  have cw4_3 := cell_of_heap hx 3
  have cw4_4 := cell_of_heap hx 4
  have cw4_5 := cell_of_heap hx 5
  have cw4_6 := cell_of_heap hx 6
  have cw4_7 := cell_of_heap hx 7
  have cw4_8 := cell_of_heap hx 8
  clear hx
  have hx : (w6.alloc (.cells #[.string fd, .string od, .int .i64 d0, .int .i64 d1, .int .i64 d2, .int .i64 d3, .int .i64 d4, .int .i64 d5, .int .i64 d6] 53)).heap[w5.heap.size]? = some (.cells #[.string fc, .string oc, .int .i64 c0, .int .i64 c1, .int .i64 c2, .int .i64 c3, .int .i64 c4, .int .i64 c5, .int .i64 c6] 53 (0, 0)) := hm6.out.one _ (List.mem_cons_of_mem _ (List.mem_cons_self ..))
  have cw5_0 := cell_of_heap hx 0
  have cw5_1 := cell_of_heap hx 1
  have cw5_2 := cell_of_heap hx 2
  have cw5_3 := cell_of_heap hx 3
  have cw5_4 := cell_of_heap hx 4
  have cw5_5 := cell_of_heap hx 5
  have cw5_6 := cell_of_heap hx 6
  have cw5_7 := cell_of_heap hx 7
  have cw5_8 := cell_of_heap hx 8
  clear hx
  go_wp2_with fail
  clear cw4_0 cw4_1 cw4_2 cw4_3 cw4_4 cw4_5 cw4_6 cw4_7 cw4_8 cw5_0 cw5_1 cw5_2 cw5_3 cw5_4 cw5_5 cw5_6 cw5_7 cw5_8
  refine (h7.out _ hm6.out.below).mono ?_
  rintro e w7 ⟨rfl, hb⟩
  have hk7 := Lib.hid (hm6.out.next hb)
  clear hb hm6
  have hm7 := Lib.hid (hk7.out.more #[.string fd, .string od, .int .i64 d0, .int .i64 d1, .int .i64 d2, .int .i64 d3, .int .i64 d4, .int .i64 d5, .int .i64 d6] 53)
  clear hk7
  have hx : (w7.alloc (.cells #[.string fd, .string od, .int .i64 d0, .int .i64 d1, .int .i64 d2, .int .i64 d3, .int .i64 d4, .int .i64 d5, .int .i64 d6] 53)).heap[w7.heap.size]? = some (.cells #[.string fd, .string od, .int .i64 d0, .int .i64 d1, .int .i64 d2, .int .i64 d3, .int .i64 d4, .int .i64 d5, .int .i64 d6] 53 (0, 0)) := hm7.out.one _ (List.mem_cons_self ..)
  have cw7_0 := cell_of_heap hx 0
  have cw7_1 := cell_of_heap hx 1
  have cw7_2 := cell_of_heap hx 2
  have cw7_3 := cell_of_heap hx 3
  have cw7_4 := cell_of_heap hx 4
  have cw7_5 := cell_of_heap hx 5
  have cw7_6 := cell_of_heap hx 6
  have cw7_7 := cell_of_heap hx 7
  have cw7_8 := cell_of_heap hx 8
  clear hx
  have hx : (w7.alloc (.cells #[.string fd, .string od, .int .i64 d0, .int .i64 d1, .int .i64 d2, .int .i64 d3, .int .i64 d4, .int .i64 d5, .int .i64 d6] 53)).heap[w6.heap.size]? = some (.cells #[.string fd, .string od, .int .i64 d0, .int .i64 d1, .int .i64 d2, .int .i64 d3, .int .i64 d4, .int .i64 d5, .int .i64 d6] 53 (0, 0)) := hm7.out.one _ (List.mem_cons_of_mem _ (List.mem_cons_self ..))
  have cw6_0 := cell_of_heap hx 0
  have cw6_1 := cell_of_heap hx 1
  have cw6_2 := cell_of_heap hx 2
  have cw6_3 := cell_of_heap hx 3
  have cw6_4 := cell_of_heap hx 4
  have cw6_5 := cell_of_heap hx 5
  have cw6_6 := cell_of_heap hx 6
  have cw6_7 := cell_of_heap hx 7
  have cw6_8 := cell_of_heap hx 8
  clear hx
  go_wp2_with fail
  clear cw7_0 cw7_1 cw7_2 cw7_3 cw7_4 cw7_5 cw7_6 cw7_7 cw7_8 cw6_0 cw6_1 cw6_2 cw6_3 cw6_4 cw6_5 cw6_6 cw6_7 cw6_8
  refine (hw.out _ hm7.out.below).mono ?_
  rintro e w9 ⟨rfl, hb⟩
  have hk9 := Lib.hid (hm7.out.next hb)
  clear hb hm7
  go_wp2_with fail
  refine bodyPost_ret (v := .bool true) (by simp [results, Tryz.results16, go_sem]) rfl ?_
  exact ⟨rfl, hk9.out.below⟩
set_option maxRecDepth 100000 in
set_option maxHeartbeats 1600000 in
theorem units_10 (fu ou : ByteArray) (u0 u1 u2 u3 u4 u5 u6 : Int) (fv ov : ByteArray) (v0 v1 v2 v3 v4 v5 v6 : Int) (fa oa : ByteArray) (a0 a1 a2 a3 a4 a5 a6 : Int) (e1 : Int)  (m n : Int) (w : World) (h1 : Hid (∀ W, Below w.heap.size w W → Calls Tryz.prog 60 #[.agg #[.string fu, .string ou, .int .i64 u0, .int .i64 u1, .int .i64 u2, .int .i64 u3, .int .i64 u4, .int .i64 u5, .int .i64 u6], .agg #[.string fv, .string ov, .int .i64 v0, .int .i64 v1, .int .i64 v2, .int .i64 v3, .int .i64 v4, .int .i64 v5, .int .i64 v6]] W (fun e w' => e = .returned (.tuple #[.agg #[.string fa, .string oa, .int .i64 a0, .int .i64 a1, .int .i64 a2, .int .i64 a3, .int .i64 a4, .int .i64 a5, .int .i64 a6], .int .i64 e1]) ∧ Below W.heap.size W w'))) (h2 : Hid (∀ W, Below w.heap.size w W → Calls Tryz.prog 60 #[.agg #[.string fv, .string ov, .int .i64 v0, .int .i64 v1, .int .i64 v2, .int .i64 v3, .int .i64 v4, .int .i64 v5, .int .i64 v6], .agg #[.string fu, .string ou, .int .i64 u0, .int .i64 u1, .int .i64 u2, .int .i64 u3, .int .i64 u4, .int .i64 u5, .int .i64 u6]] W (fun e w' => e = .returned (.tuple #[.agg #[.string fa, .string oa, .int .i64 a0, .int .i64 a1, .int .i64 a2, .int .i64 a3, .int .i64 a4, .int .i64 a5, .int .i64 a6], .int .i64 e1]) ∧ Below W.heap.size W w'))) (he : e1 ≠ 0) (hm : m < -12) (hw : Hid (AwakeIs w)) : Calls Tryz.prog 16 #[.agg #[.string fu, .string ou, .int .i64 u0, .int .i64 u1, .int .i64 u2, .int .i64 u3, .int .i64 u4, .int .i64 u5, .int .i64 u6], .agg #[.string fv, .string ov, .int .i64 v0, .int .i64 v1, .int .i64 v2, .int .i64 v3, .int .i64 v4, .int .i64 v5, .int .i64 v6], .int .i64 m, .int .i64 n] w (OrdPost w) := by
  have hk0 : Hid (Keep w ((w.alloc (.cells #[.string fu, .string ou, .int .i64 u0, .int .i64 u1, .int .i64 u2, .int .i64 u3, .int .i64 u4, .int .i64 u5, .int .i64 u6] 53)).alloc (.cells #[.string fv, .string ov, .int .i64 v0, .int .i64 v1, .int .i64 v2, .int .i64 v3, .int .i64 v4, .int .i64 v5, .int .i64 v6] 53)) [(w.heap.size + 1, #[.string fv, .string ov, .int .i64 v0, .int .i64 v1, .int .i64 v2, .int .i64 v3, .int .i64 v4, .int .i64 v5, .int .i64 v6], 53), (w.heap.size, #[.string fu, .string ou, .int .i64 u0, .int .i64 u1, .int .i64 u2, .int .i64 u3, .int .i64 u4, .int .i64 u5, .int .i64 u6], 53)]) := Lib.hid (Keep.two w _ _ 53 53)
  go_enter Tryz.func16, Tryz.ntmps16
  go_wp2_with fail
  have hqa := powers_same a0 a1 a2 a3 a4 a5 a6
  refine (h1.out _ hk0.out.below).mono ?_
  rintro e w1 ⟨rfl, hb⟩
  have hk1 := Lib.hid (hk0.out.next hb)
  clear hb hk0
  have hm1 := Lib.hid (hk1.out.more #[.string fa, .string oa, .int .i64 a0, .int .i64 a1, .int .i64 a2, .int .i64 a3, .int .i64 a4, .int .i64 a5, .int .i64 a6] 53)
  clear hk1
  have hx : (w1.alloc (.cells #[.string fa, .string oa, .int .i64 a0, .int .i64 a1, .int .i64 a2, .int .i64 a3, .int .i64 a4, .int .i64 a5, .int .i64 a6] 53)).heap[w.heap.size + 1]? = some (.cells #[.string fv, .string ov, .int .i64 v0, .int .i64 v1, .int .i64 v2, .int .i64 v3, .int .i64 v4, .int .i64 v5, .int .i64 v6] 53 (0, 0)) := hm1.out.one _ (List.mem_cons_of_mem _ (List.mem_cons_self ..))
  have cwb_0 := cell_of_heap hx 0
  have cwb_1 := cell_of_heap hx 1
  have cwb_2 := cell_of_heap hx 2
  have cwb_3 := cell_of_heap hx 3
  have cwb_4 := cell_of_heap hx 4
  have cwb_5 := cell_of_heap hx 5
  have cwb_6 := cell_of_heap hx 6
  have cwb_7 := cell_of_heap hx 7
  have cwb_8 := cell_of_heap hx 8
  clear hx
  have hx : (w1.alloc (.cells #[.string fa, .string oa, .int .i64 a0, .int .i64 a1, .int .i64 a2, .int .i64 a3, .int .i64 a4, .int .i64 a5, .int .i64 a6] 53)).heap[w.heap.size]? = some (.cells #[.string fu, .string ou, .int .i64 u0, .int .i64 u1, .int .i64 u2, .int .i64 u3, .int .i64 u4, .int .i64 u5, .int .i64 u6] 53 (0, 0)) := hm1.out.one _ (List.mem_cons_of_mem _ (List.mem_cons_of_mem _ (List.mem_cons_self ..)))
  have cw_0 := cell_of_heap hx 0
  have cw_1 := cell_of_heap hx 1
  have cw_2 := cell_of_heap hx 2
  have cw_3 := cell_of_heap hx 3
  have cw_4 := cell_of_heap hx 4
  have cw_5 := cell_of_heap hx 5
  have cw_6 := cell_of_heap hx 6
  have cw_7 := cell_of_heap hx 7
  have cw_8 := cell_of_heap hx 8
  clear hx
  go_wp2_with fail
  clear cwb_0 cwb_1 cwb_2 cwb_3 cwb_4 cwb_5 cwb_6 cwb_7 cwb_8 cw_0 cw_1 cw_2 cw_3 cw_4 cw_5 cw_6 cw_7 cw_8
  refine (h2.out _ hm1.out.below).mono ?_
  rintro e w2 ⟨rfl, hb⟩
  have hk2 := Lib.hid (hm1.out.next hb)
  clear hb hm1
  have hm2 := Lib.hid (hk2.out.more #[.string fa, .string oa, .int .i64 a0, .int .i64 a1, .int .i64 a2, .int .i64 a3, .int .i64 a4, .int .i64 a5, .int .i64 a6] 53)
  clear hk2
  have hx : (w2.alloc (.cells #[.string fa, .string oa, .int .i64 a0, .int .i64 a1, .int .i64 a2, .int .i64 a3, .int .i64 a4, .int .i64 a5, .int .i64 a6] 53)).heap[w1.heap.size]? = some (.cells #[.string fa, .string oa, .int .i64 a0, .int .i64 a1, .int .i64 a2, .int .i64 a3, .int .i64 a4, .int .i64 a5, .int .i64 a6] 53 (0, 0)) := hm2.out.one _ (List.mem_cons_of_mem _ (List.mem_cons_self ..))
  have cw1_0 := cell_of_heap hx 0
  have cw1_1 := cell_of_heap hx 1
  have cw1_2 := cell_of_heap hx 2
  have cw1_3 := cell_of_heap hx 3
  have cw1_4 := cell_of_heap hx 4
  have cw1_5 := cell_of_heap hx 5
  have cw1_6 := cell_of_heap hx 6
  have cw1_7 := cell_of_heap hx 7
  have cw1_8 := cell_of_heap hx 8
  clear hx
  have hx : (w2.alloc (.cells #[.string fa, .string oa, .int .i64 a0, .int .i64 a1, .int .i64 a2, .int .i64 a3, .int .i64 a4, .int .i64 a5, .int .i64 a6] 53)).heap[w2.heap.size]? = some (.cells #[.string fa, .string oa, .int .i64 a0, .int .i64 a1, .int .i64 a2, .int .i64 a3, .int .i64 a4, .int .i64 a5, .int .i64 a6] 53 (0, 0)) := hm2.out.one _ (List.mem_cons_self ..)
  have cw2_0 := cell_of_heap hx 0
  have cw2_1 := cell_of_heap hx 1
  have cw2_2 := cell_of_heap hx 2
  have cw2_3 := cell_of_heap hx 3
  have cw2_4 := cell_of_heap hx 4
  have cw2_5 := cell_of_heap hx 5
  have cw2_6 := cell_of_heap hx 6
  have cw2_7 := cell_of_heap hx 7
  have cw2_8 := cell_of_heap hx 8
  clear hx
  go_wp2_with fail
  refine (hw.out _ hm2.out.below).mono ?_
  rintro e w9 ⟨rfl, hb⟩
  have hk9 := Lib.hid (hm2.out.next hb)
  clear hb hm2
  go_wp2_with fail
  refine bodyPost_ret (v := .bool true) (by simp [results, Tryz.results16, go_sem]) rfl ?_
  exact ⟨rfl, hk9.out.below⟩
set_option maxRecDepth 100000 in
set_option maxHeartbeats 1600000 in
theorem units_11 (fu ou : ByteArray) (u0 u1 u2 u3 u4 u5 u6 : Int) (fv ov : ByteArray) (v0 v1 v2 v3 v4 v5 v6 : Int) (fa oa : ByteArray) (a0 a1 a2 a3 a4 a5 a6 : Int) (e1 : Int)  (m n : Int) (w : World) (h1 : Hid (∀ W, Below w.heap.size w W → Calls Tryz.prog 60 #[.agg #[.string fu, .string ou, .int .i64 u0, .int .i64 u1, .int .i64 u2, .int .i64 u3, .int .i64 u4, .int .i64 u5, .int .i64 u6], .agg #[.string fv, .string ov, .int .i64 v0, .int .i64 v1, .int .i64 v2, .int .i64 v3, .int .i64 v4, .int .i64 v5, .int .i64 v6]] W (fun e w' => e = .returned (.tuple #[.agg #[.string fa, .string oa, .int .i64 a0, .int .i64 a1, .int .i64 a2, .int .i64 a3, .int .i64 a4, .int .i64 a5, .int .i64 a6], .int .i64 e1]) ∧ Below W.heap.size W w'))) (h2 : Hid (∀ W, Below w.heap.size w W → Calls Tryz.prog 60 #[.agg #[.string fv, .string ov, .int .i64 v0, .int .i64 v1, .int .i64 v2, .int .i64 v3, .int .i64 v4, .int .i64 v5, .int .i64 v6], .agg #[.string fu, .string ou, .int .i64 u0, .int .i64 u1, .int .i64 u2, .int .i64 u3, .int .i64 u4, .int .i64 u5, .int .i64 u6]] W (fun e w' => e = .returned (.tuple #[.agg #[.string fa, .string oa, .int .i64 a0, .int .i64 a1, .int .i64 a2, .int .i64 a3, .int .i64 a4, .int .i64 a5, .int .i64 a6], .int .i64 e1]) ∧ Below W.heap.size W w'))) (he : e1 ≠ 0) (hm : ¬ m < -12) (hm2 : 12 < m) (hw : Hid (AwakeIs w)) : Calls Tryz.prog 16 #[.agg #[.string fu, .string ou, .int .i64 u0, .int .i64 u1, .int .i64 u2, .int .i64 u3, .int .i64 u4, .int .i64 u5, .int .i64 u6], .agg #[.string fv, .string ov, .int .i64 v0, .int .i64 v1, .int .i64 v2, .int .i64 v3, .int .i64 v4, .int .i64 v5, .int .i64 v6], .int .i64 m, .int .i64 n] w (OrdPost w) := by
  have hk0 : Hid (Keep w ((w.alloc (.cells #[.string fu, .string ou, .int .i64 u0, .int .i64 u1, .int .i64 u2, .int .i64 u3, .int .i64 u4, .int .i64 u5, .int .i64 u6] 53)).alloc (.cells #[.string fv, .string ov, .int .i64 v0, .int .i64 v1, .int .i64 v2, .int .i64 v3, .int .i64 v4, .int .i64 v5, .int .i64 v6] 53)) [(w.heap.size + 1, #[.string fv, .string ov, .int .i64 v0, .int .i64 v1, .int .i64 v2, .int .i64 v3, .int .i64 v4, .int .i64 v5, .int .i64 v6], 53), (w.heap.size, #[.string fu, .string ou, .int .i64 u0, .int .i64 u1, .int .i64 u2, .int .i64 u3, .int .i64 u4, .int .i64 u5, .int .i64 u6], 53)]) := Lib.hid (Keep.two w _ _ 53 53)
  go_enter Tryz.func16, Tryz.ntmps16
  go_wp2_with fail
  have hqa := powers_same a0 a1 a2 a3 a4 a5 a6
  refine (h1.out _ hk0.out.below).mono ?_
  rintro e w1 ⟨rfl, hb⟩
  have hk1 := Lib.hid (hk0.out.next hb)
  clear hb hk0
  have hm1 := Lib.hid (hk1.out.more #[.string fa, .string oa, .int .i64 a0, .int .i64 a1, .int .i64 a2, .int .i64 a3, .int .i64 a4, .int .i64 a5, .int .i64 a6] 53)
  clear hk1
  have hx : (w1.alloc (.cells #[.string fa, .string oa, .int .i64 a0, .int .i64 a1, .int .i64 a2, .int .i64 a3, .int .i64 a4, .int .i64 a5, .int .i64 a6] 53)).heap[w.heap.size + 1]? = some (.cells #[.string fv, .string ov, .int .i64 v0, .int .i64 v1, .int .i64 v2, .int .i64 v3, .int .i64 v4, .int .i64 v5, .int .i64 v6] 53 (0, 0)) := hm1.out.one _ (List.mem_cons_of_mem _ (List.mem_cons_self ..))
  have cwb_0 := cell_of_heap hx 0
  have cwb_1 := cell_of_heap hx 1
  have cwb_2 := cell_of_heap hx 2
  have cwb_3 := cell_of_heap hx 3
  have cwb_4 := cell_of_heap hx 4
  have cwb_5 := cell_of_heap hx 5
  have cwb_6 := cell_of_heap hx 6
  have cwb_7 := cell_of_heap hx 7
  have cwb_8 := cell_of_heap hx 8
  clear hx
  have hx : (w1.alloc (.cells #[.string fa, .string oa, .int .i64 a0, .int .i64 a1, .int .i64 a2, .int .i64 a3, .int .i64 a4, .int .i64 a5, .int .i64 a6] 53)).heap[w.heap.size]? = some (.cells #[.string fu, .string ou, .int .i64 u0, .int .i64 u1, .int .i64 u2, .int .i64 u3, .int .i64 u4, .int .i64 u5, .int .i64 u6] 53 (0, 0)) := hm1.out.one _ (List.mem_cons_of_mem _ (List.mem_cons_of_mem _ (List.mem_cons_self ..)))
  have cw_0 := cell_of_heap hx 0
  have cw_1 := cell_of_heap hx 1
  have cw_2 := cell_of_heap hx 2
  have cw_3 := cell_of_heap hx 3
  have cw_4 := cell_of_heap hx 4
  have cw_5 := cell_of_heap hx 5
  have cw_6 := cell_of_heap hx 6
  have cw_7 := cell_of_heap hx 7
  have cw_8 := cell_of_heap hx 8
  clear hx
  go_wp2_with fail
  clear cwb_0 cwb_1 cwb_2 cwb_3 cwb_4 cwb_5 cwb_6 cwb_7 cwb_8 cw_0 cw_1 cw_2 cw_3 cw_4 cw_5 cw_6 cw_7 cw_8
  refine (h2.out _ hm1.out.below).mono ?_
  rintro e w2 ⟨rfl, hb⟩
  have hk2 := Lib.hid (hm1.out.next hb)
  clear hb hm1
  have hm2 := Lib.hid (hk2.out.more #[.string fa, .string oa, .int .i64 a0, .int .i64 a1, .int .i64 a2, .int .i64 a3, .int .i64 a4, .int .i64 a5, .int .i64 a6] 53)
  clear hk2
  have hx : (w2.alloc (.cells #[.string fa, .string oa, .int .i64 a0, .int .i64 a1, .int .i64 a2, .int .i64 a3, .int .i64 a4, .int .i64 a5, .int .i64 a6] 53)).heap[w1.heap.size]? = some (.cells #[.string fa, .string oa, .int .i64 a0, .int .i64 a1, .int .i64 a2, .int .i64 a3, .int .i64 a4, .int .i64 a5, .int .i64 a6] 53 (0, 0)) := hm2.out.one _ (List.mem_cons_of_mem _ (List.mem_cons_self ..))
  have cw1_0 := cell_of_heap hx 0
  have cw1_1 := cell_of_heap hx 1
  have cw1_2 := cell_of_heap hx 2
  have cw1_3 := cell_of_heap hx 3
  have cw1_4 := cell_of_heap hx 4
  have cw1_5 := cell_of_heap hx 5
  have cw1_6 := cell_of_heap hx 6
  have cw1_7 := cell_of_heap hx 7
  have cw1_8 := cell_of_heap hx 8
  clear hx
  have hx : (w2.alloc (.cells #[.string fa, .string oa, .int .i64 a0, .int .i64 a1, .int .i64 a2, .int .i64 a3, .int .i64 a4, .int .i64 a5, .int .i64 a6] 53)).heap[w2.heap.size]? = some (.cells #[.string fa, .string oa, .int .i64 a0, .int .i64 a1, .int .i64 a2, .int .i64 a3, .int .i64 a4, .int .i64 a5, .int .i64 a6] 53 (0, 0)) := hm2.out.one _ (List.mem_cons_self ..)
  have cw2_0 := cell_of_heap hx 0
  have cw2_1 := cell_of_heap hx 1
  have cw2_2 := cell_of_heap hx 2
  have cw2_3 := cell_of_heap hx 3
  have cw2_4 := cell_of_heap hx 4
  have cw2_5 := cell_of_heap hx 5
  have cw2_6 := cell_of_heap hx 6
  have cw2_7 := cell_of_heap hx 7
  have cw2_8 := cell_of_heap hx 8
  clear hx
  go_wp2_with fail
  refine (hw.out _ hm2.out.below).mono ?_
  rintro e w9 ⟨rfl, hb⟩
  have hk9 := Lib.hid (hm2.out.next hb)
  clear hb hm2
  go_wp2_with fail
  refine bodyPost_ret (v := .bool true) (by simp [results, Tryz.results16, go_sem]) rfl ?_
  exact ⟨rfl, hk9.out.below⟩
set_option maxRecDepth 100000 in
set_option maxHeartbeats 1600000 in
theorem units_12 (fu ou : ByteArray) (u0 u1 u2 u3 u4 u5 u6 : Int) (fv ov : ByteArray) (v0 v1 v2 v3 v4 v5 v6 : Int) (fa oa : ByteArray) (a0 a1 a2 a3 a4 a5 a6 : Int) (e1 : Int)  (m n : Int) (w : World) (h1 : Hid (∀ W, Below w.heap.size w W → Calls Tryz.prog 60 #[.agg #[.string fu, .string ou, .int .i64 u0, .int .i64 u1, .int .i64 u2, .int .i64 u3, .int .i64 u4, .int .i64 u5, .int .i64 u6], .agg #[.string fv, .string ov, .int .i64 v0, .int .i64 v1, .int .i64 v2, .int .i64 v3, .int .i64 v4, .int .i64 v5, .int .i64 v6]] W (fun e w' => e = .returned (.tuple #[.agg #[.string fa, .string oa, .int .i64 a0, .int .i64 a1, .int .i64 a2, .int .i64 a3, .int .i64 a4, .int .i64 a5, .int .i64 a6], .int .i64 e1]) ∧ Below W.heap.size W w'))) (h2 : Hid (∀ W, Below w.heap.size w W → Calls Tryz.prog 60 #[.agg #[.string fv, .string ov, .int .i64 v0, .int .i64 v1, .int .i64 v2, .int .i64 v3, .int .i64 v4, .int .i64 v5, .int .i64 v6], .agg #[.string fu, .string ou, .int .i64 u0, .int .i64 u1, .int .i64 u2, .int .i64 u3, .int .i64 u4, .int .i64 u5, .int .i64 u6]] W (fun e w' => e = .returned (.tuple #[.agg #[.string fa, .string oa, .int .i64 a0, .int .i64 a1, .int .i64 a2, .int .i64 a3, .int .i64 a4, .int .i64 a5, .int .i64 a6], .int .i64 e1]) ∧ Below W.heap.size W w'))) (he : e1 ≠ 0) (hm : ¬ m < -12) (hm2 : ¬ 12 < m) (hn : n < -12) (hw : Hid (AwakeIs w)) : Calls Tryz.prog 16 #[.agg #[.string fu, .string ou, .int .i64 u0, .int .i64 u1, .int .i64 u2, .int .i64 u3, .int .i64 u4, .int .i64 u5, .int .i64 u6], .agg #[.string fv, .string ov, .int .i64 v0, .int .i64 v1, .int .i64 v2, .int .i64 v3, .int .i64 v4, .int .i64 v5, .int .i64 v6], .int .i64 m, .int .i64 n] w (OrdPost w) := by
  have hk0 : Hid (Keep w ((w.alloc (.cells #[.string fu, .string ou, .int .i64 u0, .int .i64 u1, .int .i64 u2, .int .i64 u3, .int .i64 u4, .int .i64 u5, .int .i64 u6] 53)).alloc (.cells #[.string fv, .string ov, .int .i64 v0, .int .i64 v1, .int .i64 v2, .int .i64 v3, .int .i64 v4, .int .i64 v5, .int .i64 v6] 53)) [(w.heap.size + 1, #[.string fv, .string ov, .int .i64 v0, .int .i64 v1, .int .i64 v2, .int .i64 v3, .int .i64 v4, .int .i64 v5, .int .i64 v6], 53), (w.heap.size, #[.string fu, .string ou, .int .i64 u0, .int .i64 u1, .int .i64 u2, .int .i64 u3, .int .i64 u4, .int .i64 u5, .int .i64 u6], 53)]) := Lib.hid (Keep.two w _ _ 53 53)
  go_enter Tryz.func16, Tryz.ntmps16
  go_wp2_with fail
  have hqa := powers_same a0 a1 a2 a3 a4 a5 a6
  refine (h1.out _ hk0.out.below).mono ?_
  rintro e w1 ⟨rfl, hb⟩
  have hk1 := Lib.hid (hk0.out.next hb)
  clear hb hk0
  have hm1 := Lib.hid (hk1.out.more #[.string fa, .string oa, .int .i64 a0, .int .i64 a1, .int .i64 a2, .int .i64 a3, .int .i64 a4, .int .i64 a5, .int .i64 a6] 53)
  clear hk1
  have hx : (w1.alloc (.cells #[.string fa, .string oa, .int .i64 a0, .int .i64 a1, .int .i64 a2, .int .i64 a3, .int .i64 a4, .int .i64 a5, .int .i64 a6] 53)).heap[w.heap.size + 1]? = some (.cells #[.string fv, .string ov, .int .i64 v0, .int .i64 v1, .int .i64 v2, .int .i64 v3, .int .i64 v4, .int .i64 v5, .int .i64 v6] 53 (0, 0)) := hm1.out.one _ (List.mem_cons_of_mem _ (List.mem_cons_self ..))
  have cwb_0 := cell_of_heap hx 0
  have cwb_1 := cell_of_heap hx 1
  have cwb_2 := cell_of_heap hx 2
  have cwb_3 := cell_of_heap hx 3
  have cwb_4 := cell_of_heap hx 4
  have cwb_5 := cell_of_heap hx 5
  have cwb_6 := cell_of_heap hx 6
  have cwb_7 := cell_of_heap hx 7
  have cwb_8 := cell_of_heap hx 8
  clear hx
  have hx : (w1.alloc (.cells #[.string fa, .string oa, .int .i64 a0, .int .i64 a1, .int .i64 a2, .int .i64 a3, .int .i64 a4, .int .i64 a5, .int .i64 a6] 53)).heap[w.heap.size]? = some (.cells #[.string fu, .string ou, .int .i64 u0, .int .i64 u1, .int .i64 u2, .int .i64 u3, .int .i64 u4, .int .i64 u5, .int .i64 u6] 53 (0, 0)) := hm1.out.one _ (List.mem_cons_of_mem _ (List.mem_cons_of_mem _ (List.mem_cons_self ..)))
  have cw_0 := cell_of_heap hx 0
  have cw_1 := cell_of_heap hx 1
  have cw_2 := cell_of_heap hx 2
  have cw_3 := cell_of_heap hx 3
  have cw_4 := cell_of_heap hx 4
  have cw_5 := cell_of_heap hx 5
  have cw_6 := cell_of_heap hx 6
  have cw_7 := cell_of_heap hx 7
  have cw_8 := cell_of_heap hx 8
  clear hx
  go_wp2_with fail
  clear cwb_0 cwb_1 cwb_2 cwb_3 cwb_4 cwb_5 cwb_6 cwb_7 cwb_8 cw_0 cw_1 cw_2 cw_3 cw_4 cw_5 cw_6 cw_7 cw_8
  refine (h2.out _ hm1.out.below).mono ?_
  rintro e w2 ⟨rfl, hb⟩
  have hk2 := Lib.hid (hm1.out.next hb)
  clear hb hm1
  have hm2 := Lib.hid (hk2.out.more #[.string fa, .string oa, .int .i64 a0, .int .i64 a1, .int .i64 a2, .int .i64 a3, .int .i64 a4, .int .i64 a5, .int .i64 a6] 53)
  clear hk2
  have hx : (w2.alloc (.cells #[.string fa, .string oa, .int .i64 a0, .int .i64 a1, .int .i64 a2, .int .i64 a3, .int .i64 a4, .int .i64 a5, .int .i64 a6] 53)).heap[w1.heap.size]? = some (.cells #[.string fa, .string oa, .int .i64 a0, .int .i64 a1, .int .i64 a2, .int .i64 a3, .int .i64 a4, .int .i64 a5, .int .i64 a6] 53 (0, 0)) := hm2.out.one _ (List.mem_cons_of_mem _ (List.mem_cons_self ..))
  have cw1_0 := cell_of_heap hx 0
  have cw1_1 := cell_of_heap hx 1
  have cw1_2 := cell_of_heap hx 2
  have cw1_3 := cell_of_heap hx 3
  have cw1_4 := cell_of_heap hx 4
  have cw1_5 := cell_of_heap hx 5
  have cw1_6 := cell_of_heap hx 6
  have cw1_7 := cell_of_heap hx 7
  have cw1_8 := cell_of_heap hx 8
  clear hx
  have hx : (w2.alloc (.cells #[.string fa, .string oa, .int .i64 a0, .int .i64 a1, .int .i64 a2, .int .i64 a3, .int .i64 a4, .int .i64 a5, .int .i64 a6] 53)).heap[w2.heap.size]? = some (.cells #[.string fa, .string oa, .int .i64 a0, .int .i64 a1, .int .i64 a2, .int .i64 a3, .int .i64 a4, .int .i64 a5, .int .i64 a6] 53 (0, 0)) := hm2.out.one _ (List.mem_cons_self ..)
  have cw2_0 := cell_of_heap hx 0
  have cw2_1 := cell_of_heap hx 1
  have cw2_2 := cell_of_heap hx 2
  have cw2_3 := cell_of_heap hx 3
  have cw2_4 := cell_of_heap hx 4
  have cw2_5 := cell_of_heap hx 5
  have cw2_6 := cell_of_heap hx 6
  have cw2_7 := cell_of_heap hx 7
  have cw2_8 := cell_of_heap hx 8
  clear hx
  go_wp2_with fail
  refine (hw.out _ hm2.out.below).mono ?_
  rintro e w9 ⟨rfl, hb⟩
  have hk9 := Lib.hid (hm2.out.next hb)
  clear hb hm2
  go_wp2_with fail
  refine bodyPost_ret (v := .bool true) (by simp [results, Tryz.results16, go_sem]) rfl ?_
  exact ⟨rfl, hk9.out.below⟩
set_option maxRecDepth 100000 in
set_option maxHeartbeats 1600000 in
theorem units_13 (fu ou : ByteArray) (u0 u1 u2 u3 u4 u5 u6 : Int) (fv ov : ByteArray) (v0 v1 v2 v3 v4 v5 v6 : Int) (fa oa : ByteArray) (a0 a1 a2 a3 a4 a5 a6 : Int) (e1 : Int)  (m n : Int) (w : World) (h1 : Hid (∀ W, Below w.heap.size w W → Calls Tryz.prog 60 #[.agg #[.string fu, .string ou, .int .i64 u0, .int .i64 u1, .int .i64 u2, .int .i64 u3, .int .i64 u4, .int .i64 u5, .int .i64 u6], .agg #[.string fv, .string ov, .int .i64 v0, .int .i64 v1, .int .i64 v2, .int .i64 v3, .int .i64 v4, .int .i64 v5, .int .i64 v6]] W (fun e w' => e = .returned (.tuple #[.agg #[.string fa, .string oa, .int .i64 a0, .int .i64 a1, .int .i64 a2, .int .i64 a3, .int .i64 a4, .int .i64 a5, .int .i64 a6], .int .i64 e1]) ∧ Below W.heap.size W w'))) (h2 : Hid (∀ W, Below w.heap.size w W → Calls Tryz.prog 60 #[.agg #[.string fv, .string ov, .int .i64 v0, .int .i64 v1, .int .i64 v2, .int .i64 v3, .int .i64 v4, .int .i64 v5, .int .i64 v6], .agg #[.string fu, .string ou, .int .i64 u0, .int .i64 u1, .int .i64 u2, .int .i64 u3, .int .i64 u4, .int .i64 u5, .int .i64 u6]] W (fun e w' => e = .returned (.tuple #[.agg #[.string fa, .string oa, .int .i64 a0, .int .i64 a1, .int .i64 a2, .int .i64 a3, .int .i64 a4, .int .i64 a5, .int .i64 a6], .int .i64 e1]) ∧ Below W.heap.size W w'))) (he : e1 ≠ 0) (hm : ¬ m < -12) (hm2 : ¬ 12 < m) (hn : ¬ n < -12) (hn2 : 12 < n) (hw : Hid (AwakeIs w)) : Calls Tryz.prog 16 #[.agg #[.string fu, .string ou, .int .i64 u0, .int .i64 u1, .int .i64 u2, .int .i64 u3, .int .i64 u4, .int .i64 u5, .int .i64 u6], .agg #[.string fv, .string ov, .int .i64 v0, .int .i64 v1, .int .i64 v2, .int .i64 v3, .int .i64 v4, .int .i64 v5, .int .i64 v6], .int .i64 m, .int .i64 n] w (OrdPost w) := by
  have hk0 : Hid (Keep w ((w.alloc (.cells #[.string fu, .string ou, .int .i64 u0, .int .i64 u1, .int .i64 u2, .int .i64 u3, .int .i64 u4, .int .i64 u5, .int .i64 u6] 53)).alloc (.cells #[.string fv, .string ov, .int .i64 v0, .int .i64 v1, .int .i64 v2, .int .i64 v3, .int .i64 v4, .int .i64 v5, .int .i64 v6] 53)) [(w.heap.size + 1, #[.string fv, .string ov, .int .i64 v0, .int .i64 v1, .int .i64 v2, .int .i64 v3, .int .i64 v4, .int .i64 v5, .int .i64 v6], 53), (w.heap.size, #[.string fu, .string ou, .int .i64 u0, .int .i64 u1, .int .i64 u2, .int .i64 u3, .int .i64 u4, .int .i64 u5, .int .i64 u6], 53)]) := Lib.hid (Keep.two w _ _ 53 53)
  go_enter Tryz.func16, Tryz.ntmps16
  go_wp2_with fail
  have hqa := powers_same a0 a1 a2 a3 a4 a5 a6
  refine (h1.out _ hk0.out.below).mono ?_
  rintro e w1 ⟨rfl, hb⟩
  have hk1 := Lib.hid (hk0.out.next hb)
  clear hb hk0
  have hm1 := Lib.hid (hk1.out.more #[.string fa, .string oa, .int .i64 a0, .int .i64 a1, .int .i64 a2, .int .i64 a3, .int .i64 a4, .int .i64 a5, .int .i64 a6] 53)
  clear hk1
  have hx : (w1.alloc (.cells #[.string fa, .string oa, .int .i64 a0, .int .i64 a1, .int .i64 a2, .int .i64 a3, .int .i64 a4, .int .i64 a5, .int .i64 a6] 53)).heap[w.heap.size + 1]? = some (.cells #[.string fv, .string ov, .int .i64 v0, .int .i64 v1, .int .i64 v2, .int .i64 v3, .int .i64 v4, .int .i64 v5, .int .i64 v6] 53 (0, 0)) := hm1.out.one _ (List.mem_cons_of_mem _ (List.mem_cons_self ..))
  have cwb_0 := cell_of_heap hx 0
  have cwb_1 := cell_of_heap hx 1
  have cwb_2 := cell_of_heap hx 2
  have cwb_3 := cell_of_heap hx 3
  have cwb_4 := cell_of_heap hx 4
  have cwb_5 := cell_of_heap hx 5
  have cwb_6 := cell_of_heap hx 6
  have cwb_7 := cell_of_heap hx 7
  have cwb_8 := cell_of_heap hx 8
  clear hx
  have hx : (w1.alloc (.cells #[.string fa, .string oa, .int .i64 a0, .int .i64 a1, .int .i64 a2, .int .i64 a3, .int .i64 a4, .int .i64 a5, .int .i64 a6] 53)).heap[w.heap.size]? = some (.cells #[.string fu, .string ou, .int .i64 u0, .int .i64 u1, .int .i64 u2, .int .i64 u3, .int .i64 u4, .int .i64 u5, .int .i64 u6] 53 (0, 0)) := hm1.out.one _ (List.mem_cons_of_mem _ (List.mem_cons_of_mem _ (List.mem_cons_self ..)))
  have cw_0 := cell_of_heap hx 0
  have cw_1 := cell_of_heap hx 1
  have cw_2 := cell_of_heap hx 2
  have cw_3 := cell_of_heap hx 3
  have cw_4 := cell_of_heap hx 4
  have cw_5 := cell_of_heap hx 5
  have cw_6 := cell_of_heap hx 6
  have cw_7 := cell_of_heap hx 7
  have cw_8 := cell_of_heap hx 8
  clear hx
  go_wp2_with fail
  clear cwb_0 cwb_1 cwb_2 cwb_3 cwb_4 cwb_5 cwb_6 cwb_7 cwb_8 cw_0 cw_1 cw_2 cw_3 cw_4 cw_5 cw_6 cw_7 cw_8
  refine (h2.out _ hm1.out.below).mono ?_
  rintro e w2 ⟨rfl, hb⟩
  have hk2 := Lib.hid (hm1.out.next hb)
  clear hb hm1
  have hm2 := Lib.hid (hk2.out.more #[.string fa, .string oa, .int .i64 a0, .int .i64 a1, .int .i64 a2, .int .i64 a3, .int .i64 a4, .int .i64 a5, .int .i64 a6] 53)
  clear hk2
  have hx : (w2.alloc (.cells #[.string fa, .string oa, .int .i64 a0, .int .i64 a1, .int .i64 a2, .int .i64 a3, .int .i64 a4, .int .i64 a5, .int .i64 a6] 53)).heap[w1.heap.size]? = some (.cells #[.string fa, .string oa, .int .i64 a0, .int .i64 a1, .int .i64 a2, .int .i64 a3, .int .i64 a4, .int .i64 a5, .int .i64 a6] 53 (0, 0)) := hm2.out.one _ (List.mem_cons_of_mem _ (List.mem_cons_self ..))
  have cw1_0 := cell_of_heap hx 0
  have cw1_1 := cell_of_heap hx 1
  have cw1_2 := cell_of_heap hx 2
  have cw1_3 := cell_of_heap hx 3
  have cw1_4 := cell_of_heap hx 4
  have cw1_5 := cell_of_heap hx 5
  have cw1_6 := cell_of_heap hx 6
  have cw1_7 := cell_of_heap hx 7
  have cw1_8 := cell_of_heap hx 8
  clear hx
  have hx : (w2.alloc (.cells #[.string fa, .string oa, .int .i64 a0, .int .i64 a1, .int .i64 a2, .int .i64 a3, .int .i64 a4, .int .i64 a5, .int .i64 a6] 53)).heap[w2.heap.size]? = some (.cells #[.string fa, .string oa, .int .i64 a0, .int .i64 a1, .int .i64 a2, .int .i64 a3, .int .i64 a4, .int .i64 a5, .int .i64 a6] 53 (0, 0)) := hm2.out.one _ (List.mem_cons_self ..)
  have cw2_0 := cell_of_heap hx 0
  have cw2_1 := cell_of_heap hx 1
  have cw2_2 := cell_of_heap hx 2
  have cw2_3 := cell_of_heap hx 3
  have cw2_4 := cell_of_heap hx 4
  have cw2_5 := cell_of_heap hx 5
  have cw2_6 := cell_of_heap hx 6
  have cw2_7 := cell_of_heap hx 7
  have cw2_8 := cell_of_heap hx 8
  clear hx
  go_wp2_with fail
  refine (hw.out _ hm2.out.below).mono ?_
  rintro e w9 ⟨rfl, hb⟩
  have hk9 := Lib.hid (hm2.out.next hb)
  clear hb hm2
  go_wp2_with fail
  refine bodyPost_ret (v := .bool true) (by simp [results, Tryz.results16, go_sem]) rfl ?_
  exact ⟨rfl, hk9.out.below⟩
set_option maxRecDepth 100000 in
set_option maxHeartbeats 1600000 in
theorem units_14 (fu ou : ByteArray) (u0 u1 u2 u3 u4 u5 u6 : Int) (fv ov : ByteArray) (v0 v1 v2 v3 v4 v5 v6 : Int) (fa oa : ByteArray) (a0 a1 a2 a3 a4 a5 a6 : Int) (fb ob : ByteArray) (b0 b1 b2 b3 b4 b5 b6 : Int) (fc oc : ByteArray) (c0 c1 c2 c3 c4 c5 c6 : Int) (fd od : ByteArray) (d0 d1 d2 d3 d4 d5 d6 : Int) (e1 : Int) (e2 : Int) (e3 : Int) (e4 : Int) (m n : Int) (w : World) (h1 : Hid (∀ W, Below w.heap.size w W → Calls Tryz.prog 60 #[.agg #[.string fu, .string ou, .int .i64 u0, .int .i64 u1, .int .i64 u2, .int .i64 u3, .int .i64 u4, .int .i64 u5, .int .i64 u6], .agg #[.string fv, .string ov, .int .i64 v0, .int .i64 v1, .int .i64 v2, .int .i64 v3, .int .i64 v4, .int .i64 v5, .int .i64 v6]] W (fun e w' => e = .returned (.tuple #[.agg #[.string fa, .string oa, .int .i64 a0, .int .i64 a1, .int .i64 a2, .int .i64 a3, .int .i64 a4, .int .i64 a5, .int .i64 a6], .int .i64 e1]) ∧ Below W.heap.size W w'))) (h2 : Hid (∀ W, Below w.heap.size w W → Calls Tryz.prog 60 #[.agg #[.string fv, .string ov, .int .i64 v0, .int .i64 v1, .int .i64 v2, .int .i64 v3, .int .i64 v4, .int .i64 v5, .int .i64 v6], .agg #[.string fu, .string ou, .int .i64 u0, .int .i64 u1, .int .i64 u2, .int .i64 u3, .int .i64 u4, .int .i64 u5, .int .i64 u6]] W (fun e w' => e = .returned (.tuple #[.agg #[.string fa, .string oa, .int .i64 a0, .int .i64 a1, .int .i64 a2, .int .i64 a3, .int .i64 a4, .int .i64 a5, .int .i64 a6], .int .i64 e1]) ∧ Below W.heap.size W w'))) (he : e1 ≠ 0) (hm : ¬ m < -12) (hm2 : ¬ 12 < m) (hn : ¬ n < -12) (hn2 : ¬ 12 < n) (hs : IntKind.i64.wrap (m + n) = m + n) (h4 : Hid (∀ W, Below w.heap.size w W → Calls Tryz.prog 64 #[.agg #[.string fu, .string ou, .int .i64 u0, .int .i64 u1, .int .i64 u2, .int .i64 u3, .int .i64 u4, .int .i64 u5, .int .i64 u6], .int .i64 m] W (fun e w' => e = .returned (.tuple #[.agg #[.string fb, .string ob, .int .i64 b0, .int .i64 b1, .int .i64 b2, .int .i64 b3, .int .i64 b4, .int .i64 b5, .int .i64 b6], .int .i64 e2]) ∧ Below W.heap.size W w'))) (h5 : Hid (∀ W, Below w.heap.size w W → Calls Tryz.prog 64 #[.agg #[.string fu, .string ou, .int .i64 u0, .int .i64 u1, .int .i64 u2, .int .i64 u3, .int .i64 u4, .int .i64 u5, .int .i64 u6], .int .i64 n] W (fun e w' => e = .returned (.tuple #[.agg #[.string fc, .string oc, .int .i64 c0, .int .i64 c1, .int .i64 c2, .int .i64 c3, .int .i64 c4, .int .i64 c5, .int .i64 c6], .int .i64 e3]) ∧ Below W.heap.size W w'))) (h6 : Hid (∀ W, Below w.heap.size w W → Calls Tryz.prog 64 #[.agg #[.string fu, .string ou, .int .i64 u0, .int .i64 u1, .int .i64 u2, .int .i64 u3, .int .i64 u4, .int .i64 u5, .int .i64 u6], .int .i64 (m + n)] W (fun e w' => e = .returned (.tuple #[.agg #[.string fd, .string od, .int .i64 d0, .int .i64 d1, .int .i64 d2, .int .i64 d3, .int .i64 d4, .int .i64 d5, .int .i64 d6], .int .i64 e4]) ∧ Below W.heap.size W w'))) (hne : e2 ≠ 0) (hw : Hid (AwakeIs w)) : Calls Tryz.prog 16 #[.agg #[.string fu, .string ou, .int .i64 u0, .int .i64 u1, .int .i64 u2, .int .i64 u3, .int .i64 u4, .int .i64 u5, .int .i64 u6], .agg #[.string fv, .string ov, .int .i64 v0, .int .i64 v1, .int .i64 v2, .int .i64 v3, .int .i64 v4, .int .i64 v5, .int .i64 v6], .int .i64 m, .int .i64 n] w (OrdPost w) := by
  have hk0 : Hid (Keep w ((w.alloc (.cells #[.string fu, .string ou, .int .i64 u0, .int .i64 u1, .int .i64 u2, .int .i64 u3, .int .i64 u4, .int .i64 u5, .int .i64 u6] 53)).alloc (.cells #[.string fv, .string ov, .int .i64 v0, .int .i64 v1, .int .i64 v2, .int .i64 v3, .int .i64 v4, .int .i64 v5, .int .i64 v6] 53)) [(w.heap.size + 1, #[.string fv, .string ov, .int .i64 v0, .int .i64 v1, .int .i64 v2, .int .i64 v3, .int .i64 v4, .int .i64 v5, .int .i64 v6], 53), (w.heap.size, #[.string fu, .string ou, .int .i64 u0, .int .i64 u1, .int .i64 u2, .int .i64 u3, .int .i64 u4, .int .i64 u5, .int .i64 u6], 53)]) := Lib.hid (Keep.two w _ _ 53 53)
  go_enter Tryz.func16, Tryz.ntmps16
  go_wp2_with fail
  have hqa := powers_same a0 a1 a2 a3 a4 a5 a6
  refine (h1.out _ hk0.out.below).mono ?_
  rintro e w1 ⟨rfl, hb⟩
  have hk1 := Lib.hid (hk0.out.next hb)
  clear hb hk0
  have hm1 := Lib.hid (hk1.out.more #[.string fa, .string oa, .int .i64 a0, .int .i64 a1, .int .i64 a2, .int .i64 a3, .int .i64 a4, .int .i64 a5, .int .i64 a6] 53)
  clear hk1
  have hx : (w1.alloc (.cells #[.string fa, .string oa, .int .i64 a0, .int .i64 a1, .int .i64 a2, .int .i64 a3, .int .i64 a4, .int .i64 a5, .int .i64 a6] 53)).heap[w.heap.size + 1]? = some (.cells #[.string fv, .string ov, .int .i64 v0, .int .i64 v1, .int .i64 v2, .int .i64 v3, .int .i64 v4, .int .i64 v5, .int .i64 v6] 53 (0, 0)) := hm1.out.one _ (List.mem_cons_of_mem _ (List.mem_cons_self ..))
  have cwb_0 := cell_of_heap hx 0
  have cwb_1 := cell_of_heap hx 1
  have cwb_2 := cell_of_heap hx 2
  have cwb_3 := cell_of_heap hx 3
  have cwb_4 := cell_of_heap hx 4
  have cwb_5 := cell_of_heap hx 5
  have cwb_6 := cell_of_heap hx 6
  have cwb_7 := cell_of_heap hx 7
  have cwb_8 := cell_of_heap hx 8
  clear hx
  have hx : (w1.alloc (.cells #[.string fa, .string oa, .int .i64 a0, .int .i64 a1, .int .i64 a2, .int .i64 a3, .int .i64 a4, .int .i64 a5, .int .i64 a6] 53)).heap[w.heap.size]? = some (.cells #[.string fu, .string ou, .int .i64 u0, .int .i64 u1, .int .i64 u2, .int .i64 u3, .int .i64 u4, .int .i64 u5, .int .i64 u6] 53 (0, 0)) := hm1.out.one _ (List.mem_cons_of_mem _ (List.mem_cons_of_mem _ (List.mem_cons_self ..)))
  have cw_0 := cell_of_heap hx 0
  have cw_1 := cell_of_heap hx 1
  have cw_2 := cell_of_heap hx 2
  have cw_3 := cell_of_heap hx 3
  have cw_4 := cell_of_heap hx 4
  have cw_5 := cell_of_heap hx 5
  have cw_6 := cell_of_heap hx 6
  have cw_7 := cell_of_heap hx 7
  have cw_8 := cell_of_heap hx 8
  clear hx
  go_wp2_with fail
  clear cwb_0 cwb_1 cwb_2 cwb_3 cwb_4 cwb_5 cwb_6 cwb_7 cwb_8 cw_0 cw_1 cw_2 cw_3 cw_4 cw_5 cw_6 cw_7 cw_8
  refine (h2.out _ hm1.out.below).mono ?_
  rintro e w2 ⟨rfl, hb⟩
  have hk2 := Lib.hid (hm1.out.next hb)
  clear hb hm1
  have hm2 := Lib.hid (hk2.out.more #[.string fa, .string oa, .int .i64 a0, .int .i64 a1, .int .i64 a2, .int .i64 a3, .int .i64 a4, .int .i64 a5, .int .i64 a6] 53)
  clear hk2
  have hx : (w2.alloc (.cells #[.string fa, .string oa, .int .i64 a0, .int .i64 a1, .int .i64 a2, .int .i64 a3, .int .i64 a4, .int .i64 a5, .int .i64 a6] 53)).heap[w1.heap.size]? = some (.cells #[.string fa, .string oa, .int .i64 a0, .int .i64 a1, .int .i64 a2, .int .i64 a3, .int .i64 a4, .int .i64 a5, .int .i64 a6] 53 (0, 0)) := hm2.out.one _ (List.mem_cons_of_mem _ (List.mem_cons_self ..))
  have cw1_0 := cell_of_heap hx 0
  have cw1_1 := cell_of_heap hx 1
  have cw1_2 := cell_of_heap hx 2
  have cw1_3 := cell_of_heap hx 3
  have cw1_4 := cell_of_heap hx 4
  have cw1_5 := cell_of_heap hx 5
  have cw1_6 := cell_of_heap hx 6
  have cw1_7 := cell_of_heap hx 7
  have cw1_8 := cell_of_heap hx 8
  clear hx
  have hx : (w2.alloc (.cells #[.string fa, .string oa, .int .i64 a0, .int .i64 a1, .int .i64 a2, .int .i64 a3, .int .i64 a4, .int .i64 a5, .int .i64 a6] 53)).heap[w2.heap.size]? = some (.cells #[.string fa, .string oa, .int .i64 a0, .int .i64 a1, .int .i64 a2, .int .i64 a3, .int .i64 a4, .int .i64 a5, .int .i64 a6] 53 (0, 0)) := hm2.out.one _ (List.mem_cons_self ..)
  have cw2_0 := cell_of_heap hx 0
  have cw2_1 := cell_of_heap hx 1
  have cw2_2 := cell_of_heap hx 2
  have cw2_3 := cell_of_heap hx 3
  have cw2_4 := cell_of_heap hx 4
  have cw2_5 := cell_of_heap hx 5
  have cw2_6 := cell_of_heap hx 6
  have cw2_7 := cell_of_heap hx 7
  have cw2_8 := cell_of_heap hx 8
  clear hx
  have hx : (w2.alloc (.cells #[.string fa, .string oa, .int .i64 a0, .int .i64 a1, .int .i64 a2, .int .i64 a3, .int .i64 a4, .int .i64 a5, .int .i64 a6] 53)).heap[w.heap.size]? = some (.cells #[.string fu, .string ou, .int .i64 u0, .int .i64 u1, .int .i64 u2, .int .i64 u3, .int .i64 u4, .int .i64 u5, .int .i64 u6] 53 (0, 0)) := hm2.out.one _ (List.mem_cons_of_mem _ (List.mem_cons_of_mem _ (List.mem_cons_of_mem _ (List.mem_cons_self ..))))
  have cw_0 := cell_of_heap hx 0
  have cw_1 := cell_of_heap hx 1
  have cw_2 := cell_of_heap hx 2
  have cw_3 := cell_of_heap hx 3
  have cw_4 := cell_of_heap hx 4
  have cw_5 := cell_of_heap hx 5
  have cw_6 := cell_of_heap hx 6
  have cw_7 := cell_of_heap hx 7
  have cw_8 := cell_of_heap hx 8
  clear hx
  go_wp2_with fail
  clear cw1_0 cw1_1 cw1_2 cw1_3 cw1_4 cw1_5 cw1_6 cw1_7 cw1_8 cw2_0 cw2_1 cw2_2 cw2_3 cw2_4 cw2_5 cw2_6 cw2_7 cw2_8 cw_0 cw_1 cw_2 cw_3 cw_4 cw_5 cw_6 cw_7 cw_8
  refine (h4.out _ hm2.out.below).mono ?_
  rintro e w3 ⟨rfl, hb⟩
  have hk3 := Lib.hid (hm2.out.next hb)
  clear hb hm2
  have hm3 := Lib.hid (hk3.out.more #[.string fb, .string ob, .int .i64 b0, .int .i64 b1, .int .i64 b2, .int .i64 b3, .int .i64 b4, .int .i64 b5, .int .i64 b6] 53)
  clear hk3
  have hx : (w3.alloc (.cells #[.string fb, .string ob, .int .i64 b0, .int .i64 b1, .int .i64 b2, .int .i64 b3, .int .i64 b4, .int .i64 b5, .int .i64 b6] 53)).heap[w.heap.size]? = some (.cells #[.string fu, .string ou, .int .i64 u0, .int .i64 u1, .int .i64 u2, .int .i64 u3, .int .i64 u4, .int .i64 u5, .int .i64 u6] 53 (0, 0)) := hm3.out.one _ (List.mem_cons_of_mem _ (List.mem_cons_of_mem _ (List.mem_cons_of_mem _ (List.mem_cons_of_mem _ (List.mem_cons_self ..)))))
  have cw_0 := cell_of_heap hx 0
  have cw_1 := cell_of_heap hx 1
  have cw_2 := cell_of_heap hx 2
  have cw_3 := cell_of_heap hx 3
  have cw_4 := cell_of_heap hx 4
  have cw_5 := cell_of_heap hx 5
  have cw_6 := cell_of_heap hx 6
  have cw_7 := cell_of_heap hx 7
  have cw_8 := cell_of_heap hx 8
  clear hx
  go_wp2_with fail
  clear cw_0 cw_1 cw_2 cw_3 cw_4 cw_5 cw_6 cw_7 cw_8
  refine (h5.out _ hm3.out.below).mono ?_
  rintro e w4 ⟨rfl, hb⟩
  have hk4 := Lib.hid (hm3.out.next hb)
  clear hb hm3
  have hm4 := Lib.hid (hk4.out.more #[.string fc, .string oc, .int .i64 c0, .int .i64 c1, .int .i64 c2, .int .i64 c3, .int .i64 c4, .int .i64 c5, .int .i64 c6] 53)
  clear hk4
  have hx : (w4.alloc (.cells #[.string fc, .string oc, .int .i64 c0, .int .i64 c1, .int .i64 c2, .int .i64 c3, .int .i64 c4, .int .i64 c5, .int .i64 c6] 53)).heap[w.heap.size]? = some (.cells #[.string fu, .string ou, .int .i64 u0, .int .i64 u1, .int .i64 u2, .int .i64 u3, .int .i64 u4, .int .i64 u5, .int .i64 u6] 53 (0, 0)) := hm4.out.one _ (List.mem_cons_of_mem _ (List.mem_cons_of_mem _ (List.mem_cons_of_mem _ (List.mem_cons_of_mem _ (List.mem_cons_of_mem _ (List.mem_cons_self ..))))))
  have cw_0 := cell_of_heap hx 0
  have cw_1 := cell_of_heap hx 1
  have cw_2 := cell_of_heap hx 2
  have cw_3 := cell_of_heap hx 3
  have cw_4 := cell_of_heap hx 4
  have cw_5 := cell_of_heap hx 5
  have cw_6 := cell_of_heap hx 6
  have cw_7 := cell_of_heap hx 7
  have cw_8 := cell_of_heap hx 8
  clear hx
  go_wp2_with fail
  clear cw_0 cw_1 cw_2 cw_3 cw_4 cw_5 cw_6 cw_7 cw_8
  refine (h6.out _ hm4.out.below).mono ?_
  rintro e w5 ⟨rfl, hb⟩
  have hk5 := Lib.hid (hm4.out.next hb)
  clear hb hm4
  have hm5 := Lib.hid (hk5.out.more #[.string fd, .string od, .int .i64 d0, .int .i64 d1, .int .i64 d2, .int .i64 d3, .int .i64 d4, .int .i64 d5, .int .i64 d6] 53)
  clear hk5
  go_wp2_with fail
  refine (hw.out _ hm5.out.below).mono ?_
  rintro e w9 ⟨rfl, hb⟩
  have hk9 := Lib.hid (hm5.out.next hb)
  clear hb hm5
  go_wp2_with fail
  refine bodyPost_ret (v := .bool true) (by simp [results, Tryz.results16, go_sem]) rfl ?_
  exact ⟨rfl, hk9.out.below⟩
set_option maxRecDepth 100000 in
set_option maxHeartbeats 1600000 in
theorem units_15 (fu ou : ByteArray) (u0 u1 u2 u3 u4 u5 u6 : Int) (fv ov : ByteArray) (v0 v1 v2 v3 v4 v5 v6 : Int) (fa oa : ByteArray) (a0 a1 a2 a3 a4 a5 a6 : Int) (fb ob : ByteArray) (b0 b1 b2 b3 b4 b5 b6 : Int) (fc oc : ByteArray) (c0 c1 c2 c3 c4 c5 c6 : Int) (fd od : ByteArray) (d0 d1 d2 d3 d4 d5 d6 : Int) (e1 : Int) (e3 : Int) (e4 : Int) (m n : Int) (w : World) (h1 : Hid (∀ W, Below w.heap.size w W → Calls Tryz.prog 60 #[.agg #[.string fu, .string ou, .int .i64 u0, .int .i64 u1, .int .i64 u2, .int .i64 u3, .int .i64 u4, .int .i64 u5, .int .i64 u6], .agg #[.string fv, .string ov, .int .i64 v0, .int .i64 v1, .int .i64 v2, .int .i64 v3, .int .i64 v4, .int .i64 v5, .int .i64 v6]] W (fun e w' => e = .returned (.tuple #[.agg #[.string fa, .string oa, .int .i64 a0, .int .i64 a1, .int .i64 a2, .int .i64 a3, .int .i64 a4, .int .i64 a5, .int .i64 a6], .int .i64 e1]) ∧ Below W.heap.size W w'))) (h2 : Hid (∀ W, Below w.heap.size w W → Calls Tryz.prog 60 #[.agg #[.string fv, .string ov, .int .i64 v0, .int .i64 v1, .int .i64 v2, .int .i64 v3, .int .i64 v4, .int .i64 v5, .int .i64 v6], .agg #[.string fu, .string ou, .int .i64 u0, .int .i64 u1, .int .i64 u2, .int .i64 u3, .int .i64 u4, .int .i64 u5, .int .i64 u6]] W (fun e w' => e = .returned (.tuple #[.agg #[.string fa, .string oa, .int .i64 a0, .int .i64 a1, .int .i64 a2, .int .i64 a3, .int .i64 a4, .int .i64 a5, .int .i64 a6], .int .i64 e1]) ∧ Below W.heap.size W w'))) (he : e1 ≠ 0) (hm : ¬ m < -12) (hm2 : ¬ 12 < m) (hn : ¬ n < -12) (hn2 : ¬ 12 < n) (hs : IntKind.i64.wrap (m + n) = m + n) (h4 : Hid (∀ W, Below w.heap.size w W → Calls Tryz.prog 64 #[.agg #[.string fu, .string ou, .int .i64 u0, .int .i64 u1, .int .i64 u2, .int .i64 u3, .int .i64 u4, .int .i64 u5, .int .i64 u6], .int .i64 m] W (fun e w' => e = .returned (.tuple #[.agg #[.string fb, .string ob, .int .i64 b0, .int .i64 b1, .int .i64 b2, .int .i64 b3, .int .i64 b4, .int .i64 b5, .int .i64 b6], .int .i64 0]) ∧ Below W.heap.size W w'))) (h5 : Hid (∀ W, Below w.heap.size w W → Calls Tryz.prog 64 #[.agg #[.string fu, .string ou, .int .i64 u0, .int .i64 u1, .int .i64 u2, .int .i64 u3, .int .i64 u4, .int .i64 u5, .int .i64 u6], .int .i64 n] W (fun e w' => e = .returned (.tuple #[.agg #[.string fc, .string oc, .int .i64 c0, .int .i64 c1, .int .i64 c2, .int .i64 c3, .int .i64 c4, .int .i64 c5, .int .i64 c6], .int .i64 e3]) ∧ Below W.heap.size W w'))) (h6 : Hid (∀ W, Below w.heap.size w W → Calls Tryz.prog 64 #[.agg #[.string fu, .string ou, .int .i64 u0, .int .i64 u1, .int .i64 u2, .int .i64 u3, .int .i64 u4, .int .i64 u5, .int .i64 u6], .int .i64 (m + n)] W (fun e w' => e = .returned (.tuple #[.agg #[.string fd, .string od, .int .i64 d0, .int .i64 d1, .int .i64 d2, .int .i64 d3, .int .i64 d4, .int .i64 d5, .int .i64 d6], .int .i64 e4]) ∧ Below W.heap.size W w'))) (hne : e3 ≠ 0) (hw : Hid (AwakeIs w)) : Calls Tryz.prog 16 #[.agg #[.string fu, .string ou, .int .i64 u0, .int .i64 u1, .int .i64 u2, .int .i64 u3, .int .i64 u4, .int .i64 u5, .int .i64 u6], .agg #[.string fv, .string ov, .int .i64 v0, .int .i64 v1, .int .i64 v2, .int .i64 v3, .int .i64 v4, .int .i64 v5, .int .i64 v6], .int .i64 m, .int .i64 n] w (OrdPost w) := by
  have hk0 : Hid (Keep w ((w.alloc (.cells #[.string fu, .string ou, .int .i64 u0, .int .i64 u1, .int .i64 u2, .int .i64 u3, .int .i64 u4, .int .i64 u5, .int .i64 u6] 53)).alloc (.cells #[.string fv, .string ov, .int .i64 v0, .int .i64 v1, .int .i64 v2, .int .i64 v3, .int .i64 v4, .int .i64 v5, .int .i64 v6] 53)) [(w.heap.size + 1, #[.string fv, .string ov, .int .i64 v0, .int .i64 v1, .int .i64 v2, .int .i64 v3, .int .i64 v4, .int .i64 v5, .int .i64 v6], 53), (w.heap.size, #[.string fu, .string ou, .int .i64 u0, .int .i64 u1, .int .i64 u2, .int .i64 u3, .int .i64 u4, .int .i64 u5, .int .i64 u6], 53)]) := Lib.hid (Keep.two w _ _ 53 53)
  go_enter Tryz.func16, Tryz.ntmps16
  go_wp2_with fail
  have hqa := powers_same a0 a1 a2 a3 a4 a5 a6
  refine (h1.out _ hk0.out.below).mono ?_
  rintro e w1 ⟨rfl, hb⟩
  have hk1 := Lib.hid (hk0.out.next hb)
  clear hb hk0
  have hm1 := Lib.hid (hk1.out.more #[.string fa, .string oa, .int .i64 a0, .int .i64 a1, .int .i64 a2, .int .i64 a3, .int .i64 a4, .int .i64 a5, .int .i64 a6] 53)
  clear hk1
  have hx : (w1.alloc (.cells #[.string fa, .string oa, .int .i64 a0, .int .i64 a1, .int .i64 a2, .int .i64 a3, .int .i64 a4, .int .i64 a5, .int .i64 a6] 53)).heap[w.heap.size + 1]? = some (.cells #[.string fv, .string ov, .int .i64 v0, .int .i64 v1, .int .i64 v2, .int .i64 v3, .int .i64 v4, .int .i64 v5, .int .i64 v6] 53 (0, 0)) := hm1.out.one _ (List.mem_cons_of_mem _ (List.mem_cons_self ..))
  have cwb_0 := cell_of_heap hx 0
  have cwb_1 := cell_of_heap hx 1
  have cwb_2 := cell_of_heap hx 2
  have cwb_3 := cell_of_heap hx 3
  have cwb_4 := cell_of_heap hx 4
  have cwb_5 := cell_of_heap hx 5
  have cwb_6 := cell_of_heap hx 6
  have cwb_7 := cell_of_heap hx 7
  have cwb_8 := cell_of_heap hx 8
  clear hx
  have hx : (w1.alloc (.cells #[.string fa, .string oa, .int .i64 a0, .int .i64 a1, .int .i64 a2, .int .i64 a3, .int .i64 a4, .int .i64 a5, .int .i64 a6] 53)).heap[w.heap.size]? = some (.cells #[.string fu, .string ou, .int .i64 u0, .int .i64 u1, .int .i64 u2, .int .i64 u3, .int .i64 u4, .int .i64 u5, .int .i64 u6] 53 (0, 0)) := hm1.out.one _ (List.mem_cons_of_mem _ (List.mem_cons_of_mem _ (List.mem_cons_self ..)))
  have cw_0 := cell_of_heap hx 0
  have cw_1 := cell_of_heap hx 1
  have cw_2 := cell_of_heap hx 2
  have cw_3 := cell_of_heap hx 3
  have cw_4 := cell_of_heap hx 4
  have cw_5 := cell_of_heap hx 5
  have cw_6 := cell_of_heap hx 6
  have cw_7 := cell_of_heap hx 7
  have cw_8 := cell_of_heap hx 8
  clear hx
  go_wp2_with fail
  clear cwb_0 cwb_1 cwb_2 cwb_3 cwb_4 cwb_5 cwb_6 cwb_7 cwb_8 cw_0 cw_1 cw_2 cw_3 cw_4 cw_5 cw_6 cw_7 cw_8
  refine (h2.out _ hm1.out.below).mono ?_
  rintro e w2 ⟨rfl, hb⟩
  have hk2 := Lib.hid (hm1.out.next hb)
  clear hb hm1
  have hm2 := Lib.hid (hk2.out.more #[.string fa, .string oa, .int .i64 a0, .int .i64 a1, .int .i64 a2, .int .i64 a3, .int .i64 a4, .int .i64 a5, .int .i64 a6] 53)
  clear hk2
  have hx : (w2.alloc (.cells #[.string fa, .string oa, .int .i64 a0, .int .i64 a1, .int .i64 a2, .int .i64 a3, .int .i64 a4, .int .i64 a5, .int .i64 a6] 53)).heap[w1.heap.size]? = some (.cells #[.string fa, .string oa, .int .i64 a0, .int .i64 a1, .int .i64 a2, .int .i64 a3, .int .i64 a4, .int .i64 a5, .int .i64 a6] 53 (0, 0)) := hm2.out.one _ (List.mem_cons_of_mem _ (List.mem_cons_self ..))
  have cw1_0 := cell_of_heap hx 0
  have cw1_1 := cell_of_heap hx 1
  have cw1_2 := cell_of_heap hx 2
  have cw1_3 := cell_of_heap hx 3
  have cw1_4 := cell_of_heap hx 4
  have cw1_5 := cell_of_heap hx 5
  have cw1_6 := cell_of_heap hx 6
  have cw1_7 := cell_of_heap hx 7
  have cw1_8 := cell_of_heap hx 8
  clear hx
  have hx : (w2.alloc (.cells #[.string fa, .string oa, .int .i64 a0, .int .i64 a1, .int .i64 a2, .int .i64 a3, .int .i64 a4, .int .i64 a5, .int .i64 a6] 53)).heap[w2.heap.size]? = some (.cells #[.string fa, .string oa, .int .i64 a0, .int .i64 a1, .int .i64 a2, .int .i64 a3, .int .i64 a4, .int .i64 a5, .int .i64 a6] 53 (0, 0)) := hm2.out.one _ (List.mem_cons_self ..)
  have cw2_0 := cell_of_heap hx 0
  have cw2_1 := cell_of_heap hx 1
  have cw2_2 := cell_of_heap hx 2
  have cw2_3 := cell_of_heap hx 3
  have cw2_4 := cell_of_heap hx 4
  have cw2_5 := cell_of_heap hx 5
  have cw2_6 := cell_of_heap hx 6
  have cw2_7 := cell_of_heap hx 7
  have cw2_8 := cell_of_heap hx 8
  clear hx
  have hx : (w2.alloc (.cells #[.string fa, .string oa, .int .i64 a0, .int .i64 a1, .int .i64 a2, .int .i64 a3, .int .i64 a4, .int .i64 a5, .int .i64 a6] 53)).heap[w.heap.size]? = some (.cells #[.string fu, .string ou, .int .i64 u0, .int .i64 u1, .int .i64 u2, .int .i64 u3, .int .i64 u4, .int .i64 u5, .int .i64 u6] 53 (0, 0)) := hm2.out.one _ (List.mem_cons_of_mem _ (List.mem_cons_of_mem _ (List.mem_cons_of_mem _ (List.mem_cons_self ..))))
  have cw_0 := cell_of_heap hx 0
  have cw_1 := cell_of_heap hx 1
  have cw_2 := cell_of_heap hx 2
  have cw_3 := cell_of_heap hx 3
  have cw_4 := cell_of_heap hx 4
  have cw_5 := cell_of_heap hx 5
  have cw_6 := cell_of_heap hx 6
  have cw_7 := cell_of_heap hx 7
  have cw_8 := cell_of_heap hx 8
  clear hx
  go_wp2_with fail
  clear cw1_0 cw1_1 cw1_2 cw1_3 cw1_4 cw1_5 cw1_6 cw1_7 cw1_8 cw2_0 cw2_1 cw2_2 cw2_3 cw2_4 cw2_5 cw2_6 cw2_7 cw2_8 cw_0 cw_1 cw_2 cw_3 cw_4 cw_5 cw_6 cw_7 cw_8
  refine (h4.out _ hm2.out.below).mono ?_
  rintro e w3 ⟨rfl, hb⟩
  have hk3 := Lib.hid (hm2.out.next hb)
  clear hb hm2
  have hm3 := Lib.hid (hk3.out.more #[.string fb, .string ob, .int .i64 b0, .int .i64 b1, .int .i64 b2, .int .i64 b3, .int .i64 b4, .int .i64 b5, .int .i64 b6] 53)
  clear hk3
  have hx : (w3.alloc (.cells #[.string fb, .string ob, .int .i64 b0, .int .i64 b1, .int .i64 b2, .int .i64 b3, .int .i64 b4, .int .i64 b5, .int .i64 b6] 53)).heap[w.heap.size]? = some (.cells #[.string fu, .string ou, .int .i64 u0, .int .i64 u1, .int .i64 u2, .int .i64 u3, .int .i64 u4, .int .i64 u5, .int .i64 u6] 53 (0, 0)) := hm3.out.one _ (List.mem_cons_of_mem _ (List.mem_cons_of_mem _ (List.mem_cons_of_mem _ (List.mem_cons_of_mem _ (List.mem_cons_self ..)))))
  have cw_0 := cell_of_heap hx 0
  have cw_1 := cell_of_heap hx 1
  have cw_2 := cell_of_heap hx 2
  have cw_3 := cell_of_heap hx 3
  have cw_4 := cell_of_heap hx 4
  have cw_5 := cell_of_heap hx 5
  have cw_6 := cell_of_heap hx 6
  have cw_7 := cell_of_heap hx 7
  have cw_8 := cell_of_heap hx 8
  clear hx
  go_wp2_with fail
  clear cw_0 cw_1 cw_2 cw_3 cw_4 cw_5 cw_6 cw_7 cw_8
  refine (h5.out _ hm3.out.below).mono ?_
  rintro e w4 ⟨rfl, hb⟩
  have hk4 := Lib.hid (hm3.out.next hb)
  clear hb hm3
  have hm4 := Lib.hid (hk4.out.more #[.string fc, .string oc, .int .i64 c0, .int .i64 c1, .int .i64 c2, .int .i64 c3, .int .i64 c4, .int .i64 c5, .int .i64 c6] 53)
  clear hk4
  have hx : (w4.alloc (.cells #[.string fc, .string oc, .int .i64 c0, .int .i64 c1, .int .i64 c2, .int .i64 c3, .int .i64 c4, .int .i64 c5, .int .i64 c6] 53)).heap[w.heap.size]? = some (.cells #[.string fu, .string ou, .int .i64 u0, .int .i64 u1, .int .i64 u2, .int .i64 u3, .int .i64 u4, .int .i64 u5, .int .i64 u6] 53 (0, 0)) := hm4.out.one _ (List.mem_cons_of_mem _ (List.mem_cons_of_mem _ (List.mem_cons_of_mem _ (List.mem_cons_of_mem _ (List.mem_cons_of_mem _ (List.mem_cons_self ..))))))
  have cw_0 := cell_of_heap hx 0
  have cw_1 := cell_of_heap hx 1
  have cw_2 := cell_of_heap hx 2
  have cw_3 := cell_of_heap hx 3
  have cw_4 := cell_of_heap hx 4
  have cw_5 := cell_of_heap hx 5
  have cw_6 := cell_of_heap hx 6
  have cw_7 := cell_of_heap hx 7
  have cw_8 := cell_of_heap hx 8
  clear hx
  go_wp2_with fail
  clear cw_0 cw_1 cw_2 cw_3 cw_4 cw_5 cw_6 cw_7 cw_8
  refine (h6.out _ hm4.out.below).mono ?_
  rintro e w5 ⟨rfl, hb⟩
  have hk5 := Lib.hid (hm4.out.next hb)
  clear hb hm4
  have hm5 := Lib.hid (hk5.out.more #[.string fd, .string od, .int .i64 d0, .int .i64 d1, .int .i64 d2, .int .i64 d3, .int .i64 d4, .int .i64 d5, .int .i64 d6] 53)
  clear hk5
  go_wp2_with fail
  refine (hw.out _ hm5.out.below).mono ?_
  rintro e w9 ⟨rfl, hb⟩
  have hk9 := Lib.hid (hm5.out.next hb)
  clear hb hm5
  go_wp2_with fail
  refine bodyPost_ret (v := .bool true) (by simp [results, Tryz.results16, go_sem]) rfl ?_
  exact ⟨rfl, hk9.out.below⟩
set_option maxRecDepth 100000 in
set_option maxHeartbeats 1600000 in
theorem units_16 (fu ou : ByteArray) (u0 u1 u2 u3 u4 u5 u6 : Int) (fv ov : ByteArray) (v0 v1 v2 v3 v4 v5 v6 : Int) (fa oa : ByteArray) (a0 a1 a2 a3 a4 a5 a6 : Int) (fb ob : ByteArray) (b0 b1 b2 b3 b4 b5 b6 : Int) (fc oc : ByteArray) (c0 c1 c2 c3 c4 c5 c6 : Int) (fd od : ByteArray) (d0 d1 d2 d3 d4 d5 d6 : Int) (e1 : Int) (e4 : Int) (m n : Int) (w : World) (h1 : Hid (∀ W, Below w.heap.size w W → Calls Tryz.prog 60 #[.agg #[.string fu, .string ou, .int .i64 u0, .int .i64 u1, .int .i64 u2, .int .i64 u3, .int .i64 u4, .int .i64 u5, .int .i64 u6], .agg #[.string fv, .string ov, .int .i64 v0, .int .i64 v1, .int .i64 v2, .int .i64 v3, .int .i64 v4, .int .i64 v5, .int .i64 v6]] W (fun e w' => e = .returned (.tuple #[.agg #[.string fa, .string oa, .int .i64 a0, .int .i64 a1, .int .i64 a2, .int .i64 a3, .int .i64 a4, .int .i64 a5, .int .i64 a6], .int .i64 e1]) ∧ Below W.heap.size W w'))) (h2 : Hid (∀ W, Below w.heap.size w W → Calls Tryz.prog 60 #[.agg #[.string fv, .string ov, .int .i64 v0, .int .i64 v1, .int .i64 v2, .int .i64 v3, .int .i64 v4, .int .i64 v5, .int .i64 v6], .agg #[.string fu, .string ou, .int .i64 u0, .int .i64 u1, .int .i64 u2, .int .i64 u3, .int .i64 u4, .int .i64 u5, .int .i64 u6]] W (fun e w' => e = .returned (.tuple #[.agg #[.string fa, .string oa, .int .i64 a0, .int .i64 a1, .int .i64 a2, .int .i64 a3, .int .i64 a4, .int .i64 a5, .int .i64 a6], .int .i64 e1]) ∧ Below W.heap.size W w'))) (he : e1 ≠ 0) (hm : ¬ m < -12) (hm2 : ¬ 12 < m) (hn : ¬ n < -12) (hn2 : ¬ 12 < n) (hs : IntKind.i64.wrap (m + n) = m + n) (h4 : Hid (∀ W, Below w.heap.size w W → Calls Tryz.prog 64 #[.agg #[.string fu, .string ou, .int .i64 u0, .int .i64 u1, .int .i64 u2, .int .i64 u3, .int .i64 u4, .int .i64 u5, .int .i64 u6], .int .i64 m] W (fun e w' => e = .returned (.tuple #[.agg #[.string fb, .string ob, .int .i64 b0, .int .i64 b1, .int .i64 b2, .int .i64 b3, .int .i64 b4, .int .i64 b5, .int .i64 b6], .int .i64 0]) ∧ Below W.heap.size W w'))) (h5 : Hid (∀ W, Below w.heap.size w W → Calls Tryz.prog 64 #[.agg #[.string fu, .string ou, .int .i64 u0, .int .i64 u1, .int .i64 u2, .int .i64 u3, .int .i64 u4, .int .i64 u5, .int .i64 u6], .int .i64 n] W (fun e w' => e = .returned (.tuple #[.agg #[.string fc, .string oc, .int .i64 c0, .int .i64 c1, .int .i64 c2, .int .i64 c3, .int .i64 c4, .int .i64 c5, .int .i64 c6], .int .i64 0]) ∧ Below W.heap.size W w'))) (h6 : Hid (∀ W, Below w.heap.size w W → Calls Tryz.prog 64 #[.agg #[.string fu, .string ou, .int .i64 u0, .int .i64 u1, .int .i64 u2, .int .i64 u3, .int .i64 u4, .int .i64 u5, .int .i64 u6], .int .i64 (m + n)] W (fun e w' => e = .returned (.tuple #[.agg #[.string fd, .string od, .int .i64 d0, .int .i64 d1, .int .i64 d2, .int .i64 d3, .int .i64 d4, .int .i64 d5, .int .i64 d6], .int .i64 e4]) ∧ Below W.heap.size W w'))) (hne : e4 ≠ 0) (hw : Hid (AwakeIs w)) : Calls Tryz.prog 16 #[.agg #[.string fu, .string ou, .int .i64 u0, .int .i64 u1, .int .i64 u2, .int .i64 u3, .int .i64 u4, .int .i64 u5, .int .i64 u6], .agg #[.string fv, .string ov, .int .i64 v0, .int .i64 v1, .int .i64 v2, .int .i64 v3, .int .i64 v4, .int .i64 v5, .int .i64 v6], .int .i64 m, .int .i64 n] w (OrdPost w) := by
  have hk0 : Hid (Keep w ((w.alloc (.cells #[.string fu, .string ou, .int .i64 u0, .int .i64 u1, .int .i64 u2, .int .i64 u3, .int .i64 u4, .int .i64 u5, .int .i64 u6] 53)).alloc (.cells #[.string fv, .string ov, .int .i64 v0, .int .i64 v1, .int .i64 v2, .int .i64 v3, .int .i64 v4, .int .i64 v5, .int .i64 v6] 53)) [(w.heap.size + 1, #[.string fv, .string ov, .int .i64 v0, .int .i64 v1, .int .i64 v2, .int .i64 v3, .int .i64 v4, .int .i64 v5, .int .i64 v6], 53), (w.heap.size, #[.string fu, .string ou, .int .i64 u0, .int .i64 u1, .int .i64 u2, .int .i64 u3, .int .i64 u4, .int .i64 u5, .int .i64 u6], 53)]) := Lib.hid (Keep.two w _ _ 53 53)
  go_enter Tryz.func16, Tryz.ntmps16
  go_wp2_with fail
  have hqa := powers_same a0 a1 a2 a3 a4 a5 a6
  refine (h1.out _ hk0.out.below).mono ?_
  rintro e w1 ⟨rfl, hb⟩
  have hk1 := Lib.hid (hk0.out.next hb)
  clear hb hk0
  have hm1 := Lib.hid (hk1.out.more #[.string fa, .string oa, .int .i64 a0, .int .i64 a1, .int .i64 a2, .int .i64 a3, .int .i64 a4, .int .i64 a5, .int .i64 a6] 53)
  clear hk1
  have hx : (w1.alloc (.cells #[.string fa, .string oa, .int .i64 a0, .int .i64 a1, .int .i64 a2, .int .i64 a3, .int .i64 a4, .int .i64 a5, .int .i64 a6] 53)).heap[w.heap.size + 1]? = some (.cells #[.string fv, .string ov, .int .i64 v0, .int .i64 v1, .int .i64 v2, .int .i64 v3, .int .i64 v4, .int .i64 v5, .int .i64 v6] 53 (0, 0)) := hm1.out.one _ (List.mem_cons_of_mem _ (List.mem_cons_self ..))
  have cwb_0 := cell_of_heap hx 0
  have cwb_1 := cell_of_heap hx 1
  have cwb_2 := cell_of_heap hx 2
  have cwb_3 := cell_of_heap hx 3
  have cwb_4 := cell_of_heap hx 4
  have cwb_5 := cell_of_heap hx 5
  have cwb_6 := cell_of_heap hx 6
  have cwb_7 := cell_of_heap hx 7
  have cwb_8 := cell_of_heap hx 8
  clear hx
  have hx : (w1.alloc (.cells #[.string fa, .string oa, .int .i64 a0, .int .i64 a1, .int .i64 a2, .int .i64 a3, .int .i64 a4, .int .i64 a5, .int .i64 a6] 53)).heap[w.heap.size]? = some (.cells #[.string fu, .string ou, .int .i64 u0, .int .i64 u1, .int .i64 u2, .int .i64 u3, .int .i64 u4, .int .i64 u5, .int .i64 u6] 53 (0, 0)) := hm1.out.one _ (List.mem_cons_of_mem _ (List.mem_cons_of_mem _ (List.mem_cons_self ..)))
  have cw_0 := cell_of_heap hx 0
  have cw_1 := cell_of_heap hx 1
  have cw_2 := cell_of_heap hx 2
  have cw_3 := cell_of_heap hx 3
  have cw_4 := cell_of_heap hx 4
  have cw_5 := cell_of_heap hx 5
  have cw_6 := cell_of_heap hx 6
  have cw_7 := cell_of_heap hx 7
  have cw_8 := cell_of_heap hx 8
  clear hx
  go_wp2_with fail
  clear cwb_0 cwb_1 cwb_2 cwb_3 cwb_4 cwb_5 cwb_6 cwb_7 cwb_8 cw_0 cw_1 cw_2 cw_3 cw_4 cw_5 cw_6 cw_7 cw_8
  refine (h2.out _ hm1.out.below).mono ?_
  rintro e w2 ⟨rfl, hb⟩
  have hk2 := Lib.hid (hm1.out.next hb)
  clear hb hm1
  have hm2 := Lib.hid (hk2.out.more #[.string fa, .string oa, .int .i64 a0, .int .i64 a1, .int .i64 a2, .int .i64 a3, .int .i64 a4, .int .i64 a5, .int .i64 a6] 53)
  clear hk2
  have hx : (w2.alloc (.cells #[.string fa, .string oa, .int .i64 a0, .int .i64 a1, .int .i64 a2, .int .i64 a3, .int .i64 a4, .int .i64 a5, .int .i64 a6] 53)).heap[w1.heap.size]? = some (.cells #[.string fa, .string oa, .int .i64 a0, .int .i64 a1, .int .i64 a2, .int .i64 a3, .int .i64 a4, .int .i64 a5, .int .i64 a6] 53 (0, 0)) := hm2.out.one _ (List.mem_cons_of_mem _ (List.mem_cons_self ..))
  have cw1_0 := cell_of_heap hx 0
  have cw1_1 := cell_of_heap hx 1
  have cw1_2 := cell_of_heap hx 2
  have cw1_3 := cell_of_heap hx 3
  have cw1_4 := cell_of_heap hx 4
  have cw1_5 := cell_of_heap hx 5
  have cw1_6 := cell_of_heap hx 6
  have cw1_7 := cell_of_heap hx 7
  have cw1_8 := cell_of_heap hx 8
  clear hx
  have hx : (w2.alloc (.cells #[.string fa, .string oa, .int .i64 a0, .int .i64 a1, .int .i64 a2, .int .i64 a3, .int .i64 a4, .int .i64 a5, .int .i64 a6] 53)).heap[w2.heap.size]? = some (.cells #[.string fa, .string oa, .int .i64 a0, .int .i64 a1, .int .i64 a2, .int .i64 a3, .int .i64 a4, .int .i64 a5, .int .i64 a6] 53 (0, 0)) := hm2.out.one _ (List.mem_cons_self ..)
  have cw2_0 := cell_of_heap hx 0
  have cw2_1 := cell_of_heap hx 1
  have cw2_2 := cell_of_heap hx 2
  have cw2_3 := cell_of_heap hx 3
  have cw2_4 := cell_of_heap hx 4
  have cw2_5 := cell_of_heap hx 5
  have cw2_6 := cell_of_heap hx 6
  have cw2_7 := cell_of_heap hx 7
  have cw2_8 := cell_of_heap hx 8
  clear hx
  have hx : (w2.alloc (.cells #[.string fa, .string oa, .int .i64 a0, .int .i64 a1, .int .i64 a2, .int .i64 a3, .int .i64 a4, .int .i64 a5, .int .i64 a6] 53)).heap[w.heap.size]? = some (.cells #[.string fu, .string ou, .int .i64 u0, .int .i64 u1, .int .i64 u2, .int .i64 u3, .int .i64 u4, .int .i64 u5, .int .i64 u6] 53 (0, 0)) := hm2.out.one _ (List.mem_cons_of_mem _ (List.mem_cons_of_mem _ (List.mem_cons_of_mem _ (List.mem_cons_self ..))))
  have cw_0 := cell_of_heap hx 0
  have cw_1 := cell_of_heap hx 1
  have cw_2 := cell_of_heap hx 2
  have cw_3 := cell_of_heap hx 3
  have cw_4 := cell_of_heap hx 4
  have cw_5 := cell_of_heap hx 5
  have cw_6 := cell_of_heap hx 6
  have cw_7 := cell_of_heap hx 7
  have cw_8 := cell_of_heap hx 8
  clear hx
  go_wp2_with fail
  clear cw1_0 cw1_1 cw1_2 cw1_3 cw1_4 cw1_5 cw1_6 cw1_7 cw1_8 cw2_0 cw2_1 cw2_2 cw2_3 cw2_4 cw2_5 cw2_6 cw2_7 cw2_8 cw_0 cw_1 cw_2 cw_3 cw_4 cw_5 cw_6 cw_7 cw_8
  refine (h4.out _ hm2.out.below).mono ?_
  rintro e w3 ⟨rfl, hb⟩
  have hk3 := Lib.hid (hm2.out.next hb)
  clear hb hm2
  have hm3 := Lib.hid (hk3.out.more #[.string fb, .string ob, .int .i64 b0, .int .i64 b1, .int .i64 b2, .int .i64 b3, .int .i64 b4, .int .i64 b5, .int .i64 b6] 53)
  clear hk3
  have hx : (w3.alloc (.cells #[.string fb, .string ob, .int .i64 b0, .int .i64 b1, .int .i64 b2, .int .i64 b3, .int .i64 b4, .int .i64 b5, .int .i64 b6] 53)).heap[w.heap.size]? = some (.cells #[.string fu, .string ou, .int .i64 u0, .int .i64 u1, .int .i64 u2, .int .i64 u3, .int .i64 u4, .int .i64 u5, .int .i64 u6] 53 (0, 0)) := hm3.out.one _ (List.mem_cons_of_mem _ (List.mem_cons_of_mem _ (List.mem_cons_of_mem _ (List.mem_cons_of_mem _ (List.mem_cons_self ..)))))
  have cw_0 := cell_of_heap hx 0
  have cw_1 := cell_of_heap hx 1
  have cw_2 := cell_of_heap hx 2
  have cw_3 := cell_of_heap hx 3
  have cw_4 := cell_of_heap hx 4
  have cw_5 := cell_of_heap hx 5
  have cw_6 := cell_of_heap hx 6
  have cw_7 := cell_of_heap hx 7
  have cw_8 := cell_of_heap hx 8
  clear hx
  go_wp2_with fail
  clear cw_0 cw_1 cw_2 cw_3 cw_4 cw_5 cw_6 cw_7 cw_8
  refine (h5.out _ hm3.out.below).mono ?_
  rintro e w4 ⟨rfl, hb⟩
  have hk4 := Lib.hid (hm3.out.next hb)
  clear hb hm3
  have hm4 := Lib.hid (hk4.out.more #[.string fc, .string oc, .int .i64 c0, .int .i64 c1, .int .i64 c2, .int .i64 c3, .int .i64 c4, .int .i64 c5, .int .i64 c6] 53)
  clear hk4
  have hx : (w4.alloc (.cells #[.string fc, .string oc, .int .i64 c0, .int .i64 c1, .int .i64 c2, .int .i64 c3, .int .i64 c4, .int .i64 c5, .int .i64 c6] 53)).heap[w.heap.size]? = some (.cells #[.string fu, .string ou, .int .i64 u0, .int .i64 u1, .int .i64 u2, .int .i64 u3, .int .i64 u4, .int .i64 u5, .int .i64 u6] 53 (0, 0)) := hm4.out.one _ (List.mem_cons_of_mem _ (List.mem_cons_of_mem _ (List.mem_cons_of_mem _ (List.mem_cons_of_mem _ (List.mem_cons_of_mem _ (List.mem_cons_self ..))))))
  have cw_0 := cell_of_heap hx 0
  have cw_1 := cell_of_heap hx 1
  have cw_2 := cell_of_heap hx 2
  have cw_3 := cell_of_heap hx 3
  have cw_4 := cell_of_heap hx 4
  have cw_5 := cell_of_heap hx 5
  have cw_6 := cell_of_heap hx 6
  have cw_7 := cell_of_heap hx 7
  have cw_8 := cell_of_heap hx 8
  clear hx
  go_wp2_with fail
  clear cw_0 cw_1 cw_2 cw_3 cw_4 cw_5 cw_6 cw_7 cw_8
  refine (h6.out _ hm4.out.below).mono ?_
  rintro e w5 ⟨rfl, hb⟩
  have hk5 := Lib.hid (hm4.out.next hb)
  clear hb hm4
  have hm5 := Lib.hid (hk5.out.more #[.string fd, .string od, .int .i64 d0, .int .i64 d1, .int .i64 d2, .int .i64 d3, .int .i64 d4, .int .i64 d5, .int .i64 d6] 53)
  clear hk5
  go_wp2_with fail
  refine (hw.out _ hm5.out.below).mono ?_
  rintro e w9 ⟨rfl, hb⟩
  have hk9 := Lib.hid (hm5.out.next hb)
  clear hb hm5
  go_wp2_with fail
  refine bodyPost_ret (v := .bool true) (by simp [results, Tryz.results16, go_sem]) rfl ?_
  exact ⟨rfl, hk9.out.below⟩
set_option maxRecDepth 100000 in
set_option maxHeartbeats 1600000 in
theorem units_17 (fu ou : ByteArray) (u0 u1 u2 u3 u4 u5 u6 : Int) (fv ov : ByteArray) (v0 v1 v2 v3 v4 v5 v6 : Int) (fa oa : ByteArray) (a0 a1 a2 a3 a4 a5 a6 : Int) (fb ob : ByteArray) (b0 b1 b2 b3 b4 b5 b6 : Int) (fc oc : ByteArray) (c0 c1 c2 c3 c4 c5 c6 : Int) (fd od : ByteArray) (d0 d1 d2 d3 d4 d5 d6 : Int) (e1 : Int)  (m n : Int) (w : World) (h1 : Hid (∀ W, Below w.heap.size w W → Calls Tryz.prog 60 #[.agg #[.string fu, .string ou, .int .i64 u0, .int .i64 u1, .int .i64 u2, .int .i64 u3, .int .i64 u4, .int .i64 u5, .int .i64 u6], .agg #[.string fv, .string ov, .int .i64 v0, .int .i64 v1, .int .i64 v2, .int .i64 v3, .int .i64 v4, .int .i64 v5, .int .i64 v6]] W (fun e w' => e = .returned (.tuple #[.agg #[.string fa, .string oa, .int .i64 a0, .int .i64 a1, .int .i64 a2, .int .i64 a3, .int .i64 a4, .int .i64 a5, .int .i64 a6], .int .i64 e1]) ∧ Below W.heap.size W w'))) (h2 : Hid (∀ W, Below w.heap.size w W → Calls Tryz.prog 60 #[.agg #[.string fv, .string ov, .int .i64 v0, .int .i64 v1, .int .i64 v2, .int .i64 v3, .int .i64 v4, .int .i64 v5, .int .i64 v6], .agg #[.string fu, .string ou, .int .i64 u0, .int .i64 u1, .int .i64 u2, .int .i64 u3, .int .i64 u4, .int .i64 u5, .int .i64 u6]] W (fun e w' => e = .returned (.tuple #[.agg #[.string fa, .string oa, .int .i64 a0, .int .i64 a1, .int .i64 a2, .int .i64 a3, .int .i64 a4, .int .i64 a5, .int .i64 a6], .int .i64 e1]) ∧ Below W.heap.size W w'))) (he : e1 ≠ 0) (hm : ¬ m < -12) (hm2 : ¬ 12 < m) (hn : ¬ n < -12) (hn2 : ¬ 12 < n) (hs : IntKind.i64.wrap (m + n) = m + n) (h4 : Hid (∀ W, Below w.heap.size w W → Calls Tryz.prog 64 #[.agg #[.string fu, .string ou, .int .i64 u0, .int .i64 u1, .int .i64 u2, .int .i64 u3, .int .i64 u4, .int .i64 u5, .int .i64 u6], .int .i64 m] W (fun e w' => e = .returned (.tuple #[.agg #[.string fb, .string ob, .int .i64 b0, .int .i64 b1, .int .i64 b2, .int .i64 b3, .int .i64 b4, .int .i64 b5, .int .i64 b6], .int .i64 0]) ∧ Below W.heap.size W w'))) (h5 : Hid (∀ W, Below w.heap.size w W → Calls Tryz.prog 64 #[.agg #[.string fu, .string ou, .int .i64 u0, .int .i64 u1, .int .i64 u2, .int .i64 u3, .int .i64 u4, .int .i64 u5, .int .i64 u6], .int .i64 n] W (fun e w' => e = .returned (.tuple #[.agg #[.string fc, .string oc, .int .i64 c0, .int .i64 c1, .int .i64 c2, .int .i64 c3, .int .i64 c4, .int .i64 c5, .int .i64 c6], .int .i64 0]) ∧ Below W.heap.size W w'))) (h6 : Hid (∀ W, Below w.heap.size w W → Calls Tryz.prog 64 #[.agg #[.string fu, .string ou, .int .i64 u0, .int .i64 u1, .int .i64 u2, .int .i64 u3, .int .i64 u4, .int .i64 u5, .int .i64 u6], .int .i64 (m + n)] W (fun e w' => e = .returned (.tuple #[.agg #[.string fd, .string od, .int .i64 d0, .int .i64 d1, .int .i64 d2, .int .i64 d3, .int .i64 d4, .int .i64 d5, .int .i64 d6], .int .i64 0]) ∧ Below W.heap.size W w'))) (h7 : Hid (∀ W, Below w.heap.size w W → Calls Tryz.prog 60 #[.agg #[.string fb, .string ob, .int .i64 b0, .int .i64 b1, .int .i64 b2, .int .i64 b3, .int .i64 b4, .int .i64 b5, .int .i64 b6], .agg #[.string fc, .string oc, .int .i64 c0, .int .i64 c1, .int .i64 c2, .int .i64 c3, .int .i64 c4, .int .i64 c5, .int .i64 c6]] W (fun e w' => e = .returned (.tuple #[.agg #[.string fd, .string od, .int .i64 d0, .int .i64 d1, .int .i64 d2, .int .i64 d3, .int .i64 d4, .int .i64 d5, .int .i64 d6], .int .i64 0]) ∧ Below W.heap.size W w'))) (hw : Hid (AwakeIs w)) : Calls Tryz.prog 16 #[.agg #[.string fu, .string ou, .int .i64 u0, .int .i64 u1, .int .i64 u2, .int .i64 u3, .int .i64 u4, .int .i64 u5, .int .i64 u6], .agg #[.string fv, .string ov, .int .i64 v0, .int .i64 v1, .int .i64 v2, .int .i64 v3, .int .i64 v4, .int .i64 v5, .int .i64 v6], .int .i64 m, .int .i64 n] w (OrdPost w) := by
  have hk0 : Hid (Keep w ((w.alloc (.cells #[.string fu, .string ou, .int .i64 u0, .int .i64 u1, .int .i64 u2, .int .i64 u3, .int .i64 u4, .int .i64 u5, .int .i64 u6] 53)).alloc (.cells #[.string fv, .string ov, .int .i64 v0, .int .i64 v1, .int .i64 v2, .int .i64 v3, .int .i64 v4, .int .i64 v5, .int .i64 v6] 53)) [(w.heap.size + 1, #[.string fv, .string ov, .int .i64 v0, .int .i64 v1, .int .i64 v2, .int .i64 v3, .int .i64 v4, .int .i64 v5, .int .i64 v6], 53), (w.heap.size, #[.string fu, .string ou, .int .i64 u0, .int .i64 u1, .int .i64 u2, .int .i64 u3, .int .i64 u4, .int .i64 u5, .int .i64 u6], 53)]) := Lib.hid (Keep.two w _ _ 53 53)
  go_enter Tryz.func16, Tryz.ntmps16
  go_wp2_with fail
  have hqa := powers_same a0 a1 a2 a3 a4 a5 a6
  have hqd := powers_same d0 d1 d2 d3 d4 d5 d6
  refine (h1.out _ hk0.out.below).mono ?_
  rintro e w1 ⟨rfl, hb⟩
  have hk1 := Lib.hid (hk0.out.next hb)
  clear hb hk0
  have hm1 := Lib.hid (hk1.out.more #[.string fa, .string oa, .int .i64 a0, .int .i64 a1, .int .i64 a2, .int .i64 a3, .int .i64 a4, .int .i64 a5, .int .i64 a6] 53)
  clear hk1
  have hx : (w1.alloc (.cells #[.string fa, .string oa, .int .i64 a0, .int .i64 a1, .int .i64 a2, .int .i64 a3, .int .i64 a4, .int .i64 a5, .int .i64 a6] 53)).heap[w.heap.size + 1]? = some (.cells #[.string fv, .string ov, .int .i64 v0, .int .i64 v1, .int .i64 v2, .int .i64 v3, .int .i64 v4, .int .i64 v5, .int .i64 v6] 53 (0, 0)) := hm1.out.one _ (List.mem_cons_of_mem _ (List.mem_cons_self ..))
  have cwb_0 := cell_of_heap hx 0
  have cwb_1 := cell_of_heap hx 1
  have cwb_2 := cell_of_heap hx 2
  have cwb_3 := cell_of_heap hx 3
  have cwb_4 := cell_of_heap hx 4
  have cwb_5 := cell_of_heap hx 5
  have cwb_6 := cell_of_heap hx 6
  have cwb_7 := cell_of_heap hx 7
  have cwb_8 := cell_of_heap hx 8
  clear hx
  have hx : (w1.alloc (.cells #[.string fa, .string oa, .int .i64 a0, .int .i64 a1, .int .i64 a2, .int .i64 a3, .int .i64 a4, .int .i64 a5, .int .i64 a6] 53)).heap[w.heap.size]? = some (.cells #[.string fu, .string ou, .int .i64 u0, .int .i64 u1, .int .i64 u2, .int .i64 u3, .int .i64 u4, .int .i64 u5, .int .i64 u6] 53 (0, 0)) := hm1.out.one _ (List.mem_cons_of_mem _ (List.mem_cons_of_mem _ (List.mem_cons_self ..)))
  have cw_0 := cell_of_heap hx 0
  have cw_1 := cell_of_heap hx 1
  have cw_2 := cell_of_heap hx 2
  have cw_3 := cell_of_heap hx 3
  have cw_4 := cell_of_heap hx 4
  have cw_5 := cell_of_heap hx 5
  have cw_6 := cell_of_heap hx 6
  have cw_7 := cell_of_heap hx 7
  have cw_8 := cell_of_heap hx 8
  clear hx
  go_wp2_with fail
  clear cwb_0 cwb_1 cwb_2 cwb_3 cwb_4 cwb_5 cwb_6 cwb_7 cwb_8 cw_0 cw_1 cw_2 cw_3 cw_4 cw_5 cw_6 cw_7 cw_8
  refine (h2.out _ hm1.out.below).mono ?_
  rintro e w2 ⟨rfl, hb⟩
  have hk2 := Lib.hid (hm1.out.next hb)
  clear hb hm1
  have hm2 := Lib.hid (hk2.out.more #[.string fa, .string oa, .int .i64 a0, .int .i64 a1, .int .i64 a2, .int .i64 a3, .int .i64 a4, .int .i64 a5, .int .i64 a6] 53)
  clear hk2
  have hx : (w2.alloc (.cells #[.string fa, .string oa, .int .i64 a0, .int .i64 a1, .int .i64 a2, .int .i64 a3, .int .i64 a4, .int .i64 a5, .int .i64 a6] 53)).heap[w1.heap.size]? = some (.cells #[.string fa, .string oa, .int .i64 a0, .int .i64 a1, .int .i64 a2, .int .i64 a3, .int .i64 a4, .int .i64 a5, .int .i64 a6] 53 (0, 0)) := hm2.out.one _ (List.mem_cons_of_mem _ (List.mem_cons_self ..))
  have cw1_0 := cell_of_heap hx 0
  have cw1_1 := cell_of_heap hx 1
  have cw1_2 := cell_of_heap hx 2
  have cw1_3 := cell_of_heap hx 3
  have cw1_4 := cell_of_heap hx 4
  have cw1_5 := cell_of_heap hx 5
  have cw1_6 := cell_of_heap hx 6
  have cw1_7 := cell_of_heap hx 7
  have cw1_8 := cell_of_heap hx 8
  clear hx
  have hx : (w2.alloc (.cells #[.string fa, .string oa, .int .i64 a0, .int .i64 a1, .int .i64 a2, .int .i64 a3, .int .i64 a4, .int .i64 a5, .int .i64 a6] 53)).heap[w2.heap.size]? = some (.cells #[.string fa, .string oa, .int .i64 a0, .int .i64 a1, .int .i64 a2, .int .i64 a3, .int .i64 a4, .int .i64 a5, .int .i64 a6] 53 (0, 0)) := hm2.out.one _ (List.mem_cons_self ..)
  have cw2_0 := cell_of_heap hx 0
  have cw2_1 := cell_of_heap hx 1
  have cw2_2 := cell_of_heap hx 2
  have cw2_3 := cell_of_heap hx 3
  have cw2_4 := cell_of_heap hx 4
  have cw2_5 := cell_of_heap hx 5
  have cw2_6 := cell_of_heap hx 6
  have cw2_7 := cell_of_heap hx 7
  have cw2_8 := cell_of_heap hx 8
  clear hx
  have hx : (w2.alloc (.cells #[.string fa, .string oa, .int .i64 a0, .int .i64 a1, .int .i64 a2, .int .i64 a3, .int .i64 a4, .int .i64 a5, .int .i64 a6] 53)).heap[w.heap.size]? = some (.cells #[.string fu, .string ou, .int .i64 u0, .int .i64 u1, .int .i64 u2, .int .i64 u3, .int .i64 u4, .int .i64 u5, .int .i64 u6] 53 (0, 0)) := hm2.out.one _ (List.mem_cons_of_mem _ (List.mem_cons_of_mem _ (List.mem_cons_of_mem _ (List.mem_cons_self ..))))
  have cw_0 := cell_of_heap hx 0
  have cw_1 := cell_of_heap hx 1
  have cw_2 := cell_of_heap hx 2
  have cw_3 := cell_of_heap hx 3
  have cw_4 := cell_of_heap hx 4
  have cw_5 := cell_of_heap hx 5
  have cw_6 := cell_of_heap hx 6
  have cw_7 := cell_of_heap hx 7
  have cw_8 := cell_of_heap hx 8
  clear hx
  go_wp2_with fail
  clear cw1_0 cw1_1 cw1_2 cw1_3 cw1_4 cw1_5 cw1_6 cw1_7 cw1_8 cw2_0 cw2_1 cw2_2 cw2_3 cw2_4 cw2_5 cw2_6 cw2_7 cw2_8 cw_0 cw_1 cw_2 cw_3 cw_4 cw_5 cw_6 cw_7 cw_8
  refine (h4.out _ hm2.out.below).mono ?_
  rintro e w3 ⟨rfl, hb⟩
  have hk3 := Lib.hid (hm2.out.next hb)
  clear hb hm2
  have hm3 := Lib.hid (hk3.out.more #[.string fb, .string ob, .int .i64 b0, .int .i64 b1, .int .i64 b2, .int .i64 b3, .int .i64 b4, .int .i64 b5, .int .i64 b6] 53)
  clear hk3
  have hx : (w3.alloc (.cells #[.string fb, .string ob, .int .i64 b0, .int .i64 b1, .int .i64 b2, .int .i64 b3, .int .i64 b4, .int .i64 b5, .int .i64 b6] 53)).heap[w.heap.size]? = some (.cells #[.string fu, .string ou, .int .i64 u0, .int .i64 u1, .int .i64 u2, .int .i64 u3, .int .i64 u4, .int .i64 u5, .int .i64 u6] 53 (0, 0)) := hm3.out.one _ (List.mem_cons_of_mem _ (List.mem_cons_of_mem _ (List.mem_cons_of_mem _ (List.mem_cons_of_mem _ (List.mem_cons_self ..)))))
  have cw_0 := cell_of_heap hx 0
  have cw_1 := cell_of_heap hx 1
  have cw_2 := cell_of_heap hx 2
  have cw_3 := cell_of_heap hx 3
  have cw_4 := cell_of_heap hx 4
  have cw_5 := cell_of_heap hx 5
  have cw_6 := cell_of_heap hx 6
  have cw_7 := cell_of_heap hx 7
  have cw_8 := cell_of_heap hx 8
  clear hx
  go_wp2_with fail
  clear cw_0 cw_1 cw_2 cw_3 cw_4 cw_5 cw_6 cw_7 cw_8
  refine (h5.out _ hm3.out.below).mono ?_
  rintro e w4 ⟨rfl, hb⟩
  have hk4 := Lib.hid (hm3.out.next hb)
  clear hb hm3
  have hm4 := Lib.hid (hk4.out.more #[.string fc, .string oc, .int .i64 c0, .int .i64 c1, .int .i64 c2, .int .i64 c3, .int .i64 c4, .int .i64 c5, .int .i64 c6] 53)
  clear hk4
  have hx : (w4.alloc (.cells #[.string fc, .string oc, .int .i64 c0, .int .i64 c1, .int .i64 c2, .int .i64 c3, .int .i64 c4, .int .i64 c5, .int .i64 c6] 53)).heap[w.heap.size]? = some (.cells #[.string fu, .string ou, .int .i64 u0, .int .i64 u1, .int .i64 u2, .int .i64 u3, .int .i64 u4, .int .i64 u5, .int .i64 u6] 53 (0, 0)) := hm4.out.one _ (List.mem_cons_of_mem _ (List.mem_cons_of_mem _ (List.mem_cons_of_mem _ (List.mem_cons_of_mem _ (List.mem_cons_of_mem _ (List.mem_cons_self ..))))))
  have cw_0 := cell_of_heap hx 0
  have cw_1 := cell_of_heap hx 1
  have cw_2 := cell_of_heap hx 2
  have cw_3 := cell_of_heap hx 3
  have cw_4 := cell_of_heap hx 4
  have cw_5 := cell_of_heap hx 5
  have cw_6 := cell_of_heap hx 6
  have cw_7 := cell_of_heap hx 7
  have cw_8 := cell_of_heap hx 8
  clear hx
  go_wp2_with fail
  clear cw_0 cw_1 cw_2 cw_3 cw_4 cw_5 cw_6 cw_7 cw_8
  refine (h6.out _ hm4.out.below).mono ?_
  rintro e w5 ⟨rfl, hb⟩
  have hk5 := Lib.hid (hm4.out.next hb)
  clear hb hm4
  have hm5 := Lib.hid (hk5.out.more #[.string fd, .string od, .int .i64 d0, .int .i64 d1, .int .i64 d2, .int .i64 d3, .int .i64 d4, .int .i64 d5, .int .i64 d6] 53)
  clear hk5
  have hx : (w5.alloc (.cells #[.string fd, .string od, .int .i64 d0, .int .i64 d1, .int .i64 d2, .int .i64 d3, .int .i64 d4, .int .i64 d5, .int .i64 d6] 53)).heap[w3.heap.size]? = some (.cells #[.string fb, .string ob, .int .i64 b0, .int .i64 b1, .int .i64 b2, .int .i64 b3, .int .i64 b4, .int .i64 b5, .int .i64 b6] 53 (0, 0)) := hm5.out.one _ (List.mem_cons_of_mem _ (List.mem_cons_of_mem _ (List.mem_cons_self ..)))
  have cw3_0 := cell_of_heap hx 0
  have cw3_1 := cell_of_heap hx 1
  have cw3_2 := cell_of_heap hx 2
  have cw3_3 := cell_of_heap hx 3
  have cw3_4 := cell_of_heap hx 4
  have cw3_5 := cell_of_heap hx 5
  have cw3_6 := cell_of_heap hx 6
  have cw3_7 := cell_of_heap hx 7
  have cw3_8 := cell_of_heap hx 8
  clear hx
  have hx : (w5.alloc (.cells #[.string fd, .string od, .int .i64 d0, .int .i64 d1, .int .i64 d2, .int .i64 d3, .int .i64 d4, .int .i64 d5, .int .i64 d6] 53)).heap[w4.heap.size]? = some (.cells #[.string fc, .string oc, .int .i64 c0, .int .i64 c1, .int .i64 c2, .int .i64 c3, .int .i64 c4, .int .i64 c5, .int .i64 c6] 53 (0, 0)) := hm5.out.one _ (List.mem_cons_of_mem _ (List.mem_cons_self ..))
  have cw4_0 := cell_of_heap hx 0
  have cw4_1 := cell_of_heap hx 1
  have cw4_2 := cell_of_heap hx 2
  have cw4_3 := cell_of_heap hx 3
  have cw4_4 := cell_of_heap hx 4
  have cw4_5 := cell_of_heap hx 5
  have cw4_6 := cell_of_heap hx 6
  have cw4_7 := cell_of_heap hx 7
  have cw4_8 := cell_of_heap hx 8
  clear hx
  go_wp2_with fail
  clear cw3_0 cw3_1 cw3_2 cw3_3 cw3_4 cw3_5 cw3_6 cw3_7 cw3_8 cw4_0 cw4_1 cw4_2 cw4_3 cw4_4 cw4_5 cw4_6 cw4_7 cw4_8
  refine (h7.out _ hm5.out.below).mono ?_
  rintro e w6 ⟨rfl, hb⟩
  have hk6 := Lib.hid (hm5.out.next hb)
  clear hb hm5
  have hm6 := Lib.hid (hk6.out.more #[.string fd, .string od, .int .i64 d0, .int .i64 d1, .int .i64 d2, .int .i64 d3, .int .i64 d4, .int .i64 d5, .int .i64 d6] 53)
  clear hk6
  have hx : (w6.alloc (.cells #[.string fd, .string od, .int .i64 d0, .int .i64 d1, .int .i64 d2, .int .i64 d3, .int .i64 d4, .int .i64 d5, .int .i64 d6] 53)).heap[w6.heap.size]? = some (.cells #[.string fd, .string od, .int .i64 d0, .int .i64 d1, .int .i64 d2, .int .i64 d3, .int .i64 d4, .int .i64 d5, .int .i64 d6] 53 (0, 0)) := hm6.out.one _ (List.mem_cons_self ..)
  have cw6_0 := cell_of_heap hx 0
  have cw6_1 := cell_of_heap hx 1
  have cw6_2 := cell_of_heap hx 2
  have cw6_3 := cell_of_heap hx 3
  have cw6_4 := cell_of_heap hx 4
  have cw6_5 := cell_of_heap hx 5
  have cw6_6 := cell_of_heap hx 6
  have cw6_7 := cell_of_heap hx 7
  have cw6_8 := cell_of_heap hx 8
  clear hx
  have hx : (w6.alloc (.cells #[.string fd, .string od, .int .i64 d0, .int .i64 d1, .int .i64 d2, .int .i64 d3, .int .i64 d4, .int .i64 d5, .int .i64 d6] 53)).heap[w5.heap.size]? = some (.cells #[.string fd, .string od, .int .i64 d0, .int .i64 d1, .int .i64 d2, .int .i64 d3, .int .i64 d4, .int .i64 d5, .int .i64 d6] 53 (0, 0)) := hm6.out.one _ (List.mem_cons_of_mem _ (List.mem_cons_self ..))
  have cw5_0 := cell_of_heap hx 0
  have cw5_1 := cell_of_heap hx 1
  have cw5_2 := cell_of_heap hx 2
  have cw5_3 := cell_of_heap hx 3
  have cw5_4 := cell_of_heap hx 4
  have cw5_5 := cell_of_heap hx 5
  have cw5_6 := cell_of_heap hx 6
  have cw5_7 := cell_of_heap hx 7
  have cw5_8 := cell_of_heap hx 8
  clear hx
  go_wp2_with fail
  clear cw6_0 cw6_1 cw6_2 cw6_3 cw6_4 cw6_5 cw6_6 cw6_7 cw6_8 cw5_0 cw5_1 cw5_2 cw5_3 cw5_4 cw5_5 cw5_6 cw5_7 cw5_8
  refine (hw.out _ hm6.out.below).mono ?_
  rintro e w9 ⟨rfl, hb⟩
  have hk9 := Lib.hid (hm6.out.next hb)
  clear hb hm6
  go_wp2_with fail
  refine bodyPost_ret (v := .bool true) (by simp [results, Tryz.results16, go_sem]) rfl ?_
  exact ⟨rfl, hk9.out.below⟩
end Go.Proofs.YtigicjakloiliaaGreatDoor
