/- Units: isPlain, factorOf, offsetOf. -/
import Derived.Test.YtfjnipkpfbkegaaGreatDoorXTA
import Derived.Test.YtfjnipkpfbkegaaGreatDoorPart19
import Derived.Laws.StructEq
import Derived.ChangeKeysEq
set_option maxHeartbeats 800000
set_option maxRecDepth 100000
namespace Go.Proofs.YtfjnipkpfbkegaaGreatDoor
open Go.RowKit Go.Lib Big
theorem plain_no (f o : ByteArray) (p0 p1 p2 p3 p4 p5 p6 : Int) (w : World) (hp : ∀ W, Below w.heap.size w W → Hid (Calls Tryz.prog 7 #[.agg #[.string f, .string o, .int .i64 p0, .int .i64 p1, .int .i64 p2, .int .i64 p3, .int .i64 p4, .int .i64 p5, .int .i64 p6]] W fun e w' => e = .returned (.bool false) ∧ Below W.heap.size W w')) : Calls Tryz.prog 23 #[.agg #[.string f, .string o, .int .i64 p0, .int .i64 p1, .int .i64 p2, .int .i64 p3, .int .i64 p4, .int .i64 p5, .int .i64 p6]] w fun e w' => e = .returned (.bool false) ∧ Below w.heap.size w w' := by
  have hb0 := hiD (bea w (.cells #[.string f, .string o, .int .i64 p0, .int .i64 p1, .int .i64 p2, .int .i64 p3, .int .i64 p4, .int .i64 p5, .int .i64 p6] 24))
  have h1 := hp _ hb0.out
  clear hp
  go_enter Tryz.func23, Tryz.ntmps23
  go_wp2_with fail
  refine h1.out.mono ?_
  rintro e w1 ⟨rfl, hb1⟩
  have Hb1 := hiD (hb0.out.trans (hb1.mono hb0.out.size))
  clear hb1
  go_wp2_with fail
  go_ret
  exact ⟨rfl, Hb1.out⟩
theorem plain_yes (f o : ByteArray) (p0 p1 p2 p3 p4 p5 p6 : Int) (w : World) (hp : ∀ W, Below w.heap.size w W → Hid (Calls Tryz.prog 7 #[.agg #[.string f, .string o, .int .i64 p0, .int .i64 p1, .int .i64 p2, .int .i64 p3, .int .i64 p4, .int .i64 p5, .int .i64 p6]] W fun e w' => e = .returned (.bool true) ∧ Below W.heap.size W w')) : Calls Tryz.prog 23 #[.agg #[.string f, .string o, .int .i64 p0, .int .i64 p1, .int .i64 p2, .int .i64 p3, .int .i64 p4, .int .i64 p5, .int .i64 p6]] w fun e w' => e = .returned (.bool (o.toList == [48])) ∧ Below w.heap.size w w' := by
  have hb0 := hiD (bea w (.cells #[.string f, .string o, .int .i64 p0, .int .i64 p1, .int .i64 p2, .int .i64 p3, .int .i64 p4, .int .i64 p5, .int .i64 p6] 24))
  have hx0 := hiD (heap_new w (.cells #[.string f, .string o, .int .i64 p0, .int .i64 p1, .int .i64 p2, .int .i64 p3, .int .i64 p4, .int .i64 p5, .int .i64 p6] 24))
  have h1 := hp _ hb0.out
  clear hp
  go_enter Tryz.func23, Tryz.ntmps23
  go_wp2_with fail
  refine h1.out.mono ?_
  rintro e w1 ⟨rfl, hb1⟩
  have Hb1 := hiD (hb0.out.trans (hb1.mono hb0.out.size))
  have hx1 := (hb1.block w.heap.size (by simp)).trans hx0.out
  have e1 := ceh hx1 1
  clear hb1 hx1
  go_wp2_with fail
  go_ret
  exact ⟨rfl, Hb1.out⟩
theorem isPlain_any (f o : ByteArray) (p0 p1 p2 p3 p4 p5 p6 : Int) (w : World) (htab : Tab w) : Calls Tryz.prog 23 #[.agg #[.string f, .string o, .int .i64 p0, .int .i64 p1, .int .i64 p2, .int .i64 p3, .int .i64 p4, .int .i64 p5, .int .i64 p6]] w fun e w' => e = .returned (.bool (plainT (tU f o p0 p1 p2 p3 p4 p5 p6))) ∧ Below w.heap.size w w' := by
  have hp : ∀ W, Below w.heap.size w W → Calls Tryz.prog 7 #[.agg #[.string f, .string o, .int .i64 p0, .int .i64 p1, .int .i64 p2, .int .i64 p3, .int .i64 p4, .int .i64 p5, .int .i64 p6]] W fun e w' => e = .returned (.bool (validT (tU f o p0 p1 p2 p3 p4 p5 p6))) ∧ Below W.heap.size W w' := fun W hb => validUnit_any f o p0 p1 p2 p3 p4 p5 p6 W (htab.below hb)
  have he : ((tU f o p0 p1 p2 p3 p4 p5 p6).o == [48]) = (o.toList == [48]) := by rw [Lib.toList_data]; rfl
  unfold plainT
  rw [he]
  cases h1 : validT (tU f o p0 p1 p2 p3 p4 p5 p6) with
  | false =>
    rw [h1] at hp
    exact plain_no f o p0 p1 p2 p3 p4 p5 p6 w fun W hb => hiD (hp W hb)
  | true =>
    rw [h1] at hp
    exact plain_yes f o p0 p1 p2 p3 p4 p5 p6 w fun W hb => hiD (hp W hb)
end Go.Proofs.YtfjnipkpfbkegaaGreatDoor
set_option maxHeartbeats 3200000
set_option maxRecDepth 100000
namespace Go.Proofs.YtfjnipkpfbkegaaGreatDoor
open Go.RowKit Big
open Go.Lib
theorem Keep.two (w : World) (c1 c2 : Array Value) (t1 t2 : TypeId) : Keep w ((w.alloc (.cells c1 t1)).alloc (.cells c2 t2)) [(w.heap.size + 1, c2, t2), (w.heap.size, c1, t1)] := by
  have h := ((Keep.nil w).more c1 t1).more c2 t2
  rwa [show (w.alloc (.cells c1 t1)).heap.size = w.heap.size + 1 from by simp] at h
theorem powers_eq9 (p0 p1 p2 p3 p4 p5 p6 r0 r1 r2 r3 r4 r5 r6 : Int) (W : World) : (Op.equalIn 9999 22 (.agg #[.int .i64 p0, .int .i64 p1, .int .i64 p2, .int .i64 p3, .int .i64 p4, .int .i64 p5, .int .i64 p6]) (.agg #[.int .i64 r0, .int .i64 r1, .int .i64 r2, .int .i64 r3, .int .i64 r4, .int .i64 r5, .int .i64 r6])).run Tryz.prog W = .ok (decide ([p0, p1, p2, p3, p4, p5, p6] = [r0, r1, r2, r3, r4, r5, r6])) W := by
  obtain ⟨i, hi⟩ := Option.isSome_iff_exists.1 (by kernel_rfl : (Tryz.prog.info? 3).isSome = true)
  have u3 := Tryz.underlying3
  rw [show (9999 : Nat) = 9998 + 1 from rfl, run_equalIn_array W 9998 _ _ Tryz.underlying22 hi]
  simp only [show List.range 7 = [0, 1, 2, 3, 4, 5, 6] from rfl]
  have hc : Tryz.prog.cellsOf 3 = 1 := by kernel_rfl
  simp only [Op.eqItems, hc]
  go_simp
  by_cases h0 : p0 = r0
  · by_cases h1 : p1 = r1
    · by_cases h2 : p2 = r2
      · by_cases h3 : p3 = r3
        · by_cases h4 : p4 = r4
          · by_cases h5 : p5 = r5
            · by_cases h6 : p6 = r6
              · simp [h0, h1, h2, h3, h4, h5, h6]
              · simp [h0, h1, h2, h3, h4, h5, h6]
            · simp [h0, h1, h2, h3, h4, h5]
          · simp [h0, h1, h2, h3, h4]
        · simp [h0, h1, h2, h3]
      · simp [h0, h1, h2]
    · simp [h0, h1]
  · simp [h0]
theorem psame_3 (fu ou : ByteArray) (u0 u1 u2 u3 u4 u5 u6 : Int) (fv ov : ByteArray) (v0 v1 v2 v3 v4 v5 v6 : Int) (b : Bool) (w : World) (hb1 : (fu.toList == fv.toList) = true) (hb2 : (ou.toList == ov.toList) = true) (hb3 : [u0, u1, u2, u3, u4, u5, u6] = [v0, v1, v2, v3, v4, v5, v6]) (h : Hid (∀ W, Below w.heap.size w W → Calls Tryz.prog 7 #[.agg #[.string fu, .string ou, .int .i64 u0, .int .i64 u1, .int .i64 u2, .int .i64 u3, .int .i64 u4, .int .i64 u5, .int .i64 u6]] W fun e w' => e = .returned (.bool b) ∧ Below W.heap.size W w')) : Calls Tryz.prog 12 #[.agg #[.string fu, .string ou, .int .i64 u0, .int .i64 u1, .int .i64 u2, .int .i64 u3, .int .i64 u4, .int .i64 u5, .int .i64 u6], .agg #[.string fv, .string ov, .int .i64 v0, .int .i64 v1, .int .i64 v2, .int .i64 v3, .int .i64 v4, .int .i64 v5, .int .i64 v6]] w fun e w' => e = .returned (.bool b) ∧ Below w.heap.size w w' := by
  have hq := powers_eq9 u0 u1 u2 u3 u4 u5 u6 v0 v1 v2 v3 v4 v5 v6
  rw [decide_eq_true hb3] at hq
  have K0 : Hid (Keep w ((w.alloc (.cells #[.string fu, .string ou, .int .i64 u0, .int .i64 u1, .int .i64 u2, .int .i64 u3, .int .i64 u4, .int .i64 u5, .int .i64 u6] 24)).alloc (.cells #[.string fv, .string ov, .int .i64 v0, .int .i64 v1, .int .i64 v2, .int .i64 v3, .int .i64 v4, .int .i64 v5, .int .i64 v6] 24)) [(w.heap.size + 1, #[.string fv, .string ov, .int .i64 v0, .int .i64 v1, .int .i64 v2, .int .i64 v3, .int .i64 v4, .int .i64 v5, .int .i64 v6], 24), (w.heap.size, #[.string fu, .string ou, .int .i64 u0, .int .i64 u1, .int .i64 u2, .int .i64 u3, .int .i64 u4, .int .i64 u5, .int .i64 u6], 24)]) := hiD (Keep.two w _ _ 24 24)
  have hu := K0.out.one _ (List.mem_cons_of_mem _ (List.mem_cons_self ..))
  have hu_0 := ceh hu 0
  have hu_1 := ceh hu 1
  have hu_2 := ceh hu 2
  have hu_3 := ceh hu 3
  have hu_4 := ceh hu 4
  have hu_5 := ceh hu 5
  have hu_6 := ceh hu 6
  have hu_7 := ceh hu 7
  have hu_8 := ceh hu 8
  clear hu
  have hv := K0.out.one _ (List.mem_cons_self ..)
  have hv_0 := ceh hv 0
  have hv_1 := ceh hv 1
  have hv_2 := ceh hv 2
  have hv_3 := ceh hv 3
  have hv_4 := ceh hv 4
  have hv_5 := ceh hv 5
  have hv_6 := ceh hv 6
  have hv_7 := ceh hv 7
  have hv_8 := ceh hv 8
  clear hv
  go_enter Tryz.func12, Tryz.ntmps12
  go_wp2_with fail
  refine (h.out _ K0.out.below).mono ?_
  rintro e w1 ⟨rfl, hb⟩
  have K1 := hiD (K0.out.next hb)
  clear hb K0 hu_0 hu_1 hu_2 hu_3 hu_4 hu_5 hu_6 hu_7 hu_8 hv_0 hv_1 hv_2 hv_3 hv_4 hv_5 hv_6 hv_7 hv_8
  go_wp2_with fail
  go_ret
  exact ⟨rfl, K1.out.below⟩
end Go.Proofs.YtfjnipkpfbkegaaGreatDoor
