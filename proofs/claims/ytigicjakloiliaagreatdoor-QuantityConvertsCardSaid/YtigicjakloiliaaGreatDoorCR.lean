/- Units: Convert. -/
import Derived.Test.YtigicjakloiliaaGreatDoorCx
import Derived.Laws.StructEq
import Derived.ChangeKeysEq
set_option maxHeartbeats 1600000
set_option maxRecDepth 100000
namespace Go.Proofs.YtigicjakloiliaaGreatDoor
open Go.RowKit Go.Lib Big
theorem powers_eq (p0 p1 p2 p3 p4 p5 p6 r0 r1 r2 r3 r4 r5 r6 : Int) (W : World) : (Op.equalIn 10000 51 (.agg #[.int .i64 p0, .int .i64 p1, .int .i64 p2, .int .i64 p3, .int .i64 p4, .int .i64 p5, .int .i64 p6]) (.agg #[.int .i64 r0, .int .i64 r1, .int .i64 r2, .int .i64 r3, .int .i64 r4, .int .i64 r5, .int .i64 r6])).run Tryz.prog W = .ok (decide ([p0, p1, p2, p3, p4, p5, p6] = [r0, r1, r2, r3, r4, r5, r6])) W := by
  obtain ⟨i, hi⟩ := Option.isSome_iff_exists.1 (by kernel_rfl : (Tryz.prog.info? 3).isSome = true)
  have u3 := Tryz.underlying3
  rw [show (10000 : Nat) = 9999 + 1 from rfl, run_equalIn_array W 9999 _ _ Tryz.underlying51 hi]
  simp only [show List.range 7 = [0, 1, 2, 3, 4, 5, 6] from rfl]
  have hc : Tryz.prog.cellsOf 3 = 1 := by kernel_rfl
  simp only [Op.eqItems, hc]
  go_simp
  by_cases h0 : p0 = r0
  · by_cases h1 : p1 = r1
    · by_cases h2 : p2 = r2
      · by_cases h3 : p3 = r3
        · by_cases h4 : p4 = r4
          · by_cases h5 : p5 = r5
            · by_cases h6 : p6 = r6
              · simp [h0, h1, h2, h3, h4, h5, h6]
              · simp [h0, h1, h2, h3, h4, h5, h6]
            · simp [h0, h1, h2, h3, h4, h5]
          · simp [h0, h1, h2, h3, h4]
        · simp [h0, h1, h2, h3]
      · simp [h0, h1, h2]
    · simp [h0, h1]
  · simp [h0]
def ValIs (w : World) (u : Value) (b : Bool) : Prop := ∀ W, Below w.heap.size w W → Hid (Calls Tryz.prog 55 #[u] W fun e w' => e = .returned (.bool b) ∧ Below W.heap.size W w')
def ConvPost (r : List UInt8 × Int) (w : World) (e : Ending) (w' : World) : Prop := e = .returned (.tuple #[.string ⟨r.1.toArray⟩, .int .i64 r.2]) ∧ Below w.heap.size w w'
theorem conv_no1 (x : ByteArray) (fu ou : ByteArray) (u0 u1 u2 u3 u4 u5 u6 : Int) (fv ov : ByteArray) (v0 v1 v2 v3 v4 v5 v6 : Int)  (w : World) (hu : ValIs w (.agg #[.string fu, .string ou, .int .i64 u0, .int .i64 u1, .int .i64 u2, .int .i64 u3, .int .i64 u4, .int .i64 u5, .int .i64 u6]) false) : Calls Tryz.prog 67 #[.string x, .agg #[.string fu, .string ou, .int .i64 u0, .int .i64 u1, .int .i64 u2, .int .i64 u3, .int .i64 u4, .int .i64 u5, .int .i64 u6], .agg #[.string fv, .string ov, .int .i64 v0, .int .i64 v1, .int .i64 v2, .int .i64 v3, .int .i64 v4, .int .i64 v5, .int .i64 v6]] w (ConvPost ([], 10) w) := by
  have hk0 : Hid (Keep w ((w.alloc (.cells #[.string fu, .string ou, .int .i64 u0, .int .i64 u1, .int .i64 u2, .int .i64 u3, .int .i64 u4, .int .i64 u5, .int .i64 u6] 53)).alloc (.cells #[.string fv, .string ov, .int .i64 v0, .int .i64 v1, .int .i64 v2, .int .i64 v3, .int .i64 v4, .int .i64 v5, .int .i64 v6] 53)) [(w.heap.size + 1, #[.string fv, .string ov, .int .i64 v0, .int .i64 v1, .int .i64 v2, .int .i64 v3, .int .i64 v4, .int .i64 v5, .int .i64 v6], 53), (w.heap.size, #[.string fu, .string ou, .int .i64 u0, .int .i64 u1, .int .i64 u2, .int .i64 u3, .int .i64 u4, .int .i64 u5, .int .i64 u6], 53)]) := hiD (Keep.two w _ _ 53 53)
  have h1 := hu _ hk0.out.below
  clear hu
  go_enter Tryz.func67, Tryz.ntmps67
  go_wp2_with fail
  refine h1.out.mono ?_
  rintro e w1 ⟨rfl, hb⟩
  have hk1 := hiD (hk0.out.next hb)
  clear hb hk0 h1
  go_wp2_with fail
  refine bodyPost_ret (v := .tuple #[.string ⟨#[]⟩, .int .i64 10]) (by simp [results, Tryz.results67, go_sem]) rfl ?_
  exact ⟨rfl, hk1.out.below⟩
theorem conv_no2 (x : ByteArray) (fu ou : ByteArray) (u0 u1 u2 u3 u4 u5 u6 : Int) (fv ov : ByteArray) (v0 v1 v2 v3 v4 v5 v6 : Int)  (w : World) (hu : ValIs w (.agg #[.string fu, .string ou, .int .i64 u0, .int .i64 u1, .int .i64 u2, .int .i64 u3, .int .i64 u4, .int .i64 u5, .int .i64 u6]) true) (hv : ValIs w (.agg #[.string fv, .string ov, .int .i64 v0, .int .i64 v1, .int .i64 v2, .int .i64 v3, .int .i64 v4, .int .i64 v5, .int .i64 v6]) false) : Calls Tryz.prog 67 #[.string x, .agg #[.string fu, .string ou, .int .i64 u0, .int .i64 u1, .int .i64 u2, .int .i64 u3, .int .i64 u4, .int .i64 u5, .int .i64 u6], .agg #[.string fv, .string ov, .int .i64 v0, .int .i64 v1, .int .i64 v2, .int .i64 v3, .int .i64 v4, .int .i64 v5, .int .i64 v6]] w (ConvPost ([], 10) w) := by
  have hk0 : Hid (Keep w ((w.alloc (.cells #[.string fu, .string ou, .int .i64 u0, .int .i64 u1, .int .i64 u2, .int .i64 u3, .int .i64 u4, .int .i64 u5, .int .i64 u6] 53)).alloc (.cells #[.string fv, .string ov, .int .i64 v0, .int .i64 v1, .int .i64 v2, .int .i64 v3, .int .i64 v4, .int .i64 v5, .int .i64 v6] 53)) [(w.heap.size + 1, #[.string fv, .string ov, .int .i64 v0, .int .i64 v1, .int .i64 v2, .int .i64 v3, .int .i64 v4, .int .i64 v5, .int .i64 v6], 53), (w.heap.size, #[.string fu, .string ou, .int .i64 u0, .int .i64 u1, .int .i64 u2, .int .i64 u3, .int .i64 u4, .int .i64 u5, .int .i64 u6], 53)]) := hiD (Keep.two w _ _ 53 53)
  have h1 := hu _ hk0.out.below
  clear hu
  go_enter Tryz.func67, Tryz.ntmps67
  go_wp2_with fail
  refine h1.out.mono ?_
  rintro e w1 ⟨rfl, hb⟩
  have hk1 := hiD (hk0.out.next hb)
  clear hb hk0 h1
  have h2 := hv _ hk1.out.below
  clear hv
  have hx : w1.heap[w.heap.size + 1]? = some (.cells #[.string fv, .string ov, .int .i64 v0, .int .i64 v1, .int .i64 v2, .int .i64 v3, .int .i64 v4, .int .i64 v5, .int .i64 v6] 53 (0, 0)) := hk1.out.one _ (List.mem_cons_self ..)
  have cv0 := ceh hx 0
  have cv1 := ceh hx 1
  have cv2 := ceh hx 2
  have cv3 := ceh hx 3
  have cv4 := ceh hx 4
  have cv5 := ceh hx 5
  have cv6 := ceh hx 6
  have cv7 := ceh hx 7
  have cv8 := ceh hx 8
  clear hx
  go_wp2_with fail
  refine h2.out.mono ?_
  rintro e w2 ⟨rfl, hb⟩
  have hk2 := hiD (hk1.out.next hb)
  clear hb hk1 h2
  clear cv0 cv1 cv2 cv3 cv4 cv5 cv6 cv7 cv8
  go_wp2_with fail
  refine bodyPost_ret (v := .tuple #[.string ⟨#[]⟩, .int .i64 10]) (by simp [results, Tryz.results67, go_sem]) rfl ?_
  exact ⟨rfl, hk2.out.below⟩
theorem conv_ps (x : ByteArray) (fu ou : ByteArray) (u0 u1 u2 u3 u4 u5 u6 : Int) (fv ov : ByteArray) (v0 v1 v2 v3 v4 v5 v6 : Int)  (w : World) (hu : ValIs w (.agg #[.string fu, .string ou, .int .i64 u0, .int .i64 u1, .int .i64 u2, .int .i64 u3, .int .i64 u4, .int .i64 u5, .int .i64 u6]) true) (hv : ValIs w (.agg #[.string fv, .string ov, .int .i64 v0, .int .i64 v1, .int .i64 v2, .int .i64 v3, .int .i64 v4, .int .i64 v5, .int .i64 v6]) true) (heq : ∀ W, (Op.equalIn 10000 51 (.agg #[.int .i64 u0, .int .i64 u1, .int .i64 u2, .int .i64 u3, .int .i64 u4, .int .i64 u5, .int .i64 u6]) (.agg #[.int .i64 v0, .int .i64 v1, .int .i64 v2, .int .i64 v3, .int .i64 v4, .int .i64 v5, .int .i64 v6])).run Tryz.prog W = .ok false W) : Calls Tryz.prog 67 #[.string x, .agg #[.string fu, .string ou, .int .i64 u0, .int .i64 u1, .int .i64 u2, .int .i64 u3, .int .i64 u4, .int .i64 u5, .int .i64 u6], .agg #[.string fv, .string ov, .int .i64 v0, .int .i64 v1, .int .i64 v2, .int .i64 v3, .int .i64 v4, .int .i64 v5, .int .i64 v6]] w (ConvPost ([], 11) w) := by
  have hk0 : Hid (Keep w ((w.alloc (.cells #[.string fu, .string ou, .int .i64 u0, .int .i64 u1, .int .i64 u2, .int .i64 u3, .int .i64 u4, .int .i64 u5, .int .i64 u6] 53)).alloc (.cells #[.string fv, .string ov, .int .i64 v0, .int .i64 v1, .int .i64 v2, .int .i64 v3, .int .i64 v4, .int .i64 v5, .int .i64 v6] 53)) [(w.heap.size + 1, #[.string fv, .string ov, .int .i64 v0, .int .i64 v1, .int .i64 v2, .int .i64 v3, .int .i64 v4, .int .i64 v5, .int .i64 v6], 53), (w.heap.size, #[.string fu, .string ou, .int .i64 u0, .int .i64 u1, .int .i64 u2, .int .i64 u3, .int .i64 u4, .int .i64 u5, .int .i64 u6], 53)]) := hiD (Keep.two w _ _ 53 53)
  have h1 := hu _ hk0.out.below
  clear hu
  go_enter Tryz.func67, Tryz.ntmps67
  go_wp2_with fail
  refine h1.out.mono ?_
  rintro e w1 ⟨rfl, hb⟩
  have hk1 := hiD (hk0.out.next hb)
  clear hb hk0 h1
  have h2 := hv _ hk1.out.below
  clear hv
  have hx : w1.heap[w.heap.size + 1]? = some (.cells #[.string fv, .string ov, .int .i64 v0, .int .i64 v1, .int .i64 v2, .int .i64 v3, .int .i64 v4, .int .i64 v5, .int .i64 v6] 53 (0, 0)) := hk1.out.one _ (List.mem_cons_self ..)
  have cv0 := ceh hx 0
  have cv1 := ceh hx 1
  have cv2 := ceh hx 2
  have cv3 := ceh hx 3
  have cv4 := ceh hx 4
  have cv5 := ceh hx 5
  have cv6 := ceh hx 6
  have cv7 := ceh hx 7
  have cv8 := ceh hx 8
  clear hx
  go_wp2_with fail
  refine h2.out.mono ?_
  rintro e w2 ⟨rfl, hb⟩
  have hk2 := hiD (hk1.out.next hb)
  clear hb hk1 h2
  clear cv0 cv1 cv2 cv3 cv4 cv5 cv6 cv7 cv8
  have hx : w2.heap[w.heap.size]? = some (.cells #[.string fu, .string ou, .int .i64 u0, .int .i64 u1, .int .i64 u2, .int .i64 u3, .int .i64 u4, .int .i64 u5, .int .i64 u6] 53 (0, 0)) := hk2.out.one _ (List.mem_cons_of_mem _ (List.mem_cons_self ..))
  have cu0 := ceh hx 0
  have cu1 := ceh hx 1
  have cu2 := ceh hx 2
  have cu3 := ceh hx 3
  have cu4 := ceh hx 4
  have cu5 := ceh hx 5
  have cu6 := ceh hx 6
  have cu7 := ceh hx 7
  have cu8 := ceh hx 8
  clear hx
  have hx : w2.heap[w.heap.size + 1]? = some (.cells #[.string fv, .string ov, .int .i64 v0, .int .i64 v1, .int .i64 v2, .int .i64 v3, .int .i64 v4, .int .i64 v5, .int .i64 v6] 53 (0, 0)) := hk2.out.one _ (List.mem_cons_self ..)
  have cv0 := ceh hx 0
  have cv1 := ceh hx 1
  have cv2 := ceh hx 2
  have cv3 := ceh hx 3
  have cv4 := ceh hx 4
  have cv5 := ceh hx 5
  have cv6 := ceh hx 6
  have cv7 := ceh hx 7
  have cv8 := ceh hx 8
  clear hx
  go_wp2_with fail
  refine bodyPost_ret (v := .tuple #[.string ⟨#[]⟩, .int .i64 11]) (by simp [results, Tryz.results67, go_sem]) rfl ?_
  exact ⟨rfl, hk2.out.below⟩
theorem conv_none (x : ByteArray) (fu ou : ByteArray) (u0 u1 u2 u3 u4 u5 u6 : Int) (fv ov : ByteArray) (v0 v1 v2 v3 v4 v5 v6 : Int)  (w : World) (hu : ValIs w (.agg #[.string fu, .string ou, .int .i64 u0, .int .i64 u1, .int .i64 u2, .int .i64 u3, .int .i64 u4, .int .i64 u5, .int .i64 u6]) true) (hv : ValIs w (.agg #[.string fv, .string ov, .int .i64 v0, .int .i64 v1, .int .i64 v2, .int .i64 v3, .int .i64 v4, .int .i64 v5, .int .i64 v6]) true) (heq : ∀ W, (Op.equalIn 10000 51 (.agg #[.int .i64 u0, .int .i64 u1, .int .i64 u2, .int .i64 u3, .int .i64 u4, .int .i64 u5, .int .i64 u6]) (.agg #[.int .i64 v0, .int .i64 v1, .int .i64 v2, .int .i64 v3, .int .i64 v4, .int .i64 v5, .int .i64 v6])).run Tryz.prog W = .ok true W) (hr : ∀ W, Below w.heap.size w W → Hid (Calls Tryz.prog 75 #[.string x] W (NumPost none W))) : Calls Tryz.prog 67 #[.string x, .agg #[.string fu, .string ou, .int .i64 u0, .int .i64 u1, .int .i64 u2, .int .i64 u3, .int .i64 u4, .int .i64 u5, .int .i64 u6], .agg #[.string fv, .string ov, .int .i64 v0, .int .i64 v1, .int .i64 v2, .int .i64 v3, .int .i64 v4, .int .i64 v5, .int .i64 v6]] w (ConvPost ([], 0) w) := by
  have hk0 : Hid (Keep w ((w.alloc (.cells #[.string fu, .string ou, .int .i64 u0, .int .i64 u1, .int .i64 u2, .int .i64 u3, .int .i64 u4, .int .i64 u5, .int .i64 u6] 53)).alloc (.cells #[.string fv, .string ov, .int .i64 v0, .int .i64 v1, .int .i64 v2, .int .i64 v3, .int .i64 v4, .int .i64 v5, .int .i64 v6] 53)) [(w.heap.size + 1, #[.string fv, .string ov, .int .i64 v0, .int .i64 v1, .int .i64 v2, .int .i64 v3, .int .i64 v4, .int .i64 v5, .int .i64 v6], 53), (w.heap.size, #[.string fu, .string ou, .int .i64 u0, .int .i64 u1, .int .i64 u2, .int .i64 u3, .int .i64 u4, .int .i64 u5, .int .i64 u6], 53)]) := hiD (Keep.two w _ _ 53 53)
  have h1 := hu _ hk0.out.below
  clear hu
  go_enter Tryz.func67, Tryz.ntmps67
  go_wp2_with fail
  refine h1.out.mono ?_
  rintro e w1 ⟨rfl, hb⟩
  have hk1 := hiD (hk0.out.next hb)
  clear hb hk0 h1
  have h2 := hv _ hk1.out.below
  clear hv
  have hx : w1.heap[w.heap.size + 1]? = some (.cells #[.string fv, .string ov, .int .i64 v0, .int .i64 v1, .int .i64 v2, .int .i64 v3, .int .i64 v4, .int .i64 v5, .int .i64 v6] 53 (0, 0)) := hk1.out.one _ (List.mem_cons_self ..)
  have cv0 := ceh hx 0
  have cv1 := ceh hx 1
  have cv2 := ceh hx 2
  have cv3 := ceh hx 3
  have cv4 := ceh hx 4
  have cv5 := ceh hx 5
  have cv6 := ceh hx 6
  have cv7 := ceh hx 7
  have cv8 := ceh hx 8
  clear hx
  go_wp2_with fail
  refine h2.out.mono ?_
  rintro e w2 ⟨rfl, hb⟩
  have hk2 := hiD (hk1.out.next hb)
  clear hb hk1 h2
  clear cv0 cv1 cv2 cv3 cv4 cv5 cv6 cv7 cv8
  have h3 := hr _ hk2.out.below
  clear hr
  have hx : w2.heap[w.heap.size]? = some (.cells #[.string fu, .string ou, .int .i64 u0, .int .i64 u1, .int .i64 u2, .int .i64 u3, .int .i64 u4, .int .i64 u5, .int .i64 u6] 53 (0, 0)) := hk2.out.one _ (List.mem_cons_of_mem _ (List.mem_cons_self ..))
  have cu0 := ceh hx 0
  have cu1 := ceh hx 1
  have cu2 := ceh hx 2
  have cu3 := ceh hx 3
  have cu4 := ceh hx 4
  have cu5 := ceh hx 5
  have cu6 := ceh hx 6
  have cu7 := ceh hx 7
  have cu8 := ceh hx 8
  clear hx
  have hx : w2.heap[w.heap.size + 1]? = some (.cells #[.string fv, .string ov, .int .i64 v0, .int .i64 v1, .int .i64 v2, .int .i64 v3, .int .i64 v4, .int .i64 v5, .int .i64 v6] 53 (0, 0)) := hk2.out.one _ (List.mem_cons_self ..)
  have cv0 := ceh hx 0
  have cv1 := ceh hx 1
  have cv2 := ceh hx 2
  have cv3 := ceh hx 3
  have cv4 := ceh hx 4
  have cv5 := ceh hx 5
  have cv6 := ceh hx 6
  have cv7 := ceh hx 7
  have cv8 := ceh hx 8
  clear hx
  go_wp2_with fail
  refine h3.out.mono ?_
  rintro e w3 ⟨hb, b, p, n, c, q, m, d, rfl, hq⟩
  have hk3 := hiD ((hk2.out.next hb).next (bea w3 (.cells #[.bool b, .slice p n c, .slice q m d] 69)))
  clear hb hk2 h3 hq
  clear cv0 cv1 cv2 cv3 cv4 cv5 cv6 cv7 cv8
  clear cu0 cu1 cu2 cu3 cu4 cu5 cu6 cu7 cu8
  go_wp2_with fail
  refine bodyPost_ret (v := .tuple #[.string ⟨#[]⟩, .int .i64 0]) (by simp [results, Tryz.results67, go_sem]) rfl ?_
  exact ⟨rfl, hk3.out.below⟩
theorem conv_all {w W : World} {g : Nat} {fu ou : ByteArray} {u0 u1 u2 u3 u4 u5 u6 : Int} {fv ov : ByteArray} {v0 v1 v2 v3 v4 v5 v6 : Int} {bx : Bool} {px qx : Option Addr} {nx cx mx dx : Nat} (h : Keep w W [(g, #[.bool bx, .slice px nx cx, .slice qx mx dx], 69), (w.heap.size + 1, #[.string fv, .string ov, .int .i64 v0, .int .i64 v1, .int .i64 v2, .int .i64 v3, .int .i64 v4, .int .i64 v5, .int .i64 v6], 53), (w.heap.size, #[.string fu, .string ou, .int .i64 u0, .int .i64 u1, .int .i64 u2, .int .i64 u3, .int .i64 u4, .int .i64 u5, .int .i64 u6], 53)]) : Keep w W [(g, #[.bool bx, .slice px nx cx, .slice qx mx dx], 69), (w.heap.size + 1, #[.string fv, .string ov, .int .i64 v0, .int .i64 v1, .int .i64 v2, .int .i64 v3, .int .i64 v4, .int .i64 v5, .int .i64 v6], 53), (w.heap.size, #[.string fu, .string ou, .int .i64 u0, .int .i64 u1, .int .i64 u2, .int .i64 u3, .int .i64 u4, .int .i64 u5, .int .i64 u6], 53)] ∧ W.cell? ⟨w.heap.size, 0, none⟩ = some (.string fu) ∧ W.cell? ⟨w.heap.size, 1, none⟩ = some (.string ou) ∧ W.cell? ⟨w.heap.size, 2, none⟩ = some (.int .i64 u0) ∧ W.cell? ⟨w.heap.size, 3, none⟩ = some (.int .i64 u1) ∧ W.cell? ⟨w.heap.size, 4, none⟩ = some (.int .i64 u2) ∧ W.cell? ⟨w.heap.size, 5, none⟩ = some (.int .i64 u3) ∧ W.cell? ⟨w.heap.size, 6, none⟩ = some (.int .i64 u4) ∧ W.cell? ⟨w.heap.size, 7, none⟩ = some (.int .i64 u5) ∧ W.cell? ⟨w.heap.size, 8, none⟩ = some (.int .i64 u6) ∧ W.cell? ⟨g, 0, none⟩ = some (.bool bx) ∧ W.cell? ⟨g, 1, none⟩ = some (.slice px nx cx) ∧ W.cell? ⟨g, 2, none⟩ = some (.slice qx mx dx) :=
  ⟨h, ceh (h.one _ (List.mem_cons_of_mem _ (List.mem_cons_of_mem _ (List.mem_cons_self ..)))) 0, ceh (h.one _ (List.mem_cons_of_mem _ (List.mem_cons_of_mem _ (List.mem_cons_self ..)))) 1, ceh (h.one _ (List.mem_cons_of_mem _ (List.mem_cons_of_mem _ (List.mem_cons_self ..)))) 2, ceh (h.one _ (List.mem_cons_of_mem _ (List.mem_cons_of_mem _ (List.mem_cons_self ..)))) 3, ceh (h.one _ (List.mem_cons_of_mem _ (List.mem_cons_of_mem _ (List.mem_cons_self ..)))) 4, ceh (h.one _ (List.mem_cons_of_mem _ (List.mem_cons_of_mem _ (List.mem_cons_self ..)))) 5, ceh (h.one _ (List.mem_cons_of_mem _ (List.mem_cons_of_mem _ (List.mem_cons_self ..)))) 6, ceh (h.one _ (List.mem_cons_of_mem _ (List.mem_cons_of_mem _ (List.mem_cons_self ..)))) 7, ceh (h.one _ (List.mem_cons_of_mem _ (List.mem_cons_of_mem _ (List.mem_cons_self ..)))) 8, ceh (h.one _ (List.mem_cons_self ..)) 0, ceh (h.one _ (List.mem_cons_self ..)) 1, ceh (h.one _ (List.mem_cons_self ..)) 2⟩
def ZAt (n : Nat) (W : World) (g : Nat) : Prop := n ≤ g ∧ W.heap[g]? = some (.cells #[.bool false, .slice none 0 0, .slice none 0 0] 69 (0, 0))
theorem ZAt.new {n : Nat} {W W' : World} (hs : n ≤ W.heap.size) (h : Below (W.alloc (.cells #[.bool false, .slice none 0 0, .slice none 0 0] 69)).heap.size (W.alloc (.cells #[.bool false, .slice none 0 0, .slice none 0 0] 69)) W') : ZAt n W' W.heap.size :=
  ⟨hs, (h.block _ (Array.getElem?_eq_some_iff.1 (heap_new W _)).1).trans (heap_new W _)⟩
theorem ZAt.next {n g : Nat} {W W' : World} (hz : ZAt n W g) (h : Below W.heap.size W W') : ZAt n W' g :=
  ⟨hz.1, (h.block _ (Array.getElem?_eq_some_iff.1 hz.2).1).trans hz.2⟩
theorem rat_set {W : World} {g : Nat} {z0 z1 z2 x : Value} {q : Rat} {K : Nat} (hz : W.heap[g]? = some (.cells #[z0, z1, z2] 69 (0, 0))) (n0 : NoInt z0) (n1 : NoInt z1) (n2 : NoInt z2) (hx : RatIs W x q K) (k : Nat) (a : Value) : RatIs (W.setCell ⟨g, k, none⟩ a) x q K := by
  obtain ⟨s, c, d, ⟨u, v, h1, h2, h3, h4⟩, h5⟩ := hx
  exact ⟨s, c, d, ⟨u, v, h1, nat_set hz n0 n1 n2 h2 k a, nat_set hz n0 n1 n2 h3 k a, h4⟩, h5⟩
theorem rat_put3z {n g : Nat} {W : World} {x : Value} {q : Rat} {K : Nat} (hz : ZAt n W g) (hx : RatIs W x q K) (b0 : Bool) (p1 : Option Addr) (n1 c1 : Nat) (p2 : Option Addr) (n2 c2 : Nat) : RatIs (((W.setCell ⟨g, 0, none⟩ (.bool b0)).setCell ⟨g, 1, none⟩ (.slice p1 n1 c1)).setCell ⟨g, 2, none⟩ (.slice p2 n2 c2)) x q K := by
  have h0 : (W.setCell ⟨g, 0, none⟩ (.bool b0)).heap[g]? = some (.cells #[.bool b0, .slice none 0 0, .slice none 0 0] 69 (0, 0)) := heap_set g 0 _ 69 _ hz.2
  have h1 : ((W.setCell ⟨g, 0, none⟩ (.bool b0)).setCell ⟨g, 1, none⟩ (.slice p1 n1 c1)).heap[g]? = some (.cells #[.bool b0, .slice p1 n1 c1, .slice none 0 0] 69 (0, 0)) := heap_set g 1 _ 69 _ h0
  exact rat_set h1 (noInt_bool _) (noInt_slice _ _ _) (noInt_slice _ _ _) (rat_set h0 (noInt_bool _) (noInt_slice _ _ _) (noInt_slice _ _ _) (rat_set hz.2 (noInt_bool _) (noInt_slice _ _ _) (noInt_slice _ _ _) hx 0 _) 1 _) 2 _
theorem ZAt.slots {n g : Nat} {W : World} (hz : ZAt n W g) : (W.cell? ⟨g, 0, none⟩ = some (.bool false) ∧ W.cell? ⟨g, 1, none⟩ = some (.slice none 0 0) ∧ W.cell? ⟨g, 2, none⟩ = some (.slice none 0 0)) ∧ W.frozen? ⟨g, 0, none⟩ = false ∧ W.frozen? ⟨g, 1, none⟩ = false ∧ W.frozen? ⟨g, 2, none⟩ = false :=
  ⟨⟨ceh hz.2 0, ceh hz.2 1, ceh hz.2 2⟩, foh hz.2 0, foh hz.2 1, foh hz.2 2⟩
theorem size_next {n : Nat} {W W' : World} (hs : n ≤ W.heap.size) (h : Below W.heap.size W W') : n ≤ W'.heap.size := Nat.le_trans hs h.size
theorem size_alloc {n : Nat} {W W' : World} {o : Obj} (hs : n ≤ W.heap.size) (h : Below (W.alloc o).heap.size (W.alloc o) W') : n ≤ W'.heap.size := Nat.le_trans hs (Nat.le_trans (bea W o).size h.size)
theorem conv_put3z {w0 Wb W : World} {L : List Blk} {g : Nat} (hk : Keep w0 Wb L) (h : Keep w0 W L) (hz : ZAt Wb.heap.size W g) (a0 a1 a2 : Value) : Keep w0 (((W.setCell ⟨g, 0, none⟩ a0).setCell ⟨g, 1, none⟩ a1).setCell ⟨g, 2, none⟩ a2) L :=
  Keep.put3_far h (Nat.le_trans hk.below.size hz.1) (fun x hx => by have := hk.lt hx; have := hz.1; omega) a0 a1 a2
theorem put3z_heap {n g : Nat} {W : World} (hz : ZAt n W g) (a0 a1 a2 : Value) : (((W.setCell ⟨g, 0, none⟩ a0).setCell ⟨g, 1, none⟩ a1).setCell ⟨g, 2, none⟩ a2).heap[g]? = some (.cells #[a0, a1, a2] 69 (0, 0)) := by
  have h0 : (W.setCell ⟨g, 0, none⟩ a0).heap[g]? = some (.cells #[a0, .slice none 0 0, .slice none 0 0] 69 (0, 0)) := heap_set g 0 _ 69 a0 hz.2
  have h1 : ((W.setCell ⟨g, 0, none⟩ a0).setCell ⟨g, 1, none⟩ a1).heap[g]? = some (.cells #[a0, a1, .slice none 0 0] 69 (0, 0)) := heap_set g 1 _ 69 a1 h0
  have h2 : (((W.setCell ⟨g, 0, none⟩ a0).setCell ⟨g, 1, none⟩ a1).setCell ⟨g, 2, none⟩ a2).heap[g]? = some (.cells #[a0, a1, a2] 69 (0, 0)) := heap_set g 2 _ 69 a2 h1
  exact h2
theorem ZAt.keep {w0 Wb W : World} {L : List Blk} {g : Nat} (hk : Keep w0 Wb L) (h : Keep w0 W L) (hz : ZAt Wb.heap.size W g) (a0 a1 a2 : Value) : Keep w0 (((W.setCell ⟨g, 0, none⟩ a0).setCell ⟨g, 1, none⟩ a1).setCell ⟨g, 2, none⟩ a2) ((g, #[a0, a1, a2], 69) :: L) := by
  have h1 := conv_put3z hk h hz a0 a1 a2
  refine ⟨h1.below, fun x hx => ?_⟩
  rcases List.mem_cons.1 hx with rfl | hx
  · exact put3z_heap hz a0 a1 a2
  · exact h1.all x hx
theorem conv_all9 {w W : World} {g3 g : Nat} {fu ou : ByteArray} {u0 u1 u2 u3 u4 u5 u6 : Int} {fv ov : ByteArray} {v0 v1 v2 v3 v4 v5 v6 : Int} {bx : Bool} {px qx : Option Addr} {nx cx mx dx : Nat} {bs : Bool} {ps qs : Option Addr} {ns cs ms ds : Nat} (h : Keep w W ((g, #[.bool bs, .slice ps ns cs, .slice qs ms ds], 69) :: [(g3, #[.bool bx, .slice px nx cx, .slice qx mx dx], 69), (w.heap.size + 1, #[.string fv, .string ov, .int .i64 v0, .int .i64 v1, .int .i64 v2, .int .i64 v3, .int .i64 v4, .int .i64 v5, .int .i64 v6], 53), (w.heap.size, #[.string fu, .string ou, .int .i64 u0, .int .i64 u1, .int .i64 u2, .int .i64 u3, .int .i64 u4, .int .i64 u5, .int .i64 u6], 53)])) : Keep w W ((g, #[.bool bs, .slice ps ns cs, .slice qs ms ds], 69) :: [(g3, #[.bool bx, .slice px nx cx, .slice qx mx dx], 69), (w.heap.size + 1, #[.string fv, .string ov, .int .i64 v0, .int .i64 v1, .int .i64 v2, .int .i64 v3, .int .i64 v4, .int .i64 v5, .int .i64 v6], 53), (w.heap.size, #[.string fu, .string ou, .int .i64 u0, .int .i64 u1, .int .i64 u2, .int .i64 u3, .int .i64 u4, .int .i64 u5, .int .i64 u6], 53)]) ∧ W.cell? ⟨w.heap.size + 1, 0, none⟩ = some (.string fv) ∧ W.cell? ⟨w.heap.size + 1, 1, none⟩ = some (.string ov) ∧ W.cell? ⟨w.heap.size + 1, 2, none⟩ = some (.int .i64 v0) ∧ W.cell? ⟨w.heap.size + 1, 3, none⟩ = some (.int .i64 v1) ∧ W.cell? ⟨w.heap.size + 1, 4, none⟩ = some (.int .i64 v2) ∧ W.cell? ⟨w.heap.size + 1, 5, none⟩ = some (.int .i64 v3) ∧ W.cell? ⟨w.heap.size + 1, 6, none⟩ = some (.int .i64 v4) ∧ W.cell? ⟨w.heap.size + 1, 7, none⟩ = some (.int .i64 v5) ∧ W.cell? ⟨w.heap.size + 1, 8, none⟩ = some (.int .i64 v6) ∧ W.cell? ⟨g, 0, none⟩ = some (.bool bs) ∧ W.cell? ⟨g, 1, none⟩ = some (.slice ps ns cs) ∧ W.cell? ⟨g, 2, none⟩ = some (.slice qs ms ds) :=
  ⟨h, ceh (h.one _ (List.mem_cons_of_mem _ (List.mem_cons_of_mem _ (List.mem_cons_self ..)))) 0, ceh (h.one _ (List.mem_cons_of_mem _ (List.mem_cons_of_mem _ (List.mem_cons_self ..)))) 1, ceh (h.one _ (List.mem_cons_of_mem _ (List.mem_cons_of_mem _ (List.mem_cons_self ..)))) 2, ceh (h.one _ (List.mem_cons_of_mem _ (List.mem_cons_of_mem _ (List.mem_cons_self ..)))) 3, ceh (h.one _ (List.mem_cons_of_mem _ (List.mem_cons_of_mem _ (List.mem_cons_self ..)))) 4, ceh (h.one _ (List.mem_cons_of_mem _ (List.mem_cons_of_mem _ (List.mem_cons_self ..)))) 5, ceh (h.one _ (List.mem_cons_of_mem _ (List.mem_cons_of_mem _ (List.mem_cons_self ..)))) 6, ceh (h.one _ (List.mem_cons_of_mem _ (List.mem_cons_of_mem _ (List.mem_cons_self ..)))) 7, ceh (h.one _ (List.mem_cons_of_mem _ (List.mem_cons_of_mem _ (List.mem_cons_self ..)))) 8, ceh (h.one _ (List.mem_cons_self ..)) 0, ceh (h.one _ (List.mem_cons_self ..)) 1, ceh (h.one _ (List.mem_cons_self ..)) 2⟩
theorem conv_ok (x : ByteArray) (fu ou : ByteArray) (u0 u1 u2 u3 u4 u5 u6 : Int) (fv ov : ByteArray) (v0 v1 v2 v3 v4 v5 v6 : Int) (a fu' ou' fv' ov' : Rat) (w : World) (hu : ValIs w (.agg #[.string fu, .string ou, .int .i64 u0, .int .i64 u1, .int .i64 u2, .int .i64 u3, .int .i64 u4, .int .i64 u5, .int .i64 u6]) true) (hv : ValIs w (.agg #[.string fv, .string ov, .int .i64 v0, .int .i64 v1, .int .i64 v2, .int .i64 v3, .int .i64 v4, .int .i64 v5, .int .i64 v6]) true) (heq : ∀ W, (Op.equalIn 10000 51 (.agg #[.int .i64 u0, .int .i64 u1, .int .i64 u2, .int .i64 u3, .int .i64 u4, .int .i64 u5, .int .i64 u6]) (.agg #[.int .i64 v0, .int .i64 v1, .int .i64 v2, .int .i64 v3, .int .i64 v4, .int .i64 v5, .int .i64 v6])).run Tryz.prog W = .ok true W) (hr : ∀ W, Below w.heap.size w W → Hid (Calls Tryz.prog 75 #[.string x] W (NumPost (some a) W))) (hfu : Hid (∀ W, Below w.heap.size w W → Calls Tryz.prog 121 #[.agg #[.string fu, .string ou, .int .i64 u0, .int .i64 u1, .int .i64 u2, .int .i64 u3, .int .i64 u4, .int .i64 u5, .int .i64 u6]] W (IsPost fu' 20 W))) (hou : Hid (∀ W, Below w.heap.size w W → Calls Tryz.prog 124 #[.agg #[.string fu, .string ou, .int .i64 u0, .int .i64 u1, .int .i64 u2, .int .i64 u3, .int .i64 u4, .int .i64 u5, .int .i64 u6]] W (IsPost ou' 20 W))) (hfv : Hid (∀ W, Below w.heap.size w W → Calls Tryz.prog 121 #[.agg #[.string fv, .string ov, .int .i64 v0, .int .i64 v1, .int .i64 v2, .int .i64 v3, .int .i64 v4, .int .i64 v5, .int .i64 v6]] W (IsPost fv' 20 W))) (hov : Hid (∀ W, Below w.heap.size w W → Calls Tryz.prog 124 #[.agg #[.string fv, .string ov, .int .i64 v0, .int .i64 v1, .int .i64 v2, .int .i64 v3, .int .i64 v4, .int .i64 v5, .int .i64 v6]] W (IsPost ov' 20 W))) (hmu : Hid (∀ W y z, RatIs W y fu' 20 → RatIs W z a 20 → Calls Tryz.prog 88 #[y, z] W (IsPost (fu' * a) 40 W))) (had : Hid (∀ W y z, RatIs W y (fu' * a) 40 → RatIs W z ou' 20 → Calls Tryz.prog 86 #[y, z] W (IsPost (fu' * a + ou') 81 W))) (hsu : Hid (∀ W y z, RatIs W y (fu' * a + ou') 81 → RatIs W z ov' 20 → Calls Tryz.prog 82 #[y, z] W (IsPost (fu' * a + ou' - ov') 163 W))) (hqu : Hid (∀ W y z, RatIs W y (fu' * a + ou' - ov') 163 → RatIs W z fv' 20 → Calls Tryz.prog 89 #[y, z] W (IsPost ((fu' * a + ou' - ov') / fv') 326 W))) (htx : Hid (∀ W y, Below w.heap.size w W → RatIs W y ((fu' * a + ou' - ov') / fv') 326 → Calls Tryz.prog 72 #[y] W fun e w' => e = .returned (.string ⟨(txt ((fu' * a + ou' - ov') / fv')).toArray⟩) ∧ Below W.heap.size W w')) : Calls Tryz.prog 67 #[.string x, .agg #[.string fu, .string ou, .int .i64 u0, .int .i64 u1, .int .i64 u2, .int .i64 u3, .int .i64 u4, .int .i64 u5, .int .i64 u6], .agg #[.string fv, .string ov, .int .i64 v0, .int .i64 v1, .int .i64 v2, .int .i64 v3, .int .i64 v4, .int .i64 v5, .int .i64 v6]] w (ConvPost (txt ((fu' * a + ou' - ov') / fv'), 0) w) := by
  have hk0 : Hid (Keep w ((w.alloc (.cells #[.string fu, .string ou, .int .i64 u0, .int .i64 u1, .int .i64 u2, .int .i64 u3, .int .i64 u4, .int .i64 u5, .int .i64 u6] 53)).alloc (.cells #[.string fv, .string ov, .int .i64 v0, .int .i64 v1, .int .i64 v2, .int .i64 v3, .int .i64 v4, .int .i64 v5, .int .i64 v6] 53)) [(w.heap.size + 1, #[.string fv, .string ov, .int .i64 v0, .int .i64 v1, .int .i64 v2, .int .i64 v3, .int .i64 v4, .int .i64 v5, .int .i64 v6], 53), (w.heap.size, #[.string fu, .string ou, .int .i64 u0, .int .i64 u1, .int .i64 u2, .int .i64 u3, .int .i64 u4, .int .i64 u5, .int .i64 u6], 53)]) := hiD (Keep.two w _ _ 53 53)
  have h1 := hu _ hk0.out.below
  clear hu
  go_enter Tryz.func67, Tryz.ntmps67
  go_wp2_with fail
  refine h1.out.mono ?_
  rintro e w1 ⟨rfl, hb⟩
  have hk1 := hiD (hk0.out.next hb)
  clear hb hk0 h1
  have h2 := hv _ hk1.out.below
  clear hv
  have hx : w1.heap[w.heap.size + 1]? = some (.cells #[.string fv, .string ov, .int .i64 v0, .int .i64 v1, .int .i64 v2, .int .i64 v3, .int .i64 v4, .int .i64 v5, .int .i64 v6] 53 (0, 0)) := hk1.out.one _ (List.mem_cons_self ..)
  have cv0 := ceh hx 0
  have cv1 := ceh hx 1
  have cv2 := ceh hx 2
  have cv3 := ceh hx 3
  have cv4 := ceh hx 4
  have cv5 := ceh hx 5
  have cv6 := ceh hx 6
  have cv7 := ceh hx 7
  have cv8 := ceh hx 8
  clear hx
  go_wp2_with fail
  refine h2.out.mono ?_
  rintro e w2 ⟨rfl, hb⟩
  have hk2 := hiD (hk1.out.next hb)
  clear hb hk1 h2
  clear cv0 cv1 cv2 cv3 cv4 cv5 cv6 cv7 cv8
  have h3 := hr _ hk2.out.below
  clear hr
  have hx : w2.heap[w.heap.size]? = some (.cells #[.string fu, .string ou, .int .i64 u0, .int .i64 u1, .int .i64 u2, .int .i64 u3, .int .i64 u4, .int .i64 u5, .int .i64 u6] 53 (0, 0)) := hk2.out.one _ (List.mem_cons_of_mem _ (List.mem_cons_self ..))
  have cu0 := ceh hx 0
  have cu1 := ceh hx 1
  have cu2 := ceh hx 2
  have cu3 := ceh hx 3
  have cu4 := ceh hx 4
  have cu5 := ceh hx 5
  have cu6 := ceh hx 6
  have cu7 := ceh hx 7
  have cu8 := ceh hx 8
  clear hx
  have hx : w2.heap[w.heap.size + 1]? = some (.cells #[.string fv, .string ov, .int .i64 v0, .int .i64 v1, .int .i64 v2, .int .i64 v3, .int .i64 v4, .int .i64 v5, .int .i64 v6] 53 (0, 0)) := hk2.out.one _ (List.mem_cons_self ..)
  have cv0 := ceh hx 0
  have cv1 := ceh hx 1
  have cv2 := ceh hx 2
  have cv3 := ceh hx 3
  have cv4 := ceh hx 4
  have cv5 := ceh hx 5
  have cv6 := ceh hx 6
  have cv7 := ceh hx 7
  have cv8 := ceh hx 8
  clear hx
  go_wp2_with fail
  refine h3.out.mono ?_
  rintro e w3 ⟨hb, bx, px, nx, cx, qx, mx, dx, rfl, hq⟩
  have hX := hq _ rfl
  have hk3 := hiD ((hk2.out.next hb).more #[.bool bx, .slice px nx cx, .slice qx mx dx] 69)
  have hX3 := hX.below (bea w3 (.cells #[.bool bx, .slice px nx cx, .slice qx mx dx] 69))
  clear hb hk2 h3 hq hX
  have hs : (w3.alloc (.cells #[.bool bx, .slice px nx cx, .slice qx mx dx] 69)).heap.size ≤ (w3.alloc (.cells #[.bool bx, .slice px nx cx, .slice qx mx dx] 69)).drew.heap.size := Nat.le_refl _
  clear cv0 cv1 cv2 cv3 cv4 cv5 cv6 cv7 cv8
  clear cu0 cu1 cu2 cu3 cu4 cu5 cu6 cu7 cu8
  generalize hm1 : fu' * a = m1 at *
  generalize hm2 : m1 + ou' = m2 at *
  generalize hm3 : m2 - ov' = m3 at *
  generalize hm4 : m3 / fv' = m4 at *
  clear hm1 hm2 hm3 hm4
  go_wp2_with fail
  go_region_held3 (fun w' => Keep w w' [(w3.heap.size, #[.bool bx, .slice px nx cx, .slice qx mx dx], 69), (w.heap.size + 1, #[.string fv, .string ov, .int .i64 v0, .int .i64 v1, .int .i64 v2, .int .i64 v3, .int .i64 v4, .int .i64 v5, .int .i64 v6], 53), (w.heap.size, #[.string fu, .string ou, .int .i64 u0, .int .i64 u1, .int .i64 u2, .int .i64 u3, .int .i64 u4, .int .i64 u5, .int .i64 u6], 53)] ∧ w'.cell? ⟨w.heap.size, 0, none⟩ = some (.string fu) ∧ w'.cell? ⟨w.heap.size, 1, none⟩ = some (.string ou) ∧ w'.cell? ⟨w.heap.size, 2, none⟩ = some (.int .i64 u0) ∧ w'.cell? ⟨w.heap.size, 3, none⟩ = some (.int .i64 u1) ∧ w'.cell? ⟨w.heap.size, 4, none⟩ = some (.int .i64 u2) ∧ w'.cell? ⟨w.heap.size, 5, none⟩ = some (.int .i64 u3) ∧ w'.cell? ⟨w.heap.size, 6, none⟩ = some (.int .i64 u4) ∧ w'.cell? ⟨w.heap.size, 7, none⟩ = some (.int .i64 u5) ∧ w'.cell? ⟨w.heap.size, 8, none⟩ = some (.int .i64 u6) ∧ w'.cell? ⟨w3.heap.size, 0, none⟩ = some (.bool bx) ∧ w'.cell? ⟨w3.heap.size, 1, none⟩ = some (.slice px nx cx) ∧ w'.cell? ⟨w3.heap.size, 2, none⟩ = some (.slice qx mx dx))
    (first | with_reducible exact conv_all (Keep.next hkk7 (bea _ _)) | with_reducible exact conv_all (conv_put3z hk3.out hkk7 hz _ _ _) | with_reducible exact conv_all (Keep.drew hk3.out) | (go_split_ands; with_reducible exact conv_all (Keep.next (by assumption) hb4)) | (go_split_ands; with_reducible exact conv_all (Keep.next (by assumption) hb5)) | (go_split_ands; with_reducible exact conv_all (Keep.next (by assumption) hb6)) | (go_split_ands; with_reducible exact conv_all (Keep.next (by assumption) hb7)) | (go_split_ands; with_reducible exact conv_all (Keep.next (by assumption) (bea _ _))) | (go_split_ands; trace_state; fail))
    (first | (go_at_call 121; go_split_ands; refine (hfu.out _ (Keep.below (by assumption))).mono ?_; rintro e w4 ⟨xu, rfl, hxu, hb4⟩; (first | have hz : ZAt (w3.alloc (.cells #[.bool bx, .slice px nx cx, .slice qx mx dx] 69)).heap.size w4 (w3.heap.size + 1) := (by have h := ZAt.new hs hb4; rwa [show ((w3.alloc (.cells #[.bool bx, .slice px nx cx, .slice qx mx dx] 69)).drew).heap.size = w3.heap.size + 1 from by first | (simp; done) | (show (w3.heap.push _).size = _; simp)] at h) | have hz := ZAt.new hs hb4 | have hz := ZAt.next hz hb4 | skip); have hs : (w3.alloc (.cells #[.bool bx, .slice px nx cx, .slice qx mx dx] 69)).heap.size ≤ w4.heap.size := (by first | exact size_next hs hb4 | exact size_alloc hs hb4)) | (go_at_call 88; refine (hmu.out _ _ _ (by (repeat (first | assumption | refine RatIs.below ?_ (bea _ _) | refine RatIs.below ?_ ((Below.refl _ _).drew) | refine RatIs.below ?_ (by assumption)))) (by (repeat (first | assumption | refine RatIs.below ?_ (bea _ _) | refine RatIs.below ?_ ((Below.refl _ _).drew) | refine RatIs.below ?_ (by assumption))))).mono ?_; rintro e w5 ⟨xm, rfl, hxm, hb5⟩; (first | have hz := ZAt.new hs hb5 | have hz := ZAt.next hz hb5 | skip); have hs : (w3.alloc (.cells #[.bool bx, .slice px nx cx, .slice qx mx dx] 69)).heap.size ≤ w5.heap.size := (by first | exact size_next hs hb5 | exact size_alloc hs hb5)) | (go_at_call 124; go_split_ands; refine (hou.out _ (Keep.below (by assumption))).mono ?_; rintro e w6 ⟨xo, rfl, hxo, hb6⟩; (first | have hz := ZAt.new hs hb6 | have hz := ZAt.next hz hb6 | skip); have hs : (w3.alloc (.cells #[.bool bx, .slice px nx cx, .slice qx mx dx] 69)).heap.size ≤ w6.heap.size := (by first | exact size_next hs hb6 | exact size_alloc hs hb6)) | (go_at_call 86; go_split_ands; refine (had.out _ _ _ (by (repeat (first | assumption | refine RatIs.below ?_ (bea _ _) | refine RatIs.below ?_ ((Below.refl _ _).drew) | refine RatIs.below ?_ (by assumption)))) (by (repeat (first | assumption | refine RatIs.below ?_ (bea _ _) | refine RatIs.below ?_ ((Below.refl _ _).drew) | refine RatIs.below ?_ (by assumption))))).mono ?_; rintro e w7 ⟨xs, rfl, hxs, hb7⟩; obtain ⟨bs, ps, ns, cs, qs, ms, ds, rfl⟩ := hxs.agg; have hkk7 := Keep.next (L := [(w3.heap.size, #[.bool bx, .slice px nx cx, .slice qx mx dx], 69), (w.heap.size + 1, #[.string fv, .string ov, .int .i64 v0, .int .i64 v1, .int .i64 v2, .int .i64 v3, .int .i64 v4, .int .i64 v5, .int .i64 v6], 53), (w.heap.size, #[.string fu, .string ou, .int .i64 u0, .int .i64 u1, .int .i64 u2, .int .i64 u3, .int .i64 u4, .int .i64 u5, .int .i64 u6], 53)]) (by assumption) hb7; (first | have hz := ZAt.new hs hb7 | have hz := ZAt.next hz hb7 | skip); have hs : (w3.alloc (.cells #[.bool bx, .slice px nx cx, .slice qx mx dx] 69)).heap.size ≤ w7.heap.size := (by first | exact size_next hs hb7 | exact size_alloc hs hb7); (first | (have hzs := ZAt.slots hz; obtain ⟨⟨z0, z1, z2⟩, f0, f1, f2⟩ := hzs) | skip)))
  · have hk10 := hiD (Keep.more hkk7 #[.bool bs, .slice ps ns cs, .slice qs ms ds] 69)
    have hxs10 := hxs.below (bea w7 (.cells #[.bool bs, .slice ps ns cs, .slice qs ms ds] 69))
    clear hk3 hkk7 hxs
    go_wp2_with fail
    go_region_held3 (fun w' => Keep w w' ((w7.heap.size, #[.bool bs, .slice ps ns cs, .slice qs ms ds], 69) :: [(w3.heap.size, #[.bool bx, .slice px nx cx, .slice qx mx dx], 69), (w.heap.size + 1, #[.string fv, .string ov, .int .i64 v0, .int .i64 v1, .int .i64 v2, .int .i64 v3, .int .i64 v4, .int .i64 v5, .int .i64 v6], 53), (w.heap.size, #[.string fu, .string ou, .int .i64 u0, .int .i64 u1, .int .i64 u2, .int .i64 u3, .int .i64 u4, .int .i64 u5, .int .i64 u6], 53)]) ∧ w'.cell? ⟨w.heap.size + 1, 0, none⟩ = some (.string fv) ∧ w'.cell? ⟨w.heap.size + 1, 1, none⟩ = some (.string ov) ∧ w'.cell? ⟨w.heap.size + 1, 2, none⟩ = some (.int .i64 v0) ∧ w'.cell? ⟨w.heap.size + 1, 3, none⟩ = some (.int .i64 v1) ∧ w'.cell? ⟨w.heap.size + 1, 4, none⟩ = some (.int .i64 v2) ∧ w'.cell? ⟨w.heap.size + 1, 5, none⟩ = some (.int .i64 v3) ∧ w'.cell? ⟨w.heap.size + 1, 6, none⟩ = some (.int .i64 v4) ∧ w'.cell? ⟨w.heap.size + 1, 7, none⟩ = some (.int .i64 v5) ∧ w'.cell? ⟨w.heap.size + 1, 8, none⟩ = some (.int .i64 v6) ∧ w'.cell? ⟨w7.heap.size, 0, none⟩ = some (.bool bs) ∧ w'.cell? ⟨w7.heap.size, 1, none⟩ = some (.slice ps ns cs) ∧ w'.cell? ⟨w7.heap.size, 2, none⟩ = some (.slice qs ms ds))
      (first | with_reducible exact conv_all9 (Keep.drew hk10.out) | (go_split_ands; with_reducible exact conv_all9 (Keep.next (by assumption) hc1)) | (go_split_ands; with_reducible exact conv_all9 (Keep.next (by assumption) hc2)) | (go_split_ands; with_reducible exact conv_all9 (Keep.next (by assumption) hc3)) | (go_split_ands; with_reducible exact conv_all9 (Keep.next (by assumption) hc4)) | (go_split_ands; with_reducible exact conv_all9 (Keep.next (by assumption) hc5)) | (go_split_ands; trace_state; fail))
      (first | (go_at_call 124; go_split_ands; refine (hov.out _ (Keep.below (by assumption))).mono ?_; rintro e y1 ⟨xv, rfl, hxv, hc1⟩) | (go_at_call 82; refine (hsu.out _ _ _ (by (repeat (first | assumption | refine RatIs.below ?_ (bea _ _) | refine RatIs.below ?_ ((Below.refl _ _).drew) | refine RatIs.below ?_ (by assumption)))) (by (repeat (first | assumption | refine RatIs.below ?_ (bea _ _) | refine RatIs.below ?_ ((Below.refl _ _).drew) | refine RatIs.below ?_ (by assumption))))).mono ?_; rintro e y2 ⟨xd, rfl, hxd, hc2⟩) | (go_at_call 121; go_split_ands; refine (hfv.out _ (Keep.below (by assumption))).mono ?_; rintro e y3 ⟨xf, rfl, hxf, hc3⟩) | (go_at_call 89; refine (hqu.out _ _ _ (by (repeat (first | assumption | refine RatIs.below ?_ (bea _ _) | refine RatIs.below ?_ ((Below.refl _ _).drew) | refine RatIs.below ?_ (by assumption)))) (by (repeat (first | assumption | refine RatIs.below ?_ (bea _ _) | refine RatIs.below ?_ ((Below.refl _ _).drew) | refine RatIs.below ?_ (by assumption))))).mono ?_; rintro e y4 ⟨xq, rfl, hxq, hc4⟩) | (go_at_call 72; go_split_ands; refine (htx.out _ _ (Keep.below (by assumption)) (by (repeat (first | assumption | refine RatIs.below ?_ (bea _ _) | refine RatIs.below ?_ ((Below.refl _ _).drew) | refine RatIs.below ?_ (by assumption))))).mono ?_; rintro e y5 ⟨rfl, hc5⟩; have hk11 := Keep.next (L := ((w7.heap.size, #[.bool bs, .slice ps ns cs, .slice qs ms ds], 69) :: [(w3.heap.size, #[.bool bx, .slice px nx cx, .slice qx mx dx], 69), (w.heap.size + 1, #[.string fv, .string ov, .int .i64 v0, .int .i64 v1, .int .i64 v2, .int .i64 v3, .int .i64 v4, .int .i64 v5, .int .i64 v6], 53), (w.heap.size, #[.string fu, .string ou, .int .i64 u0, .int .i64 u1, .int .i64 u2, .int .i64 u3, .int .i64 u4, .int .i64 u5, .int .i64 u6], 53)])) (by assumption) hc5))
    go_wp2_with fail
    refine bodyPost_ret (v := .tuple #[.string ⟨(txt m4).toArray⟩, .int .i64 0]) (by simp [results, Tryz.results67, go_sem]) rfl ?_
    exact ⟨rfl, hk11.below⟩
  · have hk10 := hiD (ZAt.keep hk3.out hkk7 hz (.bool bs) (.slice ps ns cs) (.slice qs ms ds))
    have hxs10 := rat_put3z hz hxs bs ps ns cs qs ms ds
    clear hk3 hkk7 hxs
    go_wp2_with fail
    go_region_held3 (fun w' => Keep w w' ((w6.heap.size, #[.bool bs, .slice ps ns cs, .slice qs ms ds], 69) :: [(w3.heap.size, #[.bool bx, .slice px nx cx, .slice qx mx dx], 69), (w.heap.size + 1, #[.string fv, .string ov, .int .i64 v0, .int .i64 v1, .int .i64 v2, .int .i64 v3, .int .i64 v4, .int .i64 v5, .int .i64 v6], 53), (w.heap.size, #[.string fu, .string ou, .int .i64 u0, .int .i64 u1, .int .i64 u2, .int .i64 u3, .int .i64 u4, .int .i64 u5, .int .i64 u6], 53)]) ∧ w'.cell? ⟨w.heap.size + 1, 0, none⟩ = some (.string fv) ∧ w'.cell? ⟨w.heap.size + 1, 1, none⟩ = some (.string ov) ∧ w'.cell? ⟨w.heap.size + 1, 2, none⟩ = some (.int .i64 v0) ∧ w'.cell? ⟨w.heap.size + 1, 3, none⟩ = some (.int .i64 v1) ∧ w'.cell? ⟨w.heap.size + 1, 4, none⟩ = some (.int .i64 v2) ∧ w'.cell? ⟨w.heap.size + 1, 5, none⟩ = some (.int .i64 v3) ∧ w'.cell? ⟨w.heap.size + 1, 6, none⟩ = some (.int .i64 v4) ∧ w'.cell? ⟨w.heap.size + 1, 7, none⟩ = some (.int .i64 v5) ∧ w'.cell? ⟨w.heap.size + 1, 8, none⟩ = some (.int .i64 v6) ∧ w'.cell? ⟨w6.heap.size, 0, none⟩ = some (.bool bs) ∧ w'.cell? ⟨w6.heap.size, 1, none⟩ = some (.slice ps ns cs) ∧ w'.cell? ⟨w6.heap.size, 2, none⟩ = some (.slice qs ms ds))
      (first | with_reducible exact conv_all9 (Keep.drew hk10.out) | (go_split_ands; with_reducible exact conv_all9 (Keep.next (by assumption) hc1)) | (go_split_ands; with_reducible exact conv_all9 (Keep.next (by assumption) hc2)) | (go_split_ands; with_reducible exact conv_all9 (Keep.next (by assumption) hc3)) | (go_split_ands; with_reducible exact conv_all9 (Keep.next (by assumption) hc4)) | (go_split_ands; with_reducible exact conv_all9 (Keep.next (by assumption) hc5)) | (go_split_ands; trace_state; fail))
      (first | (go_at_call 124; go_split_ands; refine (hov.out _ (Keep.below (by assumption))).mono ?_; rintro e y1 ⟨xv, rfl, hxv, hc1⟩) | (go_at_call 82; refine (hsu.out _ _ _ (by (repeat (first | assumption | refine RatIs.below ?_ (bea _ _) | refine RatIs.below ?_ ((Below.refl _ _).drew) | refine RatIs.below ?_ (by assumption)))) (by (repeat (first | assumption | refine RatIs.below ?_ (bea _ _) | refine RatIs.below ?_ ((Below.refl _ _).drew) | refine RatIs.below ?_ (by assumption))))).mono ?_; rintro e y2 ⟨xd, rfl, hxd, hc2⟩) | (go_at_call 121; go_split_ands; refine (hfv.out _ (Keep.below (by assumption))).mono ?_; rintro e y3 ⟨xf, rfl, hxf, hc3⟩) | (go_at_call 89; refine (hqu.out _ _ _ (by (repeat (first | assumption | refine RatIs.below ?_ (bea _ _) | refine RatIs.below ?_ ((Below.refl _ _).drew) | refine RatIs.below ?_ (by assumption)))) (by (repeat (first | assumption | refine RatIs.below ?_ (bea _ _) | refine RatIs.below ?_ ((Below.refl _ _).drew) | refine RatIs.below ?_ (by assumption))))).mono ?_; rintro e y4 ⟨xq, rfl, hxq, hc4⟩) | (go_at_call 72; go_split_ands; refine (htx.out _ _ (Keep.below (by assumption)) (by (repeat (first | assumption | refine RatIs.below ?_ (bea _ _) | refine RatIs.below ?_ ((Below.refl _ _).drew) | refine RatIs.below ?_ (by assumption))))).mono ?_; rintro e y5 ⟨rfl, hc5⟩; have hk11 := Keep.next (L := ((w6.heap.size, #[.bool bs, .slice ps ns cs, .slice qs ms ds], 69) :: [(w3.heap.size, #[.bool bx, .slice px nx cx, .slice qx mx dx], 69), (w.heap.size + 1, #[.string fv, .string ov, .int .i64 v0, .int .i64 v1, .int .i64 v2, .int .i64 v3, .int .i64 v4, .int .i64 v5, .int .i64 v6], 53), (w.heap.size, #[.string fu, .string ou, .int .i64 u0, .int .i64 u1, .int .i64 u2, .int .i64 u3, .int .i64 u4, .int .i64 u5, .int .i64 u6], 53)])) (by assumption) hc5))
    go_wp2_with fail
    refine bodyPost_ret (v := .tuple #[.string ⟨(txt m4).toArray⟩, .int .i64 0]) (by simp [results, Tryz.results67, go_sem]) rfl ?_
    exact ⟨rfl, hk11.below⟩
  · have hk10 := hiD (ZAt.keep hk3.out hkk7 hz (.bool bs) (.slice ps ns cs) (.slice qs ms ds))
    have hxs10 := rat_put3z hz hxs bs ps ns cs qs ms ds
    clear hk3 hkk7 hxs
    go_wp2_with fail
    go_region_held3 (fun w' => Keep w w' ((w5.heap.size, #[.bool bs, .slice ps ns cs, .slice qs ms ds], 69) :: [(w3.heap.size, #[.bool bx, .slice px nx cx, .slice qx mx dx], 69), (w.heap.size + 1, #[.string fv, .string ov, .int .i64 v0, .int .i64 v1, .int .i64 v2, .int .i64 v3, .int .i64 v4, .int .i64 v5, .int .i64 v6], 53), (w.heap.size, #[.string fu, .string ou, .int .i64 u0, .int .i64 u1, .int .i64 u2, .int .i64 u3, .int .i64 u4, .int .i64 u5, .int .i64 u6], 53)]) ∧ w'.cell? ⟨w.heap.size + 1, 0, none⟩ = some (.string fv) ∧ w'.cell? ⟨w.heap.size + 1, 1, none⟩ = some (.string ov) ∧ w'.cell? ⟨w.heap.size + 1, 2, none⟩ = some (.int .i64 v0) ∧ w'.cell? ⟨w.heap.size + 1, 3, none⟩ = some (.int .i64 v1) ∧ w'.cell? ⟨w.heap.size + 1, 4, none⟩ = some (.int .i64 v2) ∧ w'.cell? ⟨w.heap.size + 1, 5, none⟩ = some (.int .i64 v3) ∧ w'.cell? ⟨w.heap.size + 1, 6, none⟩ = some (.int .i64 v4) ∧ w'.cell? ⟨w.heap.size + 1, 7, none⟩ = some (.int .i64 v5) ∧ w'.cell? ⟨w.heap.size + 1, 8, none⟩ = some (.int .i64 v6) ∧ w'.cell? ⟨w5.heap.size, 0, none⟩ = some (.bool bs) ∧ w'.cell? ⟨w5.heap.size, 1, none⟩ = some (.slice ps ns cs) ∧ w'.cell? ⟨w5.heap.size, 2, none⟩ = some (.slice qs ms ds))
      (first | with_reducible exact conv_all9 (Keep.drew hk10.out) | (go_split_ands; with_reducible exact conv_all9 (Keep.next (by assumption) hc1)) | (go_split_ands; with_reducible exact conv_all9 (Keep.next (by assumption) hc2)) | (go_split_ands; with_reducible exact conv_all9 (Keep.next (by assumption) hc3)) | (go_split_ands; with_reducible exact conv_all9 (Keep.next (by assumption) hc4)) | (go_split_ands; with_reducible exact conv_all9 (Keep.next (by assumption) hc5)) | (go_split_ands; trace_state; fail))
      (first | (go_at_call 124; go_split_ands; refine (hov.out _ (Keep.below (by assumption))).mono ?_; rintro e y1 ⟨xv, rfl, hxv, hc1⟩) | (go_at_call 82; refine (hsu.out _ _ _ (by (repeat (first | assumption | refine RatIs.below ?_ (bea _ _) | refine RatIs.below ?_ ((Below.refl _ _).drew) | refine RatIs.below ?_ (by assumption)))) (by (repeat (first | assumption | refine RatIs.below ?_ (bea _ _) | refine RatIs.below ?_ ((Below.refl _ _).drew) | refine RatIs.below ?_ (by assumption))))).mono ?_; rintro e y2 ⟨xd, rfl, hxd, hc2⟩) | (go_at_call 121; go_split_ands; refine (hfv.out _ (Keep.below (by assumption))).mono ?_; rintro e y3 ⟨xf, rfl, hxf, hc3⟩) | (go_at_call 89; refine (hqu.out _ _ _ (by (repeat (first | assumption | refine RatIs.below ?_ (bea _ _) | refine RatIs.below ?_ ((Below.refl _ _).drew) | refine RatIs.below ?_ (by assumption)))) (by (repeat (first | assumption | refine RatIs.below ?_ (bea _ _) | refine RatIs.below ?_ ((Below.refl _ _).drew) | refine RatIs.below ?_ (by assumption))))).mono ?_; rintro e y4 ⟨xq, rfl, hxq, hc4⟩) | (go_at_call 72; go_split_ands; refine (htx.out _ _ (Keep.below (by assumption)) (by (repeat (first | assumption | refine RatIs.below ?_ (bea _ _) | refine RatIs.below ?_ ((Below.refl _ _).drew) | refine RatIs.below ?_ (by assumption))))).mono ?_; rintro e y5 ⟨rfl, hc5⟩; have hk11 := Keep.next (L := ((w5.heap.size, #[.bool bs, .slice ps ns cs, .slice qs ms ds], 69) :: [(w3.heap.size, #[.bool bx, .slice px nx cx, .slice qx mx dx], 69), (w.heap.size + 1, #[.string fv, .string ov, .int .i64 v0, .int .i64 v1, .int .i64 v2, .int .i64 v3, .int .i64 v4, .int .i64 v5, .int .i64 v6], 53), (w.heap.size, #[.string fu, .string ou, .int .i64 u0, .int .i64 u1, .int .i64 u2, .int .i64 u3, .int .i64 u4, .int .i64 u5, .int .i64 u6], 53)])) (by assumption) hc5))
    go_wp2_with fail
    refine bodyPost_ret (v := .tuple #[.string ⟨(txt m4).toArray⟩, .int .i64 0]) (by simp [results, Tryz.results67, go_sem]) rfl ?_
    exact ⟨rfl, hk11.below⟩
  · have hk10 := hiD (ZAt.keep hk3.out hkk7 hz (.bool bs) (.slice ps ns cs) (.slice qs ms ds))
    have hxs10 := rat_put3z hz hxs bs ps ns cs qs ms ds
    clear hk3 hkk7 hxs
    go_wp2_with fail
    go_region_held3 (fun w' => Keep w w' ((w4.heap.size, #[.bool bs, .slice ps ns cs, .slice qs ms ds], 69) :: [(w3.heap.size, #[.bool bx, .slice px nx cx, .slice qx mx dx], 69), (w.heap.size + 1, #[.string fv, .string ov, .int .i64 v0, .int .i64 v1, .int .i64 v2, .int .i64 v3, .int .i64 v4, .int .i64 v5, .int .i64 v6], 53), (w.heap.size, #[.string fu, .string ou, .int .i64 u0, .int .i64 u1, .int .i64 u2, .int .i64 u3, .int .i64 u4, .int .i64 u5, .int .i64 u6], 53)]) ∧ w'.cell? ⟨w.heap.size + 1, 0, none⟩ = some (.string fv) ∧ w'.cell? ⟨w.heap.size + 1, 1, none⟩ = some (.string ov) ∧ w'.cell? ⟨w.heap.size + 1, 2, none⟩ = some (.int .i64 v0) ∧ w'.cell? ⟨w.heap.size + 1, 3, none⟩ = some (.int .i64 v1) ∧ w'.cell? ⟨w.heap.size + 1, 4, none⟩ = some (.int .i64 v2) ∧ w'.cell? ⟨w.heap.size + 1, 5, none⟩ = some (.int .i64 v3) ∧ w'.cell? ⟨w.heap.size + 1, 6, none⟩ = some (.int .i64 v4) ∧ w'.cell? ⟨w.heap.size + 1, 7, none⟩ = some (.int .i64 v5) ∧ w'.cell? ⟨w.heap.size + 1, 8, none⟩ = some (.int .i64 v6) ∧ w'.cell? ⟨w4.heap.size, 0, none⟩ = some (.bool bs) ∧ w'.cell? ⟨w4.heap.size, 1, none⟩ = some (.slice ps ns cs) ∧ w'.cell? ⟨w4.heap.size, 2, none⟩ = some (.slice qs ms ds))
      (first | with_reducible exact conv_all9 (Keep.drew hk10.out) | (go_split_ands; with_reducible exact conv_all9 (Keep.next (by assumption) hc1)) | (go_split_ands; with_reducible exact conv_all9 (Keep.next (by assumption) hc2)) | (go_split_ands; with_reducible exact conv_all9 (Keep.next (by assumption) hc3)) | (go_split_ands; with_reducible exact conv_all9 (Keep.next (by assumption) hc4)) | (go_split_ands; with_reducible exact conv_all9 (Keep.next (by assumption) hc5)) | (go_split_ands; trace_state; fail))
      (first | (go_at_call 124; go_split_ands; refine (hov.out _ (Keep.below (by assumption))).mono ?_; rintro e y1 ⟨xv, rfl, hxv, hc1⟩) | (go_at_call 82; refine (hsu.out _ _ _ (by (repeat (first | assumption | refine RatIs.below ?_ (bea _ _) | refine RatIs.below ?_ ((Below.refl _ _).drew) | refine RatIs.below ?_ (by assumption)))) (by (repeat (first | assumption | refine RatIs.below ?_ (bea _ _) | refine RatIs.below ?_ ((Below.refl _ _).drew) | refine RatIs.below ?_ (by assumption))))).mono ?_; rintro e y2 ⟨xd, rfl, hxd, hc2⟩) | (go_at_call 121; go_split_ands; refine (hfv.out _ (Keep.below (by assumption))).mono ?_; rintro e y3 ⟨xf, rfl, hxf, hc3⟩) | (go_at_call 89; refine (hqu.out _ _ _ (by (repeat (first | assumption | refine RatIs.below ?_ (bea _ _) | refine RatIs.below ?_ ((Below.refl _ _).drew) | refine RatIs.below ?_ (by assumption)))) (by (repeat (first | assumption | refine RatIs.below ?_ (bea _ _) | refine RatIs.below ?_ ((Below.refl _ _).drew) | refine RatIs.below ?_ (by assumption))))).mono ?_; rintro e y4 ⟨xq, rfl, hxq, hc4⟩) | (go_at_call 72; go_split_ands; refine (htx.out _ _ (Keep.below (by assumption)) (by (repeat (first | assumption | refine RatIs.below ?_ (bea _ _) | refine RatIs.below ?_ ((Below.refl _ _).drew) | refine RatIs.below ?_ (by assumption))))).mono ?_; rintro e y5 ⟨rfl, hc5⟩; have hk11 := Keep.next (L := ((w4.heap.size, #[.bool bs, .slice ps ns cs, .slice qs ms ds], 69) :: [(w3.heap.size, #[.bool bx, .slice px nx cx, .slice qx mx dx], 69), (w.heap.size + 1, #[.string fv, .string ov, .int .i64 v0, .int .i64 v1, .int .i64 v2, .int .i64 v3, .int .i64 v4, .int .i64 v5, .int .i64 v6], 53), (w.heap.size, #[.string fu, .string ou, .int .i64 u0, .int .i64 u1, .int .i64 u2, .int .i64 u3, .int .i64 u4, .int .i64 u5, .int .i64 u6], 53)])) (by assumption) hc5))
    go_wp2_with fail
    refine bodyPost_ret (v := .tuple #[.string ⟨(txt m4).toArray⟩, .int .i64 0]) (by simp [results, Tryz.results67, go_sem]) rfl ?_
    exact ⟨rfl, hk11.below⟩
  · have hk10 := hiD (ZAt.keep hk3.out hkk7 hz (.bool bs) (.slice ps ns cs) (.slice qs ms ds))
    have hxs10 := rat_put3z hz hxs bs ps ns cs qs ms ds
    clear hk3 hkk7 hxs
    go_wp2_with fail
    go_region_held3 (fun w' => Keep w w' (((w3.heap.size + 1), #[.bool bs, .slice ps ns cs, .slice qs ms ds], 69) :: [(w3.heap.size, #[.bool bx, .slice px nx cx, .slice qx mx dx], 69), (w.heap.size + 1, #[.string fv, .string ov, .int .i64 v0, .int .i64 v1, .int .i64 v2, .int .i64 v3, .int .i64 v4, .int .i64 v5, .int .i64 v6], 53), (w.heap.size, #[.string fu, .string ou, .int .i64 u0, .int .i64 u1, .int .i64 u2, .int .i64 u3, .int .i64 u4, .int .i64 u5, .int .i64 u6], 53)]) ∧ w'.cell? ⟨w.heap.size + 1, 0, none⟩ = some (.string fv) ∧ w'.cell? ⟨w.heap.size + 1, 1, none⟩ = some (.string ov) ∧ w'.cell? ⟨w.heap.size + 1, 2, none⟩ = some (.int .i64 v0) ∧ w'.cell? ⟨w.heap.size + 1, 3, none⟩ = some (.int .i64 v1) ∧ w'.cell? ⟨w.heap.size + 1, 4, none⟩ = some (.int .i64 v2) ∧ w'.cell? ⟨w.heap.size + 1, 5, none⟩ = some (.int .i64 v3) ∧ w'.cell? ⟨w.heap.size + 1, 6, none⟩ = some (.int .i64 v4) ∧ w'.cell? ⟨w.heap.size + 1, 7, none⟩ = some (.int .i64 v5) ∧ w'.cell? ⟨w.heap.size + 1, 8, none⟩ = some (.int .i64 v6) ∧ w'.cell? ⟨(w3.heap.size + 1), 0, none⟩ = some (.bool bs) ∧ w'.cell? ⟨(w3.heap.size + 1), 1, none⟩ = some (.slice ps ns cs) ∧ w'.cell? ⟨(w3.heap.size + 1), 2, none⟩ = some (.slice qs ms ds))
      (first | with_reducible exact conv_all9 (Keep.drew hk10.out) | (go_split_ands; with_reducible exact conv_all9 (Keep.next (by assumption) hc1)) | (go_split_ands; with_reducible exact conv_all9 (Keep.next (by assumption) hc2)) | (go_split_ands; with_reducible exact conv_all9 (Keep.next (by assumption) hc3)) | (go_split_ands; with_reducible exact conv_all9 (Keep.next (by assumption) hc4)) | (go_split_ands; with_reducible exact conv_all9 (Keep.next (by assumption) hc5)) | (go_split_ands; trace_state; fail))
      (first | (go_at_call 124; go_split_ands; refine (hov.out _ (Keep.below (by assumption))).mono ?_; rintro e y1 ⟨xv, rfl, hxv, hc1⟩) | (go_at_call 82; refine (hsu.out _ _ _ (by (repeat (first | assumption | refine RatIs.below ?_ (bea _ _) | refine RatIs.below ?_ ((Below.refl _ _).drew) | refine RatIs.below ?_ (by assumption)))) (by (repeat (first | assumption | refine RatIs.below ?_ (bea _ _) | refine RatIs.below ?_ ((Below.refl _ _).drew) | refine RatIs.below ?_ (by assumption))))).mono ?_; rintro e y2 ⟨xd, rfl, hxd, hc2⟩) | (go_at_call 121; go_split_ands; refine (hfv.out _ (Keep.below (by assumption))).mono ?_; rintro e y3 ⟨xf, rfl, hxf, hc3⟩) | (go_at_call 89; refine (hqu.out _ _ _ (by (repeat (first | assumption | refine RatIs.below ?_ (bea _ _) | refine RatIs.below ?_ ((Below.refl _ _).drew) | refine RatIs.below ?_ (by assumption)))) (by (repeat (first | assumption | refine RatIs.below ?_ (bea _ _) | refine RatIs.below ?_ ((Below.refl _ _).drew) | refine RatIs.below ?_ (by assumption))))).mono ?_; rintro e y4 ⟨xq, rfl, hxq, hc4⟩) | (go_at_call 72; go_split_ands; refine (htx.out _ _ (Keep.below (by assumption)) (by (repeat (first | assumption | refine RatIs.below ?_ (bea _ _) | refine RatIs.below ?_ ((Below.refl _ _).drew) | refine RatIs.below ?_ (by assumption))))).mono ?_; rintro e y5 ⟨rfl, hc5⟩; have hk11 := Keep.next (L := (((w3.heap.size + 1), #[.bool bs, .slice ps ns cs, .slice qs ms ds], 69) :: [(w3.heap.size, #[.bool bx, .slice px nx cx, .slice qx mx dx], 69), (w.heap.size + 1, #[.string fv, .string ov, .int .i64 v0, .int .i64 v1, .int .i64 v2, .int .i64 v3, .int .i64 v4, .int .i64 v5, .int .i64 v6], 53), (w.heap.size, #[.string fu, .string ou, .int .i64 u0, .int .i64 u1, .int .i64 u2, .int .i64 u3, .int .i64 u4, .int .i64 u5, .int .i64 u6], 53)])) (by assumption) hc5))
    go_wp2_with fail
    refine bodyPost_ret (v := .tuple #[.string ⟨(txt m4).toArray⟩, .int .i64 0]) (by simp [results, Tryz.results67, go_sem]) rfl ?_
    exact ⟨rfl, hk11.below⟩
end Go.Proofs.YtigicjakloiliaaGreatDoor
