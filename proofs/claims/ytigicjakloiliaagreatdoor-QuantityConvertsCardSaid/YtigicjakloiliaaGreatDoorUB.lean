/- The document's Convert. -/
import Derived.Test.YtigicjakloiliaaGreatDoorUA
set_option maxHeartbeats 3200000
set_option maxRecDepth 100000
namespace Go.Proofs.YtigicjakloiliaaGreatDoor
open Go.RowKit Big
open Go.Lib
theorem rconv_all (x : ByteArray) (fu ou : ByteArray) (u0 u1 u2 u3 u4 u5 u6 : Int) (fv ov : ByteArray) (v0 v1 v2 v3 v4 v5 v6 : Int) (qf qo rf ro : Rat) (a : Rat) (y : ByteArray) (k1 k2 eqv fx : Bool) (s : ByteArray) (code : Int) (w : World)
    (hc : Hid ((k1 = false ∧ s = ⟨#[]⟩ ∧ code = 10) ∨ (k1 = true ∧ k2 = false ∧ s = ⟨#[]⟩ ∧ code = 10) ∨ (k1 = true ∧ k2 = true ∧ eqv = false ∧ s = ⟨#[]⟩ ∧ code = 11) ∨ (k1 = true ∧ k2 = true ∧ eqv = true ∧ fx = false ∧ s = ⟨#[]⟩ ∧ code = 0) ∨ (k1 = true ∧ k2 = true ∧ eqv = true ∧ fx = true ∧ s = y ∧ code = 0)))
    (h1 : Hid (∀ W, Below w.heap.size w W → Calls Tryz.prog 116 #[.agg #[.string fu, .string ou, .int .i64 u0, .int .i64 u1, .int .i64 u2, .int .i64 u3, .int .i64 u4, .int .i64 u5, .int .i64 u6]] W (ScPost qf qo u0 u1 u2 u3 u4 u5 u6 k1 W))) (h2 : Hid (∀ W, Below w.heap.size w W → Calls Tryz.prog 116 #[.agg #[.string fv, .string ov, .int .i64 v0, .int .i64 v1, .int .i64 v2, .int .i64 v3, .int .i64 v4, .int .i64 v5, .int .i64 v6]] W (ScPost rf ro v0 v1 v2 v3 v4 v5 v6 k2 W))) (heq : ∀ W, (Op.equalIn 10000 51 (.agg #[.int .i64 u0, .int .i64 u1, .int .i64 u2, .int .i64 u3, .int .i64 u4, .int .i64 u5, .int .i64 u6]) (.agg #[.int .i64 v0, .int .i64 v1, .int .i64 v2, .int .i64 v3, .int .i64 v4, .int .i64 v5, .int .i64 v6])).run Tryz.prog W = .ok eqv W) (h40 : Hid (∀ W, Below w.heap.size w W → Calls Tryz.prog 40 #[.string x] W (FlagPost a fx W)))
    (h47 : Hid (∀ W u v, QAt W u qf → QAt W v a → Calls Tryz.prog 47 #[u, v] W (QPostC (qf * a) W))) (h87 : Hid (∀ W u v, QAt W u (qf * a) → QAt W v qo → Calls Tryz.prog 87 #[u, v] W (QPostC (qf * a + qo) W)))
    (h41 : Hid (∀ W u v, QAt W u (qf * a + qo) → QAt W v ro → Calls Tryz.prog 41 #[u, v] W (QPostC (qf * a + qo - ro) W))) (h45 : Hid (∀ W u v, QAt W u (qf * a + qo - ro) → QAt W v rf → Calls Tryz.prog 45 #[u, v] W (QPostC ((qf * a + qo - ro) / rf) W)))
    (h80 : Hid (∀ W u, QAt W u ((qf * a + qo - ro) / rf) → Calls Tryz.prog 80 #[u] W fun e w' => e = .returned (.string y) ∧ Below W.heap.size W w')) :
    Calls Tryz.prog 68 #[.string x, .agg #[.string fu, .string ou, .int .i64 u0, .int .i64 u1, .int .i64 u2, .int .i64 u3, .int .i64 u4, .int .i64 u5, .int .i64 u6], .agg #[.string fv, .string ov, .int .i64 v0, .int .i64 v1, .int .i64 v2, .int .i64 v3, .int .i64 v4, .int .i64 v5, .int .i64 v6]] w fun e w' => e = .returned (.tuple #[.string s, .int .i64 code]) ∧ Below w.heap.size w w' := by
  have KP : Hid (Keep w ((w.alloc (.cells #[.string fu, .string ou, .int .i64 u0, .int .i64 u1, .int .i64 u2, .int .i64 u3, .int .i64 u4, .int .i64 u5, .int .i64 u6] 53)).alloc (.cells #[.string fv, .string ov, .int .i64 v0, .int .i64 v1, .int .i64 v2, .int .i64 v3, .int .i64 v4, .int .i64 v5, .int .i64 v6] 53)) [(w.heap.size + 1, #[.string fv, .string ov, .int .i64 v0, .int .i64 v1, .int .i64 v2, .int .i64 v3, .int .i64 v4, .int .i64 v5, .int .i64 v6], 53), (w.heap.size, #[.string fu, .string ou, .int .i64 u0, .int .i64 u1, .int .i64 u2, .int .i64 u3, .int .i64 u4, .int .i64 u5, .int .i64 u6], 53)]) := hiD (by
    have h0 := ((Keep.nil w).more #[.string fu, .string ou, .int .i64 u0, .int .i64 u1, .int .i64 u2, .int .i64 u3, .int .i64 u4, .int .i64 u5, .int .i64 u6] 53).more #[.string fv, .string ov, .int .i64 v0, .int .i64 v1, .int .i64 v2, .int .i64 v3, .int .i64 v4, .int .i64 v5, .int .i64 v6] 53
    rw [show (w.alloc (.cells #[.string fu, .string ou, .int .i64 u0, .int .i64 u1, .int .i64 u2, .int .i64 u3, .int .i64 u4, .int .i64 u5, .int .i64 u6] 53)).heap.size = w.heap.size + 1 from by simp] at h0
    exact h0)
  have hu : ((w.alloc (.cells #[.string fu, .string ou, .int .i64 u0, .int .i64 u1, .int .i64 u2, .int .i64 u3, .int .i64 u4, .int .i64 u5, .int .i64 u6] 53)).alloc (.cells #[.string fv, .string ov, .int .i64 v0, .int .i64 v1, .int .i64 v2, .int .i64 v3, .int .i64 v4, .int .i64 v5, .int .i64 v6] 53)).heap[w.heap.size]? = some (.cells #[.string fu, .string ou, .int .i64 u0, .int .i64 u1, .int .i64 u2, .int .i64 u3, .int .i64 u4, .int .i64 u5, .int .i64 u6] 53 (0, 0)) := KP.out.one _ (List.mem_cons_of_mem _ (List.mem_cons_self ..))
  have hu_0 := ceh hu 0
  have hu_1 := ceh hu 1
  have hu_2 := ceh hu 2
  have hu_3 := ceh hu 3
  have hu_4 := ceh hu 4
  have hu_5 := ceh hu 5
  have hu_6 := ceh hu 6
  have hu_7 := ceh hu 7
  have hu_8 := ceh hu 8
  clear hu
  go_enter Tryz.func68, Tryz.ntmps68
  go_wp2_with fail
  refine (h1.out _ KP.out.below).mono ?_
  rintro e w1 ⟨b1, x1, n1, c1, y1, m1, d1, b2, x2, n2, c2, y2, m2, d2, rfl, hb, hq⟩
  have K1 := hiD ((KP.out.next hb).more #[.bool b1, .slice x1 n1 c1, .slice y1 m1 d1, .bool b2, .slice x2 n2 c2, .slice y2 m2 d2, .int .i64 u0, .int .i64 u1, .int .i64 u2, .int .i64 u3, .int .i64 u4, .int .i64 u5, .int .i64 u6] 118)
  have A1 := hiD (below_alloc9 w1 (.cells #[.bool b1, .slice x1 n1 c1, .slice y1 m1 d1, .bool b2, .slice x2 n2 c2, .slice y2 m2 d2, .int .i64 u0, .int .i64 u1, .int .i64 u2, .int .i64 u3, .int .i64 u4, .int .i64 u5, .int .i64 u6] 118))
  have F1 := hiD fun h => And.intro ((hq h).1.below A1.out) ((hq h).2.below A1.out)
  have hv : (w1.alloc (.cells #[.bool b1, .slice x1 n1 c1, .slice y1 m1 d1, .bool b2, .slice x2 n2 c2, .slice y2 m2 d2, .int .i64 u0, .int .i64 u1, .int .i64 u2, .int .i64 u3, .int .i64 u4, .int .i64 u5, .int .i64 u6] 118)).heap[w.heap.size + 1]? = some (.cells #[.string fv, .string ov, .int .i64 v0, .int .i64 v1, .int .i64 v2, .int .i64 v3, .int .i64 v4, .int .i64 v5, .int .i64 v6] 53 (0, 0)) := K1.out.one _ (List.mem_cons_of_mem _ (List.mem_cons_self ..))
  have hv_0 := ceh hv 0
  have hv_1 := ceh hv 1
  have hv_2 := ceh hv 2
  have hv_3 := ceh hv 3
  have hv_4 := ceh hv 4
  have hv_5 := ceh hv 5
  have hv_6 := ceh hv 6
  have hv_7 := ceh hv 7
  have hv_8 := ceh hv 8
  clear hv
  clear hb hq KP hu_0 hu_1 hu_2 hu_3 hu_4 hu_5 hu_6 hu_7 hu_8
  go_wp2_with fail
  refine (h2.out _ K1.out.below).mono ?_
  rintro e w2 ⟨b3, x3, n3, c3, y3, m3, d3, b4, x4, n4, c4, y4, m4, d4, rfl, hb, hq⟩
  have K2 := hiD ((K1.out.next hb).more #[.bool b3, .slice x3 n3 c3, .slice y3 m3 d3, .bool b4, .slice x4 n4 c4, .slice y4 m4 d4, .int .i64 v0, .int .i64 v1, .int .i64 v2, .int .i64 v3, .int .i64 v4, .int .i64 v5, .int .i64 v6] 118)
  have A2 := hiD (below_alloc9 w2 (.cells #[.bool b3, .slice x3 n3 c3, .slice y3 m3 d3, .bool b4, .slice x4 n4 c4, .slice y4 m4 d4, .int .i64 v0, .int .i64 v1, .int .i64 v2, .int .i64 v3, .int .i64 v4, .int .i64 v5, .int .i64 v6] 118))
  have F2 := hiD fun h => And.intro (((F1.out h).1.below hb).below A2.out) (((F1.out h).2.below hb).below A2.out)
  have G2 := hiD fun h => And.intro ((hq h).1.below A2.out) ((hq h).2.below A2.out)
  have s1 : (w2.alloc (.cells #[.bool b3, .slice x3 n3 c3, .slice y3 m3 d3, .bool b4, .slice x4 n4 c4, .slice y4 m4 d4, .int .i64 v0, .int .i64 v1, .int .i64 v2, .int .i64 v3, .int .i64 v4, .int .i64 v5, .int .i64 v6] 118)).heap[w1.heap.size]? = some (.cells #[.bool b1, .slice x1 n1 c1, .slice y1 m1 d1, .bool b2, .slice x2 n2 c2, .slice y2 m2 d2, .int .i64 u0, .int .i64 u1, .int .i64 u2, .int .i64 u3, .int .i64 u4, .int .i64 u5, .int .i64 u6] 118 (0, 0)) := K2.out.one _ (List.mem_cons_of_mem _ (List.mem_cons_self ..))
  have s1_6 := ceh s1 6
  have s1_7 := ceh s1 7
  have s1_8 := ceh s1 8
  have s1_9 := ceh s1 9
  have s1_10 := ceh s1 10
  have s1_11 := ceh s1 11
  have s1_12 := ceh s1 12
  clear s1
  have s2 : (w2.alloc (.cells #[.bool b3, .slice x3 n3 c3, .slice y3 m3 d3, .bool b4, .slice x4 n4 c4, .slice y4 m4 d4, .int .i64 v0, .int .i64 v1, .int .i64 v2, .int .i64 v3, .int .i64 v4, .int .i64 v5, .int .i64 v6] 118)).heap[w2.heap.size]? = some (.cells #[.bool b3, .slice x3 n3 c3, .slice y3 m3 d3, .bool b4, .slice x4 n4 c4, .slice y4 m4 d4, .int .i64 v0, .int .i64 v1, .int .i64 v2, .int .i64 v3, .int .i64 v4, .int .i64 v5, .int .i64 v6] 118 (0, 0)) := K2.out.one _ (List.mem_cons_self ..)
  have s2_6 := ceh s2 6
  have s2_7 := ceh s2 7
  have s2_8 := ceh s2 8
  have s2_9 := ceh s2 9
  have s2_10 := ceh s2 10
  have s2_11 := ceh s2 11
  have s2_12 := ceh s2 12
  clear s2
  clear hb hq K1 hv_0 hv_1 hv_2 hv_3 hv_4 hv_5 hv_6 hv_7 hv_8 F1
  rcases hc.out with ⟨rfl, rfl, rfl⟩ | ⟨rfl, rfl, rfl, rfl⟩ | ⟨rfl, rfl, rfl, rfl, rfl⟩ | ⟨rfl, rfl, rfl, rfl, rfl, rfl⟩ | ⟨rfl, rfl, rfl, rfl, rfl, rfl⟩
  · go_wp2_with fail
    go_ret2
    exact ⟨rfl, K2.out.below⟩
  · go_wp2_with fail
    go_ret2
    exact ⟨rfl, K2.out.below⟩
  · go_wp2_with fail
    go_ret2
    exact ⟨rfl, K2.out.below⟩
  · go_wp2_with fail
    refine (h40.out _ K2.out.below).mono ?_
    rintro e w3 ⟨b5, x5, n5, c5, y5, m5, d5, rfl, hb, hq⟩
    have K3 := hiD ((K2.out.next hb).more #[.bool b5, .slice x5 n5 c5, .slice y5 m5 d5] 38)
    clear hb hq K2 s1_6 s2_6 s1_7 s2_7 s1_8 s2_8 s1_9 s2_9 s1_10 s2_10 s1_11 s2_11 s1_12 s2_12
    go_wp2_with fail
    go_ret2
    exact ⟨rfl, K3.out.below⟩
  · go_wp2_with fail
    refine (h40.out _ K2.out.below).mono ?_
    rintro e w3 ⟨b5, x5, n5, c5, y5, m5, d5, rfl, hb, hq⟩
    have K3 := hiD ((K2.out.next hb).more #[.bool b5, .slice x5 n5 c5, .slice y5 m5 d5] 38)
    have A3 := hiD (below_alloc9 w3 (.cells #[.bool b5, .slice x5 n5 c5, .slice y5 m5 d5] 38))
    have F3 := hiD (((F2.out trivial).1.below hb).below A3.out)
    have O3 := hiD (((F2.out trivial).2.below hb).below A3.out)
    have G3 := hiD (((G2.out trivial).1.below hb).below A3.out)
    have P3 := hiD (((G2.out trivial).2.below hb).below A3.out)
    have X3 := hiD ((hq rfl).below A3.out)
    have HR := hiD K3.out.below
    have KR := hiD (Keep.mk (Below.refl _ _) (K3.out.sub (M := [(w3.heap.size, #[.bool b5, .slice x5 n5 c5, .slice y5 m5 d5], 38), (w2.heap.size, #[.bool b3, .slice x3 n3 c3, .slice y3 m3 d3, .bool b4, .slice x4 n4 c4, .slice y4 m4 d4, .int .i64 v0, .int .i64 v1, .int .i64 v2, .int .i64 v3, .int .i64 v4, .int .i64 v5, .int .i64 v6], 118), (w1.heap.size, #[.bool b1, .slice x1 n1 c1, .slice y1 m1 d1, .bool b2, .slice x2 n2 c2, .slice y2 m2 d2, .int .i64 u0, .int .i64 u1, .int .i64 u2, .int .i64 u3, .int .i64 u4, .int .i64 u5, .int .i64 u6], 118)]) (by intro z hz; simp only [List.mem_cons, List.not_mem_nil, or_false] at hz; rcases hz with rfl | rfl | rfl; exact List.mem_cons_self ..; exact List.mem_cons_of_mem _ (List.mem_cons_self ..); exact List.mem_cons_of_mem _ (List.mem_cons_of_mem _ (List.mem_cons_self ..)))).all : Keep (w3.alloc (.cells #[.bool b5, .slice x5 n5 c5, .slice y5 m5 d5] 38)) (w3.alloc (.cells #[.bool b5, .slice x5 n5 c5, .slice y5 m5 d5] 38)) [(w3.heap.size, #[.bool b5, .slice x5 n5 c5, .slice y5 m5 d5], 38), (w2.heap.size, #[.bool b3, .slice x3 n3 c3, .slice y3 m3 d3, .bool b4, .slice x4 n4 c4, .slice y4 m4 d4, .int .i64 v0, .int .i64 v1, .int .i64 v2, .int .i64 v3, .int .i64 v4, .int .i64 v5, .int .i64 v6], 118), (w1.heap.size, #[.bool b1, .slice x1 n1 c1, .slice y1 m1 d1, .bool b2, .slice x2 n2 c2, .slice y2 m2 d2, .int .i64 u0, .int .i64 u1, .int .i64 u2, .int .i64 u3, .int .i64 u4, .int .i64 u5, .int .i64 u6], 118)])
    have KB : Hid (∀ W, Keep (w3.alloc (.cells #[.bool b5, .slice x5 n5 c5, .slice y5 m5 d5] 38)) W [(w3.heap.size, #[.bool b5, .slice x5 n5 c5, .slice y5 m5 d5], 38), (w2.heap.size, #[.bool b3, .slice x3 n3 c3, .slice y3 m3 d3, .bool b4, .slice x4 n4 c4, .slice y4 m4 d4, .int .i64 v0, .int .i64 v1, .int .i64 v2, .int .i64 v3, .int .i64 v4, .int .i64 v5, .int .i64 v6], 118), (w1.heap.size, #[.bool b1, .slice x1 n1 c1, .slice y1 m1 d1, .bool b2, .slice x2 n2 c2, .slice y2 m2 d2, .int .i64 u0, .int .i64 u1, .int .i64 u2, .int .i64 u3, .int .i64 u4, .int .i64 u5, .int .i64 u6], 118)] → ((fun w' => Keep (w3.alloc (.cells #[.bool b5, .slice x5 n5 c5, .slice y5 m5 d5] 38)) w' [(w3.heap.size, #[.bool b5, .slice x5 n5 c5, .slice y5 m5 d5], 38), (w2.heap.size, #[.bool b3, .slice x3 n3 c3, .slice y3 m3 d3, .bool b4, .slice x4 n4 c4, .slice y4 m4 d4, .int .i64 v0, .int .i64 v1, .int .i64 v2, .int .i64 v3, .int .i64 v4, .int .i64 v5, .int .i64 v6], 118), (w1.heap.size, #[.bool b1, .slice x1 n1 c1, .slice y1 m1 d1, .bool b2, .slice x2 n2 c2, .slice y2 m2 d2, .int .i64 u0, .int .i64 u1, .int .i64 u2, .int .i64 u3, .int .i64 u4, .int .i64 u5, .int .i64 u6], 118)] ∧ w'.cell? ⟨w3.heap.size, 0, none⟩ = some (.bool b5) ∧ w'.cell? ⟨w3.heap.size, 1, none⟩ = some (.slice x5 n5 c5) ∧ w'.cell? ⟨w3.heap.size, 2, none⟩ = some (.slice y5 m5 d5) ∧ w'.cell? ⟨w2.heap.size, 0, none⟩ = some (.bool b3) ∧ w'.cell? ⟨w2.heap.size, 1, none⟩ = some (.slice x3 n3 c3) ∧ w'.cell? ⟨w2.heap.size, 2, none⟩ = some (.slice y3 m3 d3) ∧ w'.cell? ⟨w2.heap.size, 3, none⟩ = some (.bool b4) ∧ w'.cell? ⟨w2.heap.size, 4, none⟩ = some (.slice x4 n4 c4) ∧ w'.cell? ⟨w2.heap.size, 5, none⟩ = some (.slice y4 m4 d4) ∧ w'.cell? ⟨w1.heap.size, 0, none⟩ = some (.bool b1) ∧ w'.cell? ⟨w1.heap.size, 1, none⟩ = some (.slice x1 n1 c1) ∧ w'.cell? ⟨w1.heap.size, 2, none⟩ = some (.slice y1 m1 d1) ∧ w'.cell? ⟨w1.heap.size, 3, none⟩ = some (.bool b2) ∧ w'.cell? ⟨w1.heap.size, 4, none⟩ = some (.slice x2 n2 c2) ∧ w'.cell? ⟨w1.heap.size, 5, none⟩ = some (.slice y2 m2 d2)) W)) := hiD fun W h => ⟨h, ceh (h.one _ (List.mem_cons_self ..)) 0, ceh (h.one _ (List.mem_cons_self ..)) 1, ceh (h.one _ (List.mem_cons_self ..)) 2, ceh (h.one _ (List.mem_cons_of_mem _ (List.mem_cons_self ..))) 0, ceh (h.one _ (List.mem_cons_of_mem _ (List.mem_cons_self ..))) 1, ceh (h.one _ (List.mem_cons_of_mem _ (List.mem_cons_self ..))) 2, ceh (h.one _ (List.mem_cons_of_mem _ (List.mem_cons_self ..))) 3, ceh (h.one _ (List.mem_cons_of_mem _ (List.mem_cons_self ..))) 4, ceh (h.one _ (List.mem_cons_of_mem _ (List.mem_cons_self ..))) 5, ceh (h.one _ (List.mem_cons_of_mem _ (List.mem_cons_of_mem _ (List.mem_cons_self ..)))) 0, ceh (h.one _ (List.mem_cons_of_mem _ (List.mem_cons_of_mem _ (List.mem_cons_self ..)))) 1, ceh (h.one _ (List.mem_cons_of_mem _ (List.mem_cons_of_mem _ (List.mem_cons_self ..)))) 2, ceh (h.one _ (List.mem_cons_of_mem _ (List.mem_cons_of_mem _ (List.mem_cons_self ..)))) 3, ceh (h.one _ (List.mem_cons_of_mem _ (List.mem_cons_of_mem _ (List.mem_cons_self ..)))) 4, ceh (h.one _ (List.mem_cons_of_mem _ (List.mem_cons_of_mem _ (List.mem_cons_self ..)))) 5⟩
    clear hb hq K2 K3 F2 G2 s1_6 s2_6 s1_7 s2_7 s1_8 s2_8 s1_9 s2_9 s1_10 s2_10 s1_11 s2_11 s1_12 s2_12
    go_wp2_with fail
    refine wp_region_held_drew (S := fun w' => Keep (w3.alloc (.cells #[.bool b5, .slice x5 n5 c5, .slice y5 m5 d5] 38)) w' [(w3.heap.size, #[.bool b5, .slice x5 n5 c5, .slice y5 m5 d5], 38), (w2.heap.size, #[.bool b3, .slice x3 n3 c3, .slice y3 m3 d3, .bool b4, .slice x4 n4 c4, .slice y4 m4 d4, .int .i64 v0, .int .i64 v1, .int .i64 v2, .int .i64 v3, .int .i64 v4, .int .i64 v5, .int .i64 v6], 118), (w1.heap.size, #[.bool b1, .slice x1 n1 c1, .slice y1 m1 d1, .bool b2, .slice x2 n2 c2, .slice y2 m2 d2, .int .i64 u0, .int .i64 u1, .int .i64 u2, .int .i64 u3, .int .i64 u4, .int .i64 u5, .int .i64 u6], 118)] ∧ w'.cell? ⟨w3.heap.size, 0, none⟩ = some (.bool b5) ∧ w'.cell? ⟨w3.heap.size, 1, none⟩ = some (.slice x5 n5 c5) ∧ w'.cell? ⟨w3.heap.size, 2, none⟩ = some (.slice y5 m5 d5) ∧ w'.cell? ⟨w2.heap.size, 0, none⟩ = some (.bool b3) ∧ w'.cell? ⟨w2.heap.size, 1, none⟩ = some (.slice x3 n3 c3) ∧ w'.cell? ⟨w2.heap.size, 2, none⟩ = some (.slice y3 m3 d3) ∧ w'.cell? ⟨w2.heap.size, 3, none⟩ = some (.bool b4) ∧ w'.cell? ⟨w2.heap.size, 4, none⟩ = some (.slice x4 n4 c4) ∧ w'.cell? ⟨w2.heap.size, 5, none⟩ = some (.slice y4 m4 d4) ∧ w'.cell? ⟨w1.heap.size, 0, none⟩ = some (.bool b1) ∧ w'.cell? ⟨w1.heap.size, 1, none⟩ = some (.slice x1 n1 c1) ∧ w'.cell? ⟨w1.heap.size, 2, none⟩ = some (.slice y1 m1 d1) ∧ w'.cell? ⟨w1.heap.size, 3, none⟩ = some (.bool b2) ∧ w'.cell? ⟨w1.heap.size, 4, none⟩ = some (.slice x2 n2 c2) ∧ w'.cell? ⟨w1.heap.size, 5, none⟩ = some (.slice y2 m2 d2)) (by kernel_rfl) (KB.out _ (Keep.drew KR.out)) (fun hHeld => ?_)
    refine wpAnyH_take (i := 0) (v := (.pointer (some ⟨w1.heap.size, 0, none⟩))) rfl (by kernel_rfl) (by kernel_rfl) (by kernel_rfl) (fun _ _ _ h => h) (Or.inl ⟨by rfl, by intro W hSw; clear hHeld; go_split_ands; go_simp⟩) (by assumption) ?_
    simp only [List.getElem_toArray, List.getElem_cons_zero, Act.put, List.setIfInBounds_toArray, List.set_cons_zero, List.set_cons_succ]
    refine wpAnyH_take (i := 1) (v := (.agg #[.bool b1, .slice x1 n1 c1, .slice y1 m1 d1])) rfl (by kernel_rfl) (by kernel_rfl) (by kernel_rfl) (fun _ _ _ h => h) (Or.inl ⟨by rfl, by intro W hSw; clear hHeld; go_split_ands; go_simp⟩) (by assumption) ?_
    simp only [List.getElem_toArray, List.getElem_cons_zero, List.getElem_cons_succ, Act.put, List.setIfInBounds_toArray, List.set_cons_zero, List.set_cons_succ]
    refine wpAnyH_take (i := 2) (v := (.agg #[.bool b5, .slice x5 n5 c5, .slice y5 m5 d5])) rfl (by kernel_rfl) (by kernel_rfl) (by kernel_rfl) (fun _ _ _ h => h) (Or.inl ⟨by rfl, by intro W hSw; clear hHeld; go_split_ands; go_simp⟩) (by assumption) ?_
    simp only [List.getElem_toArray, List.getElem_cons_zero, List.getElem_cons_succ, Act.put, List.setIfInBounds_toArray, List.set_cons_zero, List.set_cons_succ]
    refine wpAnyH_take (i := 4) (v := (.pointer (some ⟨w1.heap.size, 3, none⟩))) rfl (by kernel_rfl) (by kernel_rfl) (by kernel_rfl) (fun _ _ _ h => h) (Or.inl ⟨by rfl, by intro W hSw; clear hHeld; go_split_ands; go_simp⟩) (by assumption) ?_
    simp only [List.getElem_toArray, List.getElem_cons_zero, List.getElem_cons_succ, Act.put, List.setIfInBounds_toArray, List.set_cons_zero, List.set_cons_succ]
    refine wpAnyH_take (i := 5) (v := (.agg #[.bool b2, .slice x2 n2 c2, .slice y2 m2 d2])) rfl (by kernel_rfl) (by kernel_rfl) (by kernel_rfl) (fun _ _ _ h => h) (Or.inl ⟨by rfl, by intro W hSw; clear hHeld; go_split_ands; go_simp⟩) (by assumption) ?_
    simp only [List.getElem_toArray, List.getElem_cons_zero, List.getElem_cons_succ, Act.put, List.setIfInBounds_toArray, List.set_cons_zero, List.set_cons_succ]
    refine wpAnyH_take (i := 7) (v := (.pointer (some ⟨w2.heap.size, 3, none⟩))) rfl (by kernel_rfl) (by kernel_rfl) (by kernel_rfl) (fun _ _ _ h => h) (Or.inl ⟨by rfl, by intro W hSw; clear hHeld; go_split_ands; go_simp⟩) (by assumption) ?_
    simp only [List.getElem_toArray, List.getElem_cons_zero, List.getElem_cons_succ, Act.put, List.setIfInBounds_toArray, List.set_cons_zero, List.set_cons_succ]
    refine wpAnyH_take (i := 8) (v := (.agg #[.bool b4, .slice x4 n4 c4, .slice y4 m4 d4])) rfl (by kernel_rfl) (by kernel_rfl) (by kernel_rfl) (fun _ _ _ h => h) (Or.inl ⟨by rfl, by intro W hSw; clear hHeld; go_split_ands; go_simp⟩) (by assumption) ?_
    simp only [List.getElem_toArray, List.getElem_cons_zero, List.getElem_cons_succ, Act.put, List.setIfInBounds_toArray, List.set_cons_zero, List.set_cons_succ]
    refine wpAnyH_take (i := 10) (v := (.pointer (some ⟨w2.heap.size, 0, none⟩))) rfl (by kernel_rfl) (by kernel_rfl) (by kernel_rfl) (fun _ _ _ h => h) (Or.inl ⟨by rfl, by intro W hSw; clear hHeld; go_split_ands; go_simp⟩) (by assumption) ?_
    simp only [List.getElem_toArray, List.getElem_cons_zero, List.getElem_cons_succ, Act.put, List.setIfInBounds_toArray, List.set_cons_zero, List.set_cons_succ]
    refine wpAnyH_take (i := 11) (v := (.agg #[.bool b3, .slice x3 n3 c3, .slice y3 m3 d3])) rfl (by kernel_rfl) (by kernel_rfl) (by kernel_rfl) (fun _ _ _ h => h) (Or.inl ⟨by rfl, by intro W hSw; clear hHeld; go_split_ands; go_simp⟩) (by assumption) ?_
    simp only [List.getElem_toArray, List.getElem_cons_zero, List.getElem_cons_succ, Act.put, List.setIfInBounds_toArray, List.set_cons_zero, List.set_cons_succ]
    refine wpAnyH_ready (rs := [3]) (by kernel_rfl) (by simp) ?_
    refine AllReadyH.cons (i := 3) rfl (fun K hK => ?_) AllReadyH.nil
    go_simp
    refine (h47.out _ _ _ (F3.out.below hHeld.1.below) (X3.out.below hHeld.1.below)).mono ?_
    rintro e v1 ⟨e10, e11, e12, e13, e14, e15, e16, rfl, hz1, hb1⟩
    go_simp
    refine hK.out _ _ (KB.out _ (hHeld.1.next hb1)) (fun hHeld => ?_)
    clear hK K
    refine wpAnyH_ready (rs := [6]) (by kernel_rfl) (by simp) ?_
    refine AllReadyH.cons (i := 6) rfl (fun K hK => ?_) AllReadyH.nil
    go_simp
    refine (h87.out _ _ _ hz1 (O3.out.below hHeld.1.below)).mono ?_
    rintro e v2 ⟨e20, e21, e22, e23, e24, e25, e26, rfl, hz2, hb2⟩
    go_simp
    refine hK.out _ _ (KB.out _ (hHeld.1.next hb2)) (fun hHeld => ?_)
    clear hK K
    refine wpAnyH_ready (rs := [9]) (by kernel_rfl) (by simp) ?_
    refine AllReadyH.cons (i := 9) rfl (fun K hK => ?_) AllReadyH.nil
    go_simp
    refine (h41.out _ _ _ hz2 (P3.out.below hHeld.1.below)).mono ?_
    rintro e v3 ⟨e30, e31, e32, e33, e34, e35, e36, rfl, hz3, hb3⟩
    go_simp
    refine hK.out _ _ (KB.out _ (hHeld.1.next hb3)) (fun hHeld => ?_)
    clear hK K
    refine wpAnyH_ready (rs := [12]) (by kernel_rfl) (by simp) ?_
    refine AllReadyH.cons (i := 12) rfl (fun K hK => ?_) AllReadyH.nil
    go_simp
    refine (h45.out _ _ _ hz3 (G3.out.below hHeld.1.below)).mono ?_
    rintro e v4 ⟨e40, e41, e42, e43, e44, e45, e46, rfl, hz4, hb4⟩
    go_simp
    refine hK.out _ _ (KB.out _ (hHeld.1.next hb4)) (fun hHeld => ?_)
    clear hK K
    refine wpAnyH_ready (rs := [13]) (by kernel_rfl) (by simp) ?_
    refine AllReadyH.cons (i := 13) rfl (fun K hK => ?_) AllReadyH.nil
    go_simp
    refine (h80.out _ _ hz4).mono ?_
    rintro e v5 ⟨rfl, hb5⟩
    go_simp
    refine hK.out _ _ (KB.out _ (hHeld.1.next hb5)) (fun hHeld => ?_)
    clear hK K
    refine wpAnyH_take (i := 14) (v := (.string s)) rfl (by kernel_rfl) (by kernel_rfl) (by kernel_rfl) (fun _ _ _ h => h) (Or.inl ⟨by rfl, by intro W hSw; clear hHeld; go_split_ands; go_simp⟩) (by assumption) ?_
    simp only [List.getElem_toArray, List.getElem_cons_zero, List.getElem_cons_succ, Act.put, List.setIfInBounds_toArray, List.set_cons_zero, List.set_cons_succ]
    refine wpAnyH_take (i := 15) (v := (.int .i64 0)) rfl (by kernel_rfl) (by kernel_rfl) (by kernel_rfl) (fun _ _ _ h => h) (Or.inl ⟨by rfl, by intro W hSw; clear hHeld; go_split_ands; go_simp⟩) (by assumption) ?_
    simp only [List.getElem_toArray, List.getElem_cons_zero, List.getElem_cons_succ, Act.put, List.setIfInBounds_toArray, List.set_cons_zero, List.set_cons_succ]
    refine wpAnyH_done (by kernel_rfl) ?_ _
    have HF := hiD (HR.out.trans (Below.mono hHeld.1.below HR.out.size))
    go_wp2_with fail
    go_ret2
    exact ⟨rfl, HF.out⟩
end Go.Proofs.YtigicjakloiliaaGreatDoor
