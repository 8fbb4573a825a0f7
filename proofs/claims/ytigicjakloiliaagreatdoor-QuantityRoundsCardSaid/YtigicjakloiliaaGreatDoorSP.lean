/- The law QuantityRounds at three numbers. -/
import Derived.Test.YtigicjakloiliaaGreatDoorSO
import Derived.Test.YtigicjakloiliaaGreatDoorRh
set_option maxHeartbeats 3200000
set_option maxRecDepth 100000
namespace Go.Proofs.YtigicjakloiliaaGreatDoor
open Go.RowKit Big
open Go.Lib
theorem rounds_in_pos (x y r f : ByteArray) (a b c : Rat) (s t : Int) (w : World)
    (h36 : Hid (∀ W, Below w.heap.size w W → Calls Tryz.prog 36 #[.string x, .string y] W fun e w' => e = .returned (.string r) ∧ Below W.heap.size W w')) (h37 : Hid (∀ W, Below w.heap.size w W → Calls Tryz.prog 37 #[.string x] W fun e w' => e = .returned (.string f) ∧ Below W.heap.size W w')) (h38 : Hid (∀ W, Below w.heap.size w W → Calls Tryz.prog 38 #[.string x] W fun e w' => e = .returned (.string f) ∧ Below W.heap.size W w')) (h39 : Hid (∀ W, Below w.heap.size w W → Calls Tryz.prog 39 #[.string x, .string y] W fun e w' => e = .returned (.string r) ∧ Below W.heap.size W w'))
    (hx : Hid (∀ W, Below w.heap.size w W → Calls Tryz.prog 40 #[.string x] W (FlagPost a true W))) (hy : Hid (∀ W, Below w.heap.size w W → Calls Tryz.prog 40 #[.string y] W (FlagPost b true W))) (hr : Hid (∀ W, Below w.heap.size w W → Calls Tryz.prog 40 #[.string r] W (FlagPost c true W)))
    (hw : Hid (∀ W, Below w.heap.size w W → Calls Tryz.prog 23 #[] W fun e w' => e = .returned (.bool true) ∧ Below W.heap.size W w'))
    (h41 : Hid (∀ W u v, QAt W u a → QAt W v c → Calls Tryz.prog 41 #[u, v] W (QPostC (a - c) W))) (h42 : Hid (∀ W u, QAt W u (a - c) → Calls Tryz.prog 42 #[u] W fun e w' => e = .returned (.int .i64 s) ∧ Below W.heap.size W w'))
    (h45 : Hid (∀ W u v, QAt W u c → QAt W v b → Calls Tryz.prog 45 #[u, v] W (QPostC (c / b) W))) (h44 : Hid (∀ W u, QAt W u (c / b) → Calls Tryz.prog 44 #[u] W fun e w' => e = .returned (.bool true) ∧ Below W.heap.size W w'))
    (h48 : Hid (∀ W, Calls Tryz.prog 48 #[.int .i64 1, .int .i64 2] W (QPostC halfQ W))) (h47 : Hid (∀ W u v, QAt W u b → QAt W v halfQ → Calls Tryz.prog 47 #[u, v] W (QPostC (b * halfQ) W)))
    (hs : ¬ s < 0) (ht : t ≤ 0) (h46 : Hid (∀ W u v, QAt W u ((a - c)) → QAt W v (b * halfQ) → Calls Tryz.prog 46 #[u, v] W fun e w' => e = .returned (.int .i64 t) ∧ Below W.heap.size W w')) : Calls Tryz.prog 6 #[.string x, .string y] w fun e w' => e = .returned (.bool true) ∧ Below w.heap.size w w' := by
  go_enter Tryz.func6, Tryz.ntmps6
  go_wp2_with fail
  refine (h36.out _ (Below.refl _ _)).mono ?_
  rintro e w1 ⟨rfl, hb⟩
  have B1 := Lib.hid (hb)
  clear hb
  go_wp2_with fail
  refine (h37.out _ B1.out).mono ?_
  rintro e w2 ⟨rfl, hb⟩
  have B2 := Lib.hid (Below.trans B1.out (hb.mono B1.out.size))
  clear hb
  go_wp2_with fail
  refine (h38.out _ B2.out).mono ?_
  rintro e w3 ⟨rfl, hb⟩
  have B3 := Lib.hid (Below.trans B2.out (hb.mono B2.out.size))
  clear hb
  go_wp2_with fail
  refine (h39.out _ B3.out).mono ?_
  rintro e w4 ⟨rfl, hb⟩
  have B4 := Lib.hid (Below.trans B3.out (hb.mono B3.out.size))
  clear hb
  go_wp2_with fail
  refine (hx.out _ B4.out).mono ?_
  rintro e w5 ⟨g5, p5, n5, c5, q5, m5, d5, rfl, hb, hq⟩
  have K5 := Lib.hid ((Keep.next (L := []) ⟨B4.out, fun _ h => by cases h⟩ hb).more #[.bool g5, .slice p5 n5 c5, .slice q5 m5 d5] 38)
  have Q5_5 := Lib.hid ((hq rfl).below (below_alloc9 w5 (.cells #[.bool g5, .slice p5 n5 c5, .slice q5 m5 d5] 38)))
  clear hb hq 
  go_wp2_with fail
  refine (hy.out _ K5.out.below).mono ?_
  rintro e w6 ⟨g6, p6, n6, c6, q6, m6, d6, rfl, hb, hq⟩
  have K6 := Lib.hid ((K5.out.next hb).more #[.bool g6, .slice p6 n6 c6, .slice q6 m6 d6] 38)
  have Q5_6 := Lib.hid ((Q5_5.out.below hb).below (below_alloc9 w6 (.cells #[.bool g6, .slice p6 n6 c6, .slice q6 m6 d6] 38)))
  have Q6_6 := Lib.hid ((hq rfl).below (below_alloc9 w6 (.cells #[.bool g6, .slice p6 n6 c6, .slice q6 m6 d6] 38)))
  clear hb hq K5 Q5_5
  go_wp2_with fail
  refine (hr.out _ K6.out.below).mono ?_
  rintro e w7 ⟨g7, p7, n7, c7, q7, m7, d7, rfl, hb, hq⟩
  have K7 := Lib.hid ((K6.out.next hb).more #[.bool g7, .slice p7 n7 c7, .slice q7 m7 d7] 38)
  have Q6_7 := Lib.hid ((Q6_6.out.below hb).below (below_alloc9 w7 (.cells #[.bool g7, .slice p7 n7 c7, .slice q7 m7 d7] 38)))
  have Q5_7 := Lib.hid ((Q5_6.out.below hb).below (below_alloc9 w7 (.cells #[.bool g7, .slice p7 n7 c7, .slice q7 m7 d7] 38)))
  have Q7_7 := Lib.hid ((hq rfl).below (below_alloc9 w7 (.cells #[.bool g7, .slice p7 n7 c7, .slice q7 m7 d7] 38)))
  clear hb hq K6 Q6_6 Q5_6
  have hx5 : (w7.alloc (.cells #[.bool g7, .slice p7 n7 c7, .slice q7 m7 d7] 38)).heap[w5.heap.size]? = some (.cells #[.bool g5, .slice p5 n5 c5, .slice q5 m5 d5] 38 (0, 0)) := K7.out.one _ (List.mem_cons_of_mem _ (List.mem_cons_of_mem _ (List.mem_cons_self ..)))
  have x5_0 := cell_of_heap hx5 0
  have x5_1 := cell_of_heap hx5 1
  have x5_2 := cell_of_heap hx5 2
  have hx7 : (w7.alloc (.cells #[.bool g7, .slice p7 n7 c7, .slice q7 m7 d7] 38)).heap[w7.heap.size]? = some (.cells #[.bool g7, .slice p7 n7 c7, .slice q7 m7 d7] 38 (0, 0)) := K7.out.one _ (List.mem_cons_self ..)
  have x7_0 := cell_of_heap hx7 0
  have x7_1 := cell_of_heap hx7 1
  have x7_2 := cell_of_heap hx7 2
  clear hx5 hx7
  go_wp2_with fail
  clear x5_0 x5_1 x5_2 x7_0 x7_1 x7_2 
  refine (h41.out _ _ _ Q5_7.out Q7_7.out).mono ?_
  rintro e w8 ⟨g8, p8, n8, c8, q8, m8, d8, rfl, hz, hb⟩
  have K8 := Lib.hid ((K7.out.next hb).more #[.bool g8, .slice p8 n8 c8, .slice q8 m8 d8] 38)
  have Q7_8 := Lib.hid ((Q7_7.out.below hb).below (below_alloc9 w8 (.cells #[.bool g8, .slice p8 n8 c8, .slice q8 m8 d8] 38)))
  have Q6_8 := Lib.hid ((Q6_7.out.below hb).below (below_alloc9 w8 (.cells #[.bool g8, .slice p8 n8 c8, .slice q8 m8 d8] 38)))
  have Q5_8 := Lib.hid ((Q5_7.out.below hb).below (below_alloc9 w8 (.cells #[.bool g8, .slice p8 n8 c8, .slice q8 m8 d8] 38)))
  have Q8_8 := Lib.hid (hz.below (below_alloc9 w8 (.cells #[.bool g8, .slice p8 n8 c8, .slice q8 m8 d8] 38)))
  clear hb hz K7 Q7_7 Q6_7 Q5_7
  have hx8 : (w8.alloc (.cells #[.bool g8, .slice p8 n8 c8, .slice q8 m8 d8] 38)).heap[w8.heap.size]? = some (.cells #[.bool g8, .slice p8 n8 c8, .slice q8 m8 d8] 38 (0, 0)) := K8.out.one _ (List.mem_cons_self ..)
  have x8_0 := cell_of_heap hx8 0
  have x8_1 := cell_of_heap hx8 1
  have x8_2 := cell_of_heap hx8 2
  clear hx8
  go_wp2_with fail
  clear x8_0 x8_1 x8_2 
  refine (h42.out _ _ Q8_8.out).mono ?_
  rintro e w9 ⟨rfl, hb⟩
  have K9 := Lib.hid (K8.out.next hb)
  have Q8_9 := Lib.hid (Q8_8.out.below hb)
  have Q7_9 := Lib.hid (Q7_8.out.below hb)
  have Q6_9 := Lib.hid (Q6_8.out.below hb)
  have Q5_9 := Lib.hid (Q5_8.out.below hb)
  clear hb K8 Q8_8 Q7_8 Q6_8 Q5_8
  have hx8 : w9.heap[w8.heap.size]? = some (.cells #[.bool g8, .slice p8 n8 c8, .slice q8 m8 d8] 38 (0, 0)) := K9.out.one _ (List.mem_cons_self ..)
  have x8_0 := cell_of_heap hx8 0
  have x8_1 := cell_of_heap hx8 1
  have x8_2 := cell_of_heap hx8 2
  have hx7 : w9.heap[w7.heap.size]? = some (.cells #[.bool g7, .slice p7 n7 c7, .slice q7 m7 d7] 38 (0, 0)) := K9.out.one _ (List.mem_cons_of_mem _ (List.mem_cons_self ..))
  have x7_0 := cell_of_heap hx7 0
  have x7_1 := cell_of_heap hx7 1
  have x7_2 := cell_of_heap hx7 2
  have hx6 : w9.heap[w6.heap.size]? = some (.cells #[.bool g6, .slice p6 n6 c6, .slice q6 m6 d6] 38 (0, 0)) := K9.out.one _ (List.mem_cons_of_mem _ (List.mem_cons_of_mem _ (List.mem_cons_self ..)))
  have x6_0 := cell_of_heap hx6 0
  have x6_1 := cell_of_heap hx6 1
  have x6_2 := cell_of_heap hx6 2
  clear hx8 hx7 hx6
  have HR := Lib.hid (K9.out.below)
  have KR := Lib.hid (Keep.mk (Below.refl _ _) K9.out.all : Keep w9 w9 [(w8.heap.size, #[.bool g8, .slice p8 n8 c8, .slice q8 m8 d8], 38), (w7.heap.size, #[.bool g7, .slice p7 n7 c7, .slice q7 m7 d7], 38), (w6.heap.size, #[.bool g6, .slice p6 n6 c6, .slice q6 m6 d6], 38), (w5.heap.size, #[.bool g5, .slice p5 n5 c5, .slice q5 m5 d5], 38)])
  clear K9
  go_wp2_with fail
  have KA : ∀ W, Keep w9 W [(w8.heap.size, #[.bool g8, .slice p8 n8 c8, .slice q8 m8 d8], 38), (w7.heap.size, #[.bool g7, .slice p7 n7 c7, .slice q7 m7 d7], 38), (w6.heap.size, #[.bool g6, .slice p6 n6 c6, .slice q6 m6 d6], 38), (w5.heap.size, #[.bool g5, .slice p5 n5 c5, .slice q5 m5 d5], 38)] → ((fun w' => Keep w9 w' [(w8.heap.size, #[.bool g8, .slice p8 n8 c8, .slice q8 m8 d8], 38), (w7.heap.size, #[.bool g7, .slice p7 n7 c7, .slice q7 m7 d7], 38), (w6.heap.size, #[.bool g6, .slice p6 n6 c6, .slice q6 m6 d6], 38), (w5.heap.size, #[.bool g5, .slice p5 n5 c5, .slice q5 m5 d5], 38)] ∧ w'.cell? ⟨w8.heap.size, 0, none⟩ = some (.bool g8) ∧ w'.cell? ⟨w8.heap.size, 1, none⟩ = some (.slice p8 n8 c8) ∧ w'.cell? ⟨w8.heap.size, 2, none⟩ = some (.slice q8 m8 d8) ∧ w'.cell? ⟨w7.heap.size, 0, none⟩ = some (.bool g7) ∧ w'.cell? ⟨w7.heap.size, 1, none⟩ = some (.slice p7 n7 c7) ∧ w'.cell? ⟨w7.heap.size, 2, none⟩ = some (.slice q7 m7 d7) ∧ w'.cell? ⟨w6.heap.size, 0, none⟩ = some (.bool g6) ∧ w'.cell? ⟨w6.heap.size, 1, none⟩ = some (.slice p6 n6 c6) ∧ w'.cell? ⟨w6.heap.size, 2, none⟩ = some (.slice q6 m6 d6)) W) := fun W h => ⟨h, cell_of_heap (h.one _ (List.mem_cons_self ..)) 0, cell_of_heap (h.one _ (List.mem_cons_self ..)) 1, cell_of_heap (h.one _ (List.mem_cons_self ..)) 2, cell_of_heap (h.one _ (List.mem_cons_of_mem _ (List.mem_cons_self ..))) 0, cell_of_heap (h.one _ (List.mem_cons_of_mem _ (List.mem_cons_self ..))) 1, cell_of_heap (h.one _ (List.mem_cons_of_mem _ (List.mem_cons_self ..))) 2, cell_of_heap (h.one _ (List.mem_cons_of_mem _ (List.mem_cons_of_mem _ (List.mem_cons_self ..)))) 0, cell_of_heap (h.one _ (List.mem_cons_of_mem _ (List.mem_cons_of_mem _ (List.mem_cons_self ..)))) 1, cell_of_heap (h.one _ (List.mem_cons_of_mem _ (List.mem_cons_of_mem _ (List.mem_cons_self ..)))) 2⟩
  have KB := Lib.hid KA
  clear KA
  go_region_held3 (fun w' => Keep w9 w' [(w8.heap.size, #[.bool g8, .slice p8 n8 c8, .slice q8 m8 d8], 38), (w7.heap.size, #[.bool g7, .slice p7 n7 c7, .slice q7 m7 d7], 38), (w6.heap.size, #[.bool g6, .slice p6 n6 c6, .slice q6 m6 d6], 38), (w5.heap.size, #[.bool g5, .slice p5 n5 c5, .slice q5 m5 d5], 38)] ∧ w'.cell? ⟨w8.heap.size, 0, none⟩ = some (.bool g8) ∧ w'.cell? ⟨w8.heap.size, 1, none⟩ = some (.slice p8 n8 c8) ∧ w'.cell? ⟨w8.heap.size, 2, none⟩ = some (.slice q8 m8 d8) ∧ w'.cell? ⟨w7.heap.size, 0, none⟩ = some (.bool g7) ∧ w'.cell? ⟨w7.heap.size, 1, none⟩ = some (.slice p7 n7 c7) ∧ w'.cell? ⟨w7.heap.size, 2, none⟩ = some (.slice q7 m7 d7) ∧ w'.cell? ⟨w6.heap.size, 0, none⟩ = some (.bool g6) ∧ w'.cell? ⟨w6.heap.size, 1, none⟩ = some (.slice p6 n6 c6) ∧ w'.cell? ⟨w6.heap.size, 2, none⟩ = some (.slice q6 m6 d6))
    (first | exact KB.out _ (Keep.drew KR.out) | exact KB.out _ KR.out | (go_split_ands; exact KB.out _ (Keep.next (by assumption) hb1)) | (go_split_ands; exact KB.out _ (Keep.next (by assumption) hb2)) | (go_split_ands; exact KB.out _ (Keep.next (by assumption) hb3)) | (go_split_ands; exact KB.out _ (Keep.next (by assumption) hb4)) | (go_split_ands; exact KB.out _ (Keep.next (by assumption) hb5)) | (go_split_ands; exact KB.out _ (Keep.next (by assumption) hb6)) | (go_split_ands; exact KB.out _ (Keep.drew (by assumption))) | go_keep)
    (first | (go_at_call 45; go_split_ands; refine (h45.out _ _ _ (Q7_9.out.below (Keep.below (by assumption))) (Q6_9.out.below (Keep.below (by assumption)))).mono ?_; rintro e v1 ⟨e10, e11, e12, e13, e14, e15, e16, rfl, hz1, hb1⟩) | (go_at_call 44; go_split_ands; refine (h44.out _ _ hz1).mono ?_; rintro e v2 ⟨rfl, hb2⟩) | (go_at_call 48; go_split_ands; refine (h48.out _).mono ?_; rintro e v3 ⟨e30, e31, e32, e33, e34, e35, e36, rfl, hz3, hb3⟩) | (go_at_call 47; go_split_ands; refine (h47.out _ _ _ (Q6_9.out.below (Keep.below (by assumption))) hz3).mono ?_; rintro e v4 ⟨e40, e41, e42, e43, e44, e45, e46, rfl, hz4, hb4⟩) | (go_at_call 46; go_split_ands; refine (h46.out _ _ _ (Q8_9.out.below (Keep.below (by assumption))) hz4).mono ?_; rintro e v5 ⟨rfl, hb5⟩) | (go_at_call 23; go_split_ands; refine (hw.out _ (HR.out.trans (Below.mono (Keep.below (by assumption)) HR.out.size))).mono ?_; rintro e v6 ⟨rfl, hb6⟩; have hF := HR.out.trans (Below.mono (Keep.below (Keep.next (by assumption) hb6)) HR.out.size)))
  go_wp2_with fail
  go_ret
  exact ⟨rfl, hF⟩
theorem rounds_in_neg (x y r f : ByteArray) (a b c : Rat) (s t : Int) (w : World)
    (h36 : Hid (∀ W, Below w.heap.size w W → Calls Tryz.prog 36 #[.string x, .string y] W fun e w' => e = .returned (.string r) ∧ Below W.heap.size W w')) (h37 : Hid (∀ W, Below w.heap.size w W → Calls Tryz.prog 37 #[.string x] W fun e w' => e = .returned (.string f) ∧ Below W.heap.size W w')) (h38 : Hid (∀ W, Below w.heap.size w W → Calls Tryz.prog 38 #[.string x] W fun e w' => e = .returned (.string f) ∧ Below W.heap.size W w')) (h39 : Hid (∀ W, Below w.heap.size w W → Calls Tryz.prog 39 #[.string x, .string y] W fun e w' => e = .returned (.string r) ∧ Below W.heap.size W w'))
    (hx : Hid (∀ W, Below w.heap.size w W → Calls Tryz.prog 40 #[.string x] W (FlagPost a true W))) (hy : Hid (∀ W, Below w.heap.size w W → Calls Tryz.prog 40 #[.string y] W (FlagPost b true W))) (hr : Hid (∀ W, Below w.heap.size w W → Calls Tryz.prog 40 #[.string r] W (FlagPost c true W)))
    (hw : Hid (∀ W, Below w.heap.size w W → Calls Tryz.prog 23 #[] W fun e w' => e = .returned (.bool true) ∧ Below W.heap.size W w'))
    (h41 : Hid (∀ W u v, QAt W u a → QAt W v c → Calls Tryz.prog 41 #[u, v] W (QPostC (a - c) W))) (h42 : Hid (∀ W u, QAt W u (a - c) → Calls Tryz.prog 42 #[u] W fun e w' => e = .returned (.int .i64 s) ∧ Below W.heap.size W w'))
    (h45 : Hid (∀ W u v, QAt W u c → QAt W v b → Calls Tryz.prog 45 #[u, v] W (QPostC (c / b) W))) (h44 : Hid (∀ W u, QAt W u (c / b) → Calls Tryz.prog 44 #[u] W fun e w' => e = .returned (.bool true) ∧ Below W.heap.size W w'))
    (h48 : Hid (∀ W, Calls Tryz.prog 48 #[.int .i64 1, .int .i64 2] W (QPostC halfQ W))) (h47 : Hid (∀ W u v, QAt W u b → QAt W v halfQ → Calls Tryz.prog 47 #[u, v] W (QPostC (b * halfQ) W)))
    (h43 : Hid (∀ W u, QAt W u (a - c) → Calls Tryz.prog 43 #[u] W (QPostC (-(a - c)) W))) (hs : s < 0) (ht : t ≤ 0) (h46 : Hid (∀ W u v, QAt W u (-(a - c)) → QAt W v (b * halfQ) → Calls Tryz.prog 46 #[u, v] W fun e w' => e = .returned (.int .i64 t) ∧ Below W.heap.size W w')) : Calls Tryz.prog 6 #[.string x, .string y] w fun e w' => e = .returned (.bool true) ∧ Below w.heap.size w w' := by
  go_enter Tryz.func6, Tryz.ntmps6
  go_wp2_with fail
  refine (h36.out _ (Below.refl _ _)).mono ?_
  rintro e w1 ⟨rfl, hb⟩
  have B1 := Lib.hid (hb)
  clear hb
  go_wp2_with fail
  refine (h37.out _ B1.out).mono ?_
  rintro e w2 ⟨rfl, hb⟩
  have B2 := Lib.hid (Below.trans B1.out (hb.mono B1.out.size))
  clear hb
  go_wp2_with fail
  refine (h38.out _ B2.out).mono ?_
  rintro e w3 ⟨rfl, hb⟩
  have B3 := Lib.hid (Below.trans B2.out (hb.mono B2.out.size))
  clear hb
  go_wp2_with fail
  refine (h39.out _ B3.out).mono ?_
  rintro e w4 ⟨rfl, hb⟩
  have B4 := Lib.hid (Below.trans B3.out (hb.mono B3.out.size))
  clear hb
  go_wp2_with fail
  refine (hx.out _ B4.out).mono ?_
  rintro e w5 ⟨g5, p5, n5, c5, q5, m5, d5, rfl, hb, hq⟩
  have K5 := Lib.hid ((Keep.next (L := []) ⟨B4.out, fun _ h => by cases h⟩ hb).more #[.bool g5, .slice p5 n5 c5, .slice q5 m5 d5] 38)
  have Q5_5 := Lib.hid ((hq rfl).below (below_alloc9 w5 (.cells #[.bool g5, .slice p5 n5 c5, .slice q5 m5 d5] 38)))
  clear hb hq 
  go_wp2_with fail
  refine (hy.out _ K5.out.below).mono ?_
  rintro e w6 ⟨g6, p6, n6, c6, q6, m6, d6, rfl, hb, hq⟩
  have K6 := Lib.hid ((K5.out.next hb).more #[.bool g6, .slice p6 n6 c6, .slice q6 m6 d6] 38)
  have Q5_6 := Lib.hid ((Q5_5.out.below hb).below (below_alloc9 w6 (.cells #[.bool g6, .slice p6 n6 c6, .slice q6 m6 d6] 38)))
  have Q6_6 := Lib.hid ((hq rfl).below (below_alloc9 w6 (.cells #[.bool g6, .slice p6 n6 c6, .slice q6 m6 d6] 38)))
  clear hb hq K5 Q5_5
  go_wp2_with fail
  refine (hr.out _ K6.out.below).mono ?_
  rintro e w7 ⟨g7, p7, n7, c7, q7, m7, d7, rfl, hb, hq⟩
  have K7 := Lib.hid ((K6.out.next hb).more #[.bool g7, .slice p7 n7 c7, .slice q7 m7 d7] 38)
  have Q6_7 := Lib.hid ((Q6_6.out.below hb).below (below_alloc9 w7 (.cells #[.bool g7, .slice p7 n7 c7, .slice q7 m7 d7] 38)))
  have Q5_7 := Lib.hid ((Q5_6.out.below hb).below (below_alloc9 w7 (.cells #[.bool g7, .slice p7 n7 c7, .slice q7 m7 d7] 38)))
  have Q7_7 := Lib.hid ((hq rfl).below (below_alloc9 w7 (.cells #[.bool g7, .slice p7 n7 c7, .slice q7 m7 d7] 38)))
  clear hb hq K6 Q6_6 Q5_6
  have hx5 : (w7.alloc (.cells #[.bool g7, .slice p7 n7 c7, .slice q7 m7 d7] 38)).heap[w5.heap.size]? = some (.cells #[.bool g5, .slice p5 n5 c5, .slice q5 m5 d5] 38 (0, 0)) := K7.out.one _ (List.mem_cons_of_mem _ (List.mem_cons_of_mem _ (List.mem_cons_self ..)))
  have x5_0 := cell_of_heap hx5 0
  have x5_1 := cell_of_heap hx5 1
  have x5_2 := cell_of_heap hx5 2
  have hx7 : (w7.alloc (.cells #[.bool g7, .slice p7 n7 c7, .slice q7 m7 d7] 38)).heap[w7.heap.size]? = some (.cells #[.bool g7, .slice p7 n7 c7, .slice q7 m7 d7] 38 (0, 0)) := K7.out.one _ (List.mem_cons_self ..)
  have x7_0 := cell_of_heap hx7 0
  have x7_1 := cell_of_heap hx7 1
  have x7_2 := cell_of_heap hx7 2
  clear hx5 hx7
  go_wp2_with fail
  clear x5_0 x5_1 x5_2 x7_0 x7_1 x7_2 
  refine (h41.out _ _ _ Q5_7.out Q7_7.out).mono ?_
  rintro e w8 ⟨g8, p8, n8, c8, q8, m8, d8, rfl, hz, hb⟩
  have hlt := Lib.hid ((K7.out.next hb).below.size)
  have hne := Lib.hid (fun x hx => Nat.ne_of_lt ((K7.out.next hb).lt (x := x) hx))
  have K8 := Lib.hid ((K7.out.next hb).more #[.bool g8, .slice p8 n8 c8, .slice q8 m8 d8] 38)
  have Q7_8 := Lib.hid ((Q7_7.out.below hb).below (below_alloc9 w8 (.cells #[.bool g8, .slice p8 n8 c8, .slice q8 m8 d8] 38)))
  have Q6_8 := Lib.hid ((Q6_7.out.below hb).below (below_alloc9 w8 (.cells #[.bool g8, .slice p8 n8 c8, .slice q8 m8 d8] 38)))
  have Q5_8 := Lib.hid ((Q5_7.out.below hb).below (below_alloc9 w8 (.cells #[.bool g8, .slice p8 n8 c8, .slice q8 m8 d8] 38)))
  have Q8_8 := Lib.hid (hz.below (below_alloc9 w8 (.cells #[.bool g8, .slice p8 n8 c8, .slice q8 m8 d8] 38)))
  clear hb hz K7 Q7_7 Q6_7 Q5_7
  have hx8 : (w8.alloc (.cells #[.bool g8, .slice p8 n8 c8, .slice q8 m8 d8] 38)).heap[w8.heap.size]? = some (.cells #[.bool g8, .slice p8 n8 c8, .slice q8 m8 d8] 38 (0, 0)) := K8.out.one _ (List.mem_cons_self ..)
  have x8_0 := cell_of_heap hx8 0
  have x8_1 := cell_of_heap hx8 1
  have x8_2 := cell_of_heap hx8 2
  clear hx8
  go_wp2_with fail
  clear x8_0 x8_1 x8_2 
  refine (h42.out _ _ Q8_8.out).mono ?_
  rintro e w9 ⟨rfl, hb⟩
  have K9 := Lib.hid (K8.out.next hb)
  have Q8_9 := Lib.hid (Q8_8.out.below hb)
  have Q7_9 := Lib.hid (Q7_8.out.below hb)
  have Q6_9 := Lib.hid (Q6_8.out.below hb)
  have Q5_9 := Lib.hid (Q5_8.out.below hb)
  clear hb K8 Q8_8 Q7_8 Q6_8 Q5_8
  have hx8 : w9.heap[w8.heap.size]? = some (.cells #[.bool g8, .slice p8 n8 c8, .slice q8 m8 d8] 38 (0, 0)) := K9.out.one _ (List.mem_cons_self ..)
  have x8_0 := cell_of_heap hx8 0
  have x8_1 := cell_of_heap hx8 1
  have x8_2 := cell_of_heap hx8 2
  clear hx8
  go_wp2_with fail
  clear x8_0 x8_1 x8_2 
  refine (h43.out _ _ Q8_9.out).mono ?_
  rintro e w10 ⟨g10, p10, n10, c10, q10, m10, d10, rfl, hz, hb⟩
  have K10 := Lib.hid (K9.out.next hb)
  have hB := Lib.hid (K10.out.one _ (List.mem_cons_self ..))
  have K11 := Lib.hid (K10.out.put3 hlt.out hne.out (.bool g10) (.slice p10 n10 c10) (.slice q10 m10 d10))
  have Q6_11 := Lib.hid (qat_set3 hB.out (noInt_bool _) (noInt_slice _ _ _) (noInt_slice _ _ _) (Q6_9.out.below hb) g10 p10 n10 c10 q10 m10 d10)
  have Q7_11 := Lib.hid (qat_set3 hB.out (noInt_bool _) (noInt_slice _ _ _) (noInt_slice _ _ _) (Q7_9.out.below hb) g10 p10 n10 c10 q10 m10 d10)
  have Q8_11 := Lib.hid (qat_set3 hB.out (noInt_bool _) (noInt_slice _ _ _) (noInt_slice _ _ _) hz g10 p10 n10 c10 q10 m10 d10)
  clear hz hb hB
  have hx8 : w10.heap[w8.heap.size]? = some (.cells #[.bool g8, .slice p8 n8 c8, .slice q8 m8 d8] 38 (0, 0)) := K10.out.one _ (List.mem_cons_self ..)
  have x8_0 := cell_of_heap hx8 0
  have x8_1 := cell_of_heap hx8 1
  have x8_2 := cell_of_heap hx8 2
  have f8_0 := free_of_heap hx8 0
  have f8_1 := free_of_heap hx8 1
  have f8_2 := free_of_heap hx8 2
  clear hx8
  have hx8 : (((w10.setCell ⟨w8.heap.size, 0, none⟩ (.bool g10)).setCell ⟨w8.heap.size, 1, none⟩ (.slice p10 n10 c10)).setCell ⟨w8.heap.size, 2, none⟩ (.slice q10 m10 d10)).heap[w8.heap.size]? = some (.cells #[.bool g10, .slice p10 n10 c10, .slice q10 m10 d10] 38 (0, 0)) := K11.out.one _ (List.mem_cons_self ..)
  have y8_0 := cell_of_heap hx8 0
  have y8_1 := cell_of_heap hx8 1
  have y8_2 := cell_of_heap hx8 2
  have hx7 : (((w10.setCell ⟨w8.heap.size, 0, none⟩ (.bool g10)).setCell ⟨w8.heap.size, 1, none⟩ (.slice p10 n10 c10)).setCell ⟨w8.heap.size, 2, none⟩ (.slice q10 m10 d10)).heap[w7.heap.size]? = some (.cells #[.bool g7, .slice p7 n7 c7, .slice q7 m7 d7] 38 (0, 0)) := K11.out.one _ (List.mem_cons_of_mem _ (List.mem_cons_self ..))
  have x7_0 := cell_of_heap hx7 0
  have x7_1 := cell_of_heap hx7 1
  have x7_2 := cell_of_heap hx7 2
  have hx6 : (((w10.setCell ⟨w8.heap.size, 0, none⟩ (.bool g10)).setCell ⟨w8.heap.size, 1, none⟩ (.slice p10 n10 c10)).setCell ⟨w8.heap.size, 2, none⟩ (.slice q10 m10 d10)).heap[w6.heap.size]? = some (.cells #[.bool g6, .slice p6 n6 c6, .slice q6 m6 d6] 38 (0, 0)) := K11.out.one _ (List.mem_cons_of_mem _ (List.mem_cons_of_mem _ (List.mem_cons_self ..)))
  have x6_0 := cell_of_heap hx6 0
  have x6_1 := cell_of_heap hx6 1
  have x6_2 := cell_of_heap hx6 2
  clear hx7 hx6
  clear hx8 K9 K10 Q5_9 Q6_9 Q7_9 Q8_9
  have HR := Lib.hid (K11.out.below)
  have KR := Lib.hid (Keep.mk (Below.refl _ _) K11.out.all : Keep (((w10.setCell ⟨w8.heap.size, 0, none⟩ (.bool g10)).setCell ⟨w8.heap.size, 1, none⟩ (.slice p10 n10 c10)).setCell ⟨w8.heap.size, 2, none⟩ (.slice q10 m10 d10)) (((w10.setCell ⟨w8.heap.size, 0, none⟩ (.bool g10)).setCell ⟨w8.heap.size, 1, none⟩ (.slice p10 n10 c10)).setCell ⟨w8.heap.size, 2, none⟩ (.slice q10 m10 d10)) [(w8.heap.size, #[.bool g10, .slice p10 n10 c10, .slice q10 m10 d10], 38), (w7.heap.size, #[.bool g7, .slice p7 n7 c7, .slice q7 m7 d7], 38), (w6.heap.size, #[.bool g6, .slice p6 n6 c6, .slice q6 m6 d6], 38), (w5.heap.size, #[.bool g5, .slice p5 n5 c5, .slice q5 m5 d5], 38)])
  clear K11
  go_wp2_with fail
  have KA : ∀ W, Keep (((w10.setCell ⟨w8.heap.size, 0, none⟩ (.bool g10)).setCell ⟨w8.heap.size, 1, none⟩ (.slice p10 n10 c10)).setCell ⟨w8.heap.size, 2, none⟩ (.slice q10 m10 d10)) W [(w8.heap.size, #[.bool g10, .slice p10 n10 c10, .slice q10 m10 d10], 38), (w7.heap.size, #[.bool g7, .slice p7 n7 c7, .slice q7 m7 d7], 38), (w6.heap.size, #[.bool g6, .slice p6 n6 c6, .slice q6 m6 d6], 38), (w5.heap.size, #[.bool g5, .slice p5 n5 c5, .slice q5 m5 d5], 38)] → ((fun w' => Keep (((w10.setCell ⟨w8.heap.size, 0, none⟩ (.bool g10)).setCell ⟨w8.heap.size, 1, none⟩ (.slice p10 n10 c10)).setCell ⟨w8.heap.size, 2, none⟩ (.slice q10 m10 d10)) w' [(w8.heap.size, #[.bool g10, .slice p10 n10 c10, .slice q10 m10 d10], 38), (w7.heap.size, #[.bool g7, .slice p7 n7 c7, .slice q7 m7 d7], 38), (w6.heap.size, #[.bool g6, .slice p6 n6 c6, .slice q6 m6 d6], 38), (w5.heap.size, #[.bool g5, .slice p5 n5 c5, .slice q5 m5 d5], 38)] ∧ w'.cell? ⟨w8.heap.size, 0, none⟩ = some (.bool g10) ∧ w'.cell? ⟨w8.heap.size, 1, none⟩ = some (.slice p10 n10 c10) ∧ w'.cell? ⟨w8.heap.size, 2, none⟩ = some (.slice q10 m10 d10) ∧ w'.cell? ⟨w7.heap.size, 0, none⟩ = some (.bool g7) ∧ w'.cell? ⟨w7.heap.size, 1, none⟩ = some (.slice p7 n7 c7) ∧ w'.cell? ⟨w7.heap.size, 2, none⟩ = some (.slice q7 m7 d7) ∧ w'.cell? ⟨w6.heap.size, 0, none⟩ = some (.bool g6) ∧ w'.cell? ⟨w6.heap.size, 1, none⟩ = some (.slice p6 n6 c6) ∧ w'.cell? ⟨w6.heap.size, 2, none⟩ = some (.slice q6 m6 d6)) W) := fun W h => ⟨h, cell_of_heap (h.one _ (List.mem_cons_self ..)) 0, cell_of_heap (h.one _ (List.mem_cons_self ..)) 1, cell_of_heap (h.one _ (List.mem_cons_self ..)) 2, cell_of_heap (h.one _ (List.mem_cons_of_mem _ (List.mem_cons_self ..))) 0, cell_of_heap (h.one _ (List.mem_cons_of_mem _ (List.mem_cons_self ..))) 1, cell_of_heap (h.one _ (List.mem_cons_of_mem _ (List.mem_cons_self ..))) 2, cell_of_heap (h.one _ (List.mem_cons_of_mem _ (List.mem_cons_of_mem _ (List.mem_cons_self ..)))) 0, cell_of_heap (h.one _ (List.mem_cons_of_mem _ (List.mem_cons_of_mem _ (List.mem_cons_self ..)))) 1, cell_of_heap (h.one _ (List.mem_cons_of_mem _ (List.mem_cons_of_mem _ (List.mem_cons_self ..)))) 2⟩
  have KB := Lib.hid KA
  clear KA
  go_region_held3 (fun w' => Keep (((w10.setCell ⟨w8.heap.size, 0, none⟩ (.bool g10)).setCell ⟨w8.heap.size, 1, none⟩ (.slice p10 n10 c10)).setCell ⟨w8.heap.size, 2, none⟩ (.slice q10 m10 d10)) w' [(w8.heap.size, #[.bool g10, .slice p10 n10 c10, .slice q10 m10 d10], 38), (w7.heap.size, #[.bool g7, .slice p7 n7 c7, .slice q7 m7 d7], 38), (w6.heap.size, #[.bool g6, .slice p6 n6 c6, .slice q6 m6 d6], 38), (w5.heap.size, #[.bool g5, .slice p5 n5 c5, .slice q5 m5 d5], 38)] ∧ w'.cell? ⟨w8.heap.size, 0, none⟩ = some (.bool g10) ∧ w'.cell? ⟨w8.heap.size, 1, none⟩ = some (.slice p10 n10 c10) ∧ w'.cell? ⟨w8.heap.size, 2, none⟩ = some (.slice q10 m10 d10) ∧ w'.cell? ⟨w7.heap.size, 0, none⟩ = some (.bool g7) ∧ w'.cell? ⟨w7.heap.size, 1, none⟩ = some (.slice p7 n7 c7) ∧ w'.cell? ⟨w7.heap.size, 2, none⟩ = some (.slice q7 m7 d7) ∧ w'.cell? ⟨w6.heap.size, 0, none⟩ = some (.bool g6) ∧ w'.cell? ⟨w6.heap.size, 1, none⟩ = some (.slice p6 n6 c6) ∧ w'.cell? ⟨w6.heap.size, 2, none⟩ = some (.slice q6 m6 d6))
    (first | exact KB.out _ (Keep.drew KR.out) | exact KB.out _ KR.out | (go_split_ands; exact KB.out _ (Keep.next (by assumption) hb1)) | (go_split_ands; exact KB.out _ (Keep.next (by assumption) hb2)) | (go_split_ands; exact KB.out _ (Keep.next (by assumption) hb3)) | (go_split_ands; exact KB.out _ (Keep.next (by assumption) hb4)) | (go_split_ands; exact KB.out _ (Keep.next (by assumption) hb5)) | (go_split_ands; exact KB.out _ (Keep.next (by assumption) hb6)) | (go_split_ands; exact KB.out _ (Keep.drew (by assumption))) | go_keep)
    (first | (go_at_call 45; go_split_ands; refine (h45.out _ _ _ (Q7_11.out.below (Keep.below (by assumption))) (Q6_11.out.below (Keep.below (by assumption)))).mono ?_; rintro e v1 ⟨e10, e11, e12, e13, e14, e15, e16, rfl, hz1, hb1⟩) | (go_at_call 44; go_split_ands; refine (h44.out _ _ hz1).mono ?_; rintro e v2 ⟨rfl, hb2⟩) | (go_at_call 48; go_split_ands; refine (h48.out _).mono ?_; rintro e v3 ⟨e30, e31, e32, e33, e34, e35, e36, rfl, hz3, hb3⟩) | (go_at_call 47; go_split_ands; refine (h47.out _ _ _ (Q6_11.out.below (Keep.below (by assumption))) hz3).mono ?_; rintro e v4 ⟨e40, e41, e42, e43, e44, e45, e46, rfl, hz4, hb4⟩) | (go_at_call 46; go_split_ands; refine (h46.out _ _ _ (Q8_11.out.below (Keep.below (by assumption))) hz4).mono ?_; rintro e v5 ⟨rfl, hb5⟩) | (go_at_call 23; go_split_ands; refine (hw.out _ (HR.out.trans (Below.mono (Keep.below (by assumption)) HR.out.size))).mono ?_; rintro e v6 ⟨rfl, hb6⟩; have hF := HR.out.trans (Below.mono (Keep.below (Keep.next (by assumption) hb6)) HR.out.size)))
  go_wp2_with fail
  go_ret
  exact ⟨rfl, hF⟩
end Go.Proofs.YtigicjakloiliaaGreatDoor
