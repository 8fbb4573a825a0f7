/- The document's Valid, IsValue and Fits. -/
import Derived.Test.YtpnofkefcoaojaaGreatDoorQM
import Derived.Outline
set_option maxHeartbeats 3200000
set_option maxRecDepth 100000
namespace Go.Proofs.YtpnofkefcoaojaaGreatDoor
open Go.RowKit Big List
open Go.Lib
theorem risv_nil (w : World) : Calls Tryz.prog 96 #[.string ⟨#[]⟩] w fun e w' => e = .returned (.bool true) ∧ Below w.heap.size w w' := by
  go_enter Tryz.func96, Tryz.ntmps96
  go_wp2_with fail
  go_ret
  exact ⟨rfl, Below.refl _ _⟩
theorem risv_some (l : List UInt8) (_hl : ¬ l = []) (hl2 : l.isEmpty = false) (f : Bool) (w : World) (h20 : Hid (∀ W, Below w.heap.size w W → Calls Tryz.prog 118 #[.string ⟨l.toArray⟩] W fun e w' => e = .returned (.bool f) ∧ Below W.heap.size W w')) : Calls Tryz.prog 96 #[.string ⟨l.toArray⟩] w fun e w' => e = .returned (.bool f) ∧ Below w.heap.size w w' := by
  go_enter Tryz.func96, Tryz.ntmps96
  go_wp2_with fail
  refine (h20.out _ (Below.refl _ _)).mono ?_
  rintro e w1 ⟨rfl, hb⟩
  have B1 := hiD (hb)
  clear hb
  go_wp2_with fail
  go_ret
  exact ⟨rfl, B1.out⟩
theorem rfits_low (x : ByteArray) (k : Int) (h1 : k < 1) (w : World) : Calls Tryz.prog 50 #[.int .i64 k, .string x] w fun e w' => e = .returned (.bool false) ∧ Below w.heap.size w w' := by
  go_enter Tryz.func50, Tryz.ntmps50
  go_wp2_with fail
  go_ret
  exact ⟨rfl, Below.refl _ _⟩
theorem rfits_high (x : ByteArray) (k : Int) (h1 : ¬ k < 1) (h2 : 5 < k) (w : World) : Calls Tryz.prog 50 #[.int .i64 k, .string x] w fun e w' => e = .returned (.bool false) ∧ Below w.heap.size w w' := by
  go_enter Tryz.func50, Tryz.ntmps50
  go_wp2_with fail
  go_ret
  exact ⟨rfl, Below.refl _ _⟩
theorem rfits_bad (x : ByteArray) (k : Int) (h1 : ¬ k < 1) (h2 : ¬ 5 < k) (w : World) (h105 : Hid (∀ W, Below w.heap.size w W → Calls Tryz.prog 96 #[.string x] W fun e w' => e = .returned (.bool false) ∧ Below W.heap.size W w')) : Calls Tryz.prog 50 #[.int .i64 k, .string x] w fun e w' => e = .returned (.bool false) ∧ Below w.heap.size w w' := by
  go_enter Tryz.func50, Tryz.ntmps50
  go_wp2_with fail
  refine (h105.out _ (Below.refl _ _)).mono ?_
  rintro e w1 ⟨rfl, hb⟩
  have B1 := hiD (hb)
  clear hb
  go_wp2_with fail
  go_ret
  exact ⟨rfl, B1.out⟩
theorem rfits_nil (k : Int) (h1 : ¬ k < 1) (h2 : ¬ 5 < k) (w : World) (h105 : Hid (∀ W, Below w.heap.size w W → Calls Tryz.prog 96 #[.string ⟨#[]⟩] W fun e w' => e = .returned (.bool true) ∧ Below W.heap.size W w')) : Calls Tryz.prog 50 #[.int .i64 k, .string ⟨#[]⟩] w fun e w' => e = .returned (.bool true) ∧ Below w.heap.size w w' := by
  go_enter Tryz.func50, Tryz.ntmps50
  go_wp2_with fail
  refine (h105.out _ (Below.refl _ _)).mono ?_
  rintro e w1 ⟨rfl, hb⟩
  have B1 := hiD (hb)
  clear hb
  go_wp2_with fail
  go_ret
  exact ⟨rfl, B1.out⟩
theorem rfits_num (l : List UInt8) (_hl : ¬ l = []) (hl2 : l.isEmpty = false) (w : World) (h105 : Hid (∀ W, Below w.heap.size w W → Calls Tryz.prog 96 #[.string ⟨l.toArray⟩] W fun e w' => e = .returned (.bool true) ∧ Below W.heap.size W w')) : Calls Tryz.prog 50 #[.int .i64 5, .string ⟨l.toArray⟩] w fun e w' => e = .returned (.bool true) ∧ Below w.heap.size w w' := by
  go_enter Tryz.func50, Tryz.ntmps50
  go_wp2_with fail
  refine (h105.out _ (Below.refl _ _)).mono ?_
  rintro e w1 ⟨rfl, hb⟩
  have B1 := hiD (hb)
  clear hb
  go_wp2_with fail
  go_ret
  exact ⟨rfl, B1.out⟩
theorem rfits_1 (l : List UInt8) (_hl : ¬ l = []) (hl2 : l.isEmpty = false) (q lim : Rat) (f res : Bool) (c1 c2 : Int)
  (hcase : Hid ((f = false ∧ res = false) ∨ (f = true ∧ ¬ 0 ≤ c1 ∧ res = false) ∨ (f = true ∧ 0 ≤ c1 ∧ res = decide (c2 < 0)))) (w : World)
  (h105 : Hid (∀ W, Below w.heap.size w W → Calls Tryz.prog 96 #[.string ⟨l.toArray⟩] W fun e w' => e = .returned (.bool true) ∧ Below W.heap.size W w')) (h40 : Hid (∀ W, Below w.heap.size w W → Calls Tryz.prog 31 #[.string ⟨l.toArray⟩] W (FlagPost q true W)))
  (h97 : Hid (∀ W, Calls Tryz.prog 67 #[] W (Post9 1 W))) (h78 : Hid (∀ W, Calls Tryz.prog 66 #[.int .u64 2] W (Post9 2 W))) (h99 : Hid (∀ W u v i, i ≤ 63 → Nat9 W u (2 ^ i) → Nat9 W v 2 → Calls Tryz.prog 70 #[u, v] W (Post9 (2 ^ (i + 1)) W)))
  (h98 : Hid (∀ W u v, Nat9 W u (2 ^ 7) → Nat9 W v 1 → Calls Tryz.prog 65 #[.bool false, u, v] W (QPostC lim W))) (h44 : Hid (∀ W u, QAt W u q → Calls Tryz.prog 97 #[u] W fun e w' => e = .returned (.bool f) ∧ Below W.heap.size W w'))
  (h43 : Hid (∀ W u, QAt W u lim → Calls Tryz.prog 53 #[u] W (QPostC (-lim) W))) (h46 : Hid (∀ W u v, QAt W u q → QAt W v (-lim) → Calls Tryz.prog 52 #[u, v] W fun e w' => e = .returned (.int .i64 c1) ∧ Below W.heap.size W w'))
  (h47 : Hid (∀ W u v, QAt W u q → QAt W v lim → Calls Tryz.prog 52 #[u, v] W fun e w' => e = .returned (.int .i64 c2) ∧ Below W.heap.size W w')) : Calls Tryz.prog 50 #[.int .i64 1, .string ⟨l.toArray⟩] w fun e w' => e = .returned (.bool res) ∧ Below w.heap.size w w' := by
  go_enter Tryz.func50, Tryz.ntmps50
  go_wp2_with fail
  refine (h105.out _ (Below.refl _ _)).mono ?_
  rintro e w1 ⟨rfl, hb⟩
  have B1 := hiD hb
  clear hb
  go_wp2_with fail
  refine (h40.out _ B1.out).mono ?_
  rintro e w2 ⟨g2, p2, n2, c2', q2, m2, d2, rfl, hb, hq⟩
  have K2 := hiD ((Keep.next (L := []) ⟨B1.out, fun _ h => by cases h⟩ hb).more #[.bool g2, .slice p2 n2 c2', .slice q2 m2 d2] 59)
  have Q2 := hiD ((hq rfl).below (below_alloc9 w2 (.cells #[.bool g2, .slice p2 n2 c2', .slice q2 m2 d2] 59)))
  clear hb hq B1
  go_wp2_with fail
  refine (h97.out _).mono ?_
  rintro e w3 ⟨v3, rfl, hv, hb, -⟩
  have hst : Hid (∃ i : Nat, i ≤ 7 ∧ Value.int .i64 0 = .int .i64 (i : Int) ∧ Hid (Keep w w3 [(w2.heap.size, #[.bool g2, .slice p2 n2 c2', .slice q2 m2 d2], 59)] ∧ QAt w3 (.agg #[.bool g2, .slice p2 n2 c2', .slice q2 m2 d2]) q ∧ Nat9 w3 v3 (2 ^ i))) := hiD ⟨0, by omega, rfl, hiD ⟨K2.out.next hb, Q2.out.below hb, hv⟩⟩
  clear hb hv K2 Q2
  go_wp2_with fail
  go_loopw [7, 37] (fun mv iv wr => ∃ i : Nat, i ≤ 7 ∧ iv = .int .i64 (i : Int) ∧ Hid (Keep w wr [(w2.heap.size, #[.bool g2, .slice p2 n2 c2', .slice q2 m2 d2], 59)] ∧ QAt wr (.agg #[.bool g2, .slice p2 n2 c2', .slice q2 m2 d2]) q ∧ Nat9 wr mv (2 ^ i))) (fun _ iv _ => 7 - (intOf iv).toNat)
  case atStart => exact hst.out
  case round =>
    obtain ⟨i, hi, rfl, hinv⟩ := hrel
    by_cases hlt : i < 7
    · have hlt' : (i : Int) < 7 := by omega
      have hi63 : Hid (i ≤ 63) := hiD (by omega)
      clear hlt
      go_wp2_with fail
      refine (h78.out _).mono ?_
      rintro e w4 ⟨v4, rfl, hv4, hb4, -⟩
      have hc := hiD (h99.out w4 _ _ i hi63.out (hinv.out.2.2.below hb4) hv4)
      have hk4 := hiD (hinv.out.1.next hb4)
      have hq4 := hiD (hinv.out.2.1.below hb4)
      clear hv4 hb4 hinv
      go_wp2_with fail
      refine hc.out.mono ?_
      rintro e w5 ⟨v5, rfl, hv5, hb5, -⟩
      have hnx := hiD (And.intro (hk4.out.next hb5) (And.intro (hq4.out.below hb5) hv5))
      clear hv5 hb5 hc
      go_wp2_with fail
      go_roundw
      case rel => exact ⟨i + 1, by omega, by go_num, hnx⟩
      case measure => simp [intOf]; omega
    · obtain rfl : i = 7 := by omega
      go_wp2_with fail
      refine (h97.out _).mono ?_
      rintro e w5 ⟨v5, rfl, hv5, hb5, -⟩
      have hc := hiD (h98.out w5 _ _ (hinv.out.2.2.below hb5) hv5)
      have hk5 := hiD (hinv.out.1.next hb5)
      have hq5 := hiD (hinv.out.2.1.below hb5)
      clear hv5 hb5 hinv
      go_wp2_with fail
      refine hc.out.mono ?_
      rintro e w6 ⟨g6, p6, n6, c6, q6, m6, d6, rfl, hz, hb⟩
      have K6 := hiD ((hk5.out.next hb).more #[.bool g6, .slice p6 n6 c6, .slice q6 m6 d6] 59)
      have QL := hiD (hz.below (below_alloc9 w6 (.cells #[.bool g6, .slice p6 n6 c6, .slice q6 m6 d6] 59)))
      have QR := hiD ((hq5.out.below hb).below (below_alloc9 w6 (.cells #[.bool g6, .slice p6 n6 c6, .slice q6 m6 d6] 59)))
      have HR := hiD K6.out.below
      have KR := hiD (Keep.mk (Below.refl _ _) K6.out.all : Keep (w6.alloc (.cells #[.bool g6, .slice p6 n6 c6, .slice q6 m6 d6] 59)) (w6.alloc (.cells #[.bool g6, .slice p6 n6 c6, .slice q6 m6 d6] 59)) [(w6.heap.size, #[.bool g6, .slice p6 n6 c6, .slice q6 m6 d6], 59), (w2.heap.size, #[.bool g2, .slice p2 n2 c2', .slice q2 m2 d2], 59)])
      have KB : Hid (∀ W, Keep (w6.alloc (.cells #[.bool g6, .slice p6 n6 c6, .slice q6 m6 d6] 59)) W [(w6.heap.size, #[.bool g6, .slice p6 n6 c6, .slice q6 m6 d6], 59), (w2.heap.size, #[.bool g2, .slice p2 n2 c2', .slice q2 m2 d2], 59)] → (fun w' => Keep (w6.alloc (.cells #[.bool g6, .slice p6 n6 c6, .slice q6 m6 d6] 59)) w' [(w6.heap.size, #[.bool g6, .slice p6 n6 c6, .slice q6 m6 d6], 59), (w2.heap.size, #[.bool g2, .slice p2 n2 c2', .slice q2 m2 d2], 59)] ∧ w'.cell? ⟨w6.heap.size, 0, none⟩ = some (.bool g6) ∧ w'.cell? ⟨w6.heap.size, 1, none⟩ = some (.slice p6 n6 c6) ∧ w'.cell? ⟨w6.heap.size, 2, none⟩ = some (.slice q6 m6 d6) ∧ w'.cell? ⟨w2.heap.size, 0, none⟩ = some (.bool g2) ∧ w'.cell? ⟨w2.heap.size, 1, none⟩ = some (.slice p2 n2 c2') ∧ w'.cell? ⟨w2.heap.size, 2, none⟩ = some (.slice q2 m2 d2)) W) := hiD fun W h => ⟨h, ceh (h.one _ (List.mem_cons_self ..)) 0, ceh (h.one _ (List.mem_cons_self ..)) 1, ceh (h.one _ (List.mem_cons_self ..)) 2, ceh (h.one _ (List.mem_cons_of_mem _ (List.mem_cons_self ..))) 0, ceh (h.one _ (List.mem_cons_of_mem _ (List.mem_cons_self ..))) 1, ceh (h.one _ (List.mem_cons_of_mem _ (List.mem_cons_self ..))) 2⟩
      clear hz hb K6 hk5 hq5 hc
      go_wp2_with fail
      rcases hcase.out with ⟨rfl, rfl⟩ | ⟨rfl, h1, rfl⟩ | ⟨rfl, h1, rfl⟩
      · refine wp_region_held_drew (S := fun w' => Keep (w6.alloc (.cells #[.bool g6, .slice p6 n6 c6, .slice q6 m6 d6] 59)) w' [(w6.heap.size, #[.bool g6, .slice p6 n6 c6, .slice q6 m6 d6], 59), (w2.heap.size, #[.bool g2, .slice p2 n2 c2', .slice q2 m2 d2], 59)] ∧ w'.cell? ⟨w6.heap.size, 0, none⟩ = some (.bool g6) ∧ w'.cell? ⟨w6.heap.size, 1, none⟩ = some (.slice p6 n6 c6) ∧ w'.cell? ⟨w6.heap.size, 2, none⟩ = some (.slice q6 m6 d6) ∧ w'.cell? ⟨w2.heap.size, 0, none⟩ = some (.bool g2) ∧ w'.cell? ⟨w2.heap.size, 1, none⟩ = some (.slice p2 n2 c2') ∧ w'.cell? ⟨w2.heap.size, 2, none⟩ = some (.slice q2 m2 d2)) (by kernel_rfl) (KB.out _ (Keep.drew KR.out)) (fun hHeld => ?_)
        refine wpAnyH_take (i := 0) (v := (.agg #[.bool g2, .slice p2 n2 c2', .slice q2 m2 d2])) rfl (by kernel_rfl) (by kernel_rfl) (by kernel_rfl) (fun _ _ _ h => h) (Or.inl ⟨by rfl, by intro W hSw; clear hHeld; go_split_ands; go_simp⟩) (by assumption) ?_
        simp only [getElem_toArray, getElem_cons_zero, Act.put, setIfInBounds_toArray, set_cons_zero, set_cons_succ]
        refine wpAnyH_ready (rs := [1]) (by kernel_rfl) (by simp) ?_
        refine AllReadyH.cons (i := 1) rfl (fun K hK => ?_) AllReadyH.nil
        go_simp
        refine (h44.out _ _ (QR.out.below hHeld.1.below)).mono ?_
        rintro e v1 ⟨rfl, hb1⟩
        go_simp
        refine hK.out _ _ (KB.out _ (hHeld.1.next hb1)) (fun hHeld => ?_)
        clear hK K
        refine wpAnyH_take (i := 2) (v := (.bool false)) rfl (by kernel_rfl) (by kernel_rfl) (by kernel_rfl) (fun _ _ _ h => h) (Or.inl ⟨by rfl, by intro W hSw; clear hHeld; go_split_ands; go_simp⟩) (by assumption) ?_
        simp only [getElem_toArray, getElem_cons_zero, getElem_cons_succ, Act.put, setIfInBounds_toArray, set_cons_zero, set_cons_succ]
        refine wpAnyH_take (i := 3) (v := undef) rfl (by kernel_rfl) (by kernel_rfl) (by kernel_rfl) (fun _ _ _ h => h) (Or.inr ⟨by rfl, rfl⟩) (by assumption) ?_
        simp only [getElem_toArray, getElem_cons_zero, getElem_cons_succ, Act.put, setIfInBounds_toArray, set_cons_zero, set_cons_succ]
        refine wpAnyH_take (i := 4) (v := undef) rfl (by kernel_rfl) (by kernel_rfl) (by kernel_rfl) (fun _ _ _ h => h) (Or.inr ⟨by rfl, rfl⟩) (by assumption) ?_
        simp only [getElem_toArray, getElem_cons_zero, getElem_cons_succ, Act.put, setIfInBounds_toArray, set_cons_zero, set_cons_succ]
        refine wpAnyH_take (i := 5) (v := undef) rfl (by kernel_rfl) (by kernel_rfl) (by kernel_rfl) (fun _ _ _ h => h) (Or.inr ⟨by rfl, rfl⟩) (by assumption) ?_
        simp only [getElem_toArray, getElem_cons_zero, getElem_cons_succ, Act.put, setIfInBounds_toArray, set_cons_zero, set_cons_succ]
        refine wpAnyH_take (i := 6) (v := undef) rfl (by kernel_rfl) (by kernel_rfl) (by kernel_rfl) (fun _ _ _ h => h) (Or.inr ⟨by rfl, rfl⟩) (by assumption) ?_
        simp only [getElem_toArray, getElem_cons_zero, getElem_cons_succ, Act.put, setIfInBounds_toArray, set_cons_zero, set_cons_succ]
        refine wpAnyH_take (i := 7) (v := undef) rfl (by kernel_rfl) (by kernel_rfl) (by kernel_rfl) (fun _ _ _ h => h) (Or.inr ⟨by rfl, rfl⟩) (by assumption) ?_
        simp only [getElem_toArray, getElem_cons_zero, getElem_cons_succ, Act.put, setIfInBounds_toArray, set_cons_zero, set_cons_succ]
        refine wpAnyH_take (i := 8) (v := (.bool false)) rfl (by kernel_rfl) (by kernel_rfl) (by kernel_rfl) (fun _ _ _ h => h) (Or.inl ⟨by rfl, by intro W hSw; clear hHeld; go_split_ands; go_simp⟩) (by assumption) ?_
        simp only [getElem_toArray, getElem_cons_zero, getElem_cons_succ, Act.put, setIfInBounds_toArray, set_cons_zero, set_cons_succ]
        refine wpAnyH_take (i := 9) (v := (.bool false)) rfl (by kernel_rfl) (by kernel_rfl) (by kernel_rfl) (fun _ _ _ h => h) (Or.inl ⟨by rfl, by intro W hSw; clear hHeld; go_split_ands; go_simp⟩) (by assumption) ?_
        simp only [getElem_toArray, getElem_cons_zero, getElem_cons_succ, Act.put, setIfInBounds_toArray, set_cons_zero, set_cons_succ]
        refine wpAnyH_take (i := 10) (v := undef) rfl (by kernel_rfl) (by kernel_rfl) (by kernel_rfl) (fun _ _ _ h => h) (Or.inr ⟨by rfl, rfl⟩) (by assumption) ?_
        simp only [getElem_toArray, getElem_cons_zero, getElem_cons_succ, Act.put, setIfInBounds_toArray, set_cons_zero, set_cons_succ]
        refine wpAnyH_take (i := 11) (v := undef) rfl (by kernel_rfl) (by kernel_rfl) (by kernel_rfl) (fun _ _ _ h => h) (Or.inr ⟨by rfl, rfl⟩) (by assumption) ?_
        simp only [getElem_toArray, getElem_cons_zero, getElem_cons_succ, Act.put, setIfInBounds_toArray, set_cons_zero, set_cons_succ]
        refine wpAnyH_take (i := 12) (v := undef) rfl (by kernel_rfl) (by kernel_rfl) (by kernel_rfl) (fun _ _ _ h => h) (Or.inr ⟨by rfl, rfl⟩) (by assumption) ?_
        simp only [getElem_toArray, getElem_cons_zero, getElem_cons_succ, Act.put, setIfInBounds_toArray, set_cons_zero, set_cons_succ]
        refine wpAnyH_take (i := 13) (v := undef) rfl (by kernel_rfl) (by kernel_rfl) (by kernel_rfl) (fun _ _ _ h => h) (Or.inr ⟨by rfl, rfl⟩) (by assumption) ?_
        simp only [getElem_toArray, getElem_cons_zero, getElem_cons_succ, Act.put, setIfInBounds_toArray, set_cons_zero, set_cons_succ]
        refine wpAnyH_take (i := 14) (v := (.bool false)) rfl (by kernel_rfl) (by kernel_rfl) (by kernel_rfl) (fun _ _ _ h => h) (Or.inl ⟨by rfl, by intro W hSw; clear hHeld; go_split_ands; go_simp⟩) (by assumption) ?_
        simp only [getElem_toArray, getElem_cons_zero, getElem_cons_succ, Act.put, setIfInBounds_toArray, set_cons_zero, set_cons_succ]
        refine wpAnyH_take (i := 15) (v := (.bool false)) rfl (by kernel_rfl) (by kernel_rfl) (by kernel_rfl) (fun _ _ _ h => h) (Or.inl ⟨by rfl, by intro W hSw; clear hHeld; go_split_ands; go_simp⟩) (by assumption) ?_
        simp only [getElem_toArray, getElem_cons_zero, getElem_cons_succ, Act.put, setIfInBounds_toArray, set_cons_zero, set_cons_succ]
        refine wpAnyH_done (by kernel_rfl) ?_ _
        go_wp2_with fail
        go_ret
        exact ⟨rfl, HR.out.trans (Below.mono hHeld.1.below HR.out.size)⟩
      · refine wp_region_held_drew (S := fun w' => Keep (w6.alloc (.cells #[.bool g6, .slice p6 n6 c6, .slice q6 m6 d6] 59)) w' [(w6.heap.size, #[.bool g6, .slice p6 n6 c6, .slice q6 m6 d6], 59), (w2.heap.size, #[.bool g2, .slice p2 n2 c2', .slice q2 m2 d2], 59)] ∧ w'.cell? ⟨w6.heap.size, 0, none⟩ = some (.bool g6) ∧ w'.cell? ⟨w6.heap.size, 1, none⟩ = some (.slice p6 n6 c6) ∧ w'.cell? ⟨w6.heap.size, 2, none⟩ = some (.slice q6 m6 d6) ∧ w'.cell? ⟨w2.heap.size, 0, none⟩ = some (.bool g2) ∧ w'.cell? ⟨w2.heap.size, 1, none⟩ = some (.slice p2 n2 c2') ∧ w'.cell? ⟨w2.heap.size, 2, none⟩ = some (.slice q2 m2 d2)) (by kernel_rfl) (KB.out _ (Keep.drew KR.out)) (fun hHeld => ?_)
        refine wpAnyH_take (i := 0) (v := (.agg #[.bool g2, .slice p2 n2 c2', .slice q2 m2 d2])) rfl (by kernel_rfl) (by kernel_rfl) (by kernel_rfl) (fun _ _ _ h => h) (Or.inl ⟨by rfl, by intro W hSw; clear hHeld; go_split_ands; go_simp⟩) (by assumption) ?_
        simp only [getElem_toArray, getElem_cons_zero, Act.put, setIfInBounds_toArray, set_cons_zero, set_cons_succ]
        refine wpAnyH_ready (rs := [1]) (by kernel_rfl) (by simp) ?_
        refine AllReadyH.cons (i := 1) rfl (fun K hK => ?_) AllReadyH.nil
        go_simp
        refine (h44.out _ _ (QR.out.below hHeld.1.below)).mono ?_
        rintro e v1 ⟨rfl, hb1⟩
        go_simp
        refine hK.out _ _ (KB.out _ (hHeld.1.next hb1)) (fun hHeld => ?_)
        clear hK K
        refine wpAnyH_take (i := 2) (v := (.bool true)) rfl (by kernel_rfl) (by kernel_rfl) (by kernel_rfl) (fun _ _ _ h => h) (Or.inl ⟨by rfl, by intro W hSw; clear hHeld; go_split_ands; go_simp⟩) (by assumption) ?_
        simp only [getElem_toArray, getElem_cons_zero, getElem_cons_succ, Act.put, setIfInBounds_toArray, set_cons_zero, set_cons_succ]
        refine wpAnyH_take (i := 3) (v := (.agg #[.bool g2, .slice p2 n2 c2', .slice q2 m2 d2])) rfl (by kernel_rfl) (by kernel_rfl) (by kernel_rfl) (fun _ _ _ h => h) (Or.inl ⟨by rfl, by intro W hSw; clear hHeld; go_split_ands; go_simp⟩) (by assumption) ?_
        simp only [getElem_toArray, getElem_cons_zero, getElem_cons_succ, Act.put, setIfInBounds_toArray, set_cons_zero, set_cons_succ]
        refine wpAnyH_take (i := 4) (v := (.agg #[.bool g6, .slice p6 n6 c6, .slice q6 m6 d6])) rfl (by kernel_rfl) (by kernel_rfl) (by kernel_rfl) (fun _ _ _ h => h) (Or.inl ⟨by rfl, by intro W hSw; clear hHeld; go_split_ands; go_simp⟩) (by assumption) ?_
        simp only [getElem_toArray, getElem_cons_zero, getElem_cons_succ, Act.put, setIfInBounds_toArray, set_cons_zero, set_cons_succ]
        refine wpAnyH_ready (rs := [5]) (by kernel_rfl) (by simp) ?_
        refine AllReadyH.cons (i := 5) rfl (fun K hK => ?_) AllReadyH.nil
        go_simp
        refine (h43.out _ _ (QL.out.below hHeld.1.below)).mono ?_
        rintro e v2 ⟨e0, e1, e2, e3, e4, e5, e6, rfl, hz2, hb2⟩
        go_simp
        refine hK.out _ _ (KB.out _ (hHeld.1.next hb2)) (fun hHeld => ?_)
        clear hK K
        refine wpAnyH_ready (rs := [6]) (by kernel_rfl) (by simp) ?_
        refine AllReadyH.cons (i := 6) rfl (fun K hK => ?_) AllReadyH.nil
        go_simp
        refine (h46.out _ _ _ (QR.out.below hHeld.1.below) hz2).mono ?_
        rintro e v3 ⟨rfl, hb3⟩
        go_simp
        refine hK.out _ _ (KB.out _ (hHeld.1.next hb3)) (fun hHeld => ?_)
        clear hK K
        refine wpAnyH_take (i := 7) (v := (.bool false)) rfl (by kernel_rfl) (by kernel_rfl) (by kernel_rfl) (fun _ _ _ h => h) (Or.inl ⟨by rfl, by intro W hSw; clear hHeld; go_split_ands; go_simp⟩) (by assumption) ?_
        simp only [getElem_toArray, getElem_cons_zero, getElem_cons_succ, Act.put, setIfInBounds_toArray, set_cons_zero, set_cons_succ]
        refine wpAnyH_take (i := 8) (v := (.bool false)) rfl (by kernel_rfl) (by kernel_rfl) (by kernel_rfl) (fun _ _ _ h => h) (Or.inl ⟨by rfl, by intro W hSw; clear hHeld; go_split_ands; go_simp⟩) (by assumption) ?_
        simp only [getElem_toArray, getElem_cons_zero, getElem_cons_succ, Act.put, setIfInBounds_toArray, set_cons_zero, set_cons_succ]
        refine wpAnyH_take (i := 9) (v := (.bool false)) rfl (by kernel_rfl) (by kernel_rfl) (by kernel_rfl) (fun _ _ _ h => h) (Or.inl ⟨by rfl, by intro W hSw; clear hHeld; go_split_ands; go_simp⟩) (by assumption) ?_
        simp only [getElem_toArray, getElem_cons_zero, getElem_cons_succ, Act.put, setIfInBounds_toArray, set_cons_zero, set_cons_succ]
        refine wpAnyH_take (i := 10) (v := undef) rfl (by kernel_rfl) (by kernel_rfl) (by kernel_rfl) (fun _ _ _ h => h) (Or.inr ⟨by rfl, rfl⟩) (by assumption) ?_
        simp only [getElem_toArray, getElem_cons_zero, getElem_cons_succ, Act.put, setIfInBounds_toArray, set_cons_zero, set_cons_succ]
        refine wpAnyH_take (i := 11) (v := undef) rfl (by kernel_rfl) (by kernel_rfl) (by kernel_rfl) (fun _ _ _ h => h) (Or.inr ⟨by rfl, rfl⟩) (by assumption) ?_
        simp only [getElem_toArray, getElem_cons_zero, getElem_cons_succ, Act.put, setIfInBounds_toArray, set_cons_zero, set_cons_succ]
        refine wpAnyH_take (i := 12) (v := undef) rfl (by kernel_rfl) (by kernel_rfl) (by kernel_rfl) (fun _ _ _ h => h) (Or.inr ⟨by rfl, rfl⟩) (by assumption) ?_
        simp only [getElem_toArray, getElem_cons_zero, getElem_cons_succ, Act.put, setIfInBounds_toArray, set_cons_zero, set_cons_succ]
        refine wpAnyH_take (i := 13) (v := undef) rfl (by kernel_rfl) (by kernel_rfl) (by kernel_rfl) (fun _ _ _ h => h) (Or.inr ⟨by rfl, rfl⟩) (by assumption) ?_
        simp only [getElem_toArray, getElem_cons_zero, getElem_cons_succ, Act.put, setIfInBounds_toArray, set_cons_zero, set_cons_succ]
        refine wpAnyH_take (i := 14) (v := (.bool false)) rfl (by kernel_rfl) (by kernel_rfl) (by kernel_rfl) (fun _ _ _ h => h) (Or.inl ⟨by rfl, by intro W hSw; clear hHeld; go_split_ands; go_simp⟩) (by assumption) ?_
        simp only [getElem_toArray, getElem_cons_zero, getElem_cons_succ, Act.put, setIfInBounds_toArray, set_cons_zero, set_cons_succ]
        refine wpAnyH_take (i := 15) (v := (.bool false)) rfl (by kernel_rfl) (by kernel_rfl) (by kernel_rfl) (fun _ _ _ h => h) (Or.inl ⟨by rfl, by intro W hSw; clear hHeld; go_split_ands; go_simp⟩) (by assumption) ?_
        simp only [getElem_toArray, getElem_cons_zero, getElem_cons_succ, Act.put, setIfInBounds_toArray, set_cons_zero, set_cons_succ]
        refine wpAnyH_done (by kernel_rfl) ?_ _
        go_wp2_with fail
        go_ret
        exact ⟨rfl, HR.out.trans (Below.mono hHeld.1.below HR.out.size)⟩
      · refine wp_region_held_drew (S := fun w' => Keep (w6.alloc (.cells #[.bool g6, .slice p6 n6 c6, .slice q6 m6 d6] 59)) w' [(w6.heap.size, #[.bool g6, .slice p6 n6 c6, .slice q6 m6 d6], 59), (w2.heap.size, #[.bool g2, .slice p2 n2 c2', .slice q2 m2 d2], 59)] ∧ w'.cell? ⟨w6.heap.size, 0, none⟩ = some (.bool g6) ∧ w'.cell? ⟨w6.heap.size, 1, none⟩ = some (.slice p6 n6 c6) ∧ w'.cell? ⟨w6.heap.size, 2, none⟩ = some (.slice q6 m6 d6) ∧ w'.cell? ⟨w2.heap.size, 0, none⟩ = some (.bool g2) ∧ w'.cell? ⟨w2.heap.size, 1, none⟩ = some (.slice p2 n2 c2') ∧ w'.cell? ⟨w2.heap.size, 2, none⟩ = some (.slice q2 m2 d2)) (by kernel_rfl) (KB.out _ (Keep.drew KR.out)) (fun hHeld => ?_)
        refine wpAnyH_take (i := 0) (v := (.agg #[.bool g2, .slice p2 n2 c2', .slice q2 m2 d2])) rfl (by kernel_rfl) (by kernel_rfl) (by kernel_rfl) (fun _ _ _ h => h) (Or.inl ⟨by rfl, by intro W hSw; clear hHeld; go_split_ands; go_simp⟩) (by assumption) ?_
        simp only [getElem_toArray, getElem_cons_zero, Act.put, setIfInBounds_toArray, set_cons_zero, set_cons_succ]
        refine wpAnyH_ready (rs := [1]) (by kernel_rfl) (by simp) ?_
        refine AllReadyH.cons (i := 1) rfl (fun K hK => ?_) AllReadyH.nil
        go_simp
        refine (h44.out _ _ (QR.out.below hHeld.1.below)).mono ?_
        rintro e v1 ⟨rfl, hb1⟩
        go_simp
        refine hK.out _ _ (KB.out _ (hHeld.1.next hb1)) (fun hHeld => ?_)
        clear hK K
        refine wpAnyH_take (i := 2) (v := (.bool true)) rfl (by kernel_rfl) (by kernel_rfl) (by kernel_rfl) (fun _ _ _ h => h) (Or.inl ⟨by rfl, by intro W hSw; clear hHeld; go_split_ands; go_simp⟩) (by assumption) ?_
        simp only [getElem_toArray, getElem_cons_zero, getElem_cons_succ, Act.put, setIfInBounds_toArray, set_cons_zero, set_cons_succ]
        refine wpAnyH_take (i := 3) (v := (.agg #[.bool g2, .slice p2 n2 c2', .slice q2 m2 d2])) rfl (by kernel_rfl) (by kernel_rfl) (by kernel_rfl) (fun _ _ _ h => h) (Or.inl ⟨by rfl, by intro W hSw; clear hHeld; go_split_ands; go_simp⟩) (by assumption) ?_
        simp only [getElem_toArray, getElem_cons_zero, getElem_cons_succ, Act.put, setIfInBounds_toArray, set_cons_zero, set_cons_succ]
        refine wpAnyH_take (i := 4) (v := (.agg #[.bool g6, .slice p6 n6 c6, .slice q6 m6 d6])) rfl (by kernel_rfl) (by kernel_rfl) (by kernel_rfl) (fun _ _ _ h => h) (Or.inl ⟨by rfl, by intro W hSw; clear hHeld; go_split_ands; go_simp⟩) (by assumption) ?_
        simp only [getElem_toArray, getElem_cons_zero, getElem_cons_succ, Act.put, setIfInBounds_toArray, set_cons_zero, set_cons_succ]
        refine wpAnyH_ready (rs := [5]) (by kernel_rfl) (by simp) ?_
        refine AllReadyH.cons (i := 5) rfl (fun K hK => ?_) AllReadyH.nil
        go_simp
        refine (h43.out _ _ (QL.out.below hHeld.1.below)).mono ?_
        rintro e v2 ⟨e0, e1, e2, e3, e4, e5, e6, rfl, hz2, hb2⟩
        go_simp
        refine hK.out _ _ (KB.out _ (hHeld.1.next hb2)) (fun hHeld => ?_)
        clear hK K
        refine wpAnyH_ready (rs := [6]) (by kernel_rfl) (by simp) ?_
        refine AllReadyH.cons (i := 6) rfl (fun K hK => ?_) AllReadyH.nil
        go_simp
        refine (h46.out _ _ _ (QR.out.below hHeld.1.below) hz2).mono ?_
        rintro e v3 ⟨rfl, hb3⟩
        go_simp
        refine hK.out _ _ (KB.out _ (hHeld.1.next hb3)) (fun hHeld => ?_)
        clear hK K
        refine wpAnyH_take (i := 7) (v := (.bool true)) rfl (by kernel_rfl) (by kernel_rfl) (by kernel_rfl) (fun _ _ _ h => h) (Or.inl ⟨by rfl, by intro W hSw; clear hHeld; go_split_ands; go_simp⟩) (by assumption) ?_
        simp only [getElem_toArray, getElem_cons_zero, getElem_cons_succ, Act.put, setIfInBounds_toArray, set_cons_zero, set_cons_succ]
        refine wpAnyH_take (i := 8) (v := (.bool true)) rfl (by kernel_rfl) (by kernel_rfl) (by kernel_rfl) (fun _ _ _ h => h) (Or.inl ⟨by rfl, by intro W hSw; clear hHeld; go_split_ands; go_simp⟩) (by assumption) ?_
        simp only [getElem_toArray, getElem_cons_zero, getElem_cons_succ, Act.put, setIfInBounds_toArray, set_cons_zero, set_cons_succ]
        refine wpAnyH_take (i := 9) (v := (.bool true)) rfl (by kernel_rfl) (by kernel_rfl) (by kernel_rfl) (fun _ _ _ h => h) (Or.inl ⟨by rfl, by intro W hSw; clear hHeld; go_split_ands; go_simp⟩) (by assumption) ?_
        simp only [getElem_toArray, getElem_cons_zero, getElem_cons_succ, Act.put, setIfInBounds_toArray, set_cons_zero, set_cons_succ]
        refine wpAnyH_take (i := 10) (v := (.agg #[.bool g2, .slice p2 n2 c2', .slice q2 m2 d2])) rfl (by kernel_rfl) (by kernel_rfl) (by kernel_rfl) (fun _ _ _ h => h) (Or.inl ⟨by rfl, by intro W hSw; clear hHeld; go_split_ands; go_simp⟩) (by assumption) ?_
        simp only [getElem_toArray, getElem_cons_zero, getElem_cons_succ, Act.put, setIfInBounds_toArray, set_cons_zero, set_cons_succ]
        refine wpAnyH_take (i := 11) (v := (.agg #[.bool g6, .slice p6 n6 c6, .slice q6 m6 d6])) rfl (by kernel_rfl) (by kernel_rfl) (by kernel_rfl) (fun _ _ _ h => h) (Or.inl ⟨by rfl, by intro W hSw; clear hHeld; go_split_ands; go_simp⟩) (by assumption) ?_
        simp only [getElem_toArray, getElem_cons_zero, getElem_cons_succ, Act.put, setIfInBounds_toArray, set_cons_zero, set_cons_succ]
        refine wpAnyH_ready (rs := [12]) (by kernel_rfl) (by simp) ?_
        refine AllReadyH.cons (i := 12) rfl (fun K hK => ?_) AllReadyH.nil
        go_simp
        refine (h47.out _ _ _ (QR.out.below hHeld.1.below) (QL.out.below hHeld.1.below)).mono ?_
        rintro e v4 ⟨rfl, hb4⟩
        go_simp
        refine hK.out _ _ (KB.out _ (hHeld.1.next hb4)) (fun hHeld => ?_)
        clear hK K
        refine wpAnyH_take (i := 13) (v := (.bool (decide (c2 < 0)))) rfl (by kernel_rfl) (by kernel_rfl) (by kernel_rfl) (fun _ _ _ h => h) (Or.inl ⟨by rfl, by intro W hSw; clear hHeld; go_split_ands; go_simp⟩) (by assumption) ?_
        simp only [getElem_toArray, getElem_cons_zero, getElem_cons_succ, Act.put, setIfInBounds_toArray, set_cons_zero, set_cons_succ]
        refine wpAnyH_take (i := 14) (v := (.bool (decide (c2 < 0)))) rfl (by kernel_rfl) (by kernel_rfl) (by kernel_rfl) (fun _ _ _ h => h) (Or.inl ⟨by rfl, by intro W hSw; clear hHeld; go_split_ands; go_simp⟩) (by assumption) ?_
        simp only [getElem_toArray, getElem_cons_zero, getElem_cons_succ, Act.put, setIfInBounds_toArray, set_cons_zero, set_cons_succ]
        refine wpAnyH_take (i := 15) (v := (.bool (decide (c2 < 0)))) rfl (by kernel_rfl) (by kernel_rfl) (by kernel_rfl) (fun _ _ _ h => h) (Or.inl ⟨by rfl, by intro W hSw; clear hHeld; go_split_ands; go_simp⟩) (by assumption) ?_
        simp only [getElem_toArray, getElem_cons_zero, getElem_cons_succ, Act.put, setIfInBounds_toArray, set_cons_zero, set_cons_succ]
        refine wpAnyH_done (by kernel_rfl) ?_ _
        go_wp2_with fail
        go_ret
        exact ⟨rfl, HR.out.trans (Below.mono hHeld.1.below HR.out.size)⟩
theorem rfits_2 (l : List UInt8) (_hl : ¬ l = []) (hl2 : l.isEmpty = false) (q lim : Rat) (f res : Bool) (c1 c2 : Int)
  (hcase : Hid ((f = false ∧ res = false) ∨ (f = true ∧ ¬ 0 ≤ c1 ∧ res = false) ∨ (f = true ∧ 0 ≤ c1 ∧ res = decide (c2 < 0)))) (w : World)
  (h105 : Hid (∀ W, Below w.heap.size w W → Calls Tryz.prog 96 #[.string ⟨l.toArray⟩] W fun e w' => e = .returned (.bool true) ∧ Below W.heap.size W w')) (h40 : Hid (∀ W, Below w.heap.size w W → Calls Tryz.prog 31 #[.string ⟨l.toArray⟩] W (FlagPost q true W)))
  (h97 : Hid (∀ W, Calls Tryz.prog 67 #[] W (Post9 1 W))) (h78 : Hid (∀ W, Calls Tryz.prog 66 #[.int .u64 2] W (Post9 2 W))) (h99 : Hid (∀ W u v i, i ≤ 63 → Nat9 W u (2 ^ i) → Nat9 W v 2 → Calls Tryz.prog 70 #[u, v] W (Post9 (2 ^ (i + 1)) W)))
  (h98 : Hid (∀ W u v, Nat9 W u (2 ^ 15) → Nat9 W v 1 → Calls Tryz.prog 65 #[.bool false, u, v] W (QPostC lim W))) (h44 : Hid (∀ W u, QAt W u q → Calls Tryz.prog 97 #[u] W fun e w' => e = .returned (.bool f) ∧ Below W.heap.size W w'))
  (h43 : Hid (∀ W u, QAt W u lim → Calls Tryz.prog 53 #[u] W (QPostC (-lim) W))) (h46 : Hid (∀ W u v, QAt W u q → QAt W v (-lim) → Calls Tryz.prog 52 #[u, v] W fun e w' => e = .returned (.int .i64 c1) ∧ Below W.heap.size W w'))
  (h47 : Hid (∀ W u v, QAt W u q → QAt W v lim → Calls Tryz.prog 52 #[u, v] W fun e w' => e = .returned (.int .i64 c2) ∧ Below W.heap.size W w')) : Calls Tryz.prog 50 #[.int .i64 2, .string ⟨l.toArray⟩] w fun e w' => e = .returned (.bool res) ∧ Below w.heap.size w w' := by
  go_enter Tryz.func50, Tryz.ntmps50
  go_wp2_with fail
  refine (h105.out _ (Below.refl _ _)).mono ?_
  rintro e w1 ⟨rfl, hb⟩
  have B1 := hiD hb
  clear hb
  go_wp2_with fail
  refine (h40.out _ B1.out).mono ?_
  rintro e w2 ⟨g2, p2, n2, c2', q2, m2, d2, rfl, hb, hq⟩
  have K2 := hiD ((Keep.next (L := []) ⟨B1.out, fun _ h => by cases h⟩ hb).more #[.bool g2, .slice p2 n2 c2', .slice q2 m2 d2] 59)
  have Q2 := hiD ((hq rfl).below (below_alloc9 w2 (.cells #[.bool g2, .slice p2 n2 c2', .slice q2 m2 d2] 59)))
  clear hb hq B1
  go_wp2_with fail
  refine (h97.out _).mono ?_
  rintro e w3 ⟨v3, rfl, hv, hb, -⟩
  have hst : Hid (∃ i : Nat, i ≤ 15 ∧ Value.int .i64 0 = .int .i64 (i : Int) ∧ Hid (Keep w w3 [(w2.heap.size, #[.bool g2, .slice p2 n2 c2', .slice q2 m2 d2], 59)] ∧ QAt w3 (.agg #[.bool g2, .slice p2 n2 c2', .slice q2 m2 d2]) q ∧ Nat9 w3 v3 (2 ^ i))) := hiD ⟨0, by omega, rfl, hiD ⟨K2.out.next hb, Q2.out.below hb, hv⟩⟩
  clear hb hv K2 Q2
  go_wp2_with fail
  go_loopw [7, 37] (fun mv iv wr => ∃ i : Nat, i ≤ 15 ∧ iv = .int .i64 (i : Int) ∧ Hid (Keep w wr [(w2.heap.size, #[.bool g2, .slice p2 n2 c2', .slice q2 m2 d2], 59)] ∧ QAt wr (.agg #[.bool g2, .slice p2 n2 c2', .slice q2 m2 d2]) q ∧ Nat9 wr mv (2 ^ i))) (fun _ iv _ => 15 - (intOf iv).toNat)
  case atStart => exact hst.out
  case round =>
    obtain ⟨i, hi, rfl, hinv⟩ := hrel
    by_cases hlt : i < 15
    · have hlt' : (i : Int) < 15 := by omega
      have hi63 : Hid (i ≤ 63) := hiD (by omega)
      clear hlt
      go_wp2_with fail
      refine (h78.out _).mono ?_
      rintro e w4 ⟨v4, rfl, hv4, hb4, -⟩
      have hc := hiD (h99.out w4 _ _ i hi63.out (hinv.out.2.2.below hb4) hv4)
      have hk4 := hiD (hinv.out.1.next hb4)
      have hq4 := hiD (hinv.out.2.1.below hb4)
      clear hv4 hb4 hinv
      go_wp2_with fail
      refine hc.out.mono ?_
      rintro e w5 ⟨v5, rfl, hv5, hb5, -⟩
      have hnx := hiD (And.intro (hk4.out.next hb5) (And.intro (hq4.out.below hb5) hv5))
      clear hv5 hb5 hc
      go_wp2_with fail
      go_roundw
      case rel => exact ⟨i + 1, by omega, by go_num, hnx⟩
      case measure => simp [intOf]; omega
    · obtain rfl : i = 15 := by omega
      go_wp2_with fail
      refine (h97.out _).mono ?_
      rintro e w5 ⟨v5, rfl, hv5, hb5, -⟩
      have hc := hiD (h98.out w5 _ _ (hinv.out.2.2.below hb5) hv5)
      have hk5 := hiD (hinv.out.1.next hb5)
      have hq5 := hiD (hinv.out.2.1.below hb5)
      clear hv5 hb5 hinv
      go_wp2_with fail
      refine hc.out.mono ?_
      rintro e w6 ⟨g6, p6, n6, c6, q6, m6, d6, rfl, hz, hb⟩
      have K6 := hiD ((hk5.out.next hb).more #[.bool g6, .slice p6 n6 c6, .slice q6 m6 d6] 59)
      have QL := hiD (hz.below (below_alloc9 w6 (.cells #[.bool g6, .slice p6 n6 c6, .slice q6 m6 d6] 59)))
      have QR := hiD ((hq5.out.below hb).below (below_alloc9 w6 (.cells #[.bool g6, .slice p6 n6 c6, .slice q6 m6 d6] 59)))
      have HR := hiD K6.out.below
      have KR := hiD (Keep.mk (Below.refl _ _) K6.out.all : Keep (w6.alloc (.cells #[.bool g6, .slice p6 n6 c6, .slice q6 m6 d6] 59)) (w6.alloc (.cells #[.bool g6, .slice p6 n6 c6, .slice q6 m6 d6] 59)) [(w6.heap.size, #[.bool g6, .slice p6 n6 c6, .slice q6 m6 d6], 59), (w2.heap.size, #[.bool g2, .slice p2 n2 c2', .slice q2 m2 d2], 59)])
      have KB : Hid (∀ W, Keep (w6.alloc (.cells #[.bool g6, .slice p6 n6 c6, .slice q6 m6 d6] 59)) W [(w6.heap.size, #[.bool g6, .slice p6 n6 c6, .slice q6 m6 d6], 59), (w2.heap.size, #[.bool g2, .slice p2 n2 c2', .slice q2 m2 d2], 59)] → (fun w' => Keep (w6.alloc (.cells #[.bool g6, .slice p6 n6 c6, .slice q6 m6 d6] 59)) w' [(w6.heap.size, #[.bool g6, .slice p6 n6 c6, .slice q6 m6 d6], 59), (w2.heap.size, #[.bool g2, .slice p2 n2 c2', .slice q2 m2 d2], 59)] ∧ w'.cell? ⟨w6.heap.size, 0, none⟩ = some (.bool g6) ∧ w'.cell? ⟨w6.heap.size, 1, none⟩ = some (.slice p6 n6 c6) ∧ w'.cell? ⟨w6.heap.size, 2, none⟩ = some (.slice q6 m6 d6) ∧ w'.cell? ⟨w2.heap.size, 0, none⟩ = some (.bool g2) ∧ w'.cell? ⟨w2.heap.size, 1, none⟩ = some (.slice p2 n2 c2') ∧ w'.cell? ⟨w2.heap.size, 2, none⟩ = some (.slice q2 m2 d2)) W) := hiD fun W h => ⟨h, ceh (h.one _ (List.mem_cons_self ..)) 0, ceh (h.one _ (List.mem_cons_self ..)) 1, ceh (h.one _ (List.mem_cons_self ..)) 2, ceh (h.one _ (List.mem_cons_of_mem _ (List.mem_cons_self ..))) 0, ceh (h.one _ (List.mem_cons_of_mem _ (List.mem_cons_self ..))) 1, ceh (h.one _ (List.mem_cons_of_mem _ (List.mem_cons_self ..))) 2⟩
      clear hz hb K6 hk5 hq5 hc
      go_wp2_with fail
      rcases hcase.out with ⟨rfl, rfl⟩ | ⟨rfl, h1, rfl⟩ | ⟨rfl, h1, rfl⟩
      · refine wp_region_held_drew (S := fun w' => Keep (w6.alloc (.cells #[.bool g6, .slice p6 n6 c6, .slice q6 m6 d6] 59)) w' [(w6.heap.size, #[.bool g6, .slice p6 n6 c6, .slice q6 m6 d6], 59), (w2.heap.size, #[.bool g2, .slice p2 n2 c2', .slice q2 m2 d2], 59)] ∧ w'.cell? ⟨w6.heap.size, 0, none⟩ = some (.bool g6) ∧ w'.cell? ⟨w6.heap.size, 1, none⟩ = some (.slice p6 n6 c6) ∧ w'.cell? ⟨w6.heap.size, 2, none⟩ = some (.slice q6 m6 d6) ∧ w'.cell? ⟨w2.heap.size, 0, none⟩ = some (.bool g2) ∧ w'.cell? ⟨w2.heap.size, 1, none⟩ = some (.slice p2 n2 c2') ∧ w'.cell? ⟨w2.heap.size, 2, none⟩ = some (.slice q2 m2 d2)) (by kernel_rfl) (KB.out _ (Keep.drew KR.out)) (fun hHeld => ?_)
        refine wpAnyH_take (i := 0) (v := (.agg #[.bool g2, .slice p2 n2 c2', .slice q2 m2 d2])) rfl (by kernel_rfl) (by kernel_rfl) (by kernel_rfl) (fun _ _ _ h => h) (Or.inl ⟨by rfl, by intro W hSw; clear hHeld; go_split_ands; go_simp⟩) (by assumption) ?_
        simp only [getElem_toArray, getElem_cons_zero, Act.put, setIfInBounds_toArray, set_cons_zero, set_cons_succ]
        refine wpAnyH_ready (rs := [1]) (by kernel_rfl) (by simp) ?_
        refine AllReadyH.cons (i := 1) rfl (fun K hK => ?_) AllReadyH.nil
        go_simp
        refine (h44.out _ _ (QR.out.below hHeld.1.below)).mono ?_
        rintro e v1 ⟨rfl, hb1⟩
        go_simp
        refine hK.out _ _ (KB.out _ (hHeld.1.next hb1)) (fun hHeld => ?_)
        clear hK K
        refine wpAnyH_take (i := 2) (v := (.bool false)) rfl (by kernel_rfl) (by kernel_rfl) (by kernel_rfl) (fun _ _ _ h => h) (Or.inl ⟨by rfl, by intro W hSw; clear hHeld; go_split_ands; go_simp⟩) (by assumption) ?_
        simp only [getElem_toArray, getElem_cons_zero, getElem_cons_succ, Act.put, setIfInBounds_toArray, set_cons_zero, set_cons_succ]
        refine wpAnyH_take (i := 3) (v := undef) rfl (by kernel_rfl) (by kernel_rfl) (by kernel_rfl) (fun _ _ _ h => h) (Or.inr ⟨by rfl, rfl⟩) (by assumption) ?_
        simp only [getElem_toArray, getElem_cons_zero, getElem_cons_succ, Act.put, setIfInBounds_toArray, set_cons_zero, set_cons_succ]
        refine wpAnyH_take (i := 4) (v := undef) rfl (by kernel_rfl) (by kernel_rfl) (by kernel_rfl) (fun _ _ _ h => h) (Or.inr ⟨by rfl, rfl⟩) (by assumption) ?_
        simp only [getElem_toArray, getElem_cons_zero, getElem_cons_succ, Act.put, setIfInBounds_toArray, set_cons_zero, set_cons_succ]
        refine wpAnyH_take (i := 5) (v := undef) rfl (by kernel_rfl) (by kernel_rfl) (by kernel_rfl) (fun _ _ _ h => h) (Or.inr ⟨by rfl, rfl⟩) (by assumption) ?_
        simp only [getElem_toArray, getElem_cons_zero, getElem_cons_succ, Act.put, setIfInBounds_toArray, set_cons_zero, set_cons_succ]
        refine wpAnyH_take (i := 6) (v := undef) rfl (by kernel_rfl) (by kernel_rfl) (by kernel_rfl) (fun _ _ _ h => h) (Or.inr ⟨by rfl, rfl⟩) (by assumption) ?_
        simp only [getElem_toArray, getElem_cons_zero, getElem_cons_succ, Act.put, setIfInBounds_toArray, set_cons_zero, set_cons_succ]
        refine wpAnyH_take (i := 7) (v := undef) rfl (by kernel_rfl) (by kernel_rfl) (by kernel_rfl) (fun _ _ _ h => h) (Or.inr ⟨by rfl, rfl⟩) (by assumption) ?_
        simp only [getElem_toArray, getElem_cons_zero, getElem_cons_succ, Act.put, setIfInBounds_toArray, set_cons_zero, set_cons_succ]
        refine wpAnyH_take (i := 8) (v := (.bool false)) rfl (by kernel_rfl) (by kernel_rfl) (by kernel_rfl) (fun _ _ _ h => h) (Or.inl ⟨by rfl, by intro W hSw; clear hHeld; go_split_ands; go_simp⟩) (by assumption) ?_
        simp only [getElem_toArray, getElem_cons_zero, getElem_cons_succ, Act.put, setIfInBounds_toArray, set_cons_zero, set_cons_succ]
        refine wpAnyH_take (i := 9) (v := (.bool false)) rfl (by kernel_rfl) (by kernel_rfl) (by kernel_rfl) (fun _ _ _ h => h) (Or.inl ⟨by rfl, by intro W hSw; clear hHeld; go_split_ands; go_simp⟩) (by assumption) ?_
        simp only [getElem_toArray, getElem_cons_zero, getElem_cons_succ, Act.put, setIfInBounds_toArray, set_cons_zero, set_cons_succ]
        refine wpAnyH_take (i := 10) (v := undef) rfl (by kernel_rfl) (by kernel_rfl) (by kernel_rfl) (fun _ _ _ h => h) (Or.inr ⟨by rfl, rfl⟩) (by assumption) ?_
        simp only [getElem_toArray, getElem_cons_zero, getElem_cons_succ, Act.put, setIfInBounds_toArray, set_cons_zero, set_cons_succ]
        refine wpAnyH_take (i := 11) (v := undef) rfl (by kernel_rfl) (by kernel_rfl) (by kernel_rfl) (fun _ _ _ h => h) (Or.inr ⟨by rfl, rfl⟩) (by assumption) ?_
        simp only [getElem_toArray, getElem_cons_zero, getElem_cons_succ, Act.put, setIfInBounds_toArray, set_cons_zero, set_cons_succ]
        refine wpAnyH_take (i := 12) (v := undef) rfl (by kernel_rfl) (by kernel_rfl) (by kernel_rfl) (fun _ _ _ h => h) (Or.inr ⟨by rfl, rfl⟩) (by assumption) ?_
        simp only [getElem_toArray, getElem_cons_zero, getElem_cons_succ, Act.put, setIfInBounds_toArray, set_cons_zero, set_cons_succ]
        refine wpAnyH_take (i := 13) (v := undef) rfl (by kernel_rfl) (by kernel_rfl) (by kernel_rfl) (fun _ _ _ h => h) (Or.inr ⟨by rfl, rfl⟩) (by assumption) ?_
        simp only [getElem_toArray, getElem_cons_zero, getElem_cons_succ, Act.put, setIfInBounds_toArray, set_cons_zero, set_cons_succ]
        refine wpAnyH_take (i := 14) (v := (.bool false)) rfl (by kernel_rfl) (by kernel_rfl) (by kernel_rfl) (fun _ _ _ h => h) (Or.inl ⟨by rfl, by intro W hSw; clear hHeld; go_split_ands; go_simp⟩) (by assumption) ?_
        simp only [getElem_toArray, getElem_cons_zero, getElem_cons_succ, Act.put, setIfInBounds_toArray, set_cons_zero, set_cons_succ]
        refine wpAnyH_take (i := 15) (v := (.bool false)) rfl (by kernel_rfl) (by kernel_rfl) (by kernel_rfl) (fun _ _ _ h => h) (Or.inl ⟨by rfl, by intro W hSw; clear hHeld; go_split_ands; go_simp⟩) (by assumption) ?_
        simp only [getElem_toArray, getElem_cons_zero, getElem_cons_succ, Act.put, setIfInBounds_toArray, set_cons_zero, set_cons_succ]
        refine wpAnyH_done (by kernel_rfl) ?_ _
        go_wp2_with fail
        go_ret
        exact ⟨rfl, HR.out.trans (Below.mono hHeld.1.below HR.out.size)⟩
      · refine wp_region_held_drew (S := fun w' => Keep (w6.alloc (.cells #[.bool g6, .slice p6 n6 c6, .slice q6 m6 d6] 59)) w' [(w6.heap.size, #[.bool g6, .slice p6 n6 c6, .slice q6 m6 d6], 59), (w2.heap.size, #[.bool g2, .slice p2 n2 c2', .slice q2 m2 d2], 59)] ∧ w'.cell? ⟨w6.heap.size, 0, none⟩ = some (.bool g6) ∧ w'.cell? ⟨w6.heap.size, 1, none⟩ = some (.slice p6 n6 c6) ∧ w'.cell? ⟨w6.heap.size, 2, none⟩ = some (.slice q6 m6 d6) ∧ w'.cell? ⟨w2.heap.size, 0, none⟩ = some (.bool g2) ∧ w'.cell? ⟨w2.heap.size, 1, none⟩ = some (.slice p2 n2 c2') ∧ w'.cell? ⟨w2.heap.size, 2, none⟩ = some (.slice q2 m2 d2)) (by kernel_rfl) (KB.out _ (Keep.drew KR.out)) (fun hHeld => ?_)
        refine wpAnyH_take (i := 0) (v := (.agg #[.bool g2, .slice p2 n2 c2', .slice q2 m2 d2])) rfl (by kernel_rfl) (by kernel_rfl) (by kernel_rfl) (fun _ _ _ h => h) (Or.inl ⟨by rfl, by intro W hSw; clear hHeld; go_split_ands; go_simp⟩) (by assumption) ?_
        simp only [getElem_toArray, getElem_cons_zero, Act.put, setIfInBounds_toArray, set_cons_zero, set_cons_succ]
        refine wpAnyH_ready (rs := [1]) (by kernel_rfl) (by simp) ?_
        refine AllReadyH.cons (i := 1) rfl (fun K hK => ?_) AllReadyH.nil
        go_simp
        refine (h44.out _ _ (QR.out.below hHeld.1.below)).mono ?_
        rintro e v1 ⟨rfl, hb1⟩
        go_simp
        refine hK.out _ _ (KB.out _ (hHeld.1.next hb1)) (fun hHeld => ?_)
        clear hK K
        refine wpAnyH_take (i := 2) (v := (.bool true)) rfl (by kernel_rfl) (by kernel_rfl) (by kernel_rfl) (fun _ _ _ h => h) (Or.inl ⟨by rfl, by intro W hSw; clear hHeld; go_split_ands; go_simp⟩) (by assumption) ?_
        simp only [getElem_toArray, getElem_cons_zero, getElem_cons_succ, Act.put, setIfInBounds_toArray, set_cons_zero, set_cons_succ]
        refine wpAnyH_take (i := 3) (v := (.agg #[.bool g2, .slice p2 n2 c2', .slice q2 m2 d2])) rfl (by kernel_rfl) (by kernel_rfl) (by kernel_rfl) (fun _ _ _ h => h) (Or.inl ⟨by rfl, by intro W hSw; clear hHeld; go_split_ands; go_simp⟩) (by assumption) ?_
        simp only [getElem_toArray, getElem_cons_zero, getElem_cons_succ, Act.put, setIfInBounds_toArray, set_cons_zero, set_cons_succ]
        refine wpAnyH_take (i := 4) (v := (.agg #[.bool g6, .slice p6 n6 c6, .slice q6 m6 d6])) rfl (by kernel_rfl) (by kernel_rfl) (by kernel_rfl) (fun _ _ _ h => h) (Or.inl ⟨by rfl, by intro W hSw; clear hHeld; go_split_ands; go_simp⟩) (by assumption) ?_
        simp only [getElem_toArray, getElem_cons_zero, getElem_cons_succ, Act.put, setIfInBounds_toArray, set_cons_zero, set_cons_succ]
        refine wpAnyH_ready (rs := [5]) (by kernel_rfl) (by simp) ?_
        refine AllReadyH.cons (i := 5) rfl (fun K hK => ?_) AllReadyH.nil
        go_simp
        refine (h43.out _ _ (QL.out.below hHeld.1.below)).mono ?_
        rintro e v2 ⟨e0, e1, e2, e3, e4, e5, e6, rfl, hz2, hb2⟩
        go_simp
        refine hK.out _ _ (KB.out _ (hHeld.1.next hb2)) (fun hHeld => ?_)
        clear hK K
        refine wpAnyH_ready (rs := [6]) (by kernel_rfl) (by simp) ?_
        refine AllReadyH.cons (i := 6) rfl (fun K hK => ?_) AllReadyH.nil
        go_simp
        refine (h46.out _ _ _ (QR.out.below hHeld.1.below) hz2).mono ?_
        rintro e v3 ⟨rfl, hb3⟩
        go_simp
        refine hK.out _ _ (KB.out _ (hHeld.1.next hb3)) (fun hHeld => ?_)
        clear hK K
        refine wpAnyH_take (i := 7) (v := (.bool false)) rfl (by kernel_rfl) (by kernel_rfl) (by kernel_rfl) (fun _ _ _ h => h) (Or.inl ⟨by rfl, by intro W hSw; clear hHeld; go_split_ands; go_simp⟩) (by assumption) ?_
        simp only [getElem_toArray, getElem_cons_zero, getElem_cons_succ, Act.put, setIfInBounds_toArray, set_cons_zero, set_cons_succ]
        refine wpAnyH_take (i := 8) (v := (.bool false)) rfl (by kernel_rfl) (by kernel_rfl) (by kernel_rfl) (fun _ _ _ h => h) (Or.inl ⟨by rfl, by intro W hSw; clear hHeld; go_split_ands; go_simp⟩) (by assumption) ?_
        simp only [getElem_toArray, getElem_cons_zero, getElem_cons_succ, Act.put, setIfInBounds_toArray, set_cons_zero, set_cons_succ]
        refine wpAnyH_take (i := 9) (v := (.bool false)) rfl (by kernel_rfl) (by kernel_rfl) (by kernel_rfl) (fun _ _ _ h => h) (Or.inl ⟨by rfl, by intro W hSw; clear hHeld; go_split_ands; go_simp⟩) (by assumption) ?_
        simp only [getElem_toArray, getElem_cons_zero, getElem_cons_succ, Act.put, setIfInBounds_toArray, set_cons_zero, set_cons_succ]
        refine wpAnyH_take (i := 10) (v := undef) rfl (by kernel_rfl) (by kernel_rfl) (by kernel_rfl) (fun _ _ _ h => h) (Or.inr ⟨by rfl, rfl⟩) (by assumption) ?_
        simp only [getElem_toArray, getElem_cons_zero, getElem_cons_succ, Act.put, setIfInBounds_toArray, set_cons_zero, set_cons_succ]
        refine wpAnyH_take (i := 11) (v := undef) rfl (by kernel_rfl) (by kernel_rfl) (by kernel_rfl) (fun _ _ _ h => h) (Or.inr ⟨by rfl, rfl⟩) (by assumption) ?_
        simp only [getElem_toArray, getElem_cons_zero, getElem_cons_succ, Act.put, setIfInBounds_toArray, set_cons_zero, set_cons_succ]
        refine wpAnyH_take (i := 12) (v := undef) rfl (by kernel_rfl) (by kernel_rfl) (by kernel_rfl) (fun _ _ _ h => h) (Or.inr ⟨by rfl, rfl⟩) (by assumption) ?_
        simp only [getElem_toArray, getElem_cons_zero, getElem_cons_succ, Act.put, setIfInBounds_toArray, set_cons_zero, set_cons_succ]
        refine wpAnyH_take (i := 13) (v := undef) rfl (by kernel_rfl) (by kernel_rfl) (by kernel_rfl) (fun _ _ _ h => h) (Or.inr ⟨by rfl, rfl⟩) (by assumption) ?_
        simp only [getElem_toArray, getElem_cons_zero, getElem_cons_succ, Act.put, setIfInBounds_toArray, set_cons_zero, set_cons_succ]
        refine wpAnyH_take (i := 14) (v := (.bool false)) rfl (by kernel_rfl) (by kernel_rfl) (by kernel_rfl) (fun _ _ _ h => h) (Or.inl ⟨by rfl, by intro W hSw; clear hHeld; go_split_ands; go_simp⟩) (by assumption) ?_
        simp only [getElem_toArray, getElem_cons_zero, getElem_cons_succ, Act.put, setIfInBounds_toArray, set_cons_zero, set_cons_succ]
        refine wpAnyH_take (i := 15) (v := (.bool false)) rfl (by kernel_rfl) (by kernel_rfl) (by kernel_rfl) (fun _ _ _ h => h) (Or.inl ⟨by rfl, by intro W hSw; clear hHeld; go_split_ands; go_simp⟩) (by assumption) ?_
        simp only [getElem_toArray, getElem_cons_zero, getElem_cons_succ, Act.put, setIfInBounds_toArray, set_cons_zero, set_cons_succ]
        refine wpAnyH_done (by kernel_rfl) ?_ _
        go_wp2_with fail
        go_ret
        exact ⟨rfl, HR.out.trans (Below.mono hHeld.1.below HR.out.size)⟩
      · refine wp_region_held_drew (S := fun w' => Keep (w6.alloc (.cells #[.bool g6, .slice p6 n6 c6, .slice q6 m6 d6] 59)) w' [(w6.heap.size, #[.bool g6, .slice p6 n6 c6, .slice q6 m6 d6], 59), (w2.heap.size, #[.bool g2, .slice p2 n2 c2', .slice q2 m2 d2], 59)] ∧ w'.cell? ⟨w6.heap.size, 0, none⟩ = some (.bool g6) ∧ w'.cell? ⟨w6.heap.size, 1, none⟩ = some (.slice p6 n6 c6) ∧ w'.cell? ⟨w6.heap.size, 2, none⟩ = some (.slice q6 m6 d6) ∧ w'.cell? ⟨w2.heap.size, 0, none⟩ = some (.bool g2) ∧ w'.cell? ⟨w2.heap.size, 1, none⟩ = some (.slice p2 n2 c2') ∧ w'.cell? ⟨w2.heap.size, 2, none⟩ = some (.slice q2 m2 d2)) (by kernel_rfl) (KB.out _ (Keep.drew KR.out)) (fun hHeld => ?_)
        refine wpAnyH_take (i := 0) (v := (.agg #[.bool g2, .slice p2 n2 c2', .slice q2 m2 d2])) rfl (by kernel_rfl) (by kernel_rfl) (by kernel_rfl) (fun _ _ _ h => h) (Or.inl ⟨by rfl, by intro W hSw; clear hHeld; go_split_ands; go_simp⟩) (by assumption) ?_
        simp only [getElem_toArray, getElem_cons_zero, Act.put, setIfInBounds_toArray, set_cons_zero, set_cons_succ]
        refine wpAnyH_ready (rs := [1]) (by kernel_rfl) (by simp) ?_
        refine AllReadyH.cons (i := 1) rfl (fun K hK => ?_) AllReadyH.nil
        go_simp
        refine (h44.out _ _ (QR.out.below hHeld.1.below)).mono ?_
        rintro e v1 ⟨rfl, hb1⟩
        go_simp
        refine hK.out _ _ (KB.out _ (hHeld.1.next hb1)) (fun hHeld => ?_)
        clear hK K
        refine wpAnyH_take (i := 2) (v := (.bool true)) rfl (by kernel_rfl) (by kernel_rfl) (by kernel_rfl) (fun _ _ _ h => h) (Or.inl ⟨by rfl, by intro W hSw; clear hHeld; go_split_ands; go_simp⟩) (by assumption) ?_
        simp only [getElem_toArray, getElem_cons_zero, getElem_cons_succ, Act.put, setIfInBounds_toArray, set_cons_zero, set_cons_succ]
        refine wpAnyH_take (i := 3) (v := (.agg #[.bool g2, .slice p2 n2 c2', .slice q2 m2 d2])) rfl (by kernel_rfl) (by kernel_rfl) (by kernel_rfl) (fun _ _ _ h => h) (Or.inl ⟨by rfl, by intro W hSw; clear hHeld; go_split_ands; go_simp⟩) (by assumption) ?_
        simp only [getElem_toArray, getElem_cons_zero, getElem_cons_succ, Act.put, setIfInBounds_toArray, set_cons_zero, set_cons_succ]
        refine wpAnyH_take (i := 4) (v := (.agg #[.bool g6, .slice p6 n6 c6, .slice q6 m6 d6])) rfl (by kernel_rfl) (by kernel_rfl) (by kernel_rfl) (fun _ _ _ h => h) (Or.inl ⟨by rfl, by intro W hSw; clear hHeld; go_split_ands; go_simp⟩) (by assumption) ?_
        simp only [getElem_toArray, getElem_cons_zero, getElem_cons_succ, Act.put, setIfInBounds_toArray, set_cons_zero, set_cons_succ]
        refine wpAnyH_ready (rs := [5]) (by kernel_rfl) (by simp) ?_
        refine AllReadyH.cons (i := 5) rfl (fun K hK => ?_) AllReadyH.nil
        go_simp
        refine (h43.out _ _ (QL.out.below hHeld.1.below)).mono ?_
        rintro e v2 ⟨e0, e1, e2, e3, e4, e5, e6, rfl, hz2, hb2⟩
        go_simp
        refine hK.out _ _ (KB.out _ (hHeld.1.next hb2)) (fun hHeld => ?_)
        clear hK K
        refine wpAnyH_ready (rs := [6]) (by kernel_rfl) (by simp) ?_
        refine AllReadyH.cons (i := 6) rfl (fun K hK => ?_) AllReadyH.nil
        go_simp
        refine (h46.out _ _ _ (QR.out.below hHeld.1.below) hz2).mono ?_
        rintro e v3 ⟨rfl, hb3⟩
        go_simp
        refine hK.out _ _ (KB.out _ (hHeld.1.next hb3)) (fun hHeld => ?_)
        clear hK K
        refine wpAnyH_take (i := 7) (v := (.bool true)) rfl (by kernel_rfl) (by kernel_rfl) (by kernel_rfl) (fun _ _ _ h => h) (Or.inl ⟨by rfl, by intro W hSw; clear hHeld; go_split_ands; go_simp⟩) (by assumption) ?_
        simp only [getElem_toArray, getElem_cons_zero, getElem_cons_succ, Act.put, setIfInBounds_toArray, set_cons_zero, set_cons_succ]
        refine wpAnyH_take (i := 8) (v := (.bool true)) rfl (by kernel_rfl) (by kernel_rfl) (by kernel_rfl) (fun _ _ _ h => h) (Or.inl ⟨by rfl, by intro W hSw; clear hHeld; go_split_ands; go_simp⟩) (by assumption) ?_
        simp only [getElem_toArray, getElem_cons_zero, getElem_cons_succ, Act.put, setIfInBounds_toArray, set_cons_zero, set_cons_succ]
        refine wpAnyH_take (i := 9) (v := (.bool true)) rfl (by kernel_rfl) (by kernel_rfl) (by kernel_rfl) (fun _ _ _ h => h) (Or.inl ⟨by rfl, by intro W hSw; clear hHeld; go_split_ands; go_simp⟩) (by assumption) ?_
        simp only [getElem_toArray, getElem_cons_zero, getElem_cons_succ, Act.put, setIfInBounds_toArray, set_cons_zero, set_cons_succ]
        refine wpAnyH_take (i := 10) (v := (.agg #[.bool g2, .slice p2 n2 c2', .slice q2 m2 d2])) rfl (by kernel_rfl) (by kernel_rfl) (by kernel_rfl) (fun _ _ _ h => h) (Or.inl ⟨by rfl, by intro W hSw; clear hHeld; go_split_ands; go_simp⟩) (by assumption) ?_
        simp only [getElem_toArray, getElem_cons_zero, getElem_cons_succ, Act.put, setIfInBounds_toArray, set_cons_zero, set_cons_succ]
        refine wpAnyH_take (i := 11) (v := (.agg #[.bool g6, .slice p6 n6 c6, .slice q6 m6 d6])) rfl (by kernel_rfl) (by kernel_rfl) (by kernel_rfl) (fun _ _ _ h => h) (Or.inl ⟨by rfl, by intro W hSw; clear hHeld; go_split_ands; go_simp⟩) (by assumption) ?_
        simp only [getElem_toArray, getElem_cons_zero, getElem_cons_succ, Act.put, setIfInBounds_toArray, set_cons_zero, set_cons_succ]
        refine wpAnyH_ready (rs := [12]) (by kernel_rfl) (by simp) ?_
        refine AllReadyH.cons (i := 12) rfl (fun K hK => ?_) AllReadyH.nil
        go_simp
        refine (h47.out _ _ _ (QR.out.below hHeld.1.below) (QL.out.below hHeld.1.below)).mono ?_
        rintro e v4 ⟨rfl, hb4⟩
        go_simp
        refine hK.out _ _ (KB.out _ (hHeld.1.next hb4)) (fun hHeld => ?_)
        clear hK K
        refine wpAnyH_take (i := 13) (v := (.bool (decide (c2 < 0)))) rfl (by kernel_rfl) (by kernel_rfl) (by kernel_rfl) (fun _ _ _ h => h) (Or.inl ⟨by rfl, by intro W hSw; clear hHeld; go_split_ands; go_simp⟩) (by assumption) ?_
        simp only [getElem_toArray, getElem_cons_zero, getElem_cons_succ, Act.put, setIfInBounds_toArray, set_cons_zero, set_cons_succ]
        refine wpAnyH_take (i := 14) (v := (.bool (decide (c2 < 0)))) rfl (by kernel_rfl) (by kernel_rfl) (by kernel_rfl) (fun _ _ _ h => h) (Or.inl ⟨by rfl, by intro W hSw; clear hHeld; go_split_ands; go_simp⟩) (by assumption) ?_
        simp only [getElem_toArray, getElem_cons_zero, getElem_cons_succ, Act.put, setIfInBounds_toArray, set_cons_zero, set_cons_succ]
        refine wpAnyH_take (i := 15) (v := (.bool (decide (c2 < 0)))) rfl (by kernel_rfl) (by kernel_rfl) (by kernel_rfl) (fun _ _ _ h => h) (Or.inl ⟨by rfl, by intro W hSw; clear hHeld; go_split_ands; go_simp⟩) (by assumption) ?_
        simp only [getElem_toArray, getElem_cons_zero, getElem_cons_succ, Act.put, setIfInBounds_toArray, set_cons_zero, set_cons_succ]
        refine wpAnyH_done (by kernel_rfl) ?_ _
        go_wp2_with fail
        go_ret
        exact ⟨rfl, HR.out.trans (Below.mono hHeld.1.below HR.out.size)⟩
theorem rfits_3 (l : List UInt8) (_hl : ¬ l = []) (hl2 : l.isEmpty = false) (q lim : Rat) (f res : Bool) (c1 c2 : Int)
  (hcase : Hid ((f = false ∧ res = false) ∨ (f = true ∧ ¬ 0 ≤ c1 ∧ res = false) ∨ (f = true ∧ 0 ≤ c1 ∧ res = decide (c2 < 0)))) (w : World)
  (h105 : Hid (∀ W, Below w.heap.size w W → Calls Tryz.prog 96 #[.string ⟨l.toArray⟩] W fun e w' => e = .returned (.bool true) ∧ Below W.heap.size W w')) (h40 : Hid (∀ W, Below w.heap.size w W → Calls Tryz.prog 31 #[.string ⟨l.toArray⟩] W (FlagPost q true W)))
  (h97 : Hid (∀ W, Calls Tryz.prog 67 #[] W (Post9 1 W))) (h78 : Hid (∀ W, Calls Tryz.prog 66 #[.int .u64 2] W (Post9 2 W))) (h99 : Hid (∀ W u v i, i ≤ 63 → Nat9 W u (2 ^ i) → Nat9 W v 2 → Calls Tryz.prog 70 #[u, v] W (Post9 (2 ^ (i + 1)) W)))
  (h98 : Hid (∀ W u v, Nat9 W u (2 ^ 31) → Nat9 W v 1 → Calls Tryz.prog 65 #[.bool false, u, v] W (QPostC lim W))) (h44 : Hid (∀ W u, QAt W u q → Calls Tryz.prog 97 #[u] W fun e w' => e = .returned (.bool f) ∧ Below W.heap.size W w'))
  (h43 : Hid (∀ W u, QAt W u lim → Calls Tryz.prog 53 #[u] W (QPostC (-lim) W))) (h46 : Hid (∀ W u v, QAt W u q → QAt W v (-lim) → Calls Tryz.prog 52 #[u, v] W fun e w' => e = .returned (.int .i64 c1) ∧ Below W.heap.size W w'))
  (h47 : Hid (∀ W u v, QAt W u q → QAt W v lim → Calls Tryz.prog 52 #[u, v] W fun e w' => e = .returned (.int .i64 c2) ∧ Below W.heap.size W w')) : Calls Tryz.prog 50 #[.int .i64 3, .string ⟨l.toArray⟩] w fun e w' => e = .returned (.bool res) ∧ Below w.heap.size w w' := by
  go_enter Tryz.func50, Tryz.ntmps50
  go_wp2_with fail
  refine (h105.out _ (Below.refl _ _)).mono ?_
  rintro e w1 ⟨rfl, hb⟩
  have B1 := hiD hb
  clear hb
  go_wp2_with fail
  refine (h40.out _ B1.out).mono ?_
  rintro e w2 ⟨g2, p2, n2, c2', q2, m2, d2, rfl, hb, hq⟩
  have K2 := hiD ((Keep.next (L := []) ⟨B1.out, fun _ h => by cases h⟩ hb).more #[.bool g2, .slice p2 n2 c2', .slice q2 m2 d2] 59)
  have Q2 := hiD ((hq rfl).below (below_alloc9 w2 (.cells #[.bool g2, .slice p2 n2 c2', .slice q2 m2 d2] 59)))
  clear hb hq B1
  go_wp2_with fail
  refine (h97.out _).mono ?_
  rintro e w3 ⟨v3, rfl, hv, hb, -⟩
  have hst : Hid (∃ i : Nat, i ≤ 31 ∧ Value.int .i64 0 = .int .i64 (i : Int) ∧ Hid (Keep w w3 [(w2.heap.size, #[.bool g2, .slice p2 n2 c2', .slice q2 m2 d2], 59)] ∧ QAt w3 (.agg #[.bool g2, .slice p2 n2 c2', .slice q2 m2 d2]) q ∧ Nat9 w3 v3 (2 ^ i))) := hiD ⟨0, by omega, rfl, hiD ⟨K2.out.next hb, Q2.out.below hb, hv⟩⟩
  clear hb hv K2 Q2
  go_wp2_with fail
  go_loopw [7, 37] (fun mv iv wr => ∃ i : Nat, i ≤ 31 ∧ iv = .int .i64 (i : Int) ∧ Hid (Keep w wr [(w2.heap.size, #[.bool g2, .slice p2 n2 c2', .slice q2 m2 d2], 59)] ∧ QAt wr (.agg #[.bool g2, .slice p2 n2 c2', .slice q2 m2 d2]) q ∧ Nat9 wr mv (2 ^ i))) (fun _ iv _ => 31 - (intOf iv).toNat)
  case atStart => exact hst.out
  case round =>
    obtain ⟨i, hi, rfl, hinv⟩ := hrel
    by_cases hlt : i < 31
    · have hlt' : (i : Int) < 31 := by omega
      have hi63 : Hid (i ≤ 63) := hiD (by omega)
      clear hlt
      go_wp2_with fail
      refine (h78.out _).mono ?_
      rintro e w4 ⟨v4, rfl, hv4, hb4, -⟩
      have hc := hiD (h99.out w4 _ _ i hi63.out (hinv.out.2.2.below hb4) hv4)
      have hk4 := hiD (hinv.out.1.next hb4)
      have hq4 := hiD (hinv.out.2.1.below hb4)
      clear hv4 hb4 hinv
      go_wp2_with fail
      refine hc.out.mono ?_
      rintro e w5 ⟨v5, rfl, hv5, hb5, -⟩
      have hnx := hiD (And.intro (hk4.out.next hb5) (And.intro (hq4.out.below hb5) hv5))
      clear hv5 hb5 hc
      go_wp2_with fail
      go_roundw
      case rel => exact ⟨i + 1, by omega, by go_num, hnx⟩
      case measure => simp [intOf]; omega
    · obtain rfl : i = 31 := by omega
      go_wp2_with fail
      refine (h97.out _).mono ?_
      rintro e w5 ⟨v5, rfl, hv5, hb5, -⟩
      have hc := hiD (h98.out w5 _ _ (hinv.out.2.2.below hb5) hv5)
      have hk5 := hiD (hinv.out.1.next hb5)
      have hq5 := hiD (hinv.out.2.1.below hb5)
      clear hv5 hb5 hinv
      go_wp2_with fail
      refine hc.out.mono ?_
      rintro e w6 ⟨g6, p6, n6, c6, q6, m6, d6, rfl, hz, hb⟩
      have K6 := hiD ((hk5.out.next hb).more #[.bool g6, .slice p6 n6 c6, .slice q6 m6 d6] 59)
      have QL := hiD (hz.below (below_alloc9 w6 (.cells #[.bool g6, .slice p6 n6 c6, .slice q6 m6 d6] 59)))
      have QR := hiD ((hq5.out.below hb).below (below_alloc9 w6 (.cells #[.bool g6, .slice p6 n6 c6, .slice q6 m6 d6] 59)))
      have HR := hiD K6.out.below
      have KR := hiD (Keep.mk (Below.refl _ _) K6.out.all : Keep (w6.alloc (.cells #[.bool g6, .slice p6 n6 c6, .slice q6 m6 d6] 59)) (w6.alloc (.cells #[.bool g6, .slice p6 n6 c6, .slice q6 m6 d6] 59)) [(w6.heap.size, #[.bool g6, .slice p6 n6 c6, .slice q6 m6 d6], 59), (w2.heap.size, #[.bool g2, .slice p2 n2 c2', .slice q2 m2 d2], 59)])
      have KB : Hid (∀ W, Keep (w6.alloc (.cells #[.bool g6, .slice p6 n6 c6, .slice q6 m6 d6] 59)) W [(w6.heap.size, #[.bool g6, .slice p6 n6 c6, .slice q6 m6 d6], 59), (w2.heap.size, #[.bool g2, .slice p2 n2 c2', .slice q2 m2 d2], 59)] → (fun w' => Keep (w6.alloc (.cells #[.bool g6, .slice p6 n6 c6, .slice q6 m6 d6] 59)) w' [(w6.heap.size, #[.bool g6, .slice p6 n6 c6, .slice q6 m6 d6], 59), (w2.heap.size, #[.bool g2, .slice p2 n2 c2', .slice q2 m2 d2], 59)] ∧ w'.cell? ⟨w6.heap.size, 0, none⟩ = some (.bool g6) ∧ w'.cell? ⟨w6.heap.size, 1, none⟩ = some (.slice p6 n6 c6) ∧ w'.cell? ⟨w6.heap.size, 2, none⟩ = some (.slice q6 m6 d6) ∧ w'.cell? ⟨w2.heap.size, 0, none⟩ = some (.bool g2) ∧ w'.cell? ⟨w2.heap.size, 1, none⟩ = some (.slice p2 n2 c2') ∧ w'.cell? ⟨w2.heap.size, 2, none⟩ = some (.slice q2 m2 d2)) W) := hiD fun W h => ⟨h, ceh (h.one _ (List.mem_cons_self ..)) 0, ceh (h.one _ (List.mem_cons_self ..)) 1, ceh (h.one _ (List.mem_cons_self ..)) 2, ceh (h.one _ (List.mem_cons_of_mem _ (List.mem_cons_self ..))) 0, ceh (h.one _ (List.mem_cons_of_mem _ (List.mem_cons_self ..))) 1, ceh (h.one _ (List.mem_cons_of_mem _ (List.mem_cons_self ..))) 2⟩
      clear hz hb K6 hk5 hq5 hc
      go_wp2_with fail
      rcases hcase.out with ⟨rfl, rfl⟩ | ⟨rfl, h1, rfl⟩ | ⟨rfl, h1, rfl⟩
      · refine wp_region_held_drew (S := fun w' => Keep (w6.alloc (.cells #[.bool g6, .slice p6 n6 c6, .slice q6 m6 d6] 59)) w' [(w6.heap.size, #[.bool g6, .slice p6 n6 c6, .slice q6 m6 d6], 59), (w2.heap.size, #[.bool g2, .slice p2 n2 c2', .slice q2 m2 d2], 59)] ∧ w'.cell? ⟨w6.heap.size, 0, none⟩ = some (.bool g6) ∧ w'.cell? ⟨w6.heap.size, 1, none⟩ = some (.slice p6 n6 c6) ∧ w'.cell? ⟨w6.heap.size, 2, none⟩ = some (.slice q6 m6 d6) ∧ w'.cell? ⟨w2.heap.size, 0, none⟩ = some (.bool g2) ∧ w'.cell? ⟨w2.heap.size, 1, none⟩ = some (.slice p2 n2 c2') ∧ w'.cell? ⟨w2.heap.size, 2, none⟩ = some (.slice q2 m2 d2)) (by kernel_rfl) (KB.out _ (Keep.drew KR.out)) (fun hHeld => ?_)
        refine wpAnyH_take (i := 0) (v := (.agg #[.bool g2, .slice p2 n2 c2', .slice q2 m2 d2])) rfl (by kernel_rfl) (by kernel_rfl) (by kernel_rfl) (fun _ _ _ h => h) (Or.inl ⟨by rfl, by intro W hSw; clear hHeld; go_split_ands; go_simp⟩) (by assumption) ?_
        simp only [getElem_toArray, getElem_cons_zero, Act.put, setIfInBounds_toArray, set_cons_zero, set_cons_succ]
        refine wpAnyH_ready (rs := [1]) (by kernel_rfl) (by simp) ?_
        refine AllReadyH.cons (i := 1) rfl (fun K hK => ?_) AllReadyH.nil
        go_simp
        refine (h44.out _ _ (QR.out.below hHeld.1.below)).mono ?_
        rintro e v1 ⟨rfl, hb1⟩
        go_simp
        refine hK.out _ _ (KB.out _ (hHeld.1.next hb1)) (fun hHeld => ?_)
        clear hK K
        refine wpAnyH_take (i := 2) (v := (.bool false)) rfl (by kernel_rfl) (by kernel_rfl) (by kernel_rfl) (fun _ _ _ h => h) (Or.inl ⟨by rfl, by intro W hSw; clear hHeld; go_split_ands; go_simp⟩) (by assumption) ?_
        simp only [getElem_toArray, getElem_cons_zero, getElem_cons_succ, Act.put, setIfInBounds_toArray, set_cons_zero, set_cons_succ]
        refine wpAnyH_take (i := 3) (v := undef) rfl (by kernel_rfl) (by kernel_rfl) (by kernel_rfl) (fun _ _ _ h => h) (Or.inr ⟨by rfl, rfl⟩) (by assumption) ?_
        simp only [getElem_toArray, getElem_cons_zero, getElem_cons_succ, Act.put, setIfInBounds_toArray, set_cons_zero, set_cons_succ]
        refine wpAnyH_take (i := 4) (v := undef) rfl (by kernel_rfl) (by kernel_rfl) (by kernel_rfl) (fun _ _ _ h => h) (Or.inr ⟨by rfl, rfl⟩) (by assumption) ?_
        simp only [getElem_toArray, getElem_cons_zero, getElem_cons_succ, Act.put, setIfInBounds_toArray, set_cons_zero, set_cons_succ]
        refine wpAnyH_take (i := 5) (v := undef) rfl (by kernel_rfl) (by kernel_rfl) (by kernel_rfl) (fun _ _ _ h => h) (Or.inr ⟨by rfl, rfl⟩) (by assumption) ?_
        simp only [getElem_toArray, getElem_cons_zero, getElem_cons_succ, Act.put, setIfInBounds_toArray, set_cons_zero, set_cons_succ]
        refine wpAnyH_take (i := 6) (v := undef) rfl (by kernel_rfl) (by kernel_rfl) (by kernel_rfl) (fun _ _ _ h => h) (Or.inr ⟨by rfl, rfl⟩) (by assumption) ?_
        simp only [getElem_toArray, getElem_cons_zero, getElem_cons_succ, Act.put, setIfInBounds_toArray, set_cons_zero, set_cons_succ]
        refine wpAnyH_take (i := 7) (v := undef) rfl (by kernel_rfl) (by kernel_rfl) (by kernel_rfl) (fun _ _ _ h => h) (Or.inr ⟨by rfl, rfl⟩) (by assumption) ?_
        simp only [getElem_toArray, getElem_cons_zero, getElem_cons_succ, Act.put, setIfInBounds_toArray, set_cons_zero, set_cons_succ]
        refine wpAnyH_take (i := 8) (v := (.bool false)) rfl (by kernel_rfl) (by kernel_rfl) (by kernel_rfl) (fun _ _ _ h => h) (Or.inl ⟨by rfl, by intro W hSw; clear hHeld; go_split_ands; go_simp⟩) (by assumption) ?_
        simp only [getElem_toArray, getElem_cons_zero, getElem_cons_succ, Act.put, setIfInBounds_toArray, set_cons_zero, set_cons_succ]
        refine wpAnyH_take (i := 9) (v := (.bool false)) rfl (by kernel_rfl) (by kernel_rfl) (by kernel_rfl) (fun _ _ _ h => h) (Or.inl ⟨by rfl, by intro W hSw; clear hHeld; go_split_ands; go_simp⟩) (by assumption) ?_
        simp only [getElem_toArray, getElem_cons_zero, getElem_cons_succ, Act.put, setIfInBounds_toArray, set_cons_zero, set_cons_succ]
        refine wpAnyH_take (i := 10) (v := undef) rfl (by kernel_rfl) (by kernel_rfl) (by kernel_rfl) (fun _ _ _ h => h) (Or.inr ⟨by rfl, rfl⟩) (by assumption) ?_
        simp only [getElem_toArray, getElem_cons_zero, getElem_cons_succ, Act.put, setIfInBounds_toArray, set_cons_zero, set_cons_succ]
        refine wpAnyH_take (i := 11) (v := undef) rfl (by kernel_rfl) (by kernel_rfl) (by kernel_rfl) (fun _ _ _ h => h) (Or.inr ⟨by rfl, rfl⟩) (by assumption) ?_
        simp only [getElem_toArray, getElem_cons_zero, getElem_cons_succ, Act.put, setIfInBounds_toArray, set_cons_zero, set_cons_succ]
        refine wpAnyH_take (i := 12) (v := undef) rfl (by kernel_rfl) (by kernel_rfl) (by kernel_rfl) (fun _ _ _ h => h) (Or.inr ⟨by rfl, rfl⟩) (by assumption) ?_
        simp only [getElem_toArray, getElem_cons_zero, getElem_cons_succ, Act.put, setIfInBounds_toArray, set_cons_zero, set_cons_succ]
        refine wpAnyH_take (i := 13) (v := undef) rfl (by kernel_rfl) (by kernel_rfl) (by kernel_rfl) (fun _ _ _ h => h) (Or.inr ⟨by rfl, rfl⟩) (by assumption) ?_
        simp only [getElem_toArray, getElem_cons_zero, getElem_cons_succ, Act.put, setIfInBounds_toArray, set_cons_zero, set_cons_succ]
        refine wpAnyH_take (i := 14) (v := (.bool false)) rfl (by kernel_rfl) (by kernel_rfl) (by kernel_rfl) (fun _ _ _ h => h) (Or.inl ⟨by rfl, by intro W hSw; clear hHeld; go_split_ands; go_simp⟩) (by assumption) ?_
        simp only [getElem_toArray, getElem_cons_zero, getElem_cons_succ, Act.put, setIfInBounds_toArray, set_cons_zero, set_cons_succ]
        refine wpAnyH_take (i := 15) (v := (.bool false)) rfl (by kernel_rfl) (by kernel_rfl) (by kernel_rfl) (fun _ _ _ h => h) (Or.inl ⟨by rfl, by intro W hSw; clear hHeld; go_split_ands; go_simp⟩) (by assumption) ?_
        simp only [getElem_toArray, getElem_cons_zero, getElem_cons_succ, Act.put, setIfInBounds_toArray, set_cons_zero, set_cons_succ]
        refine wpAnyH_done (by kernel_rfl) ?_ _
        go_wp2_with fail
        go_ret
        exact ⟨rfl, HR.out.trans (Below.mono hHeld.1.below HR.out.size)⟩
      · refine wp_region_held_drew (S := fun w' => Keep (w6.alloc (.cells #[.bool g6, .slice p6 n6 c6, .slice q6 m6 d6] 59)) w' [(w6.heap.size, #[.bool g6, .slice p6 n6 c6, .slice q6 m6 d6], 59), (w2.heap.size, #[.bool g2, .slice p2 n2 c2', .slice q2 m2 d2], 59)] ∧ w'.cell? ⟨w6.heap.size, 0, none⟩ = some (.bool g6) ∧ w'.cell? ⟨w6.heap.size, 1, none⟩ = some (.slice p6 n6 c6) ∧ w'.cell? ⟨w6.heap.size, 2, none⟩ = some (.slice q6 m6 d6) ∧ w'.cell? ⟨w2.heap.size, 0, none⟩ = some (.bool g2) ∧ w'.cell? ⟨w2.heap.size, 1, none⟩ = some (.slice p2 n2 c2') ∧ w'.cell? ⟨w2.heap.size, 2, none⟩ = some (.slice q2 m2 d2)) (by kernel_rfl) (KB.out _ (Keep.drew KR.out)) (fun hHeld => ?_)
        refine wpAnyH_take (i := 0) (v := (.agg #[.bool g2, .slice p2 n2 c2', .slice q2 m2 d2])) rfl (by kernel_rfl) (by kernel_rfl) (by kernel_rfl) (fun _ _ _ h => h) (Or.inl ⟨by rfl, by intro W hSw; clear hHeld; go_split_ands; go_simp⟩) (by assumption) ?_
        simp only [getElem_toArray, getElem_cons_zero, Act.put, setIfInBounds_toArray, set_cons_zero, set_cons_succ]
        refine wpAnyH_ready (rs := [1]) (by kernel_rfl) (by simp) ?_
        refine AllReadyH.cons (i := 1) rfl (fun K hK => ?_) AllReadyH.nil
        go_simp
        refine (h44.out _ _ (QR.out.below hHeld.1.below)).mono ?_
        rintro e v1 ⟨rfl, hb1⟩
        go_simp
        refine hK.out _ _ (KB.out _ (hHeld.1.next hb1)) (fun hHeld => ?_)
        clear hK K
        refine wpAnyH_take (i := 2) (v := (.bool true)) rfl (by kernel_rfl) (by kernel_rfl) (by kernel_rfl) (fun _ _ _ h => h) (Or.inl ⟨by rfl, by intro W hSw; clear hHeld; go_split_ands; go_simp⟩) (by assumption) ?_
        simp only [getElem_toArray, getElem_cons_zero, getElem_cons_succ, Act.put, setIfInBounds_toArray, set_cons_zero, set_cons_succ]
        refine wpAnyH_take (i := 3) (v := (.agg #[.bool g2, .slice p2 n2 c2', .slice q2 m2 d2])) rfl (by kernel_rfl) (by kernel_rfl) (by kernel_rfl) (fun _ _ _ h => h) (Or.inl ⟨by rfl, by intro W hSw; clear hHeld; go_split_ands; go_simp⟩) (by assumption) ?_
        simp only [getElem_toArray, getElem_cons_zero, getElem_cons_succ, Act.put, setIfInBounds_toArray, set_cons_zero, set_cons_succ]
        refine wpAnyH_take (i := 4) (v := (.agg #[.bool g6, .slice p6 n6 c6, .slice q6 m6 d6])) rfl (by kernel_rfl) (by kernel_rfl) (by kernel_rfl) (fun _ _ _ h => h) (Or.inl ⟨by rfl, by intro W hSw; clear hHeld; go_split_ands; go_simp⟩) (by assumption) ?_
        simp only [getElem_toArray, getElem_cons_zero, getElem_cons_succ, Act.put, setIfInBounds_toArray, set_cons_zero, set_cons_succ]
        refine wpAnyH_ready (rs := [5]) (by kernel_rfl) (by simp) ?_
        refine AllReadyH.cons (i := 5) rfl (fun K hK => ?_) AllReadyH.nil
        go_simp
        refine (h43.out _ _ (QL.out.below hHeld.1.below)).mono ?_
        rintro e v2 ⟨e0, e1, e2, e3, e4, e5, e6, rfl, hz2, hb2⟩
        go_simp
        refine hK.out _ _ (KB.out _ (hHeld.1.next hb2)) (fun hHeld => ?_)
        clear hK K
        refine wpAnyH_ready (rs := [6]) (by kernel_rfl) (by simp) ?_
        refine AllReadyH.cons (i := 6) rfl (fun K hK => ?_) AllReadyH.nil
        go_simp
        refine (h46.out _ _ _ (QR.out.below hHeld.1.below) hz2).mono ?_
        rintro e v3 ⟨rfl, hb3⟩
        go_simp
        refine hK.out _ _ (KB.out _ (hHeld.1.next hb3)) (fun hHeld => ?_)
        clear hK K
        refine wpAnyH_take (i := 7) (v := (.bool false)) rfl (by kernel_rfl) (by kernel_rfl) (by kernel_rfl) (fun _ _ _ h => h) (Or.inl ⟨by rfl, by intro W hSw; clear hHeld; go_split_ands; go_simp⟩) (by assumption) ?_
        simp only [getElem_toArray, getElem_cons_zero, getElem_cons_succ, Act.put, setIfInBounds_toArray, set_cons_zero, set_cons_succ]
        refine wpAnyH_take (i := 8) (v := (.bool false)) rfl (by kernel_rfl) (by kernel_rfl) (by kernel_rfl) (fun _ _ _ h => h) (Or.inl ⟨by rfl, by intro W hSw; clear hHeld; go_split_ands; go_simp⟩) (by assumption) ?_
        simp only [getElem_toArray, getElem_cons_zero, getElem_cons_succ, Act.put, setIfInBounds_toArray, set_cons_zero, set_cons_succ]
        refine wpAnyH_take (i := 9) (v := (.bool false)) rfl (by kernel_rfl) (by kernel_rfl) (by kernel_rfl) (fun _ _ _ h => h) (Or.inl ⟨by rfl, by intro W hSw; clear hHeld; go_split_ands; go_simp⟩) (by assumption) ?_
        simp only [getElem_toArray, getElem_cons_zero, getElem_cons_succ, Act.put, setIfInBounds_toArray, set_cons_zero, set_cons_succ]
        refine wpAnyH_take (i := 10) (v := undef) rfl (by kernel_rfl) (by kernel_rfl) (by kernel_rfl) (fun _ _ _ h => h) (Or.inr ⟨by rfl, rfl⟩) (by assumption) ?_
        simp only [getElem_toArray, getElem_cons_zero, getElem_cons_succ, Act.put, setIfInBounds_toArray, set_cons_zero, set_cons_succ]
        refine wpAnyH_take (i := 11) (v := undef) rfl (by kernel_rfl) (by kernel_rfl) (by kernel_rfl) (fun _ _ _ h => h) (Or.inr ⟨by rfl, rfl⟩) (by assumption) ?_
        simp only [getElem_toArray, getElem_cons_zero, getElem_cons_succ, Act.put, setIfInBounds_toArray, set_cons_zero, set_cons_succ]
        refine wpAnyH_take (i := 12) (v := undef) rfl (by kernel_rfl) (by kernel_rfl) (by kernel_rfl) (fun _ _ _ h => h) (Or.inr ⟨by rfl, rfl⟩) (by assumption) ?_
        simp only [getElem_toArray, getElem_cons_zero, getElem_cons_succ, Act.put, setIfInBounds_toArray, set_cons_zero, set_cons_succ]
        refine wpAnyH_take (i := 13) (v := undef) rfl (by kernel_rfl) (by kernel_rfl) (by kernel_rfl) (fun _ _ _ h => h) (Or.inr ⟨by rfl, rfl⟩) (by assumption) ?_
        simp only [getElem_toArray, getElem_cons_zero, getElem_cons_succ, Act.put, setIfInBounds_toArray, set_cons_zero, set_cons_succ]
        refine wpAnyH_take (i := 14) (v := (.bool false)) rfl (by kernel_rfl) (by kernel_rfl) (by kernel_rfl) (fun _ _ _ h => h) (Or.inl ⟨by rfl, by intro W hSw; clear hHeld; go_split_ands; go_simp⟩) (by assumption) ?_
        simp only [getElem_toArray, getElem_cons_zero, getElem_cons_succ, Act.put, setIfInBounds_toArray, set_cons_zero, set_cons_succ]
        refine wpAnyH_take (i := 15) (v := (.bool false)) rfl (by kernel_rfl) (by kernel_rfl) (by kernel_rfl) (fun _ _ _ h => h) (Or.inl ⟨by rfl, by intro W hSw; clear hHeld; go_split_ands; go_simp⟩) (by assumption) ?_
        simp only [getElem_toArray, getElem_cons_zero, getElem_cons_succ, Act.put, setIfInBounds_toArray, set_cons_zero, set_cons_succ]
        refine wpAnyH_done (by kernel_rfl) ?_ _
        go_wp2_with fail
        go_ret
        exact ⟨rfl, HR.out.trans (Below.mono hHeld.1.below HR.out.size)⟩
      · refine wp_region_held_drew (S := fun w' => Keep (w6.alloc (.cells #[.bool g6, .slice p6 n6 c6, .slice q6 m6 d6] 59)) w' [(w6.heap.size, #[.bool g6, .slice p6 n6 c6, .slice q6 m6 d6], 59), (w2.heap.size, #[.bool g2, .slice p2 n2 c2', .slice q2 m2 d2], 59)] ∧ w'.cell? ⟨w6.heap.size, 0, none⟩ = some (.bool g6) ∧ w'.cell? ⟨w6.heap.size, 1, none⟩ = some (.slice p6 n6 c6) ∧ w'.cell? ⟨w6.heap.size, 2, none⟩ = some (.slice q6 m6 d6) ∧ w'.cell? ⟨w2.heap.size, 0, none⟩ = some (.bool g2) ∧ w'.cell? ⟨w2.heap.size, 1, none⟩ = some (.slice p2 n2 c2') ∧ w'.cell? ⟨w2.heap.size, 2, none⟩ = some (.slice q2 m2 d2)) (by kernel_rfl) (KB.out _ (Keep.drew KR.out)) (fun hHeld => ?_)
        refine wpAnyH_take (i := 0) (v := (.agg #[.bool g2, .slice p2 n2 c2', .slice q2 m2 d2])) rfl (by kernel_rfl) (by kernel_rfl) (by kernel_rfl) (fun _ _ _ h => h) (Or.inl ⟨by rfl, by intro W hSw; clear hHeld; go_split_ands; go_simp⟩) (by assumption) ?_
        simp only [getElem_toArray, getElem_cons_zero, Act.put, setIfInBounds_toArray, set_cons_zero, set_cons_succ]
        refine wpAnyH_ready (rs := [1]) (by kernel_rfl) (by simp) ?_
        refine AllReadyH.cons (i := 1) rfl (fun K hK => ?_) AllReadyH.nil
        go_simp
        refine (h44.out _ _ (QR.out.below hHeld.1.below)).mono ?_
        rintro e v1 ⟨rfl, hb1⟩
        go_simp
        refine hK.out _ _ (KB.out _ (hHeld.1.next hb1)) (fun hHeld => ?_)
        clear hK K
        refine wpAnyH_take (i := 2) (v := (.bool true)) rfl (by kernel_rfl) (by kernel_rfl) (by kernel_rfl) (fun _ _ _ h => h) (Or.inl ⟨by rfl, by intro W hSw; clear hHeld; go_split_ands; go_simp⟩) (by assumption) ?_
        simp only [getElem_toArray, getElem_cons_zero, getElem_cons_succ, Act.put, setIfInBounds_toArray, set_cons_zero, set_cons_succ]
        refine wpAnyH_take (i := 3) (v := (.agg #[.bool g2, .slice p2 n2 c2', .slice q2 m2 d2])) rfl (by kernel_rfl) (by kernel_rfl) (by kernel_rfl) (fun _ _ _ h => h) (Or.inl ⟨by rfl, by intro W hSw; clear hHeld; go_split_ands; go_simp⟩) (by assumption) ?_
        simp only [getElem_toArray, getElem_cons_zero, getElem_cons_succ, Act.put, setIfInBounds_toArray, set_cons_zero, set_cons_succ]
        refine wpAnyH_take (i := 4) (v := (.agg #[.bool g6, .slice p6 n6 c6, .slice q6 m6 d6])) rfl (by kernel_rfl) (by kernel_rfl) (by kernel_rfl) (fun _ _ _ h => h) (Or.inl ⟨by rfl, by intro W hSw; clear hHeld; go_split_ands; go_simp⟩) (by assumption) ?_
        simp only [getElem_toArray, getElem_cons_zero, getElem_cons_succ, Act.put, setIfInBounds_toArray, set_cons_zero, set_cons_succ]
        refine wpAnyH_ready (rs := [5]) (by kernel_rfl) (by simp) ?_
        refine AllReadyH.cons (i := 5) rfl (fun K hK => ?_) AllReadyH.nil
        go_simp
        refine (h43.out _ _ (QL.out.below hHeld.1.below)).mono ?_
        rintro e v2 ⟨e0, e1, e2, e3, e4, e5, e6, rfl, hz2, hb2⟩
        go_simp
        refine hK.out _ _ (KB.out _ (hHeld.1.next hb2)) (fun hHeld => ?_)
        clear hK K
        refine wpAnyH_ready (rs := [6]) (by kernel_rfl) (by simp) ?_
        refine AllReadyH.cons (i := 6) rfl (fun K hK => ?_) AllReadyH.nil
        go_simp
        refine (h46.out _ _ _ (QR.out.below hHeld.1.below) hz2).mono ?_
        rintro e v3 ⟨rfl, hb3⟩
        go_simp
        refine hK.out _ _ (KB.out _ (hHeld.1.next hb3)) (fun hHeld => ?_)
        clear hK K
        refine wpAnyH_take (i := 7) (v := (.bool true)) rfl (by kernel_rfl) (by kernel_rfl) (by kernel_rfl) (fun _ _ _ h => h) (Or.inl ⟨by rfl, by intro W hSw; clear hHeld; go_split_ands; go_simp⟩) (by assumption) ?_
        simp only [getElem_toArray, getElem_cons_zero, getElem_cons_succ, Act.put, setIfInBounds_toArray, set_cons_zero, set_cons_succ]
        refine wpAnyH_take (i := 8) (v := (.bool true)) rfl (by kernel_rfl) (by kernel_rfl) (by kernel_rfl) (fun _ _ _ h => h) (Or.inl ⟨by rfl, by intro W hSw; clear hHeld; go_split_ands; go_simp⟩) (by assumption) ?_
        simp only [getElem_toArray, getElem_cons_zero, getElem_cons_succ, Act.put, setIfInBounds_toArray, set_cons_zero, set_cons_succ]
        refine wpAnyH_take (i := 9) (v := (.bool true)) rfl (by kernel_rfl) (by kernel_rfl) (by kernel_rfl) (fun _ _ _ h => h) (Or.inl ⟨by rfl, by intro W hSw; clear hHeld; go_split_ands; go_simp⟩) (by assumption) ?_
        simp only [getElem_toArray, getElem_cons_zero, getElem_cons_succ, Act.put, setIfInBounds_toArray, set_cons_zero, set_cons_succ]
        refine wpAnyH_take (i := 10) (v := (.agg #[.bool g2, .slice p2 n2 c2', .slice q2 m2 d2])) rfl (by kernel_rfl) (by kernel_rfl) (by kernel_rfl) (fun _ _ _ h => h) (Or.inl ⟨by rfl, by intro W hSw; clear hHeld; go_split_ands; go_simp⟩) (by assumption) ?_
        simp only [getElem_toArray, getElem_cons_zero, getElem_cons_succ, Act.put, setIfInBounds_toArray, set_cons_zero, set_cons_succ]
        refine wpAnyH_take (i := 11) (v := (.agg #[.bool g6, .slice p6 n6 c6, .slice q6 m6 d6])) rfl (by kernel_rfl) (by kernel_rfl) (by kernel_rfl) (fun _ _ _ h => h) (Or.inl ⟨by rfl, by intro W hSw; clear hHeld; go_split_ands; go_simp⟩) (by assumption) ?_
        simp only [getElem_toArray, getElem_cons_zero, getElem_cons_succ, Act.put, setIfInBounds_toArray, set_cons_zero, set_cons_succ]
        refine wpAnyH_ready (rs := [12]) (by kernel_rfl) (by simp) ?_
        refine AllReadyH.cons (i := 12) rfl (fun K hK => ?_) AllReadyH.nil
        go_simp
        refine (h47.out _ _ _ (QR.out.below hHeld.1.below) (QL.out.below hHeld.1.below)).mono ?_
        rintro e v4 ⟨rfl, hb4⟩
        go_simp
        refine hK.out _ _ (KB.out _ (hHeld.1.next hb4)) (fun hHeld => ?_)
        clear hK K
        refine wpAnyH_take (i := 13) (v := (.bool (decide (c2 < 0)))) rfl (by kernel_rfl) (by kernel_rfl) (by kernel_rfl) (fun _ _ _ h => h) (Or.inl ⟨by rfl, by intro W hSw; clear hHeld; go_split_ands; go_simp⟩) (by assumption) ?_
        simp only [getElem_toArray, getElem_cons_zero, getElem_cons_succ, Act.put, setIfInBounds_toArray, set_cons_zero, set_cons_succ]
        refine wpAnyH_take (i := 14) (v := (.bool (decide (c2 < 0)))) rfl (by kernel_rfl) (by kernel_rfl) (by kernel_rfl) (fun _ _ _ h => h) (Or.inl ⟨by rfl, by intro W hSw; clear hHeld; go_split_ands; go_simp⟩) (by assumption) ?_
        simp only [getElem_toArray, getElem_cons_zero, getElem_cons_succ, Act.put, setIfInBounds_toArray, set_cons_zero, set_cons_succ]
        refine wpAnyH_take (i := 15) (v := (.bool (decide (c2 < 0)))) rfl (by kernel_rfl) (by kernel_rfl) (by kernel_rfl) (fun _ _ _ h => h) (Or.inl ⟨by rfl, by intro W hSw; clear hHeld; go_split_ands; go_simp⟩) (by assumption) ?_
        simp only [getElem_toArray, getElem_cons_zero, getElem_cons_succ, Act.put, setIfInBounds_toArray, set_cons_zero, set_cons_succ]
        refine wpAnyH_done (by kernel_rfl) ?_ _
        go_wp2_with fail
        go_ret
        exact ⟨rfl, HR.out.trans (Below.mono hHeld.1.below HR.out.size)⟩
theorem rfits_4 (l : List UInt8) (_hl : ¬ l = []) (hl2 : l.isEmpty = false) (q lim : Rat) (f res : Bool) (c1 c2 : Int)
  (hcase : Hid ((f = false ∧ res = false) ∨ (f = true ∧ ¬ 0 ≤ c1 ∧ res = false) ∨ (f = true ∧ 0 ≤ c1 ∧ res = decide (c2 < 0)))) (w : World)
  (h105 : Hid (∀ W, Below w.heap.size w W → Calls Tryz.prog 96 #[.string ⟨l.toArray⟩] W fun e w' => e = .returned (.bool true) ∧ Below W.heap.size W w')) (h40 : Hid (∀ W, Below w.heap.size w W → Calls Tryz.prog 31 #[.string ⟨l.toArray⟩] W (FlagPost q true W)))
  (h97 : Hid (∀ W, Calls Tryz.prog 67 #[] W (Post9 1 W))) (h78 : Hid (∀ W, Calls Tryz.prog 66 #[.int .u64 2] W (Post9 2 W))) (h99 : Hid (∀ W u v i, i ≤ 63 → Nat9 W u (2 ^ i) → Nat9 W v 2 → Calls Tryz.prog 70 #[u, v] W (Post9 (2 ^ (i + 1)) W)))
  (h98 : Hid (∀ W u v, Nat9 W u (2 ^ 63) → Nat9 W v 1 → Calls Tryz.prog 65 #[.bool false, u, v] W (QPostC lim W))) (h44 : Hid (∀ W u, QAt W u q → Calls Tryz.prog 97 #[u] W fun e w' => e = .returned (.bool f) ∧ Below W.heap.size W w'))
  (h43 : Hid (∀ W u, QAt W u lim → Calls Tryz.prog 53 #[u] W (QPostC (-lim) W))) (h46 : Hid (∀ W u v, QAt W u q → QAt W v (-lim) → Calls Tryz.prog 52 #[u, v] W fun e w' => e = .returned (.int .i64 c1) ∧ Below W.heap.size W w'))
  (h47 : Hid (∀ W u v, QAt W u q → QAt W v lim → Calls Tryz.prog 52 #[u, v] W fun e w' => e = .returned (.int .i64 c2) ∧ Below W.heap.size W w')) : Calls Tryz.prog 50 #[.int .i64 4, .string ⟨l.toArray⟩] w fun e w' => e = .returned (.bool res) ∧ Below w.heap.size w w' := by
  go_enter Tryz.func50, Tryz.ntmps50
  go_wp2_with fail
  refine (h105.out _ (Below.refl _ _)).mono ?_
  rintro e w1 ⟨rfl, hb⟩
  have B1 := hiD hb
  clear hb
  go_wp2_with fail
  refine (h40.out _ B1.out).mono ?_
  rintro e w2 ⟨g2, p2, n2, c2', q2, m2, d2, rfl, hb, hq⟩
  have K2 := hiD ((Keep.next (L := []) ⟨B1.out, fun _ h => by cases h⟩ hb).more #[.bool g2, .slice p2 n2 c2', .slice q2 m2 d2] 59)
  have Q2 := hiD ((hq rfl).below (below_alloc9 w2 (.cells #[.bool g2, .slice p2 n2 c2', .slice q2 m2 d2] 59)))
  clear hb hq B1
  go_wp2_with fail
  refine (h97.out _).mono ?_
  rintro e w3 ⟨v3, rfl, hv, hb, -⟩
  have hst : Hid (∃ i : Nat, i ≤ 63 ∧ Value.int .i64 0 = .int .i64 (i : Int) ∧ Hid (Keep w w3 [(w2.heap.size, #[.bool g2, .slice p2 n2 c2', .slice q2 m2 d2], 59)] ∧ QAt w3 (.agg #[.bool g2, .slice p2 n2 c2', .slice q2 m2 d2]) q ∧ Nat9 w3 v3 (2 ^ i))) := hiD ⟨0, by omega, rfl, hiD ⟨K2.out.next hb, Q2.out.below hb, hv⟩⟩
  clear hb hv K2 Q2
  go_wp2_with fail
  go_loopw [7, 37] (fun mv iv wr => ∃ i : Nat, i ≤ 63 ∧ iv = .int .i64 (i : Int) ∧ Hid (Keep w wr [(w2.heap.size, #[.bool g2, .slice p2 n2 c2', .slice q2 m2 d2], 59)] ∧ QAt wr (.agg #[.bool g2, .slice p2 n2 c2', .slice q2 m2 d2]) q ∧ Nat9 wr mv (2 ^ i))) (fun _ iv _ => 63 - (intOf iv).toNat)
  case atStart => exact hst.out
  case round =>
    obtain ⟨i, hi, rfl, hinv⟩ := hrel
    by_cases hlt : i < 63
    · have hlt' : (i : Int) < 63 := by omega
      have hi63 : Hid (i ≤ 63) := hiD (by omega)
      clear hlt
      go_wp2_with fail
      refine (h78.out _).mono ?_
      rintro e w4 ⟨v4, rfl, hv4, hb4, -⟩
      have hc := hiD (h99.out w4 _ _ i hi63.out (hinv.out.2.2.below hb4) hv4)
      have hk4 := hiD (hinv.out.1.next hb4)
      have hq4 := hiD (hinv.out.2.1.below hb4)
      clear hv4 hb4 hinv
      go_wp2_with fail
      refine hc.out.mono ?_
      rintro e w5 ⟨v5, rfl, hv5, hb5, -⟩
      have hnx := hiD (And.intro (hk4.out.next hb5) (And.intro (hq4.out.below hb5) hv5))
      clear hv5 hb5 hc
      go_wp2_with fail
      go_roundw
      case rel => exact ⟨i + 1, by omega, by go_num, hnx⟩
      case measure => simp [intOf]; omega
    · obtain rfl : i = 63 := by omega
      go_wp2_with fail
      refine (h97.out _).mono ?_
      rintro e w5 ⟨v5, rfl, hv5, hb5, -⟩
      have hc := hiD (h98.out w5 _ _ (hinv.out.2.2.below hb5) hv5)
      have hk5 := hiD (hinv.out.1.next hb5)
      have hq5 := hiD (hinv.out.2.1.below hb5)
      clear hv5 hb5 hinv
      go_wp2_with fail
      refine hc.out.mono ?_
      rintro e w6 ⟨g6, p6, n6, c6, q6, m6, d6, rfl, hz, hb⟩
      have K6 := hiD ((hk5.out.next hb).more #[.bool g6, .slice p6 n6 c6, .slice q6 m6 d6] 59)
      have QL := hiD (hz.below (below_alloc9 w6 (.cells #[.bool g6, .slice p6 n6 c6, .slice q6 m6 d6] 59)))
      have QR := hiD ((hq5.out.below hb).below (below_alloc9 w6 (.cells #[.bool g6, .slice p6 n6 c6, .slice q6 m6 d6] 59)))
      have HR := hiD K6.out.below
      have KR := hiD (Keep.mk (Below.refl _ _) K6.out.all : Keep (w6.alloc (.cells #[.bool g6, .slice p6 n6 c6, .slice q6 m6 d6] 59)) (w6.alloc (.cells #[.bool g6, .slice p6 n6 c6, .slice q6 m6 d6] 59)) [(w6.heap.size, #[.bool g6, .slice p6 n6 c6, .slice q6 m6 d6], 59), (w2.heap.size, #[.bool g2, .slice p2 n2 c2', .slice q2 m2 d2], 59)])
      have KB : Hid (∀ W, Keep (w6.alloc (.cells #[.bool g6, .slice p6 n6 c6, .slice q6 m6 d6] 59)) W [(w6.heap.size, #[.bool g6, .slice p6 n6 c6, .slice q6 m6 d6], 59), (w2.heap.size, #[.bool g2, .slice p2 n2 c2', .slice q2 m2 d2], 59)] → (fun w' => Keep (w6.alloc (.cells #[.bool g6, .slice p6 n6 c6, .slice q6 m6 d6] 59)) w' [(w6.heap.size, #[.bool g6, .slice p6 n6 c6, .slice q6 m6 d6], 59), (w2.heap.size, #[.bool g2, .slice p2 n2 c2', .slice q2 m2 d2], 59)] ∧ w'.cell? ⟨w6.heap.size, 0, none⟩ = some (.bool g6) ∧ w'.cell? ⟨w6.heap.size, 1, none⟩ = some (.slice p6 n6 c6) ∧ w'.cell? ⟨w6.heap.size, 2, none⟩ = some (.slice q6 m6 d6) ∧ w'.cell? ⟨w2.heap.size, 0, none⟩ = some (.bool g2) ∧ w'.cell? ⟨w2.heap.size, 1, none⟩ = some (.slice p2 n2 c2') ∧ w'.cell? ⟨w2.heap.size, 2, none⟩ = some (.slice q2 m2 d2)) W) := hiD fun W h => ⟨h, ceh (h.one _ (List.mem_cons_self ..)) 0, ceh (h.one _ (List.mem_cons_self ..)) 1, ceh (h.one _ (List.mem_cons_self ..)) 2, ceh (h.one _ (List.mem_cons_of_mem _ (List.mem_cons_self ..))) 0, ceh (h.one _ (List.mem_cons_of_mem _ (List.mem_cons_self ..))) 1, ceh (h.one _ (List.mem_cons_of_mem _ (List.mem_cons_self ..))) 2⟩
      clear hz hb K6 hk5 hq5 hc
      go_wp2_with fail
      rcases hcase.out with ⟨rfl, rfl⟩ | ⟨rfl, h1, rfl⟩ | ⟨rfl, h1, rfl⟩
      · refine wp_region_held_drew (S := fun w' => Keep (w6.alloc (.cells #[.bool g6, .slice p6 n6 c6, .slice q6 m6 d6] 59)) w' [(w6.heap.size, #[.bool g6, .slice p6 n6 c6, .slice q6 m6 d6], 59), (w2.heap.size, #[.bool g2, .slice p2 n2 c2', .slice q2 m2 d2], 59)] ∧ w'.cell? ⟨w6.heap.size, 0, none⟩ = some (.bool g6) ∧ w'.cell? ⟨w6.heap.size, 1, none⟩ = some (.slice p6 n6 c6) ∧ w'.cell? ⟨w6.heap.size, 2, none⟩ = some (.slice q6 m6 d6) ∧ w'.cell? ⟨w2.heap.size, 0, none⟩ = some (.bool g2) ∧ w'.cell? ⟨w2.heap.size, 1, none⟩ = some (.slice p2 n2 c2') ∧ w'.cell? ⟨w2.heap.size, 2, none⟩ = some (.slice q2 m2 d2)) (by kernel_rfl) (KB.out _ (Keep.drew KR.out)) (fun hHeld => ?_)
        refine wpAnyH_take (i := 0) (v := (.agg #[.bool g2, .slice p2 n2 c2', .slice q2 m2 d2])) rfl (by kernel_rfl) (by kernel_rfl) (by kernel_rfl) (fun _ _ _ h => h) (Or.inl ⟨by rfl, by intro W hSw; clear hHeld; go_split_ands; go_simp⟩) (by assumption) ?_
        simp only [getElem_toArray, getElem_cons_zero, Act.put, setIfInBounds_toArray, set_cons_zero, set_cons_succ]
        refine wpAnyH_ready (rs := [1]) (by kernel_rfl) (by simp) ?_
        refine AllReadyH.cons (i := 1) rfl (fun K hK => ?_) AllReadyH.nil
        go_simp
        refine (h44.out _ _ (QR.out.below hHeld.1.below)).mono ?_
        rintro e v1 ⟨rfl, hb1⟩
        go_simp
        refine hK.out _ _ (KB.out _ (hHeld.1.next hb1)) (fun hHeld => ?_)
        clear hK K
        refine wpAnyH_take (i := 2) (v := (.bool false)) rfl (by kernel_rfl) (by kernel_rfl) (by kernel_rfl) (fun _ _ _ h => h) (Or.inl ⟨by rfl, by intro W hSw; clear hHeld; go_split_ands; go_simp⟩) (by assumption) ?_
        simp only [getElem_toArray, getElem_cons_zero, getElem_cons_succ, Act.put, setIfInBounds_toArray, set_cons_zero, set_cons_succ]
        refine wpAnyH_take (i := 3) (v := undef) rfl (by kernel_rfl) (by kernel_rfl) (by kernel_rfl) (fun _ _ _ h => h) (Or.inr ⟨by rfl, rfl⟩) (by assumption) ?_
        simp only [getElem_toArray, getElem_cons_zero, getElem_cons_succ, Act.put, setIfInBounds_toArray, set_cons_zero, set_cons_succ]
        refine wpAnyH_take (i := 4) (v := undef) rfl (by kernel_rfl) (by kernel_rfl) (by kernel_rfl) (fun _ _ _ h => h) (Or.inr ⟨by rfl, rfl⟩) (by assumption) ?_
        simp only [getElem_toArray, getElem_cons_zero, getElem_cons_succ, Act.put, setIfInBounds_toArray, set_cons_zero, set_cons_succ]
        refine wpAnyH_take (i := 5) (v := undef) rfl (by kernel_rfl) (by kernel_rfl) (by kernel_rfl) (fun _ _ _ h => h) (Or.inr ⟨by rfl, rfl⟩) (by assumption) ?_
        simp only [getElem_toArray, getElem_cons_zero, getElem_cons_succ, Act.put, setIfInBounds_toArray, set_cons_zero, set_cons_succ]
        refine wpAnyH_take (i := 6) (v := undef) rfl (by kernel_rfl) (by kernel_rfl) (by kernel_rfl) (fun _ _ _ h => h) (Or.inr ⟨by rfl, rfl⟩) (by assumption) ?_
        simp only [getElem_toArray, getElem_cons_zero, getElem_cons_succ, Act.put, setIfInBounds_toArray, set_cons_zero, set_cons_succ]
        refine wpAnyH_take (i := 7) (v := undef) rfl (by kernel_rfl) (by kernel_rfl) (by kernel_rfl) (fun _ _ _ h => h) (Or.inr ⟨by rfl, rfl⟩) (by assumption) ?_
        simp only [getElem_toArray, getElem_cons_zero, getElem_cons_succ, Act.put, setIfInBounds_toArray, set_cons_zero, set_cons_succ]
        refine wpAnyH_take (i := 8) (v := (.bool false)) rfl (by kernel_rfl) (by kernel_rfl) (by kernel_rfl) (fun _ _ _ h => h) (Or.inl ⟨by rfl, by intro W hSw; clear hHeld; go_split_ands; go_simp⟩) (by assumption) ?_
        simp only [getElem_toArray, getElem_cons_zero, getElem_cons_succ, Act.put, setIfInBounds_toArray, set_cons_zero, set_cons_succ]
        refine wpAnyH_take (i := 9) (v := (.bool false)) rfl (by kernel_rfl) (by kernel_rfl) (by kernel_rfl) (fun _ _ _ h => h) (Or.inl ⟨by rfl, by intro W hSw; clear hHeld; go_split_ands; go_simp⟩) (by assumption) ?_
        simp only [getElem_toArray, getElem_cons_zero, getElem_cons_succ, Act.put, setIfInBounds_toArray, set_cons_zero, set_cons_succ]
        refine wpAnyH_take (i := 10) (v := undef) rfl (by kernel_rfl) (by kernel_rfl) (by kernel_rfl) (fun _ _ _ h => h) (Or.inr ⟨by rfl, rfl⟩) (by assumption) ?_
        simp only [getElem_toArray, getElem_cons_zero, getElem_cons_succ, Act.put, setIfInBounds_toArray, set_cons_zero, set_cons_succ]
        refine wpAnyH_take (i := 11) (v := undef) rfl (by kernel_rfl) (by kernel_rfl) (by kernel_rfl) (fun _ _ _ h => h) (Or.inr ⟨by rfl, rfl⟩) (by assumption) ?_
        simp only [getElem_toArray, getElem_cons_zero, getElem_cons_succ, Act.put, setIfInBounds_toArray, set_cons_zero, set_cons_succ]
        refine wpAnyH_take (i := 12) (v := undef) rfl (by kernel_rfl) (by kernel_rfl) (by kernel_rfl) (fun _ _ _ h => h) (Or.inr ⟨by rfl, rfl⟩) (by assumption) ?_
        simp only [getElem_toArray, getElem_cons_zero, getElem_cons_succ, Act.put, setIfInBounds_toArray, set_cons_zero, set_cons_succ]
        refine wpAnyH_take (i := 13) (v := undef) rfl (by kernel_rfl) (by kernel_rfl) (by kernel_rfl) (fun _ _ _ h => h) (Or.inr ⟨by rfl, rfl⟩) (by assumption) ?_
        simp only [getElem_toArray, getElem_cons_zero, getElem_cons_succ, Act.put, setIfInBounds_toArray, set_cons_zero, set_cons_succ]
        refine wpAnyH_take (i := 14) (v := (.bool false)) rfl (by kernel_rfl) (by kernel_rfl) (by kernel_rfl) (fun _ _ _ h => h) (Or.inl ⟨by rfl, by intro W hSw; clear hHeld; go_split_ands; go_simp⟩) (by assumption) ?_
        simp only [getElem_toArray, getElem_cons_zero, getElem_cons_succ, Act.put, setIfInBounds_toArray, set_cons_zero, set_cons_succ]
        refine wpAnyH_take (i := 15) (v := (.bool false)) rfl (by kernel_rfl) (by kernel_rfl) (by kernel_rfl) (fun _ _ _ h => h) (Or.inl ⟨by rfl, by intro W hSw; clear hHeld; go_split_ands; go_simp⟩) (by assumption) ?_
        simp only [getElem_toArray, getElem_cons_zero, getElem_cons_succ, Act.put, setIfInBounds_toArray, set_cons_zero, set_cons_succ]
        refine wpAnyH_done (by kernel_rfl) ?_ _
        go_wp2_with fail
        go_ret
        exact ⟨rfl, HR.out.trans (Below.mono hHeld.1.below HR.out.size)⟩
      · refine wp_region_held_drew (S := fun w' => Keep (w6.alloc (.cells #[.bool g6, .slice p6 n6 c6, .slice q6 m6 d6] 59)) w' [(w6.heap.size, #[.bool g6, .slice p6 n6 c6, .slice q6 m6 d6], 59), (w2.heap.size, #[.bool g2, .slice p2 n2 c2', .slice q2 m2 d2], 59)] ∧ w'.cell? ⟨w6.heap.size, 0, none⟩ = some (.bool g6) ∧ w'.cell? ⟨w6.heap.size, 1, none⟩ = some (.slice p6 n6 c6) ∧ w'.cell? ⟨w6.heap.size, 2, none⟩ = some (.slice q6 m6 d6) ∧ w'.cell? ⟨w2.heap.size, 0, none⟩ = some (.bool g2) ∧ w'.cell? ⟨w2.heap.size, 1, none⟩ = some (.slice p2 n2 c2') ∧ w'.cell? ⟨w2.heap.size, 2, none⟩ = some (.slice q2 m2 d2)) (by kernel_rfl) (KB.out _ (Keep.drew KR.out)) (fun hHeld => ?_)
        refine wpAnyH_take (i := 0) (v := (.agg #[.bool g2, .slice p2 n2 c2', .slice q2 m2 d2])) rfl (by kernel_rfl) (by kernel_rfl) (by kernel_rfl) (fun _ _ _ h => h) (Or.inl ⟨by rfl, by intro W hSw; clear hHeld; go_split_ands; go_simp⟩) (by assumption) ?_
        simp only [getElem_toArray, getElem_cons_zero, Act.put, setIfInBounds_toArray, set_cons_zero, set_cons_succ]
        refine wpAnyH_ready (rs := [1]) (by kernel_rfl) (by simp) ?_
        refine AllReadyH.cons (i := 1) rfl (fun K hK => ?_) AllReadyH.nil
        go_simp
        refine (h44.out _ _ (QR.out.below hHeld.1.below)).mono ?_
        rintro e v1 ⟨rfl, hb1⟩
        go_simp
        refine hK.out _ _ (KB.out _ (hHeld.1.next hb1)) (fun hHeld => ?_)
        clear hK K
        refine wpAnyH_take (i := 2) (v := (.bool true)) rfl (by kernel_rfl) (by kernel_rfl) (by kernel_rfl) (fun _ _ _ h => h) (Or.inl ⟨by rfl, by intro W hSw; clear hHeld; go_split_ands; go_simp⟩) (by assumption) ?_
        simp only [getElem_toArray, getElem_cons_zero, getElem_cons_succ, Act.put, setIfInBounds_toArray, set_cons_zero, set_cons_succ]
        refine wpAnyH_take (i := 3) (v := (.agg #[.bool g2, .slice p2 n2 c2', .slice q2 m2 d2])) rfl (by kernel_rfl) (by kernel_rfl) (by kernel_rfl) (fun _ _ _ h => h) (Or.inl ⟨by rfl, by intro W hSw; clear hHeld; go_split_ands; go_simp⟩) (by assumption) ?_
        simp only [getElem_toArray, getElem_cons_zero, getElem_cons_succ, Act.put, setIfInBounds_toArray, set_cons_zero, set_cons_succ]
        refine wpAnyH_take (i := 4) (v := (.agg #[.bool g6, .slice p6 n6 c6, .slice q6 m6 d6])) rfl (by kernel_rfl) (by kernel_rfl) (by kernel_rfl) (fun _ _ _ h => h) (Or.inl ⟨by rfl, by intro W hSw; clear hHeld; go_split_ands; go_simp⟩) (by assumption) ?_
        simp only [getElem_toArray, getElem_cons_zero, getElem_cons_succ, Act.put, setIfInBounds_toArray, set_cons_zero, set_cons_succ]
        refine wpAnyH_ready (rs := [5]) (by kernel_rfl) (by simp) ?_
        refine AllReadyH.cons (i := 5) rfl (fun K hK => ?_) AllReadyH.nil
        go_simp
        refine (h43.out _ _ (QL.out.below hHeld.1.below)).mono ?_
        rintro e v2 ⟨e0, e1, e2, e3, e4, e5, e6, rfl, hz2, hb2⟩
        go_simp
        refine hK.out _ _ (KB.out _ (hHeld.1.next hb2)) (fun hHeld => ?_)
        clear hK K
        refine wpAnyH_ready (rs := [6]) (by kernel_rfl) (by simp) ?_
        refine AllReadyH.cons (i := 6) rfl (fun K hK => ?_) AllReadyH.nil
        go_simp
        refine (h46.out _ _ _ (QR.out.below hHeld.1.below) hz2).mono ?_
        rintro e v3 ⟨rfl, hb3⟩
        go_simp
        refine hK.out _ _ (KB.out _ (hHeld.1.next hb3)) (fun hHeld => ?_)
        clear hK K
        refine wpAnyH_take (i := 7) (v := (.bool false)) rfl (by kernel_rfl) (by kernel_rfl) (by kernel_rfl) (fun _ _ _ h => h) (Or.inl ⟨by rfl, by intro W hSw; clear hHeld; go_split_ands; go_simp⟩) (by assumption) ?_
        simp only [getElem_toArray, getElem_cons_zero, getElem_cons_succ, Act.put, setIfInBounds_toArray, set_cons_zero, set_cons_succ]
        refine wpAnyH_take (i := 8) (v := (.bool false)) rfl (by kernel_rfl) (by kernel_rfl) (by kernel_rfl) (fun _ _ _ h => h) (Or.inl ⟨by rfl, by intro W hSw; clear hHeld; go_split_ands; go_simp⟩) (by assumption) ?_
        simp only [getElem_toArray, getElem_cons_zero, getElem_cons_succ, Act.put, setIfInBounds_toArray, set_cons_zero, set_cons_succ]
        refine wpAnyH_take (i := 9) (v := (.bool false)) rfl (by kernel_rfl) (by kernel_rfl) (by kernel_rfl) (fun _ _ _ h => h) (Or.inl ⟨by rfl, by intro W hSw; clear hHeld; go_split_ands; go_simp⟩) (by assumption) ?_
        simp only [getElem_toArray, getElem_cons_zero, getElem_cons_succ, Act.put, setIfInBounds_toArray, set_cons_zero, set_cons_succ]
        refine wpAnyH_take (i := 10) (v := undef) rfl (by kernel_rfl) (by kernel_rfl) (by kernel_rfl) (fun _ _ _ h => h) (Or.inr ⟨by rfl, rfl⟩) (by assumption) ?_
        simp only [getElem_toArray, getElem_cons_zero, getElem_cons_succ, Act.put, setIfInBounds_toArray, set_cons_zero, set_cons_succ]
        refine wpAnyH_take (i := 11) (v := undef) rfl (by kernel_rfl) (by kernel_rfl) (by kernel_rfl) (fun _ _ _ h => h) (Or.inr ⟨by rfl, rfl⟩) (by assumption) ?_
        simp only [getElem_toArray, getElem_cons_zero, getElem_cons_succ, Act.put, setIfInBounds_toArray, set_cons_zero, set_cons_succ]
        refine wpAnyH_take (i := 12) (v := undef) rfl (by kernel_rfl) (by kernel_rfl) (by kernel_rfl) (fun _ _ _ h => h) (Or.inr ⟨by rfl, rfl⟩) (by assumption) ?_
        simp only [getElem_toArray, getElem_cons_zero, getElem_cons_succ, Act.put, setIfInBounds_toArray, set_cons_zero, set_cons_succ]
        refine wpAnyH_take (i := 13) (v := undef) rfl (by kernel_rfl) (by kernel_rfl) (by kernel_rfl) (fun _ _ _ h => h) (Or.inr ⟨by rfl, rfl⟩) (by assumption) ?_
        simp only [getElem_toArray, getElem_cons_zero, getElem_cons_succ, Act.put, setIfInBounds_toArray, set_cons_zero, set_cons_succ]
        refine wpAnyH_take (i := 14) (v := (.bool false)) rfl (by kernel_rfl) (by kernel_rfl) (by kernel_rfl) (fun _ _ _ h => h) (Or.inl ⟨by rfl, by intro W hSw; clear hHeld; go_split_ands; go_simp⟩) (by assumption) ?_
        simp only [getElem_toArray, getElem_cons_zero, getElem_cons_succ, Act.put, setIfInBounds_toArray, set_cons_zero, set_cons_succ]
        refine wpAnyH_take (i := 15) (v := (.bool false)) rfl (by kernel_rfl) (by kernel_rfl) (by kernel_rfl) (fun _ _ _ h => h) (Or.inl ⟨by rfl, by intro W hSw; clear hHeld; go_split_ands; go_simp⟩) (by assumption) ?_
        simp only [getElem_toArray, getElem_cons_zero, getElem_cons_succ, Act.put, setIfInBounds_toArray, set_cons_zero, set_cons_succ]
        refine wpAnyH_done (by kernel_rfl) ?_ _
        go_wp2_with fail
        go_ret
        exact ⟨rfl, HR.out.trans (Below.mono hHeld.1.below HR.out.size)⟩
      · refine wp_region_held_drew (S := fun w' => Keep (w6.alloc (.cells #[.bool g6, .slice p6 n6 c6, .slice q6 m6 d6] 59)) w' [(w6.heap.size, #[.bool g6, .slice p6 n6 c6, .slice q6 m6 d6], 59), (w2.heap.size, #[.bool g2, .slice p2 n2 c2', .slice q2 m2 d2], 59)] ∧ w'.cell? ⟨w6.heap.size, 0, none⟩ = some (.bool g6) ∧ w'.cell? ⟨w6.heap.size, 1, none⟩ = some (.slice p6 n6 c6) ∧ w'.cell? ⟨w6.heap.size, 2, none⟩ = some (.slice q6 m6 d6) ∧ w'.cell? ⟨w2.heap.size, 0, none⟩ = some (.bool g2) ∧ w'.cell? ⟨w2.heap.size, 1, none⟩ = some (.slice p2 n2 c2') ∧ w'.cell? ⟨w2.heap.size, 2, none⟩ = some (.slice q2 m2 d2)) (by kernel_rfl) (KB.out _ (Keep.drew KR.out)) (fun hHeld => ?_)
        refine wpAnyH_take (i := 0) (v := (.agg #[.bool g2, .slice p2 n2 c2', .slice q2 m2 d2])) rfl (by kernel_rfl) (by kernel_rfl) (by kernel_rfl) (fun _ _ _ h => h) (Or.inl ⟨by rfl, by intro W hSw; clear hHeld; go_split_ands; go_simp⟩) (by assumption) ?_
        simp only [getElem_toArray, getElem_cons_zero, Act.put, setIfInBounds_toArray, set_cons_zero, set_cons_succ]
        refine wpAnyH_ready (rs := [1]) (by kernel_rfl) (by simp) ?_
        refine AllReadyH.cons (i := 1) rfl (fun K hK => ?_) AllReadyH.nil
        go_simp
        refine (h44.out _ _ (QR.out.below hHeld.1.below)).mono ?_
        rintro e v1 ⟨rfl, hb1⟩
        go_simp
        refine hK.out _ _ (KB.out _ (hHeld.1.next hb1)) (fun hHeld => ?_)
        clear hK K
        refine wpAnyH_take (i := 2) (v := (.bool true)) rfl (by kernel_rfl) (by kernel_rfl) (by kernel_rfl) (fun _ _ _ h => h) (Or.inl ⟨by rfl, by intro W hSw; clear hHeld; go_split_ands; go_simp⟩) (by assumption) ?_
        simp only [getElem_toArray, getElem_cons_zero, getElem_cons_succ, Act.put, setIfInBounds_toArray, set_cons_zero, set_cons_succ]
        refine wpAnyH_take (i := 3) (v := (.agg #[.bool g2, .slice p2 n2 c2', .slice q2 m2 d2])) rfl (by kernel_rfl) (by kernel_rfl) (by kernel_rfl) (fun _ _ _ h => h) (Or.inl ⟨by rfl, by intro W hSw; clear hHeld; go_split_ands; go_simp⟩) (by assumption) ?_
        simp only [getElem_toArray, getElem_cons_zero, getElem_cons_succ, Act.put, setIfInBounds_toArray, set_cons_zero, set_cons_succ]
        refine wpAnyH_take (i := 4) (v := (.agg #[.bool g6, .slice p6 n6 c6, .slice q6 m6 d6])) rfl (by kernel_rfl) (by kernel_rfl) (by kernel_rfl) (fun _ _ _ h => h) (Or.inl ⟨by rfl, by intro W hSw; clear hHeld; go_split_ands; go_simp⟩) (by assumption) ?_
        simp only [getElem_toArray, getElem_cons_zero, getElem_cons_succ, Act.put, setIfInBounds_toArray, set_cons_zero, set_cons_succ]
        refine wpAnyH_ready (rs := [5]) (by kernel_rfl) (by simp) ?_
        refine AllReadyH.cons (i := 5) rfl (fun K hK => ?_) AllReadyH.nil
        go_simp
        refine (h43.out _ _ (QL.out.below hHeld.1.below)).mono ?_
        rintro e v2 ⟨e0, e1, e2, e3, e4, e5, e6, rfl, hz2, hb2⟩
        go_simp
        refine hK.out _ _ (KB.out _ (hHeld.1.next hb2)) (fun hHeld => ?_)
        clear hK K
        refine wpAnyH_ready (rs := [6]) (by kernel_rfl) (by simp) ?_
        refine AllReadyH.cons (i := 6) rfl (fun K hK => ?_) AllReadyH.nil
        go_simp
        refine (h46.out _ _ _ (QR.out.below hHeld.1.below) hz2).mono ?_
        rintro e v3 ⟨rfl, hb3⟩
        go_simp
        refine hK.out _ _ (KB.out _ (hHeld.1.next hb3)) (fun hHeld => ?_)
        clear hK K
        refine wpAnyH_take (i := 7) (v := (.bool true)) rfl (by kernel_rfl) (by kernel_rfl) (by kernel_rfl) (fun _ _ _ h => h) (Or.inl ⟨by rfl, by intro W hSw; clear hHeld; go_split_ands; go_simp⟩) (by assumption) ?_
        simp only [getElem_toArray, getElem_cons_zero, getElem_cons_succ, Act.put, setIfInBounds_toArray, set_cons_zero, set_cons_succ]
        refine wpAnyH_take (i := 8) (v := (.bool true)) rfl (by kernel_rfl) (by kernel_rfl) (by kernel_rfl) (fun _ _ _ h => h) (Or.inl ⟨by rfl, by intro W hSw; clear hHeld; go_split_ands; go_simp⟩) (by assumption) ?_
        simp only [getElem_toArray, getElem_cons_zero, getElem_cons_succ, Act.put, setIfInBounds_toArray, set_cons_zero, set_cons_succ]
        refine wpAnyH_take (i := 9) (v := (.bool true)) rfl (by kernel_rfl) (by kernel_rfl) (by kernel_rfl) (fun _ _ _ h => h) (Or.inl ⟨by rfl, by intro W hSw; clear hHeld; go_split_ands; go_simp⟩) (by assumption) ?_
        simp only [getElem_toArray, getElem_cons_zero, getElem_cons_succ, Act.put, setIfInBounds_toArray, set_cons_zero, set_cons_succ]
        refine wpAnyH_take (i := 10) (v := (.agg #[.bool g2, .slice p2 n2 c2', .slice q2 m2 d2])) rfl (by kernel_rfl) (by kernel_rfl) (by kernel_rfl) (fun _ _ _ h => h) (Or.inl ⟨by rfl, by intro W hSw; clear hHeld; go_split_ands; go_simp⟩) (by assumption) ?_
        simp only [getElem_toArray, getElem_cons_zero, getElem_cons_succ, Act.put, setIfInBounds_toArray, set_cons_zero, set_cons_succ]
        refine wpAnyH_take (i := 11) (v := (.agg #[.bool g6, .slice p6 n6 c6, .slice q6 m6 d6])) rfl (by kernel_rfl) (by kernel_rfl) (by kernel_rfl) (fun _ _ _ h => h) (Or.inl ⟨by rfl, by intro W hSw; clear hHeld; go_split_ands; go_simp⟩) (by assumption) ?_
        simp only [getElem_toArray, getElem_cons_zero, getElem_cons_succ, Act.put, setIfInBounds_toArray, set_cons_zero, set_cons_succ]
        refine wpAnyH_ready (rs := [12]) (by kernel_rfl) (by simp) ?_
        refine AllReadyH.cons (i := 12) rfl (fun K hK => ?_) AllReadyH.nil
        go_simp
        refine (h47.out _ _ _ (QR.out.below hHeld.1.below) (QL.out.below hHeld.1.below)).mono ?_
        rintro e v4 ⟨rfl, hb4⟩
        go_simp
        refine hK.out _ _ (KB.out _ (hHeld.1.next hb4)) (fun hHeld => ?_)
        clear hK K
        refine wpAnyH_take (i := 13) (v := (.bool (decide (c2 < 0)))) rfl (by kernel_rfl) (by kernel_rfl) (by kernel_rfl) (fun _ _ _ h => h) (Or.inl ⟨by rfl, by intro W hSw; clear hHeld; go_split_ands; go_simp⟩) (by assumption) ?_
        simp only [getElem_toArray, getElem_cons_zero, getElem_cons_succ, Act.put, setIfInBounds_toArray, set_cons_zero, set_cons_succ]
        refine wpAnyH_take (i := 14) (v := (.bool (decide (c2 < 0)))) rfl (by kernel_rfl) (by kernel_rfl) (by kernel_rfl) (fun _ _ _ h => h) (Or.inl ⟨by rfl, by intro W hSw; clear hHeld; go_split_ands; go_simp⟩) (by assumption) ?_
        simp only [getElem_toArray, getElem_cons_zero, getElem_cons_succ, Act.put, setIfInBounds_toArray, set_cons_zero, set_cons_succ]
        refine wpAnyH_take (i := 15) (v := (.bool (decide (c2 < 0)))) rfl (by kernel_rfl) (by kernel_rfl) (by kernel_rfl) (fun _ _ _ h => h) (Or.inl ⟨by rfl, by intro W hSw; clear hHeld; go_split_ands; go_simp⟩) (by assumption) ?_
        simp only [getElem_toArray, getElem_cons_zero, getElem_cons_succ, Act.put, setIfInBounds_toArray, set_cons_zero, set_cons_succ]
        refine wpAnyH_done (by kernel_rfl) ?_ _
        go_wp2_with fail
        go_ret
        exact ⟨rfl, HR.out.trans (Below.mono hHeld.1.below HR.out.size)⟩
theorem rfits_main (l : List UInt8) (hl : ¬ l = []) (hl2 : l.isEmpty = false) (k : Int) (C : Nat) (hk : (k = 1 ∧ C = 7) ∨ (k = 2 ∧ C = 15) ∨ (k = 3 ∧ C = 31) ∨ (k = 4 ∧ C = 63)) (q lim : Rat) (f res : Bool) (c1 c2 : Int)
    (hcase : Hid ((f = false ∧ res = false) ∨ (f = true ∧ ¬ 0 ≤ c1 ∧ res = false) ∨ (f = true ∧ 0 ≤ c1 ∧ res = decide (c2 < 0)))) (w : World)
    (h105 : Hid (∀ W, Below w.heap.size w W → Calls Tryz.prog 96 #[.string ⟨l.toArray⟩] W fun e w' => e = .returned (.bool true) ∧ Below W.heap.size W w')) (h40 : Hid (∀ W, Below w.heap.size w W → Calls Tryz.prog 31 #[.string ⟨l.toArray⟩] W (FlagPost q true W)))
    (h97 : Hid (∀ W, Calls Tryz.prog 67 #[] W (Post9 1 W))) (h78 : Hid (∀ W, Calls Tryz.prog 66 #[.int .u64 2] W (Post9 2 W))) (h99 : Hid (∀ W u v i, i ≤ 63 → Nat9 W u (2 ^ i) → Nat9 W v 2 → Calls Tryz.prog 70 #[u, v] W (Post9 (2 ^ (i + 1)) W)))
    (h98 : Hid (∀ W u v, Nat9 W u (2 ^ C) → Nat9 W v 1 → Calls Tryz.prog 65 #[.bool false, u, v] W (QPostC lim W))) (h44 : Hid (∀ W u, QAt W u q → Calls Tryz.prog 97 #[u] W fun e w' => e = .returned (.bool f) ∧ Below W.heap.size W w'))
    (h43 : Hid (∀ W u, QAt W u lim → Calls Tryz.prog 53 #[u] W (QPostC (-lim) W))) (h46 : Hid (∀ W u v, QAt W u q → QAt W v (-lim) → Calls Tryz.prog 52 #[u, v] W fun e w' => e = .returned (.int .i64 c1) ∧ Below W.heap.size W w'))
    (h47 : Hid (∀ W u v, QAt W u q → QAt W v lim → Calls Tryz.prog 52 #[u, v] W fun e w' => e = .returned (.int .i64 c2) ∧ Below W.heap.size W w')) : Calls Tryz.prog 50 #[.int .i64 k, .string ⟨l.toArray⟩] w fun e w' => e = .returned (.bool res) ∧ Below w.heap.size w w' := by
  rcases hk with ⟨rfl, rfl⟩ | ⟨rfl, rfl⟩ | ⟨rfl, rfl⟩ | ⟨rfl, rfl⟩
  · exact rfits_1 l hl hl2 q lim f res c1 c2 hcase w h105 h40 h97 h78 h99 h98 h44 h43 h46 h47
  · exact rfits_2 l hl hl2 q lim f res c1 c2 hcase w h105 h40 h97 h78 h99 h98 h44 h43 h46 h47
  · exact rfits_3 l hl hl2 q lim f res c1 c2 hcase w h105 h40 h97 h78 h99 h98 h44 h43 h46 h47
  · exact rfits_4 l hl hl2 q lim f res c1 c2 hcase w h105 h40 h97 h78 h99 h98 h44 h43 h46 h47
end Go.Proofs.YtpnofkefcoaojaaGreatDoor
