/- The document's Int. -/
import Derived.Test.YtigicjakloiliaaGreatDoorRh
import Derived.Test.YtigicjakloiliaaGreatDoorSE
import Derived.Test.YtigicjakloiliaaGreatDoorTB
import Derived.Outline
set_option maxHeartbeats 3200000
set_option maxRecDepth 100000
namespace Go.Proofs.YtigicjakloiliaaGreatDoor
open Go.RowKit Big
open Go.Lib
theorem val_drop_le (x : List Nat) : ∀ j, val B9 (x.drop j) ≤ val B9 x
  | 0 => by rw [List.drop_zero]; exact Nat.le_refl _
  | j + 1 => by
    have h := val_drop_le x j
    rw [val_drop_D] at h
    have := Nat.le_mul_of_pos_left (val B9 (x.drop (j + 1))) B9_pos
    omega
theorem QAt.sign {w : World} {g : Bool} {u v : Value} {q : Rat} (h : QAt w (.agg #[.bool g, u, v]) q) : g = decide (q.num < 0) := by
  obtain ⟨a, b, he, -⟩ := h
  cases he
  rfl
theorem QAt.nat {w : World} {g : Bool} {u v : Value} {q : Rat} (h : QAt w (.agg #[.bool g, u, v]) q) : Nat9 w u q.num.natAbs := by
  obtain ⟨a, b, he, hn, -⟩ := h
  cases he
  exact hn
theorem rint_no (s : ByteArray) (q : Rat) (w : World) (h40 : Hid (Calls Tryz.prog 40 #[.string s] w (FlagPost q false w))) : Calls Tryz.prog 22 #[.string s] w (IntPost none w) := by
  unfold IntPost
  go_enter Tryz.func22, Tryz.ntmps22
  go_wp2_with fail
  refine h40.out.mono ?_
  rintro e w1 ⟨g, p, n, c, q2, m2, d2, rfl, hb, hq⟩
  have K1 := Lib.hid ((Keep.next (L := []) ⟨Below.refl _ _, fun _ h => by cases h⟩ hb).more #[.bool g, .slice p n c, .slice q2 m2 d2] 38)
  have HR := Lib.hid K1.out.below
  have KR := Lib.hid (Keep.mk (Below.refl _ _) K1.out.all : Keep (w1.alloc (.cells #[.bool g, .slice p n c, .slice q2 m2 d2] 38)) (w1.alloc (.cells #[.bool g, .slice p n c, .slice q2 m2 d2] 38)) [(w1.heap.size, #[.bool g, .slice p n c, .slice q2 m2 d2], 38)])
  have KB : Hid (∀ W, Keep (w1.alloc (.cells #[.bool g, .slice p n c, .slice q2 m2 d2] 38)) W [(w1.heap.size, #[.bool g, .slice p n c, .slice q2 m2 d2], 38)] → ((fun w' => Keep (w1.alloc (.cells #[.bool g, .slice p n c, .slice q2 m2 d2] 38)) w' [(w1.heap.size, #[.bool g, .slice p n c, .slice q2 m2 d2], 38)] ∧ w'.cell? ⟨w1.heap.size, 0, none⟩ = some (.bool g) ∧ w'.cell? ⟨w1.heap.size, 1, none⟩ = some (.slice p n c) ∧ w'.cell? ⟨w1.heap.size, 2, none⟩ = some (.slice q2 m2 d2)) W)) := Lib.hid fun W h => ⟨h, cell_of_heap (h.one _ (List.mem_cons_self ..)) 0, cell_of_heap (h.one _ (List.mem_cons_self ..)) 1, cell_of_heap (h.one _ (List.mem_cons_self ..)) 2⟩
  clear hb hq K1
  go_wp2_with fail
  refine wp_region_held_drew (S := fun w' => Keep (w1.alloc (.cells #[.bool g, .slice p n c, .slice q2 m2 d2] 38)) w' [(w1.heap.size, #[.bool g, .slice p n c, .slice q2 m2 d2], 38)] ∧ w'.cell? ⟨w1.heap.size, 0, none⟩ = some (.bool g) ∧ w'.cell? ⟨w1.heap.size, 1, none⟩ = some (.slice p n c) ∧ w'.cell? ⟨w1.heap.size, 2, none⟩ = some (.slice q2 m2 d2)) (by kernel_rfl) (KB.out _ (Keep.drew KR.out)) (fun hHeld => ?_)
  refine wpAnyH_take (i := 0) (v := (.bool false)) rfl (by kernel_rfl) (by kernel_rfl) (by kernel_rfl) (fun _ _ _ h => h) (Or.inl ⟨by rfl, by intro W hSw; clear hHeld; go_split_ands; go_simp⟩) (by assumption) ?_
  simp only [List.getElem_toArray, List.getElem_cons_zero, Act.put, List.setIfInBounds_toArray, List.set_cons_zero, List.set_cons_succ]
  refine wpAnyH_take (i := 1) (v := (.bool true)) rfl (by kernel_rfl) (by kernel_rfl) (by kernel_rfl) (fun _ _ _ h => h) (Or.inl ⟨by rfl, by intro W hSw; clear hHeld; go_split_ands; go_simp⟩) (by assumption) ?_
  simp only [List.getElem_toArray, List.getElem_cons_zero, List.getElem_cons_succ, Act.put, List.setIfInBounds_toArray, List.set_cons_zero, List.set_cons_succ]
  refine wpAnyH_take (i := 2) (v := (.bool true)) rfl (by kernel_rfl) (by kernel_rfl) (by kernel_rfl) (fun _ _ _ h => h) (Or.inl ⟨by rfl, by intro W hSw; clear hHeld; go_split_ands; go_simp⟩) (by assumption) ?_
  simp only [List.getElem_toArray, List.getElem_cons_zero, List.getElem_cons_succ, Act.put, List.setIfInBounds_toArray, List.set_cons_zero, List.set_cons_succ]
  refine wpAnyH_take (i := 3) (v := undef) rfl (by kernel_rfl) (by kernel_rfl) (by kernel_rfl) (fun _ _ _ h => h) (Or.inr ⟨by rfl, rfl⟩) (by assumption) ?_
  simp only [List.getElem_toArray, List.getElem_cons_zero, List.getElem_cons_succ, Act.put, List.setIfInBounds_toArray, List.set_cons_zero, List.set_cons_succ]
  refine wpAnyH_take (i := 4) (v := undef) rfl (by kernel_rfl) (by kernel_rfl) (by kernel_rfl) (fun _ _ _ h => h) (Or.inr ⟨by rfl, rfl⟩) (by assumption) ?_
  simp only [List.getElem_toArray, List.getElem_cons_zero, List.getElem_cons_succ, Act.put, List.setIfInBounds_toArray, List.set_cons_zero, List.set_cons_succ]
  refine wpAnyH_take (i := 5) (v := undef) rfl (by kernel_rfl) (by kernel_rfl) (by kernel_rfl) (fun _ _ _ h => h) (Or.inr ⟨by rfl, rfl⟩) (by assumption) ?_
  simp only [List.getElem_toArray, List.getElem_cons_zero, List.getElem_cons_succ, Act.put, List.setIfInBounds_toArray, List.set_cons_zero, List.set_cons_succ]
  refine wpAnyH_take (i := 6) (v := (.bool true)) rfl (by kernel_rfl) (by kernel_rfl) (by kernel_rfl) (fun _ _ _ h => h) (Or.inl ⟨by rfl, by intro W hSw; clear hHeld; go_split_ands; go_simp⟩) (by assumption) ?_
  simp only [List.getElem_toArray, List.getElem_cons_zero, List.getElem_cons_succ, Act.put, List.setIfInBounds_toArray, List.set_cons_zero, List.set_cons_succ]
  refine wpAnyH_take (i := 7) (v := (.bool true)) rfl (by kernel_rfl) (by kernel_rfl) (by kernel_rfl) (fun _ _ _ h => h) (Or.inl ⟨by rfl, by intro W hSw; clear hHeld; go_split_ands; go_simp⟩) (by assumption) ?_
  simp only [List.getElem_toArray, List.getElem_cons_zero, List.getElem_cons_succ, Act.put, List.setIfInBounds_toArray, List.set_cons_zero, List.set_cons_succ]
  refine wpAnyH_take (i := 8) (v := undef) rfl (by kernel_rfl) (by kernel_rfl) (by kernel_rfl) (fun _ _ _ h => h) (Or.inr ⟨by rfl, rfl⟩) (by assumption) ?_
  simp only [List.getElem_toArray, List.getElem_cons_zero, List.getElem_cons_succ, Act.put, List.setIfInBounds_toArray, List.set_cons_zero, List.set_cons_succ]
  refine wpAnyH_take (i := 9) (v := undef) rfl (by kernel_rfl) (by kernel_rfl) (by kernel_rfl) (fun _ _ _ h => h) (Or.inr ⟨by rfl, rfl⟩) (by assumption) ?_
  simp only [List.getElem_toArray, List.getElem_cons_zero, List.getElem_cons_succ, Act.put, List.setIfInBounds_toArray, List.set_cons_zero, List.set_cons_succ]
  refine wpAnyH_take (i := 10) (v := undef) rfl (by kernel_rfl) (by kernel_rfl) (by kernel_rfl) (fun _ _ _ h => h) (Or.inr ⟨by rfl, rfl⟩) (by assumption) ?_
  simp only [List.getElem_toArray, List.getElem_cons_zero, List.getElem_cons_succ, Act.put, List.setIfInBounds_toArray, List.set_cons_zero, List.set_cons_succ]
  refine wpAnyH_take (i := 11) (v := undef) rfl (by kernel_rfl) (by kernel_rfl) (by kernel_rfl) (fun _ _ _ h => h) (Or.inr ⟨by rfl, rfl⟩) (by assumption) ?_
  simp only [List.getElem_toArray, List.getElem_cons_zero, List.getElem_cons_succ, Act.put, List.setIfInBounds_toArray, List.set_cons_zero, List.set_cons_succ]
  refine wpAnyH_take (i := 12) (v := undef) rfl (by kernel_rfl) (by kernel_rfl) (by kernel_rfl) (fun _ _ _ h => h) (Or.inr ⟨by rfl, rfl⟩) (by assumption) ?_
  simp only [List.getElem_toArray, List.getElem_cons_zero, List.getElem_cons_succ, Act.put, List.setIfInBounds_toArray, List.set_cons_zero, List.set_cons_succ]
  refine wpAnyH_take (i := 13) (v := (.bool true)) rfl (by kernel_rfl) (by kernel_rfl) (by kernel_rfl) (fun _ _ _ h => h) (Or.inl ⟨by rfl, by intro W hSw; clear hHeld; go_split_ands; go_simp⟩) (by assumption) ?_
  simp only [List.getElem_toArray, List.getElem_cons_zero, List.getElem_cons_succ, Act.put, List.setIfInBounds_toArray, List.set_cons_zero, List.set_cons_succ]
  refine wpAnyH_done (by kernel_rfl) ?_ _
  go_wp2_with fail
  go_ret2
  exact ⟨rfl, HR.out.trans (Below.mono hHeld.1.below HR.out.size)⟩
theorem rint_frac (s : ByteArray) (q : Rat) (h44 : Hid (∀ W u, QAt W u q → Calls Tryz.prog 44 #[u] W fun e w' => e = .returned (.bool false) ∧ Below W.heap.size W w')) (w : World) (h40 : Hid (Calls Tryz.prog 40 #[.string s] w (FlagPost q true w))) : Calls Tryz.prog 22 #[.string s] w (IntPost none w) := by
  unfold IntPost
  go_enter Tryz.func22, Tryz.ntmps22
  go_wp2_with fail
  refine h40.out.mono ?_
  rintro e w1 ⟨g, p, n, c, q2, m2, d2, rfl, hb, hq⟩
  have K1 := Lib.hid ((Keep.next (L := []) ⟨Below.refl _ _, fun _ h => by cases h⟩ hb).more #[.bool g, .slice p n c, .slice q2 m2 d2] 38)
  have hq' := (hq rfl).below (below_alloc9 w1 (.cells #[.bool g, .slice p n c, .slice q2 m2 d2] 38))
  have QR := Lib.hid hq'
  have NR := Lib.hid hq'.nat
  have hg := Lib.hid hq'.sign
  clear hq'
  have HR := Lib.hid K1.out.below
  have KR := Lib.hid (Keep.mk (Below.refl _ _) K1.out.all : Keep (w1.alloc (.cells #[.bool g, .slice p n c, .slice q2 m2 d2] 38)) (w1.alloc (.cells #[.bool g, .slice p n c, .slice q2 m2 d2] 38)) [(w1.heap.size, #[.bool g, .slice p n c, .slice q2 m2 d2], 38)])
  have KB : Hid (∀ W, Keep (w1.alloc (.cells #[.bool g, .slice p n c, .slice q2 m2 d2] 38)) W [(w1.heap.size, #[.bool g, .slice p n c, .slice q2 m2 d2], 38)] → ((fun w' => Keep (w1.alloc (.cells #[.bool g, .slice p n c, .slice q2 m2 d2] 38)) w' [(w1.heap.size, #[.bool g, .slice p n c, .slice q2 m2 d2], 38)] ∧ w'.cell? ⟨w1.heap.size, 0, none⟩ = some (.bool g) ∧ w'.cell? ⟨w1.heap.size, 1, none⟩ = some (.slice p n c) ∧ w'.cell? ⟨w1.heap.size, 2, none⟩ = some (.slice q2 m2 d2)) W)) := Lib.hid fun W h => ⟨h, cell_of_heap (h.one _ (List.mem_cons_self ..)) 0, cell_of_heap (h.one _ (List.mem_cons_self ..)) 1, cell_of_heap (h.one _ (List.mem_cons_self ..)) 2⟩
  clear hb hq K1
  go_wp2_with fail
  refine wp_region_held_drew (S := fun w' => Keep (w1.alloc (.cells #[.bool g, .slice p n c, .slice q2 m2 d2] 38)) w' [(w1.heap.size, #[.bool g, .slice p n c, .slice q2 m2 d2], 38)] ∧ w'.cell? ⟨w1.heap.size, 0, none⟩ = some (.bool g) ∧ w'.cell? ⟨w1.heap.size, 1, none⟩ = some (.slice p n c) ∧ w'.cell? ⟨w1.heap.size, 2, none⟩ = some (.slice q2 m2 d2)) (by kernel_rfl) (KB.out _ (Keep.drew KR.out)) (fun hHeld => ?_)
  refine wpAnyH_take (i := 0) (v := (.bool true)) rfl (by kernel_rfl) (by kernel_rfl) (by kernel_rfl) (fun _ _ _ h => h) (Or.inl ⟨by rfl, by intro W hSw; clear hHeld; go_split_ands; go_simp⟩) (by assumption) ?_
  simp only [List.getElem_toArray, List.getElem_cons_zero, Act.put, List.setIfInBounds_toArray, List.set_cons_zero, List.set_cons_succ]
  refine wpAnyH_take (i := 1) (v := (.bool false)) rfl (by kernel_rfl) (by kernel_rfl) (by kernel_rfl) (fun _ _ _ h => h) (Or.inl ⟨by rfl, by intro W hSw; clear hHeld; go_split_ands; go_simp⟩) (by assumption) ?_
  simp only [List.getElem_toArray, List.getElem_cons_zero, List.getElem_cons_succ, Act.put, List.setIfInBounds_toArray, List.set_cons_zero, List.set_cons_succ]
  refine wpAnyH_take (i := 2) (v := (.bool false)) rfl (by kernel_rfl) (by kernel_rfl) (by kernel_rfl) (fun _ _ _ h => h) (Or.inl ⟨by rfl, by intro W hSw; clear hHeld; go_split_ands; go_simp⟩) (by assumption) ?_
  simp only [List.getElem_toArray, List.getElem_cons_zero, List.getElem_cons_succ, Act.put, List.setIfInBounds_toArray, List.set_cons_zero, List.set_cons_succ]
  refine wpAnyH_take (i := 3) (v := (.agg #[.bool g, .slice p n c, .slice q2 m2 d2])) rfl (by kernel_rfl) (by kernel_rfl) (by kernel_rfl) (fun _ _ _ h => h) (Or.inl ⟨by rfl, by intro W hSw; clear hHeld; go_split_ands; go_simp⟩) (by assumption) ?_
  simp only [List.getElem_toArray, List.getElem_cons_zero, List.getElem_cons_succ, Act.put, List.setIfInBounds_toArray, List.set_cons_zero, List.set_cons_succ]
  refine wpAnyH_ready (rs := [4]) (by kernel_rfl) (by simp) ?_
  refine AllReadyH.cons (i := 4) rfl (fun K hK => ?_) AllReadyH.nil
  go_simp
  refine (h44.out _ _ (QR.out.below hHeld.1.below)).mono ?_
  rintro e v1 ⟨rfl, hb1⟩
  go_simp
  refine hK.out _ _ (KB.out _ (hHeld.1.next hb1)) (fun hHeld => ?_)
  clear hK K
  refine wpAnyH_take (i := 5) (v := (.bool true)) rfl (by kernel_rfl) (by kernel_rfl) (by kernel_rfl) (fun _ _ _ h => h) (Or.inl ⟨by rfl, by intro W hSw; clear hHeld; go_split_ands; go_simp⟩) (by assumption) ?_
  simp only [List.getElem_toArray, List.getElem_cons_zero, List.getElem_cons_succ, Act.put, List.setIfInBounds_toArray, List.set_cons_zero, List.set_cons_succ]
  refine wpAnyH_take (i := 6) (v := (.bool true)) rfl (by kernel_rfl) (by kernel_rfl) (by kernel_rfl) (fun _ _ _ h => h) (Or.inl ⟨by rfl, by intro W hSw; clear hHeld; go_split_ands; go_simp⟩) (by assumption) ?_
  simp only [List.getElem_toArray, List.getElem_cons_zero, List.getElem_cons_succ, Act.put, List.setIfInBounds_toArray, List.set_cons_zero, List.set_cons_succ]
  refine wpAnyH_take (i := 7) (v := (.bool true)) rfl (by kernel_rfl) (by kernel_rfl) (by kernel_rfl) (fun _ _ _ h => h) (Or.inl ⟨by rfl, by intro W hSw; clear hHeld; go_split_ands; go_simp⟩) (by assumption) ?_
  simp only [List.getElem_toArray, List.getElem_cons_zero, List.getElem_cons_succ, Act.put, List.setIfInBounds_toArray, List.set_cons_zero, List.set_cons_succ]
  refine wpAnyH_take (i := 8) (v := undef) rfl (by kernel_rfl) (by kernel_rfl) (by kernel_rfl) (fun _ _ _ h => h) (Or.inr ⟨by rfl, rfl⟩) (by assumption) ?_
  simp only [List.getElem_toArray, List.getElem_cons_zero, List.getElem_cons_succ, Act.put, List.setIfInBounds_toArray, List.set_cons_zero, List.set_cons_succ]
  refine wpAnyH_take (i := 9) (v := undef) rfl (by kernel_rfl) (by kernel_rfl) (by kernel_rfl) (fun _ _ _ h => h) (Or.inr ⟨by rfl, rfl⟩) (by assumption) ?_
  simp only [List.getElem_toArray, List.getElem_cons_zero, List.getElem_cons_succ, Act.put, List.setIfInBounds_toArray, List.set_cons_zero, List.set_cons_succ]
  refine wpAnyH_take (i := 10) (v := undef) rfl (by kernel_rfl) (by kernel_rfl) (by kernel_rfl) (fun _ _ _ h => h) (Or.inr ⟨by rfl, rfl⟩) (by assumption) ?_
  simp only [List.getElem_toArray, List.getElem_cons_zero, List.getElem_cons_succ, Act.put, List.setIfInBounds_toArray, List.set_cons_zero, List.set_cons_succ]
  refine wpAnyH_take (i := 11) (v := undef) rfl (by kernel_rfl) (by kernel_rfl) (by kernel_rfl) (fun _ _ _ h => h) (Or.inr ⟨by rfl, rfl⟩) (by assumption) ?_
  simp only [List.getElem_toArray, List.getElem_cons_zero, List.getElem_cons_succ, Act.put, List.setIfInBounds_toArray, List.set_cons_zero, List.set_cons_succ]
  refine wpAnyH_take (i := 12) (v := undef) rfl (by kernel_rfl) (by kernel_rfl) (by kernel_rfl) (fun _ _ _ h => h) (Or.inr ⟨by rfl, rfl⟩) (by assumption) ?_
  simp only [List.getElem_toArray, List.getElem_cons_zero, List.getElem_cons_succ, Act.put, List.setIfInBounds_toArray, List.set_cons_zero, List.set_cons_succ]
  refine wpAnyH_take (i := 13) (v := (.bool true)) rfl (by kernel_rfl) (by kernel_rfl) (by kernel_rfl) (fun _ _ _ h => h) (Or.inl ⟨by rfl, by intro W hSw; clear hHeld; go_split_ands; go_simp⟩) (by assumption) ?_
  simp only [List.getElem_toArray, List.getElem_cons_zero, List.getElem_cons_succ, Act.put, List.setIfInBounds_toArray, List.set_cons_zero, List.set_cons_succ]
  refine wpAnyH_done (by kernel_rfl) ?_ _
  go_wp2_with fail
  go_ret2
  exact ⟨rfl, HR.out.trans (Below.mono hHeld.1.below HR.out.size)⟩
theorem rint_far (s : ByteArray) (q : Rat) (z : Int) (hz : 0 < z) (h44 : Hid (∀ W u, QAt W u q → Calls Tryz.prog 44 #[u] W fun e w' => e = .returned (.bool true) ∧ Below W.heap.size W w')) (h78 : Hid (∀ W, Calls Tryz.prog 78 #[.int .u64 9007199254740992] W (Post9 9007199254740992 W))) (h77 : Hid (∀ W u v, Nat9 W u q.num.natAbs → Nat9 W v 9007199254740992 → Calls Tryz.prog 77 #[u, v] W fun e w' => e = .returned (.int .i64 z) ∧ Below W.heap.size W w')) (w : World) (h40 : Hid (Calls Tryz.prog 40 #[.string s] w (FlagPost q true w))) : Calls Tryz.prog 22 #[.string s] w (IntPost none w) := by
  unfold IntPost
  go_enter Tryz.func22, Tryz.ntmps22
  go_wp2_with fail
  refine h40.out.mono ?_
  rintro e w1 ⟨g, p, n, c, q2, m2, d2, rfl, hb, hq⟩
  have K1 := Lib.hid ((Keep.next (L := []) ⟨Below.refl _ _, fun _ h => by cases h⟩ hb).more #[.bool g, .slice p n c, .slice q2 m2 d2] 38)
  have hq' := (hq rfl).below (below_alloc9 w1 (.cells #[.bool g, .slice p n c, .slice q2 m2 d2] 38))
  have QR := Lib.hid hq'
  have NR := Lib.hid hq'.nat
  have hg := Lib.hid hq'.sign
  clear hq'
  have HR := Lib.hid K1.out.below
  have KR := Lib.hid (Keep.mk (Below.refl _ _) K1.out.all : Keep (w1.alloc (.cells #[.bool g, .slice p n c, .slice q2 m2 d2] 38)) (w1.alloc (.cells #[.bool g, .slice p n c, .slice q2 m2 d2] 38)) [(w1.heap.size, #[.bool g, .slice p n c, .slice q2 m2 d2], 38)])
  have KB : Hid (∀ W, Keep (w1.alloc (.cells #[.bool g, .slice p n c, .slice q2 m2 d2] 38)) W [(w1.heap.size, #[.bool g, .slice p n c, .slice q2 m2 d2], 38)] → ((fun w' => Keep (w1.alloc (.cells #[.bool g, .slice p n c, .slice q2 m2 d2] 38)) w' [(w1.heap.size, #[.bool g, .slice p n c, .slice q2 m2 d2], 38)] ∧ w'.cell? ⟨w1.heap.size, 0, none⟩ = some (.bool g) ∧ w'.cell? ⟨w1.heap.size, 1, none⟩ = some (.slice p n c) ∧ w'.cell? ⟨w1.heap.size, 2, none⟩ = some (.slice q2 m2 d2)) W)) := Lib.hid fun W h => ⟨h, cell_of_heap (h.one _ (List.mem_cons_self ..)) 0, cell_of_heap (h.one _ (List.mem_cons_self ..)) 1, cell_of_heap (h.one _ (List.mem_cons_self ..)) 2⟩
  clear hb hq K1
  go_wp2_with fail
  refine wp_region_held_drew (S := fun w' => Keep (w1.alloc (.cells #[.bool g, .slice p n c, .slice q2 m2 d2] 38)) w' [(w1.heap.size, #[.bool g, .slice p n c, .slice q2 m2 d2], 38)] ∧ w'.cell? ⟨w1.heap.size, 0, none⟩ = some (.bool g) ∧ w'.cell? ⟨w1.heap.size, 1, none⟩ = some (.slice p n c) ∧ w'.cell? ⟨w1.heap.size, 2, none⟩ = some (.slice q2 m2 d2)) (by kernel_rfl) (KB.out _ (Keep.drew KR.out)) (fun hHeld => ?_)
  refine wpAnyH_take (i := 0) (v := (.bool true)) rfl (by kernel_rfl) (by kernel_rfl) (by kernel_rfl) (fun _ _ _ h => h) (Or.inl ⟨by rfl, by intro W hSw; clear hHeld; go_split_ands; go_simp⟩) (by assumption) ?_
  simp only [List.getElem_toArray, List.getElem_cons_zero, Act.put, List.setIfInBounds_toArray, List.set_cons_zero, List.set_cons_succ]
  refine wpAnyH_take (i := 1) (v := (.bool false)) rfl (by kernel_rfl) (by kernel_rfl) (by kernel_rfl) (fun _ _ _ h => h) (Or.inl ⟨by rfl, by intro W hSw; clear hHeld; go_split_ands; go_simp⟩) (by assumption) ?_
  simp only [List.getElem_toArray, List.getElem_cons_zero, List.getElem_cons_succ, Act.put, List.setIfInBounds_toArray, List.set_cons_zero, List.set_cons_succ]
  refine wpAnyH_take (i := 2) (v := (.bool false)) rfl (by kernel_rfl) (by kernel_rfl) (by kernel_rfl) (fun _ _ _ h => h) (Or.inl ⟨by rfl, by intro W hSw; clear hHeld; go_split_ands; go_simp⟩) (by assumption) ?_
  simp only [List.getElem_toArray, List.getElem_cons_zero, List.getElem_cons_succ, Act.put, List.setIfInBounds_toArray, List.set_cons_zero, List.set_cons_succ]
  refine wpAnyH_take (i := 3) (v := (.agg #[.bool g, .slice p n c, .slice q2 m2 d2])) rfl (by kernel_rfl) (by kernel_rfl) (by kernel_rfl) (fun _ _ _ h => h) (Or.inl ⟨by rfl, by intro W hSw; clear hHeld; go_split_ands; go_simp⟩) (by assumption) ?_
  simp only [List.getElem_toArray, List.getElem_cons_zero, List.getElem_cons_succ, Act.put, List.setIfInBounds_toArray, List.set_cons_zero, List.set_cons_succ]
  refine wpAnyH_ready (rs := [4]) (by kernel_rfl) (by simp) ?_
  refine AllReadyH.cons (i := 4) rfl (fun K hK => ?_) AllReadyH.nil
  go_simp
  refine (h44.out _ _ (QR.out.below hHeld.1.below)).mono ?_
  rintro e v1 ⟨rfl, hb1⟩
  go_simp
  refine hK.out _ _ (KB.out _ (hHeld.1.next hb1)) (fun hHeld => ?_)
  clear hK K
  refine wpAnyH_take (i := 5) (v := (.bool false)) rfl (by kernel_rfl) (by kernel_rfl) (by kernel_rfl) (fun _ _ _ h => h) (Or.inl ⟨by rfl, by intro W hSw; clear hHeld; go_split_ands; go_simp⟩) (by assumption) ?_
  simp only [List.getElem_toArray, List.getElem_cons_zero, List.getElem_cons_succ, Act.put, List.setIfInBounds_toArray, List.set_cons_zero, List.set_cons_succ]
  refine wpAnyH_take (i := 6) (v := (.bool false)) rfl (by kernel_rfl) (by kernel_rfl) (by kernel_rfl) (fun _ _ _ h => h) (Or.inl ⟨by rfl, by intro W hSw; clear hHeld; go_split_ands; go_simp⟩) (by assumption) ?_
  simp only [List.getElem_toArray, List.getElem_cons_zero, List.getElem_cons_succ, Act.put, List.setIfInBounds_toArray, List.set_cons_zero, List.set_cons_succ]
  refine wpAnyH_take (i := 7) (v := (.bool false)) rfl (by kernel_rfl) (by kernel_rfl) (by kernel_rfl) (fun _ _ _ h => h) (Or.inl ⟨by rfl, by intro W hSw; clear hHeld; go_split_ands; go_simp⟩) (by assumption) ?_
  simp only [List.getElem_toArray, List.getElem_cons_zero, List.getElem_cons_succ, Act.put, List.setIfInBounds_toArray, List.set_cons_zero, List.set_cons_succ]
  refine wpAnyH_take (i := 8) (v := (.pointer (some ⟨w1.heap.size, 1, none⟩))) rfl (by kernel_rfl) (by kernel_rfl) (by kernel_rfl) (fun _ _ _ h => h) (Or.inl ⟨by rfl, by intro W hSw; clear hHeld; go_split_ands; go_simp⟩) (by assumption) ?_
  simp only [List.getElem_toArray, List.getElem_cons_zero, List.getElem_cons_succ, Act.put, List.setIfInBounds_toArray, List.set_cons_zero, List.set_cons_succ]
  refine wpAnyH_take (i := 9) (v := (.slice p n c)) rfl (by kernel_rfl) (by kernel_rfl) (by kernel_rfl) (fun _ _ _ h => h) (Or.inl ⟨by rfl, by intro W hSw; clear hHeld; go_split_ands; go_simp⟩) (by assumption) ?_
  simp only [List.getElem_toArray, List.getElem_cons_zero, List.getElem_cons_succ, Act.put, List.setIfInBounds_toArray, List.set_cons_zero, List.set_cons_succ]
  refine wpAnyH_ready (rs := [10]) (by kernel_rfl) (by simp) ?_
  refine AllReadyH.cons (i := 10) rfl (fun K hK => ?_) AllReadyH.nil
  go_simp
  refine (h78.out _).mono ?_
  rintro e v2 ⟨x2, rfl, hx2, hb2, -⟩
  obtain ⟨p3, n3, c3, rfl⟩ := hx2.slice
  go_simp
  refine hK.out _ _ (KB.out _ (hHeld.1.next hb2)) (fun hHeld => ?_)
  clear hK K
  refine wpAnyH_ready (rs := [11]) (by kernel_rfl) (by simp) ?_
  refine AllReadyH.cons (i := 11) rfl (fun K hK => ?_) AllReadyH.nil
  go_simp
  refine (h77.out _ _ _ (NR.out.below hHeld.1.below) hx2).mono ?_
  rintro e v3 ⟨rfl, hb3⟩
  go_simp
  refine hK.out _ _ (KB.out _ (hHeld.1.next hb3)) (fun hHeld => ?_)
  clear hK K
  refine wpAnyH_take (i := 12) (v := (.bool true)) rfl (by kernel_rfl) (by kernel_rfl) (by kernel_rfl) (fun _ _ _ h => h) (Or.inl ⟨by rfl, by intro W hSw; clear hHeld; go_split_ands; go_simp⟩) (by assumption) ?_
  simp only [List.getElem_toArray, List.getElem_cons_zero, List.getElem_cons_succ, Act.put, List.setIfInBounds_toArray, List.set_cons_zero, List.set_cons_succ]
  refine wpAnyH_take (i := 13) (v := (.bool true)) rfl (by kernel_rfl) (by kernel_rfl) (by kernel_rfl) (fun _ _ _ h => h) (Or.inl ⟨by rfl, by intro W hSw; clear hHeld; go_split_ands; go_simp⟩) (by assumption) ?_
  simp only [List.getElem_toArray, List.getElem_cons_zero, List.getElem_cons_succ, Act.put, List.setIfInBounds_toArray, List.set_cons_zero, List.set_cons_succ]
  refine wpAnyH_done (by kernel_rfl) ?_ _
  go_wp2_with fail
  go_ret2
  exact ⟨rfl, HR.out.trans (Below.mono hHeld.1.below HR.out.size)⟩
theorem rint_yes (s : ByteArray) (q : Rat) (z : Int) (hz : ¬ 0 < z) (hN : Hid (q.num.natAbs ≤ 9007199254740992)) (h44 : Hid (∀ W u, QAt W u q → Calls Tryz.prog 44 #[u] W fun e w' => e = .returned (.bool true) ∧ Below W.heap.size W w')) (h78 : Hid (∀ W, Calls Tryz.prog 78 #[.int .u64 9007199254740992] W (Post9 9007199254740992 W))) (h77 : Hid (∀ W u v, Nat9 W u q.num.natAbs → Nat9 W v 9007199254740992 → Calls Tryz.prog 77 #[u, v] W fun e w' => e = .returned (.int .i64 z) ∧ Below W.heap.size W w')) (w : World) (h40 : Hid (Calls Tryz.prog 40 #[.string s] w (FlagPost q true w))) : Calls Tryz.prog 22 #[.string s] w (IntPost (some q.num) w) := by
  unfold IntPost
  go_enter Tryz.func22, Tryz.ntmps22
  go_wp2_with fail
  refine h40.out.mono ?_
  rintro e w1 ⟨g, p, n, c, q2, m2, d2, rfl, hb, hq⟩
  have K1 := Lib.hid ((Keep.next (L := []) ⟨Below.refl _ _, fun _ h => by cases h⟩ hb).more #[.bool g, .slice p n c, .slice q2 m2 d2] 38)
  have hq' := (hq rfl).below (below_alloc9 w1 (.cells #[.bool g, .slice p n c, .slice q2 m2 d2] 38))
  have QR := Lib.hid hq'
  have NR := Lib.hid hq'.nat
  have hg := Lib.hid hq'.sign
  clear hq'
  have HR := Lib.hid K1.out.below
  have KR := Lib.hid (Keep.mk (Below.refl _ _) K1.out.all : Keep (w1.alloc (.cells #[.bool g, .slice p n c, .slice q2 m2 d2] 38)) (w1.alloc (.cells #[.bool g, .slice p n c, .slice q2 m2 d2] 38)) [(w1.heap.size, #[.bool g, .slice p n c, .slice q2 m2 d2], 38)])
  have KB : Hid (∀ W, Keep (w1.alloc (.cells #[.bool g, .slice p n c, .slice q2 m2 d2] 38)) W [(w1.heap.size, #[.bool g, .slice p n c, .slice q2 m2 d2], 38)] → ((fun w' => Keep (w1.alloc (.cells #[.bool g, .slice p n c, .slice q2 m2 d2] 38)) w' [(w1.heap.size, #[.bool g, .slice p n c, .slice q2 m2 d2], 38)] ∧ w'.cell? ⟨w1.heap.size, 0, none⟩ = some (.bool g) ∧ w'.cell? ⟨w1.heap.size, 1, none⟩ = some (.slice p n c) ∧ w'.cell? ⟨w1.heap.size, 2, none⟩ = some (.slice q2 m2 d2)) W)) := Lib.hid fun W h => ⟨h, cell_of_heap (h.one _ (List.mem_cons_self ..)) 0, cell_of_heap (h.one _ (List.mem_cons_self ..)) 1, cell_of_heap (h.one _ (List.mem_cons_self ..)) 2⟩
  clear hb hq K1
  go_wp2_with fail
  refine wp_region_held_drew (S := fun w' => Keep (w1.alloc (.cells #[.bool g, .slice p n c, .slice q2 m2 d2] 38)) w' [(w1.heap.size, #[.bool g, .slice p n c, .slice q2 m2 d2], 38)] ∧ w'.cell? ⟨w1.heap.size, 0, none⟩ = some (.bool g) ∧ w'.cell? ⟨w1.heap.size, 1, none⟩ = some (.slice p n c) ∧ w'.cell? ⟨w1.heap.size, 2, none⟩ = some (.slice q2 m2 d2)) (by kernel_rfl) (KB.out _ (Keep.drew KR.out)) (fun hHeld => ?_)
  refine wpAnyH_take (i := 0) (v := (.bool true)) rfl (by kernel_rfl) (by kernel_rfl) (by kernel_rfl) (fun _ _ _ h => h) (Or.inl ⟨by rfl, by intro W hSw; clear hHeld; go_split_ands; go_simp⟩) (by assumption) ?_
  simp only [List.getElem_toArray, List.getElem_cons_zero, Act.put, List.setIfInBounds_toArray, List.set_cons_zero, List.set_cons_succ]
  refine wpAnyH_take (i := 1) (v := (.bool false)) rfl (by kernel_rfl) (by kernel_rfl) (by kernel_rfl) (fun _ _ _ h => h) (Or.inl ⟨by rfl, by intro W hSw; clear hHeld; go_split_ands; go_simp⟩) (by assumption) ?_
  simp only [List.getElem_toArray, List.getElem_cons_zero, List.getElem_cons_succ, Act.put, List.setIfInBounds_toArray, List.set_cons_zero, List.set_cons_succ]
  refine wpAnyH_take (i := 2) (v := (.bool false)) rfl (by kernel_rfl) (by kernel_rfl) (by kernel_rfl) (fun _ _ _ h => h) (Or.inl ⟨by rfl, by intro W hSw; clear hHeld; go_split_ands; go_simp⟩) (by assumption) ?_
  simp only [List.getElem_toArray, List.getElem_cons_zero, List.getElem_cons_succ, Act.put, List.setIfInBounds_toArray, List.set_cons_zero, List.set_cons_succ]
  refine wpAnyH_take (i := 3) (v := (.agg #[.bool g, .slice p n c, .slice q2 m2 d2])) rfl (by kernel_rfl) (by kernel_rfl) (by kernel_rfl) (fun _ _ _ h => h) (Or.inl ⟨by rfl, by intro W hSw; clear hHeld; go_split_ands; go_simp⟩) (by assumption) ?_
  simp only [List.getElem_toArray, List.getElem_cons_zero, List.getElem_cons_succ, Act.put, List.setIfInBounds_toArray, List.set_cons_zero, List.set_cons_succ]
  refine wpAnyH_ready (rs := [4]) (by kernel_rfl) (by simp) ?_
  refine AllReadyH.cons (i := 4) rfl (fun K hK => ?_) AllReadyH.nil
  go_simp
  refine (h44.out _ _ (QR.out.below hHeld.1.below)).mono ?_
  rintro e v1 ⟨rfl, hb1⟩
  go_simp
  refine hK.out _ _ (KB.out _ (hHeld.1.next hb1)) (fun hHeld => ?_)
  clear hK K
  refine wpAnyH_take (i := 5) (v := (.bool false)) rfl (by kernel_rfl) (by kernel_rfl) (by kernel_rfl) (fun _ _ _ h => h) (Or.inl ⟨by rfl, by intro W hSw; clear hHeld; go_split_ands; go_simp⟩) (by assumption) ?_
  simp only [List.getElem_toArray, List.getElem_cons_zero, List.getElem_cons_succ, Act.put, List.setIfInBounds_toArray, List.set_cons_zero, List.set_cons_succ]
  refine wpAnyH_take (i := 6) (v := (.bool false)) rfl (by kernel_rfl) (by kernel_rfl) (by kernel_rfl) (fun _ _ _ h => h) (Or.inl ⟨by rfl, by intro W hSw; clear hHeld; go_split_ands; go_simp⟩) (by assumption) ?_
  simp only [List.getElem_toArray, List.getElem_cons_zero, List.getElem_cons_succ, Act.put, List.setIfInBounds_toArray, List.set_cons_zero, List.set_cons_succ]
  refine wpAnyH_take (i := 7) (v := (.bool false)) rfl (by kernel_rfl) (by kernel_rfl) (by kernel_rfl) (fun _ _ _ h => h) (Or.inl ⟨by rfl, by intro W hSw; clear hHeld; go_split_ands; go_simp⟩) (by assumption) ?_
  simp only [List.getElem_toArray, List.getElem_cons_zero, List.getElem_cons_succ, Act.put, List.setIfInBounds_toArray, List.set_cons_zero, List.set_cons_succ]
  refine wpAnyH_take (i := 8) (v := (.pointer (some ⟨w1.heap.size, 1, none⟩))) rfl (by kernel_rfl) (by kernel_rfl) (by kernel_rfl) (fun _ _ _ h => h) (Or.inl ⟨by rfl, by intro W hSw; clear hHeld; go_split_ands; go_simp⟩) (by assumption) ?_
  simp only [List.getElem_toArray, List.getElem_cons_zero, List.getElem_cons_succ, Act.put, List.setIfInBounds_toArray, List.set_cons_zero, List.set_cons_succ]
  refine wpAnyH_take (i := 9) (v := (.slice p n c)) rfl (by kernel_rfl) (by kernel_rfl) (by kernel_rfl) (fun _ _ _ h => h) (Or.inl ⟨by rfl, by intro W hSw; clear hHeld; go_split_ands; go_simp⟩) (by assumption) ?_
  simp only [List.getElem_toArray, List.getElem_cons_zero, List.getElem_cons_succ, Act.put, List.setIfInBounds_toArray, List.set_cons_zero, List.set_cons_succ]
  refine wpAnyH_ready (rs := [10]) (by kernel_rfl) (by simp) ?_
  refine AllReadyH.cons (i := 10) rfl (fun K hK => ?_) AllReadyH.nil
  go_simp
  refine (h78.out _).mono ?_
  rintro e v2 ⟨x2, rfl, hx2, hb2, -⟩
  obtain ⟨p3, n3, c3, rfl⟩ := hx2.slice
  go_simp
  refine hK.out _ _ (KB.out _ (hHeld.1.next hb2)) (fun hHeld => ?_)
  clear hK K
  refine wpAnyH_ready (rs := [11]) (by kernel_rfl) (by simp) ?_
  refine AllReadyH.cons (i := 11) rfl (fun K hK => ?_) AllReadyH.nil
  go_simp
  refine (h77.out _ _ _ (NR.out.below hHeld.1.below) hx2).mono ?_
  rintro e v3 ⟨rfl, hb3⟩
  go_simp
  refine hK.out _ _ (KB.out _ (hHeld.1.next hb3)) (fun hHeld => ?_)
  clear hK K
  refine wpAnyH_take (i := 12) (v := (.bool false)) rfl (by kernel_rfl) (by kernel_rfl) (by kernel_rfl) (fun _ _ _ h => h) (Or.inl ⟨by rfl, by intro W hSw; clear hHeld; go_split_ands; go_simp⟩) (by assumption) ?_
  simp only [List.getElem_toArray, List.getElem_cons_zero, List.getElem_cons_succ, Act.put, List.setIfInBounds_toArray, List.set_cons_zero, List.set_cons_succ]
  refine wpAnyH_take (i := 13) (v := (.bool false)) rfl (by kernel_rfl) (by kernel_rfl) (by kernel_rfl) (fun _ _ _ h => h) (Or.inl ⟨by rfl, by intro W hSw; clear hHeld; go_split_ands; go_simp⟩) (by assumption) ?_
  simp only [List.getElem_toArray, List.getElem_cons_zero, List.getElem_cons_succ, Act.put, List.setIfInBounds_toArray, List.set_cons_zero, List.set_cons_succ]
  refine wpAnyH_done (by kernel_rfl) ?_ _
  have HF := Lib.hid (HR.out.trans (Below.mono hHeld.1.below HR.out.size))
  have hx0 := NR.out.below hHeld.1.below
  obtain ⟨p', n', c', x, he, hnc, hx, hcan, hval⟩ := hx0
  cases he
  have hn2 : Hid (n ≤ 2) := Lib.hid (pow9 hcan hval (K := 2) (by have := hN.out; rw [B9_eq]; omega) hx)
  obtain ⟨N, hNe⟩ : ∃ N, N = q.num.natAbs := ⟨_, rfl⟩
  rw [← hNe] at hval hN
  have HV := Lib.hid hval
  have HX := Lib.hid hx
  have HC := Lib.hid hcan
  have HQ := Lib.hid hNe
  have hn0 : (n : Int) ≤ 2 := by have := hn2.out; omega
  obtain ⟨-, k0, k1, k2⟩ := hHeld
  clear hx hcan hval hNe hnc
  go_wp2_with fail
  go_loopw [6, 7] (fun nv iv wr => ∃ (k : Nat) (z : Int) (v : Nat), k ≤ n ∧ iv = .int .i64 z ∧ z + 1 = k ∧ nv = .int .i64 (v : Int) ∧ Hid (v = val B9 (x.drop k)) ∧ wr = v3) (fun _ i _ => (intOf i + 1).toNat)
  case atStart => exact ⟨n, (n : Int) - 1, 0, Nat.le_refl _, rfl, by omega, rfl, Lib.hid (by rw [List.drop_of_length_le (by rw [HX.out.len]; exact Nat.le_refl _)]; rfl), rfl⟩
  case round =>
    obtain ⟨k, z, v, hk, rfl, hz2, rfl, hv, rfl⟩ := hrel
    by_cases h0 : k = 0
    · obtain rfl : z = -1 := by omega
      subst h0
      have hvN : v = N := by rw [hv.out, List.drop_zero]; exact HV.out
      have hvb : (v : Int) ≤ 9007199254740992 := by have := hN.out; omega
      have hres : Hid (g = true → -(v : Int) = q.num) := Lib.hid fun h => by have h1 := hg.out; have h2 := HQ.out; rw [h] at h1; have := of_decide_eq_true h1.symm; omega
      have hres2 : Hid (g = false → (v : Int) = q.num) := Lib.hid fun h => by have h1 := hg.out; have h2 := HQ.out; rw [h] at h1; have := of_decide_eq_false h1.symm; omega
      clear hz2 hk hvN
      cases g with
      | true =>
        have hr := Lib.hid (hres.out rfl)
        clear hres hres2
        go_wp2_with fail
        go_ret2
        exact ⟨by rw [← hr.out]; rfl, HF.out⟩
      | false =>
        have hr := Lib.hid (hres2.out rfl)
        clear hres hres2
        go_wp2_with fail
        go_ret2
        exact ⟨by rw [← hr.out]; rfl, HF.out⟩
    · obtain ⟨j, rfl⟩ : ∃ j : Nat, z = j := ⟨z.toNat, by omega⟩
      obtain rfl : k = j + 1 := by omega
      clear hz2 h0
      obtain ⟨b1, o1, a, rfl, hb1', hc1, ha⟩ := HX.out.at (k := j) (by omega)
      have da : (a : Int) ≤ 999999999 := by have h := HC.out.1.getD B9_pos j; rw [ha.out, B9_eq] at h; omega
      have hstep : val B9 (x.drop j) = a + B9 * v := by rw [val_drop_D B9 x j, ha.out, ← hv.out]
      have hle : val B9 (x.drop j) ≤ N := by rw [← HV.out]; exact val_drop_le x j
      have hvb : (v : Int) ≤ 9007199 := by have h1 := hN.out; rw [hstep, B9_eq] at hle; omega
      have hnx : Hid (v * 1000000000 + a = val B9 (x.drop j)) := Lib.hid (by rw [hstep, B9_eq]; omega)
      have hj : (j : Int) < n := by omega
      clear hstep hle
      go_wp2_with fail
      go_roundw
      case rel => exact ⟨j, (j : Int) - 1, v * 1000000000 + a, by omega, rfl, by omega, by rw [Int.natCast_add, Int.natCast_mul]; rfl, hnx, trivial⟩
      case measure => simp [intOf]
end Go.Proofs.YtigicjakloiliaaGreatDoor
