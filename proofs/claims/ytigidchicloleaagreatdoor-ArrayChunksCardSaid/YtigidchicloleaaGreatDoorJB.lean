/- How many chunks there are along each dimension. -/
import Derived.Test.YtigidchicloleaaGreatDoorJA
set_option maxHeartbeats 2000000
set_option maxRecDepth 100000
namespace Go.Proofs.YtigidchicloleaaGreatDoor.Arr
open Go.RowKit Go.Shelf
open Go.Lib
attribute [local go_sem] Oper.semAt_some
def nums (s z : List Nat) : List Nat := (List.range s.length).map (fun k => (s.getD k 0 + z.getD k 0 - 1) / z.getD k 0)
theorem nums_len (s z : List Nat) : (nums s z).length = s.length := by simp [nums]
theorem nums_at {s z : List Nat} {k : Nat} (hk : k < s.length) : (nums s z).getD k 0 = (s.getD k 0 + z.getD k 0 - 1) / z.getD k 0 := by
  unfold nums
  rw [List.getD_eq_getElem?_getD, List.getElem?_map, List.getElem?_range hk]; rfl
theorem cdiv_le {a b : Nat} (h : 1 ≤ b) : (a + b - 1) / b ≤ a := by
  rw [Nat.div_le_iff_le_mul (by omega)]
  have : a ≤ b * a := Nat.le_mul_of_pos_left a (by omega)
  rw [Nat.mul_comm a b]; omega
def NumsPost (w : World) (n : Nat) (L : List Nat) (e : Ending) (w' : World) : Prop := Below w.heap.size w w' ∧ ∃ g, w.heap.size ≤ g ∧ e = .returned (.slice (some ⟨g, 0, none⟩) n n) ∧ w'.heap[g]? = some (.cells (ixC L) 3 (0, 0))
theorem getD_bound {l : List Nat} {B k : Nat} (h : ∀ x ∈ l, x ≤ B) : l.getD k 0 ≤ B := by
  rw [List.getD_eq_getElem?_getD]
  cases he : l[k]? with
  | none => simp
  | some x => exact h x (List.mem_of_getElem? he)
theorem counts_all (p q : Option Addr) (c d n : Nat) (s z : List Nat) (w : World) (hn : n ≤ 4) (hs : Hid (s.length = n)) (hz : Hid (z.length = n)) (hsb : Hid (∀ x ∈ s, x ≤ 1024)) (hzb : Hid (∀ x ∈ z, 1 ≤ x ∧ x ≤ 1024)) (hp : RdN w p s) (hq : RdN w q z) :
    Calls Tryz.prog 74 #[.slice p n c, .slice q n d] w (NumsPost w n (nums s z)) := by
  have HP := Lib.hid hp
  have HQ := Lib.hid hq
  have hni : (n : Int) ≤ 4 := by omega
  have hmk := fun W => make_ints n (by omega) W
  obtain ⟨g, HG⟩ : ∃ g, Hid (g = w.heap.size) := ⟨_, rfl⟩
  obtain ⟨W1, HW1⟩ : ∃ W1, Hid (w.alloc (.cells (ixC (zn n)) 3) = W1) := ⟨_, Lib.hid rfl⟩
  have HB1 : Hid (Below w.heap.size w W1) := Lib.hid (by rw [← HW1.out]; exact (Below.refl _ w).alloc (Nat.le_refl _) _)
  have HR1 : Hid (W1.heap[g]? = some (.cells (ixC ((nums s z).take 0 ++ zn (n - 0))) 3 (0, 0))) := Lib.hid (by rw [← HW1.out, HG.out]; exact World.alloc_heap_new w _)
  clear hp hq
  go_enter Tryz.func74, Tryz.ntmps74
  go_wp2_with fail
  rw [HW1.out, ← HG.out]
  clear hmk
  go_loopw [13] (fun iv wr => ∃ i : Nat, i ≤ n ∧ iv = .int .i64 i ∧ Hid (Below w.heap.size w wr) ∧ Hid (wr.heap[g]? = some (.cells (ixC ((nums s z).take i ++ zn (n - i))) 3 (0, 0)))) (fun iv _ => n - (Go.RowKit.intOf iv).toNat)
  case atStart => exact ⟨0, Nat.zero_le _, rfl, HB1, HR1⟩
  case round =>
    obtain ⟨i, hi, rfl, HB, HR⟩ := hrel
    have ii : (i : Int) ≤ (n : Int) := by omega
    by_cases hlt : i < n
    · have ilt : (i : Int) < (n : Int) := by omega
      have his : i < s.length := by rw [hs.out]; exact hlt
      have hiz : i < z.length := by rw [hz.out]; exact hlt
      obtain ⟨b1, o1, x, e1, hb1, hc1, HX⟩ := HP.out.at his
      obtain ⟨b2, o2, y, e2, hb2, hc2, HY⟩ := HQ.out.at hiz
      subst e1 e2
      have hx1 : x ≤ 1024 := by rw [HX.out]; exact getD_bound hsb.out
      have hy1 : 1 ≤ y ∧ y ≤ 1024 := by
        rw [HY.out, List.getD_eq_getElem?_getD, List.getElem?_eq_getElem hiz]
        exact hzb.out _ (List.getElem_mem _)
      have ix : (x : Int) ≤ 1024 := by omega
      have iy : (y : Int) ≤ 1024 := by omega
      have iy1 : (1 : Int) ≤ (y : Int) := by omega
      have iyn : ¬ (y : Int) = 0 := by omega
      obtain ⟨m, HM⟩ : ∃ m, Hid (m = (x + y - 1) / y) := ⟨_, rfl⟩
      have im : (m : Int) ≤ 1024 := by have h : m ≤ x := by (rw [HM.out]; exact cdiv_le hy1.1)
                                       omega
      have hdiv : ((x : Int) + (y : Int) - 1).tdiv (y : Int) = (m : Int) := by
        rw [HM.out, show (x : Int) + (y : Int) - 1 = ((x + y - 1 : Nat) : Int) by omega]
        exact (Int.ofNat_tdiv _ _).symm
      have hva : (nums s z).getD i 0 = m := by rw [nums_at his, ← HX.out, ← HY.out, HM.out]
      have hgs : ∀ W, Below w.heap.size w W → W.cell? ⟨b1, o1 + i, none⟩ = some (.int .i64 (x : Int)) ∧ W.cell? ⟨b2, o2 + i, none⟩ = some (.int .i64 (y : Int)) := fun W hW =>
        ⟨(hW.cell (p := ⟨b1, o1 + i, none⟩) hb1).trans hc1, (hW.cell (p := ⟨b2, o2 + i, none⟩) hb2).trans hc2⟩
      have HALL := Lib.hid hgs
      have hcl : ((nums s z).take i).length = i := by rw [List.length_take, nums_len, hs.out]; omega
      have HRm := HR.out
      rw [zn_succ hlt] at HRm
      have c1 : wr.cell? ⟨g, i, none⟩ = some (.int .i64 ((0 : Nat) : Int)) := by simp [World.cell?, HRm, ixC_mid hcl]
      have z1 : wr.frozen? ⟨g, i, none⟩ = false := by simp [World.frozen?, HRm]
      have HE := Lib.hid (heap_set wr g i (.int .i64 (m : Int)) _ _ HRm)
      obtain ⟨W5, HW5⟩ : ∃ W5, Hid (wr.setCell ⟨g, i, none⟩ (.int .i64 (m : Int)) = W5) := ⟨_, Lib.hid rfl⟩
      have HR2 : Hid (W5.heap[g]? = some (.cells (ixC ((nums s z).take (i + 1) ++ zn (n - (i + 1)))) 3 (0, 0))) := Lib.hid (by
        have h := HE.out
        rw [ixC_set ((nums s z).take i) 0 m _ hcl] at h
        rw [take_succ' (by rw [nums_len]; exact his), List.append_assoc, hva, ← HW5.out]
        exact h)
      have HB2 : Hid (Below w.heap.size w W5) := Lib.hid (by rw [← HW5.out]; exact HB.out.setCell (p := ⟨g, i, none⟩) (by show w.heap.size ≤ g; rw [HG.out]; exact Nat.le_refl _) _)
      obtain ⟨d1, d2⟩ := hgs wr HB.out
      clear HRm hva hgs hc1 hc2 hcl hx1 hy1
      go_wp2_with fail
      rw [HW5.out]
      go_roundw
      case rel => exact ⟨i + 1, by omega, by go_num, HB2, HR2⟩
      case measure => simp [Go.RowKit.intOf]; omega
    · obtain rfl : i = n := by omega
      have ilt : ¬ (i : Int) < (i : Int) := by omega
      have hfin : Hid (Below w.heap.size w wr ∧ wr.heap[g]? = some (.cells (ixC (nums s z)) 3 (0, 0))) := Lib.hid ⟨HB.out, by
        have h := HR.out
        rw [Nat.sub_self, List.take_of_length_le (by rw [nums_len, hs.out]; exact Nat.le_refl _)] at h
        simpa [zn] using h⟩
      have hgw : w.heap.size ≤ g := by rw [HG.out]; exact Nat.le_refl _
      go_wp2_with fail
      go_ret
      exact ⟨hfin.out.1, g, hgw, rfl, hfin.out.2⟩
theorem rnumbers_any (p q : Option Addr) (c d n : Nat) (s z : List Nat) (w : World) (hn : n ≤ 4) (hs : Hid (s.length = n)) (hz : Hid (z.length = n)) (hsb : Hid (∀ x ∈ s, x ≤ 1024)) (hzb : Hid (∀ x ∈ z, 1 ≤ x ∧ x ≤ 1024)) (hp : RdN w p s) (hq : RdN w q z) :
    Calls Tryz.prog 77 #[.slice p n c, .slice q n d] w (NumsPost w n (nums s z)) := by
  have HP := Lib.hid hp
  have HQ := Lib.hid hq
  have hni : (n : Int) ≤ 4 := by omega
  have hmk := fun W => make_ints n (by omega) W
  obtain ⟨g, HG⟩ : ∃ g, Hid (g = w.heap.size) := ⟨_, rfl⟩
  obtain ⟨W1, HW1⟩ : ∃ W1, Hid (w.alloc (.cells (ixC (zn n)) 3) = W1) := ⟨_, Lib.hid rfl⟩
  have HB1 : Hid (Below w.heap.size w W1) := Lib.hid (by rw [← HW1.out]; exact (Below.refl _ w).alloc (Nat.le_refl _) _)
  have HR1 : Hid (W1.heap[g]? = some (.cells (ixC ((nums s z).take 0 ++ zn (n - 0))) 3 (0, 0))) := Lib.hid (by rw [← HW1.out, HG.out]; exact World.alloc_heap_new w _)
  clear hp hq
  go_enter Tryz.func77, Tryz.ntmps77
  go_wp2_with fail
  rw [HW1.out, ← HG.out]
  clear hmk
  go_loopw [6] (fun iv wr => ∃ i : Nat, i ≤ n ∧ iv = .int .i64 i ∧ Hid (Below w.heap.size w wr) ∧ Hid (wr.heap[g]? = some (.cells (ixC ((nums s z).take i ++ zn (n - i))) 3 (0, 0)))) (fun iv _ => n - (Go.RowKit.intOf iv).toNat)
  case atStart => exact ⟨0, Nat.zero_le _, rfl, HB1, HR1⟩
  case round =>
    obtain ⟨i, hi, rfl, HB, HR⟩ := hrel
    have ii : (i : Int) ≤ (n : Int) := by omega
    by_cases hlt : i < n
    · have ilt : (i : Int) < (n : Int) := by omega
      have his : i < s.length := by rw [hs.out]; exact hlt
      have hiz : i < z.length := by rw [hz.out]; exact hlt
      obtain ⟨b1, o1, x, e1, hb1, hc1, HX⟩ := HP.out.at his
      obtain ⟨b2, o2, y, e2, hb2, hc2, HY⟩ := HQ.out.at hiz
      subst e1 e2
      have hx1 : x ≤ 1024 := by rw [HX.out]; exact getD_bound hsb.out
      have hy1 : 1 ≤ y ∧ y ≤ 1024 := by
        rw [HY.out, List.getD_eq_getElem?_getD, List.getElem?_eq_getElem hiz]
        exact hzb.out _ (List.getElem_mem _)
      have ix : (x : Int) ≤ 1024 := by omega
      have iy : (y : Int) ≤ 1024 := by omega
      have iy1 : (1 : Int) ≤ (y : Int) := by omega
      have iyn : ¬ (y : Int) = 0 := by omega
      obtain ⟨m, HM⟩ : ∃ m, Hid (m = (x + y - 1) / y) := ⟨_, rfl⟩
      have im : (m : Int) ≤ 1024 := by have h : m ≤ x := by (rw [HM.out]; exact cdiv_le hy1.1)
                                       omega
      have hdiv : ((x : Int) + (y : Int) - 1).tdiv (y : Int) = (m : Int) := by
        rw [HM.out, show (x : Int) + (y : Int) - 1 = ((x + y - 1 : Nat) : Int) by omega]
        exact (Int.ofNat_tdiv _ _).symm
      have hva : (nums s z).getD i 0 = m := by rw [nums_at his, ← HX.out, ← HY.out, HM.out]
      have hgs : ∀ W, Below w.heap.size w W → W.cell? ⟨b1, o1 + i, none⟩ = some (.int .i64 (x : Int)) ∧ W.cell? ⟨b2, o2 + i, none⟩ = some (.int .i64 (y : Int)) := fun W hW =>
        ⟨(hW.cell (p := ⟨b1, o1 + i, none⟩) hb1).trans hc1, (hW.cell (p := ⟨b2, o2 + i, none⟩) hb2).trans hc2⟩
      have HALL := Lib.hid hgs
      have hcl : ((nums s z).take i).length = i := by rw [List.length_take, nums_len, hs.out]; omega
      have HRm := HR.out
      rw [zn_succ hlt] at HRm
      have hRd : wr.drew.heap[g]? = some (.cells (ixC ((nums s z).take i ++ 0 :: zn (n - (i + 1)))) 3 (0, 0)) := HRm
      have hcr : wr.drew.cell? ⟨g, i, none⟩ = some (.int .i64 ((0 : Nat) : Int)) := by
        have h := cell_row hRd (k := i) (by rw [List.length_append, hcl]; simp)
        rw [getD_mid hcl] at h
        exact h
      have hfr : wr.drew.frozen? ⟨g, i, none⟩ = false := free_row hRd
      obtain ⟨W5, hW5⟩ : ∃ W5, (wr.setCell ⟨g, i, none⟩ (.int .i64 (m : Int))).drew = W5 := ⟨_, rfl⟩
      have HB5 : Hid (Below w.heap.size w W5) := Lib.hid (by rw [← hW5]; exact (HB.out.setCell (p := ⟨g, i, none⟩) (by show w.heap.size ≤ g; rw [HG.out]; exact Nat.le_refl _) _).trans ⟨rfl, rfl, rfl, Nat.le_refl _, fun _ _ => rfl⟩)
      have HR5 : Hid (W5.heap[g]? = some (.cells (ixC ((nums s z).take (i + 1) ++ zn (n - (i + 1)))) 3 (0, 0))) := Lib.hid (by
        have h := heap_set wr.drew g i (.int .i64 (m : Int)) _ _ hRd
        rw [ixC_set ((nums s z).take i) 0 m _ hcl] at h
        change ((wr.setCell ⟨g, i, none⟩ (.int .i64 (m : Int))).drew).heap[g]? = _ at h
        rw [hW5] at h
        rw [take_succ' (by rw [nums_len]; exact his), List.append_assoc, hva]
        exact h)
      have hyn : ¬ y = 0 := by omega
      have hwr : IntKind.i64.wrap ((IntKind.i64.wrap (IntKind.i64.wrap ((x : Int) + (y : Int)) - 1)).tdiv (y : Int)) = (m : Int) := by
        rw [IntWalk.i64_in ((x : Int) + (y : Int)) (by omega), IntWalk.i64_in ((x : Int) + (y : Int) - 1) (by omega), hdiv]; exact IntWalk.i64_in _ (by omega)
      have HBD : Hid (Below w.heap.size w wr.drew) := Lib.hid (HB.out.trans ⟨rfl, rfl, rfl, Nat.le_refl _, fun _ _ => rfl⟩)
      clear hRd HRm hva hcl hgs hc1 hc2 hx1 hy1
      go_wp2_with fail
      refine wp_region_noPanic ?_
      refine wp_region_held_drew (S := fun W => W.cell? ⟨b1, o1 + i, none⟩ = some (.int .i64 (x : Int)) ∧ W.cell? ⟨b2, o2 + i, none⟩ = some (.int .i64 (y : Int))) (by kernel_rfl) (HALL.out _ HBD.out) (fun hHeld => ?_)
      refine wpAnyH_take (i := 0) (v := ?v1) rfl (by kernel_rfl) (by kernel_rfl) (by kernel_rfl) (fun _ _ _ h => h) (Or.inl ⟨by rfl, ?hy1⟩) (by assumption) ?rest1
      case hy1 =>
        intro W' hSw
        obtain ⟨e0, e1⟩ := hSw
        go_simp
        with_reducible rfl
      simp only [List.getElem_toArray, List.getElem_cons_zero, Act.put, List.setIfInBounds_toArray, List.set_cons_zero, List.set_cons_succ]
      refine wpAnyH_take (i := 1) (v := ?v2) rfl (by kernel_rfl) (by kernel_rfl) (by kernel_rfl) (fun _ _ _ h => h) (Or.inl ⟨by rfl, ?hy2⟩) (by assumption) ?rest2
      case hy2 =>
        intro W' hSw
        obtain ⟨e0, e1⟩ := hSw
        go_simp
        with_reducible rfl
      simp only [List.getElem_toArray, List.getElem_cons_zero, List.getElem_cons_succ, Act.put, List.setIfInBounds_toArray, List.set_cons_zero, List.set_cons_succ]
      refine wpAnyH_take (i := 2) (v := ?v3) rfl (by kernel_rfl) (by kernel_rfl) (by kernel_rfl) (fun _ _ _ h => h) (Or.inl ⟨by rfl, ?hy3⟩) (by assumption) ?rest3
      case hy3 =>
        intro W' hSw
        obtain ⟨e0, e1⟩ := hSw
        go_simp
        with_reducible rfl
      simp only [List.getElem_toArray, List.getElem_cons_zero, List.getElem_cons_succ, Act.put, List.setIfInBounds_toArray, List.set_cons_zero, List.set_cons_succ]
      refine wpAnyH_take (i := 3) (v := ?v4) rfl (by kernel_rfl) (by kernel_rfl) (by kernel_rfl) (fun _ _ _ h => h) (Or.inl ⟨by rfl, ?hy4⟩) (by assumption) ?rest4
      case hy4 =>
        intro W' hSw
        obtain ⟨e0, e1⟩ := hSw
        go_simp
        with_reducible rfl
      simp only [List.getElem_toArray, List.getElem_cons_zero, List.getElem_cons_succ, Act.put, List.setIfInBounds_toArray, List.set_cons_zero, List.set_cons_succ]
      refine wpAnyH_take (i := 4) (v := ?v5) rfl (by kernel_rfl) (by kernel_rfl) (by kernel_rfl) (fun _ _ _ h => h) (Or.inl ⟨by rfl, ?hy5⟩) (by assumption) ?rest5
      case hy5 =>
        intro W' hSw
        obtain ⟨e0, e1⟩ := hSw
        go_simp
        with_reducible rfl
      simp only [List.getElem_toArray, List.getElem_cons_zero, List.getElem_cons_succ, Act.put, List.setIfInBounds_toArray, List.set_cons_zero, List.set_cons_succ]
      refine wpAnyH_take (i := 5) (v := ?v6) rfl (by kernel_rfl) (by kernel_rfl) (by kernel_rfl) (fun _ _ _ h => h) (Or.inl ⟨by rfl, ?hy6⟩) (by assumption) ?rest6
      case hy6 =>
        intro W' hSw
        obtain ⟨e0, e1⟩ := hSw
        go_simp
        with_reducible rfl
      simp only [List.getElem_toArray, List.getElem_cons_zero, List.getElem_cons_succ, Act.put, List.setIfInBounds_toArray, List.set_cons_zero, List.set_cons_succ]
      refine wpAnyH_take (i := 6) (v := ?v7) rfl (by kernel_rfl) (by kernel_rfl) (by kernel_rfl) (fun _ _ _ h => h) (Or.inl ⟨by rfl, ?hy7⟩) (by assumption) ?rest7
      case hy7 =>
        intro W' hSw
        obtain ⟨e0, e1⟩ := hSw
        go_simp
        with_reducible rfl
      simp only [List.getElem_toArray, List.getElem_cons_zero, List.getElem_cons_succ, Act.put, List.setIfInBounds_toArray, List.set_cons_zero, List.set_cons_succ]
      refine wpAnyH_take (i := 7) (v := ?v8) rfl (by kernel_rfl) (by kernel_rfl) (by kernel_rfl) (fun _ _ _ h => h) (Or.inl ⟨by rfl, ?hy8⟩) (by assumption) ?rest8
      case hy8 =>
        intro W' hSw
        obtain ⟨e0, e1⟩ := hSw
        go_simp
        with_reducible rfl
      simp only [List.getElem_toArray, List.getElem_cons_zero, List.getElem_cons_succ, Act.put, List.setIfInBounds_toArray, List.set_cons_zero, List.set_cons_succ]
      refine wpAnyH_take (i := 8) (v := ?v9) rfl (by kernel_rfl) (by kernel_rfl) (by kernel_rfl) (fun _ _ _ h => h) (Or.inl ⟨by rfl, ?hy9⟩) (by assumption) ?rest9
      case hy9 =>
        intro W' hSw
        obtain ⟨e0, e1⟩ := hSw
        go_simp
        with_reducible rfl
      simp only [List.getElem_toArray, List.getElem_cons_zero, List.getElem_cons_succ, Act.put, List.setIfInBounds_toArray, List.set_cons_zero, List.set_cons_succ]
      refine wpAnyH_take (i := 9) (v := ?v10) rfl (by kernel_rfl) (by kernel_rfl) (by kernel_rfl) (fun _ _ _ h => h) (Or.inl ⟨by rfl, ?hy10⟩) (by assumption) ?rest10
      case hy10 =>
        intro W' hSw
        obtain ⟨e0, e1⟩ := hSw
        go_simp
        with_reducible rfl
      simp only [List.getElem_toArray, List.getElem_cons_zero, List.getElem_cons_succ, Act.put, List.setIfInBounds_toArray, List.set_cons_zero, List.set_cons_succ]
      refine wpAnyH_take (i := 10) (v := ?v11) rfl (by kernel_rfl) (by kernel_rfl) (by kernel_rfl) (fun _ _ _ h => h) (Or.inl ⟨by rfl, ?hy11⟩) (by assumption) ?rest11
      case hy11 =>
        intro W' hSw
        obtain ⟨e0, e1⟩ := hSw
        go_simp
        with_reducible rfl
      simp only [List.getElem_toArray, List.getElem_cons_zero, List.getElem_cons_succ, Act.put, List.setIfInBounds_toArray, List.set_cons_zero, List.set_cons_succ]
      refine wpAnyH_take (i := 11) (v := ?v12) rfl (by kernel_rfl) (by kernel_rfl) (by kernel_rfl) (fun _ _ _ h => h) (Or.inl ⟨by rfl, ?hy12⟩) (by assumption) ?rest12
      case hy12 =>
        intro W' hSw
        obtain ⟨e0, e1⟩ := hSw
        go_simp
        with_reducible rfl
      simp only [List.getElem_toArray, List.getElem_cons_zero, List.getElem_cons_succ, Act.put, List.setIfInBounds_toArray, List.set_cons_zero, List.set_cons_succ]
      refine wpAnyH_take (i := 12) (v := ?v13) rfl (by kernel_rfl) (by kernel_rfl) (by kernel_rfl) (fun _ _ _ h => h) (Or.inl ⟨by rfl, ?hy13⟩) (by assumption) ?rest13
      case hy13 =>
        intro W' hSw
        obtain ⟨e0, e1⟩ := hSw
        go_simp
        with_reducible rfl
      simp only [List.getElem_toArray, List.getElem_cons_zero, List.getElem_cons_succ, Act.put, List.setIfInBounds_toArray, List.set_cons_zero, List.set_cons_succ]
      refine wpAnyH_take (i := 13) (v := ?v14) rfl (by kernel_rfl) (by kernel_rfl) (by kernel_rfl) (fun _ _ _ h => h) (Or.inl ⟨by rfl, ?hy14⟩) (by assumption) ?rest14
      case hy14 =>
        intro W' hSw
        obtain ⟨e0, e1⟩ := hSw
        go_simp
        with_reducible rfl
      simp only [List.getElem_toArray, List.getElem_cons_zero, List.getElem_cons_succ, Act.put, List.setIfInBounds_toArray, List.set_cons_zero, List.set_cons_succ]
      refine wpAnyH_take (i := 14) (v := ?v15) rfl (by kernel_rfl) (by kernel_rfl) (by kernel_rfl) (fun _ _ _ h => h) (Or.inl ⟨by rfl, ?hy15⟩) (by assumption) ?rest15
      case hy15 =>
        intro W' hSw
        obtain ⟨e0, e1⟩ := hSw
        go_simp
        with_reducible rfl
      simp only [List.getElem_toArray, List.getElem_cons_zero, List.getElem_cons_succ, Act.put, List.setIfInBounds_toArray, List.set_cons_zero, List.set_cons_succ]
      refine wpAnyH_take (i := 15) (v := ?v16) rfl (by kernel_rfl) (by kernel_rfl) (by kernel_rfl) (fun _ _ _ h => h) (Or.inl ⟨by rfl, ?hy16⟩) (by assumption) ?rest16
      case hy16 =>
        intro W' hSw
        obtain ⟨e0, e1⟩ := hSw
        go_simp
        with_reducible rfl
      simp only [List.getElem_toArray, List.getElem_cons_zero, List.getElem_cons_succ, Act.put, List.setIfInBounds_toArray, List.set_cons_zero, List.set_cons_succ]
      refine wpAnyH_take (i := 16) (v := ?v17) rfl (by kernel_rfl) (by kernel_rfl) (by kernel_rfl) (fun _ _ _ h => h) (Or.inl ⟨by rfl, ?hy17⟩) (by assumption) ?rest17
      case hy17 =>
        intro W' hSw
        obtain ⟨e0, e1⟩ := hSw
        go_simp
        with_reducible rfl
      simp only [List.getElem_toArray, List.getElem_cons_zero, List.getElem_cons_succ, Act.put, List.setIfInBounds_toArray, List.set_cons_zero, List.set_cons_succ]
      refine wpAnyH_take (i := 17) (v := ?v18) rfl (by kernel_rfl) (by kernel_rfl) (by kernel_rfl) (fun _ _ _ h => h) (Or.inl ⟨by rfl, ?hy18⟩) (by assumption) ?rest18
      case hy18 =>
        intro W' hSw
        obtain ⟨e0, e1⟩ := hSw
        go_simp
        with_reducible rfl
      simp only [List.getElem_toArray, List.getElem_cons_zero, List.getElem_cons_succ, Act.put, List.setIfInBounds_toArray, List.set_cons_zero, List.set_cons_succ]
      refine wpAnyH_ready (rs := [18]) (by kernel_rfl) (by simp) ?_
      refine AllReadyH.cons (i := 18) rfl (fun K hK => ?_) AllReadyH.nil
      go_simp
      try rw [hwr]
      try rw [hW5]
      refine hK.out _ _ (HALL.out _ HB5.out) (fun hHeld3 => ?_)
      clear hK K
      refine wpAnyH_done (by kernel_rfl) ?_ _
      refine NoPanic.normal ?_
      clear hHeld hHeld3
      go_wp2_with fail
      go_roundw
      case rel => exact ⟨i + 1, by omega, by go_num, HB5, HR5⟩
      case measure => simp [Go.RowKit.intOf]; omega
    · obtain rfl : i = n := by omega
      have ilt : ¬ (i : Int) < (i : Int) := by omega
      have hfin : Hid (Below w.heap.size w wr ∧ wr.heap[g]? = some (.cells (ixC (nums s z)) 3 (0, 0))) := Lib.hid ⟨HB.out, by
        have h := HR.out
        rw [Nat.sub_self, List.take_of_length_le (by rw [nums_len, hs.out]; exact Nat.le_refl _)] at h
        simpa [zn] using h⟩
      have hgw : w.heap.size ≤ g := by rw [HG.out]; exact Nat.le_refl _
      go_wp2_with fail
      go_ret
      exact ⟨hfin.out.1, g, hgw, rfl, hfin.out.2⟩
end Go.Proofs.YtigidchicloleaaGreatDoor.Arr
