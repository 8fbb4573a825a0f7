/- Chunk sizes: whether they are right, and how many chunks there are. -/
import Derived.Test.YtigidchicloleaaGreatDoorIF
set_option maxHeartbeats 2000000
set_option maxRecDepth 100000
namespace Go.Proofs.YtigidchicloleaaGreatDoor.Arr
open Go.RowKit Go.Shelf
open Go.Lib
attribute [local go_sem] Oper.semAt_some
def szOk (z : List Int) : Bool := z.all (fun x => decide (1 ≤ x) && decide (x ≤ 1024))
theorem szOk_no {z : List Int} {k : Nat} (hk : k < z.length) (h : z.getD k 0 < 1 ∨ 1024 < z.getD k 0) : szOk z = false := by
  unfold szOk
  rw [List.all_eq_false]
  refine ⟨z.getD k 0, by rw [List.getD_eq_getElem?_getD, List.getElem?_eq_getElem hk]; exact List.getElem_mem _, ?_⟩
  simp only [Bool.and_eq_true, decide_eq_true_eq]
  omega
theorem szOk_yes {z : List Int} (h : ∀ k, k < z.length → 1 ≤ z.getD k 0 ∧ z.getD k 0 ≤ 1024) : szOk z = true := by
  unfold szOk
  rw [List.all_eq_true]
  intro x hx
  obtain ⟨k, hk, rfl⟩ := List.getElem_of_mem hx
  have := h k hk
  rw [List.getD_eq_getElem?_getD, List.getElem?_eq_getElem hk, Option.getD_some] at this
  simp only [Bool.and_eq_true, decide_eq_true_eq]
  exact this
theorem szOk_nat {z : List Int} (h : szOk z = true) : ∃ m : List Nat, z = m.map Int.ofNat ∧ ∀ x ∈ m, 1 ≤ x ∧ x ≤ 1024 := by
  unfold szOk at h
  rw [List.all_eq_true] at h
  have hz : ∀ x ∈ z, 1 ≤ x ∧ x ≤ 1024 := fun x hx => by
    have := h x hx
    simpa only [Bool.and_eq_true, decide_eq_true_eq] using this
  refine ⟨z.map Int.toNat, ?_, fun x hx => ?_⟩
  · rw [List.map_map]
    refine ((List.map_congr_left fun x hx => ?_).trans (List.map_id z)).symm
    have := hz x hx
    exact Int.toNat_of_nonneg (by omega)
  · obtain ⟨y, hy, rfl⟩ := List.mem_map.1 hx
    have := hz y hy
    omega
def sized (s z : List Int) : Bool := decide (z.length = s.length) && szOk z
theorem vs_len {s : List Int} (h : vs s = true) : s.length ≤ 4 := by
  unfold vs at h
  rw [Bool.and_eq_true, Bool.and_eq_true, decide_eq_true_eq] at h
  exact h.1.1
def chkV (s z : List Int) : Int := if vs s = false then 60 else if sized s z = false then 2 else 0
theorem check_any (p q : Option Addr) (c d n k : Nat) (s z : List Int) (w : World) (hs : Hid (s.length = n)) (hz : Hid (z.length = k)) (hp : Rd w p s) (hq : Rd w q z) :
    Calls Tryz.prog 73 #[.slice p n c, .slice q k d] w fun e w' => w = w' ∧ e = .returned (.int .i64 (chkV s z)) := by
  have HP := Lib.hid hp
  have HQ := Lib.hid hq
  obtain ⟨v, HV⟩ : ∃ v, Hid (v = chkV s z) := ⟨_, Lib.hid rfl⟩
  rw [← HV.out]
  obtain ⟨b, HBV⟩ : ∃ b, Hid (b = vs s) := ⟨_, Lib.hid rfl⟩
  have H18 : Hid (Calls Tryz.prog 19 #[.slice p n c] w fun e w' => w = w' ∧ e = .returned (.bool b)) := Lib.hid (by
    have := vshape_any p c s w hp
    rwa [hs.out, ← HBV.out] at this)
  clear hp hq
  by_cases hb : b = false
  · subst hb
    obtain rfl : v = 60 := by rw [HV.out]; unfold chkV; rw [if_pos HBV.out.symm]
    go_enter Tryz.func73, Tryz.ntmps73
    go_wp2_with fail
    refine (H18.out).mono ?_
    rintro e w' ⟨rfl, rfl⟩
    go_wp2_with fail
    go_ret
    exact ⟨rfl, rfl⟩
  obtain rfl : b = true := by simpa using hb
  by_cases hnk : k = n
  case neg =>
    obtain rfl : v = 2 := by rw [HV.out]; unfold chkV sized; rw [if_neg (by rw [← HBV.out]; simp), if_pos (by rw [decide_eq_false (by rw [hs.out, hz.out]; exact hnk)]; rfl)]
    have hle3 : ((k : Int) != (n : Int)) = true := by rw [bne_iff_ne]; omega
    go_enter Tryz.func73, Tryz.ntmps73
    go_wp2_with fail
    refine (H18.out).mono ?_
    rintro e w' ⟨rfl, rfl⟩
    go_wp2_with fail
    go_ret
    exact ⟨rfl, rfl⟩
  subst hnk
  have hki : (k : Int) ≤ 4 := by
    have h := vs_len HBV.out.symm
    rw [hs.out] at h
    omega
  have HBAD : Hid (∀ j, j < k → (z.getD j 0 < 1 ∨ 1024 < z.getD j 0) → v = 2) := Lib.hid (fun j hj h => by
    rw [HV.out]; unfold chkV sized; rw [if_neg (by rw [← HBV.out]; simp), szOk_no (by rw [hz.out]; exact hj) h, Bool.and_false, if_pos rfl])
  have HGOOD : Hid ((∀ j, j < k → 1 ≤ z.getD j 0 ∧ z.getD j 0 ≤ 1024) → v = 0) := Lib.hid (fun h => by
    rw [HV.out]; unfold chkV sized; rw [if_neg (by rw [← HBV.out]; simp), szOk_yes (fun j hj => h j (by rw [← hz.out]; exact hj)), decide_eq_true (by rw [hs.out, hz.out]), if_neg (by simp)])
  go_enter Tryz.func73, Tryz.ntmps73
  go_wp2_with fail
  refine (H18.out).mono ?_
  rintro e w' ⟨rfl, rfl⟩
  go_wp2_with fail
  go_loop [17] (fun iv => ∃ i : Nat, i ≤ k ∧ iv = .int .i64 i ∧ Hid (∀ j, j < i → 1 ≤ z.getD j 0 ∧ z.getD j 0 ≤ 1024)) (fun iv => k - (Go.RowKit.intOf iv).toNat)
  case atStart => exact ⟨0, Nat.zero_le _, rfl, Lib.hid (fun k hk => by omega)⟩
  case round =>
    obtain ⟨i, hi, rfl, HA⟩ := hrel
    have ii : (i : Int) ≤ (k : Int) := by omega
    by_cases hlt : i < k
    · have ilt : (i : Int) < (k : Int) := by omega
      obtain ⟨b, off, x, rfl, -, hcell, HZ, -, -⟩ := HQ.out.at (k := i) (by rw [hz.out]; exact hlt)
      by_cases hx0 : x < 1
      · have e0 := HBAD.out i hlt (.inl (by rw [← HZ.out]; exact hx0))
        subst e0
        go_wp2_with fail
        go_ret
        exact ⟨rfl, rfl⟩
      · by_cases hx1 : 1024 < x
        · have e0 := HBAD.out i hlt (.inr (by rw [← HZ.out]; exact hx1))
          subst e0
          go_wp2_with fail
          go_ret
          exact ⟨rfl, rfl⟩
        · have hx2 : x ≤ 1024 := by omega
          have hst : Hid (∀ j, j < i + 1 → 1 ≤ z.getD j 0 ∧ z.getD j 0 ≤ 1024) := Lib.hid (fun j hj => by
            by_cases e : j = i
            · rw [e, ← HZ.out]; omega
            · exact HA.out j (by omega))
          go_wp2_with fail
          go_round
          case rel => exact ⟨i + 1, by omega, by go_num, hst⟩
          case measure => simp [Go.RowKit.intOf]; omega
    · obtain rfl : i = k := by omega
      have ilt : ¬ (i : Int) < (i : Int) := by omega
      have e0 := HGOOD.out HA.out
      subst e0
      go_wp2_with fail
      go_ret
      exact ⟨rfl, rfl⟩
end Go.Proofs.YtigidchicloleaaGreatDoor.Arr
set_option maxHeartbeats 2000000
set_option maxRecDepth 100000
namespace Go.Proofs.YtigidchicloleaaGreatDoor.Arr
open Go.RowKit Go.Shelf
open Go.Lib
attribute [local go_sem] Oper.semAt_some
def nums (s z : List Nat) : List Nat := (List.range s.length).map (fun k => (s.getD k 0 + z.getD k 0 - 1) / z.getD k 0)
theorem nums_len (s z : List Nat) : (nums s z).length = s.length := by simp [nums]
theorem nums_at {s z : List Nat} {k : Nat} (hk : k < s.length) : (nums s z).getD k 0 = (s.getD k 0 + z.getD k 0 - 1) / z.getD k 0 := by
  unfold nums
  rw [List.getD_eq_getElem?_getD, List.getElem?_map, List.getElem?_range hk]; rfl
theorem cdiv_le {a b : Nat} (h : 1 ≤ b) : (a + b - 1) / b ≤ a := by
  rw [Nat.div_le_iff_le_mul (by omega)]
  have : a ≤ b * a := Nat.le_mul_of_pos_left a (by omega)
  rw [Nat.mul_comm a b]; omega
def NumsPost (w : World) (n : Nat) (L : List Nat) (e : Ending) (w' : World) : Prop := Below w.heap.size w w' ∧ ∃ g, w.heap.size ≤ g ∧ e = .returned (.slice (some ⟨g, 0, none⟩) n n) ∧ w'.heap[g]? = some (.cells (ixC L) 3 (0, 0))
theorem getD_bound {l : List Nat} {B k : Nat} (h : ∀ x ∈ l, x ≤ B) : l.getD k 0 ≤ B := by
  rw [List.getD_eq_getElem?_getD]
  cases he : l[k]? with
  | none => simp
  | some x => exact h x (List.mem_of_getElem? he)
theorem counts_all (p q : Option Addr) (c d n : Nat) (s z : List Nat) (w : World) (hn : n ≤ 4) (hs : Hid (s.length = n)) (hz : Hid (z.length = n)) (hsb : Hid (∀ x ∈ s, x ≤ 1024)) (hzb : Hid (∀ x ∈ z, 1 ≤ x ∧ x ≤ 1024)) (hp : RdN w p s) (hq : RdN w q z) :
    Calls Tryz.prog 74 #[.slice p n c, .slice q n d] w (NumsPost w n (nums s z)) := by
  have HP := Lib.hid hp
  have HQ := Lib.hid hq
  have hni : (n : Int) ≤ 4 := by omega
  have hmk := fun W => make_ints n (by omega) W
  obtain ⟨g, HG⟩ : ∃ g, Hid (g = w.heap.size) := ⟨_, rfl⟩
  obtain ⟨W1, HW1⟩ : ∃ W1, Hid (w.alloc (.cells (ixC (zn n)) 3) = W1) := ⟨_, Lib.hid rfl⟩
  have HB1 : Hid (Below w.heap.size w W1) := Lib.hid (by rw [← HW1.out]; exact (Below.refl _ w).alloc (Nat.le_refl _) _)
  have HR1 : Hid (W1.heap[g]? = some (.cells (ixC ((nums s z).take 0 ++ zn (n - 0))) 3 (0, 0))) := Lib.hid (by rw [← HW1.out, HG.out]; exact World.alloc_heap_new w _)
  clear hp hq
  go_enter Tryz.func74, Tryz.ntmps74
  go_wp2_with fail
  rw [HW1.out, ← HG.out]
  clear hmk
  go_loopw [13] (fun iv wr => ∃ i : Nat, i ≤ n ∧ iv = .int .i64 i ∧ Hid (Below w.heap.size w wr) ∧ Hid (wr.heap[g]? = some (.cells (ixC ((nums s z).take i ++ zn (n - i))) 3 (0, 0)))) (fun iv _ => n - (Go.RowKit.intOf iv).toNat)
  case atStart => exact ⟨0, Nat.zero_le _, rfl, HB1, HR1⟩
  case round =>
    obtain ⟨i, hi, rfl, HB, HR⟩ := hrel
    have ii : (i : Int) ≤ (n : Int) := by omega
    by_cases hlt : i < n
    · have ilt : (i : Int) < (n : Int) := by omega
      have his : i < s.length := by rw [hs.out]; exact hlt
      have hiz : i < z.length := by rw [hz.out]; exact hlt
      obtain ⟨b1, o1, x, e1, hb1, hc1, HX⟩ := HP.out.at his
      obtain ⟨b2, o2, y, e2, hb2, hc2, HY⟩ := HQ.out.at hiz
      subst e1 e2
      have hx1 : x ≤ 1024 := by rw [HX.out]; exact getD_bound hsb.out
      have hy1 : 1 ≤ y ∧ y ≤ 1024 := by
        rw [HY.out, List.getD_eq_getElem?_getD, List.getElem?_eq_getElem hiz]
        exact hzb.out _ (List.getElem_mem _)
      have ix : (x : Int) ≤ 1024 := by omega
      have iy : (y : Int) ≤ 1024 := by omega
      have iy1 : (1 : Int) ≤ (y : Int) := by omega
      have iyn : ¬ (y : Int) = 0 := by omega
      obtain ⟨m, HM⟩ : ∃ m, Hid (m = (x + y - 1) / y) := ⟨_, rfl⟩
      have im : (m : Int) ≤ 1024 := by have h : m ≤ x := by (rw [HM.out]; exact cdiv_le hy1.1)
                                       omega
      have hdiv : ((x : Int) + (y : Int) - 1).tdiv (y : Int) = (m : Int) := by
        rw [HM.out, show (x : Int) + (y : Int) - 1 = ((x + y - 1 : Nat) : Int) by omega]
        exact (Int.ofNat_tdiv _ _).symm
      have hva : (nums s z).getD i 0 = m := by rw [nums_at his, ← HX.out, ← HY.out, HM.out]
      have hgs : ∀ W, Below w.heap.size w W → W.cell? ⟨b1, o1 + i, none⟩ = some (.int .i64 (x : Int)) ∧ W.cell? ⟨b2, o2 + i, none⟩ = some (.int .i64 (y : Int)) := fun W hW =>
        ⟨(hW.cell (p := ⟨b1, o1 + i, none⟩) hb1).trans hc1, (hW.cell (p := ⟨b2, o2 + i, none⟩) hb2).trans hc2⟩
      have HALL := Lib.hid hgs
      have hcl : ((nums s z).take i).length = i := by rw [List.length_take, nums_len, hs.out]; omega
      have HRm := HR.out
      rw [zn_succ hlt] at HRm
      have c1 : wr.cell? ⟨g, i, none⟩ = some (.int .i64 ((0 : Nat) : Int)) := by simp [World.cell?, HRm, ixC_mid hcl]
      have z1 : wr.frozen? ⟨g, i, none⟩ = false := by simp [World.frozen?, HRm]
      have HE := Lib.hid (heap_set wr g i (.int .i64 (m : Int)) _ _ HRm)
      obtain ⟨W5, HW5⟩ : ∃ W5, Hid (wr.setCell ⟨g, i, none⟩ (.int .i64 (m : Int)) = W5) := ⟨_, Lib.hid rfl⟩
      have HR2 : Hid (W5.heap[g]? = some (.cells (ixC ((nums s z).take (i + 1) ++ zn (n - (i + 1)))) 3 (0, 0))) := Lib.hid (by
        have h := HE.out
        rw [ixC_set ((nums s z).take i) 0 m _ hcl] at h
        rw [take_succ' (by rw [nums_len]; exact his), List.append_assoc, hva, ← HW5.out]
        exact h)
      have HB2 : Hid (Below w.heap.size w W5) := Lib.hid (by rw [← HW5.out]; exact HB.out.setCell (p := ⟨g, i, none⟩) (by show w.heap.size ≤ g; rw [HG.out]; exact Nat.le_refl _) _)
      obtain ⟨d1, d2⟩ := hgs wr HB.out
      clear HRm hva hgs hc1 hc2 hcl hx1 hy1
      go_wp2_with fail
      rw [HW5.out]
      go_roundw
      case rel => exact ⟨i + 1, by omega, by go_num, HB2, HR2⟩
      case measure => simp [Go.RowKit.intOf]; omega
    · obtain rfl : i = n := by omega
      have ilt : ¬ (i : Int) < (i : Int) := by omega
      have hfin : Hid (Below w.heap.size w wr ∧ wr.heap[g]? = some (.cells (ixC (nums s z)) 3 (0, 0))) := Lib.hid ⟨HB.out, by
        have h := HR.out
        rw [Nat.sub_self, List.take_of_length_le (by rw [nums_len, hs.out]; exact Nat.le_refl _)] at h
        simpa [zn] using h⟩
      have hgw : w.heap.size ≤ g := by rw [HG.out]; exact Nat.le_refl _
      go_wp2_with fail
      go_ret
      exact ⟨hfin.out.1, g, hgw, rfl, hfin.out.2⟩
end Go.Proofs.YtigidchicloleaaGreatDoor.Arr
