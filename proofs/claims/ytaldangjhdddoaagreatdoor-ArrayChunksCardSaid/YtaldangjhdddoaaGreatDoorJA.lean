/- Chunk sizes: whether they are right, and how many chunks there are. -/
import Derived.Test.YtaldangjhdddoaaGreatDoorIF
set_option maxHeartbeats 2000000
set_option maxRecDepth 100000
namespace Go.Proofs.YtaldangjhdddoaaGreatDoor.Arr
open Go.RowKit Go.Shelf
open Go.Lib
attribute [local go_sem] Oper.semAt_some
def szOk (z : List Int) : Bool := z.all (fun x => decide (1 ≤ x) && decide (x ≤ 1024))
theorem szOk_no {z : List Int} {k : Nat} (hk : k < z.length) (h : z.getD k 0 < 1 ∨ 1024 < z.getD k 0) : szOk z = false := by
  unfold szOk
  rw [List.all_eq_false]
  refine ⟨z.getD k 0, by rw [List.getD_eq_getElem?_getD, List.getElem?_eq_getElem hk]; exact List.getElem_mem _, ?_⟩
  simp only [Bool.and_eq_true, decide_eq_true_eq]
  omega
theorem szOk_yes {z : List Int} (h : ∀ k, k < z.length → 1 ≤ z.getD k 0 ∧ z.getD k 0 ≤ 1024) : szOk z = true := by
  unfold szOk
  rw [List.all_eq_true]
  intro x hx
  obtain ⟨k, hk, rfl⟩ := List.getElem_of_mem hx
  have := h k hk
  rw [List.getD_eq_getElem?_getD, List.getElem?_eq_getElem hk, Option.getD_some] at this
  simp only [Bool.and_eq_true, decide_eq_true_eq]
  exact this
theorem szOk_nat {z : List Int} (h : szOk z = true) : ∃ m : List Nat, z = m.map Int.ofNat ∧ ∀ x ∈ m, 1 ≤ x ∧ x ≤ 1024 := by
  unfold szOk at h
  rw [List.all_eq_true] at h
  have hz : ∀ x ∈ z, 1 ≤ x ∧ x ≤ 1024 := fun x hx => by
    have := h x hx
    simpa only [Bool.and_eq_true, decide_eq_true_eq] using this
  refine ⟨z.map Int.toNat, ?_, fun x hx => ?_⟩
  · rw [List.map_map]
    refine ((List.map_congr_left fun x hx => ?_).trans (List.map_id z)).symm
    have := hz x hx
    exact Int.toNat_of_nonneg (by omega)
  · obtain ⟨y, hy, rfl⟩ := List.mem_map.1 hx
    have := hz y hy
    omega
def sized (s z : List Int) : Bool := decide (z.length = s.length) && szOk z
theorem vs_len {s : List Int} (h : vs s = true) : s.length ≤ 4 := by
  unfold vs at h
  rw [Bool.and_eq_true, Bool.and_eq_true, decide_eq_true_eq] at h
  exact h.1.1
def chkV (s z : List Int) : Int := if vs s = false then 60 else if sized s z = false then 2 else 0
theorem check_any (p q : Option Addr) (c d n k : Nat) (s z : List Int) (w : World) (hs : Hid (s.length = n)) (hz : Hid (z.length = k)) (hp : Rd w p s) (hq : Rd w q z) :
    Calls Tryz.prog 70 #[.slice p n c, .slice q k d] w fun e w' => w = w' ∧ e = .returned (.int .i64 (chkV s z)) := by
  have HP := Lib.hid hp
  have HQ := Lib.hid hq
  obtain ⟨v, HV⟩ : ∃ v, Hid (v = chkV s z) := ⟨_, Lib.hid rfl⟩
  rw [← HV.out]
  obtain ⟨b, HBV⟩ : ∃ b, Hid (b = vs s) := ⟨_, Lib.hid rfl⟩
  have H18 : Hid (Calls Tryz.prog 18 #[.slice p n c] w fun e w' => w = w' ∧ e = .returned (.bool b)) := Lib.hid (by
    have := vshape_any p c s w hp
    rwa [hs.out, ← HBV.out] at this)
  clear hp hq
  by_cases hb : b = false
  · subst hb
    obtain rfl : v = 60 := by rw [HV.out]; unfold chkV; rw [if_pos HBV.out.symm]
    go_enter Tryz.func70, Tryz.ntmps70
    go_wp2_with fail
    refine (H18.out).mono ?_
    rintro e w' ⟨rfl, rfl⟩
    go_wp2_with fail
    go_ret
    exact ⟨rfl, rfl⟩
  obtain rfl : b = true := by simpa using hb
  by_cases hnk : k = n
  case neg =>
    obtain rfl : v = 2 := by rw [HV.out]; unfold chkV sized; rw [if_neg (by rw [← HBV.out]; simp), if_pos (by rw [decide_eq_false (by rw [hs.out, hz.out]; exact hnk)]; rfl)]
    have hle3 : ((k : Int) != (n : Int)) = true := by rw [bne_iff_ne]; omega
    go_enter Tryz.func70, Tryz.ntmps70
    go_wp2_with fail
    refine (H18.out).mono ?_
    rintro e w' ⟨rfl, rfl⟩
    go_wp2_with fail
    go_ret
    exact ⟨rfl, rfl⟩
  subst hnk
  have hki : (k : Int) ≤ 4 := by
    have h := vs_len HBV.out.symm
    rw [hs.out] at h
    omega
  have HBAD : Hid (∀ j, j < k → (z.getD j 0 < 1 ∨ 1024 < z.getD j 0) → v = 2) := Lib.hid (fun j hj h => by
    rw [HV.out]; unfold chkV sized; rw [if_neg (by rw [← HBV.out]; simp), szOk_no (by rw [hz.out]; exact hj) h, Bool.and_false, if_pos rfl])
  have HGOOD : Hid ((∀ j, j < k → 1 ≤ z.getD j 0 ∧ z.getD j 0 ≤ 1024) → v = 0) := Lib.hid (fun h => by
    rw [HV.out]; unfold chkV sized; rw [if_neg (by rw [← HBV.out]; simp), szOk_yes (fun j hj => h j (by rw [← hz.out]; exact hj)), decide_eq_true (by rw [hs.out, hz.out]), if_neg (by simp)])
  go_enter Tryz.func70, Tryz.ntmps70
  go_wp2_with fail
  refine (H18.out).mono ?_
  rintro e w' ⟨rfl, rfl⟩
  go_wp2_with fail
  go_loop [17] (fun iv => ∃ i : Nat, i ≤ k ∧ iv = .int .i64 i ∧ Hid (∀ j, j < i → 1 ≤ z.getD j 0 ∧ z.getD j 0 ≤ 1024)) (fun iv => k - (Go.RowKit.intOf iv).toNat)
  case atStart => exact ⟨0, Nat.zero_le _, rfl, Lib.hid (fun k hk => by omega)⟩
  case round =>
    obtain ⟨i, hi, rfl, HA⟩ := hrel
    have ii : (i : Int) ≤ (k : Int) := by omega
    by_cases hlt : i < k
    · have ilt : (i : Int) < (k : Int) := by omega
      obtain ⟨b, off, x, rfl, -, hcell, HZ, -, -⟩ := HQ.out.at (k := i) (by rw [hz.out]; exact hlt)
      by_cases hx0 : x < 1
      · have e0 := HBAD.out i hlt (.inl (by rw [← HZ.out]; exact hx0))
        subst e0
        go_wp2_with fail
        go_ret
        exact ⟨rfl, rfl⟩
      · by_cases hx1 : 1024 < x
        · have e0 := HBAD.out i hlt (.inr (by rw [← HZ.out]; exact hx1))
          subst e0
          go_wp2_with fail
          go_ret
          exact ⟨rfl, rfl⟩
        · have hx2 : x ≤ 1024 := by omega
          have hst : Hid (∀ j, j < i + 1 → 1 ≤ z.getD j 0 ∧ z.getD j 0 ≤ 1024) := Lib.hid (fun j hj => by
            by_cases e : j = i
            · rw [e, ← HZ.out]; omega
            · exact HA.out j (by omega))
          go_wp2_with fail
          go_round
          case rel => exact ⟨i + 1, by omega, by go_num, hst⟩
          case measure => simp [Go.RowKit.intOf]; omega
    · obtain rfl : i = k := by omega
      have ilt : ¬ (i : Int) < (i : Int) := by omega
      have e0 := HGOOD.out HA.out
      subst e0
      go_wp2_with fail
      go_ret
      exact ⟨rfl, rfl⟩
theorem sized_any (p q : Option Addr) (c d n k : Nat) (s z : List Int) (w : World) (hs : Hid (s.length = n)) (hz : Hid (z.length = k)) (hn : n ≤ 4) (hq : Rd w q z) :
    Calls Tryz.prog 73 #[.slice p n c, .slice q k d] w fun e w' => w = w' ∧ e = .returned (.bool (sized s z)) := by
  have HQ := Lib.hid hq
  obtain ⟨v, HV⟩ : ∃ v, Hid (v = sized s z) := ⟨_, Lib.hid rfl⟩
  rw [← HV.out]
  clear hq
  by_cases hnk : k = n
  case neg =>
    obtain rfl : v = false := by rw [HV.out]; unfold sized; rw [decide_eq_false (by rw [hs.out, hz.out]; exact hnk)]; rfl
    have hle3 : ((k : Int) != (n : Int)) = true := by rw [bne_iff_ne]; omega
    go_enter Tryz.func73, Tryz.ntmps73
    go_wp2_with fail
    go_ret
    exact ⟨rfl, rfl⟩
  subst hnk
  have hki : (k : Int) ≤ 4 := by omega
  have HBAD : Hid (∀ j, j < k → (z.getD j 0 < 1 ∨ 1024 < z.getD j 0) → v = false) := Lib.hid (fun j hj h => by
    rw [HV.out]; unfold sized; rw [szOk_no (by rw [hz.out]; exact hj) h, Bool.and_false])
  have HGOOD : Hid ((∀ j, j < k → 1 ≤ z.getD j 0 ∧ z.getD j 0 ≤ 1024) → v = true) := Lib.hid (fun h => by
    rw [HV.out]; unfold sized; rw [szOk_yes (fun j hj => h j (by rw [← hz.out]; exact hj)), decide_eq_true (by rw [hs.out, hz.out])]; rfl)
  go_enter Tryz.func73, Tryz.ntmps73
  go_wp2_with fail
  go_loop [5] (fun iv => ∃ i : Nat, i ≤ k ∧ iv = .int .i64 i ∧ Hid (∀ j, j < i → 1 ≤ z.getD j 0 ∧ z.getD j 0 ≤ 1024)) (fun iv => k - (Go.RowKit.intOf iv).toNat)
  case atStart => exact ⟨0, Nat.zero_le _, rfl, Lib.hid (fun k hk => by omega)⟩
  case round =>
    obtain ⟨i, hi, rfl, HA⟩ := hrel
    have ii : (i : Int) ≤ (k : Int) := by omega
    by_cases hlt : i < k
    · have ilt : (i : Int) < (k : Int) := by omega
      obtain ⟨b, off, x, rfl, -, hcell, HZ, -, -⟩ := HQ.out.at (k := i) (by rw [hz.out]; exact hlt)
      by_cases hx0 : x < 1
      · have e0 := HBAD.out i hlt (.inl (by rw [← HZ.out]; exact hx0))
        subst e0
        go_wp2_with fail
        go_ret
        exact ⟨rfl, rfl⟩
      · by_cases hx1 : 1024 < x
        · have e0 := HBAD.out i hlt (.inr (by rw [← HZ.out]; exact hx1))
          subst e0
          go_wp2_with fail
          go_ret
          exact ⟨rfl, rfl⟩
        · have hx2 : x ≤ 1024 := by omega
          have hst : Hid (∀ j, j < i + 1 → 1 ≤ z.getD j 0 ∧ z.getD j 0 ≤ 1024) := Lib.hid (fun j hj => by
            by_cases e : j = i
            · rw [e, ← HZ.out]; omega
            · exact HA.out j (by omega))
          go_wp2_with fail
          go_round
          case rel => exact ⟨i + 1, by omega, by go_num, hst⟩
          case measure => simp [Go.RowKit.intOf]; omega
    · obtain rfl : i = k := by omega
      have ilt : ¬ (i : Int) < (i : Int) := by omega
      have e0 := HGOOD.out HA.out
      subst e0
      go_wp2_with fail
      go_ret
      exact ⟨rfl, rfl⟩
end Go.Proofs.YtaldangjhdddoaaGreatDoor.Arr
