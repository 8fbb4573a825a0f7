/- Shapes: which lists of sizes are shapes. -/
import Derived.Test.YtigidchicloleaaGreatDoorGA
set_option maxHeartbeats 1000000
set_option maxRecDepth 100000
namespace Go.Proofs.YtigidchicloleaaGreatDoor.Arr
open Go.RowKit
open Go.Lib
def sizesOk (l : List Int) : Prop := ∀ z ∈ l, 0 ≤ z ∧ z ≤ 1024
instance (l : List Int) : Decidable (sizesOk l) := by unfold sizesOk; infer_instance
def vs (l : List Int) : Bool := decide (l.length ≤ 4) && decide (sizesOk l) && decide (prod (l.map Int.toNat) ≤ 4096)
def Shp (l : List Nat) : Prop := l.length ≤ 4 ∧ (∀ x ∈ l, x ≤ 1024) ∧ prod l ≤ 4096
theorem toNat_map (l : List Nat) : (l.map Int.ofNat).map Int.toNat = l := by
  rw [List.map_map]
  exact List.map_id'' (fun x => rfl) l
theorem vs_nat {l : List Nat} : vs (l.map Int.ofNat) = true ↔ Shp l := by
  unfold vs Shp sizesOk
  rw [toNat_map]
  simp only [Bool.and_eq_true, decide_eq_true_eq, List.length_map, List.mem_map, forall_exists_index, and_imp, forall_apply_eq_imp_iff₂]
  constructor
  · rintro ⟨⟨h1, h2⟩, h3⟩
    exact ⟨h1, fun x hx => by have := (h2 x hx).2; exact Int.ofNat_le.1 this, h3⟩
  · rintro ⟨h1, h2, h3⟩
    exact ⟨⟨h1, fun x hx => ⟨Int.natCast_nonneg x, Int.ofNat_le.2 (h2 x hx)⟩⟩, h3⟩
theorem vs_yes {l : List Int} (h : vs l = true) : ∃ m : List Nat, l = m.map Int.ofNat ∧ Shp m := by
  have hs : sizesOk l := by
    unfold vs at h
    simp only [Bool.and_eq_true, decide_eq_true_eq] at h
    exact h.1.2
  have e : l = (l.map Int.toNat).map Int.ofNat := by
    rw [List.map_map]
    refine ((List.map_congr_left fun z hz => ?_).trans (List.map_id l)).symm
    exact Int.toNat_of_nonneg (hs z hz).1
  refine ⟨l.map Int.toNat, e, ?_⟩
  rw [e] at h
  exact vs_nat.1 h
theorem vshape_any (p : Option Addr) (c : Nat) (l : List Int) (w : World) (h : Rd w p l) :
    Calls Tryz.prog 19 #[.slice p l.length c] w fun e w' => w = w' ∧ e = .returned (.bool (vs l)) := by
  have H := Lib.hid h
  by_cases h4 : 4 < l.length
  · have hv : vs l = false := by unfold vs; rw [show decide (l.length ≤ 4) = false from decide_eq_false (by omega)]; rfl
    rw [hv]
    have i4 : (4 : Int) < (l.length : Int) := by omega
    clear h hv
    go_enter Tryz.func19, Tryz.ntmps19
    go_wp2_with fail
    go_ret
    exact ⟨rfl, rfl⟩
  · obtain ⟨n, HN⟩ : ∃ n, Hid (n = l.length) := ⟨_, rfl⟩
    obtain ⟨v, HV⟩ : ∃ v, Hid (v = vs l) := ⟨_, rfl⟩
    rw [← HN.out, ← HV.out]
    rw [← HN.out] at h4
    have i4 : ¬ (4 : Int) < (n : Int) := by omega
    have hni : (n : Int) ≤ 4 := by omega
    have HBAD : Hid (∀ k, k < n → (l.getD k 0 < 0 ∨ 1024 < l.getD k 0) → v = false) := Lib.hid (fun k hk hz => by
      rw [HV.out]; unfold vs
      have : decide (sizesOk l) = false := decide_eq_false (fun hs => by
        have hm : l.getD k 0 ∈ l := by rw [List.getD_eq_getElem?_getD, List.getElem?_eq_getElem (by rw [← HN.out]; exact hk)]; exact List.getElem_mem _
        have := hs _ hm
        omega)
      rw [this, Bool.and_false, Bool.false_and])
    have HGOOD : Hid ((∀ k, k < n → 0 ≤ l.getD k 0 ∧ l.getD k 0 ≤ 1024) → ∃ m : List Nat, l = m.map Int.ofNat ∧ m.length = n ∧ (∀ x ∈ m, x ≤ 1024) ∧ v = decide (prod m ≤ 4096)) := Lib.hid (fun hg => by
      have hs : sizesOk l := fun z hz => by
        obtain ⟨k, hk, e⟩ := List.getElem_of_mem hz
        have := hg k (by rw [HN.out]; exact hk)
        rw [List.getD_eq_getElem?_getD, List.getElem?_eq_getElem hk, Option.getD_some, e] at this
        exact this
      have e : l = (l.map Int.toNat).map Int.ofNat := by
        rw [List.map_map]
        refine ((List.map_congr_left fun z hz => ?_).trans (List.map_id l)).symm
        exact Int.toNat_of_nonneg (hs z hz).1
      refine ⟨l.map Int.toNat, e, by rw [List.length_map, HN.out], fun x hx => ?_, ?_⟩
      · obtain ⟨z, hz, rfl⟩ := List.mem_map.1 hx
        have := hs z hz; omega
      · rw [HV.out]; unfold vs
        rw [show decide (l.length ≤ 4) = true from decide_eq_true (by rw [← HN.out]; omega), decide_eq_true hs, Bool.true_and, Bool.true_and])
    clear h
    go_enter Tryz.func19, Tryz.ntmps19
    go_wp2_with fail
    go_loop [10] (fun iv => ∃ i : Nat, i ≤ n ∧ iv = .int .i64 i ∧ Hid (∀ k, k < i → 0 ≤ l.getD k 0 ∧ l.getD k 0 ≤ 1024)) (fun iv => n - (Go.RowKit.intOf iv).toNat)
    case atStart => exact ⟨0, Nat.zero_le _, rfl, Lib.hid (fun k hk => by omega)⟩
    case round =>
      obtain ⟨i, hi, rfl, HA⟩ := hrel
      have ii : (i : Int) ≤ (n : Int) := by omega
      by_cases hlt : i < n
      · have ilt : (i : Int) < (n : Int) := by omega
        obtain ⟨b, off, z, rfl, -, hcell, HZ, -, -⟩ := H.out.at (k := i) (by rw [← HN.out]; exact hlt)
        by_cases hz0 : z < 0
        · obtain rfl : v = false := HBAD.out i hlt (.inl (by rw [← HZ.out]; exact hz0))
          go_wp2_with fail
          go_ret
          exact ⟨rfl, rfl⟩
        · by_cases hz1 : 1024 < z
          · obtain rfl : v = false := HBAD.out i hlt (.inr (by rw [← HZ.out]; exact hz1))
            go_wp2_with fail
            go_ret
            exact ⟨rfl, rfl⟩
          · have hz2 : z ≤ 1024 := by omega
            have hst : Hid (∀ k, k < i + 1 → 0 ≤ l.getD k 0 ∧ l.getD k 0 ≤ 1024) := Lib.hid (fun k hk => by
              by_cases e : k = i
              · rw [e, ← HZ.out]; omega
              · exact HA.out k (by omega))
            go_wp2_with fail
            go_round
            case rel => exact ⟨i + 1, by omega, by go_num, hst⟩
            case measure => simp [Go.RowKit.intOf]; omega
      · obtain rfl : i = n := by omega
        have ilt : ¬ (i : Int) < (i : Int) := by omega
        obtain ⟨m, hm1, hm2, hm3, hm4⟩ := HGOOD.out HA.out
        subst hm1
        have HP := Lib.hid (product_any p c m w (by rw [hm2]; omega) hm3 H.out)
        rw [hm2] at HP
        obtain ⟨P, HPP⟩ : ∃ P, Hid (P = prod m) := ⟨_, rfl⟩
        rw [← HPP.out] at hm4 HP
        have HM4 := Lib.hid hm4
        have hfin : Hid (decide ((P : Int) ≤ 4096) = v) := Lib.hid (by
          rw [HM4.out]; by_cases e : P ≤ 4096
          · rw [decide_eq_true e, decide_eq_true (by omega)]
          · rw [decide_eq_false e, decide_eq_false (by omega)])
        clear hm4 hm2 hm3
        go_wp2_with fail
        refine (HP.out).mono ?_
        rintro e w' ⟨rfl, rfl⟩
        go_wp2_with fail
        go_ret
        exact ⟨rfl, by rw [← hfin.out]; simp⟩
end Go.Proofs.YtigidchicloleaaGreatDoor.Arr
