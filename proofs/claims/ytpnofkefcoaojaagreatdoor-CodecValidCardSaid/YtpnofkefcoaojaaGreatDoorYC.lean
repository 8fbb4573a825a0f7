/- Which pipelines are valid: the program. -/
import Derived.Test.YtpnofkefcoaojaaGreatDoorYB
import Derived.Test.YtpnofkefcoaojaaGreatDoorKA
import Derived.BigQuiet
import Derived.Deep.QuietTactic
import Derived.StillTailTactics
import Derived.RangeFuncFrom
set_option maxHeartbeats 2000000
set_option maxRecDepth 100000
namespace Go.Proofs.YtpnofkefcoaojaaGreatDoor
open Go.RowKit
open Go.Lib
def plOk (l : List Sg) (i : Nat) : Bool := stOk (l.getD i (0, 0, [])) && (decide (i = 0) || !decide ((l.getD i (0, 0, [])).1 = 1))
def pipOk (k : Int) (l : List Sg) : Bool := isT k && decide (l.length ≤ 4) && (List.range l.length).all (plOk l)
theorem pip_no {k : Int} {l : List Sg} {i : Nat} (hi : i < l.length) (h : plOk l i = false) : pipOk k l = false := by
  unfold pipOk
  have : (List.range l.length).all (plOk l) = false := by
    rw [List.all_eq_false]
    exact ⟨i, List.mem_range.2 hi, by rw [h]; simp⟩
  rw [this, Bool.and_false]
theorem pip_yes {k : Int} {l : List Sg} (hk : isT k = true) (hl : l.length ≤ 4) (h : ∀ i, i < l.length → plOk l i = true) : pipOk k l = true := by
  unfold pipOk
  rw [hk, decide_eq_true hl, Bool.true_and, Bool.true_and, List.all_eq_true]
  exact fun i hi => h i (List.mem_range.1 hi)
theorem pvalid_any (k : Int) (p : Option Addr) (c n : Nat) (l : List Sg) (w : World) (htab : Tab w) (hx : Hid (l.length = n)) (hs : RdG w p l) :
    Calls Tryz.prog 15 #[.int .i64 k, .slice p n c] w fun e w' => e = .returned (.bool (pipOk k l)) ∧ Below w.heap.size w w' := by
  have HS := Lib.hid hs
  have HTAB := Lib.hid htab
  obtain ⟨v, HV⟩ : ∃ v, Hid (pipOk k l = v) := ⟨_, rfl⟩
  have HT := Lib.hid (fun W => isType_any k W)
  obtain ⟨bt, HBT⟩ : ∃ bt, Hid (isT k = bt) := ⟨_, rfl⟩
  rw [HBT.out] at HT
  rw [HV.out]
  have HB0 := Lib.hid (Below.refl w.heap.size w)
  clear hs htab
  cases bt with
  | false =>
    obtain rfl : v = false := by rw [← HV.out]; unfold pipOk; rw [HBT.out]; rfl
    go_enter Tryz.func15, Tryz.ntmps15
    go_wp2_with fail
    refine (HT.out _).mono ?_
    rintro e w' ⟨rfl, rfl⟩
    go_wp2_with fail
    go_ret
    exact ⟨rfl, HB0.out⟩
  | true =>
  by_cases h4 : 4 < n
  · have h4i : (4 : Int) < (n : Int) := by omega
    obtain rfl : v = false := by
      rw [← HV.out]; unfold pipOk; rw [decide_eq_false (by rw [hx.out]; omega), Bool.and_false]; rfl
    go_enter Tryz.func15, Tryz.ntmps15
    go_wp2_with fail
    refine (HT.out _).mono ?_
    rintro e w' ⟨rfl, rfl⟩
    go_wp2_with fail
    go_ret
    exact ⟨rfl, HB0.out⟩
  have h4i : ¬ (4 : Int) < (n : Int) := by omega
  have hni : (n : Int) ≤ 4 := by omega
  have HNO : Hid (∀ i, i < n → plOk l i = false → v = false) := Lib.hid (fun i hi h => by rw [← HV.out]; exact pip_no (by rw [hx.out]; exact hi) h)
  have HYES : Hid ((∀ i, i < n → plOk l i = true) → v = true) := Lib.hid (fun h => by rw [← HV.out]; exact pip_yes HBT.out (by rw [hx.out]; omega) (fun i hi => h i (by rw [← hx.out]; exact hi)))
  go_enter Tryz.func15, Tryz.ntmps15
  go_wp2_with fail
  refine (HT.out _).mono ?_
  rintro e w' ⟨rfl, rfl⟩
  go_wp2_with fail
  go_loopw [17] (fun iv wr => ∃ i : Nat, i ≤ n ∧ iv = .int .i64 i ∧ Hid (∀ j, j < i → plOk l j = true) ∧ Hid (Below w.heap.size w wr)) (fun iv _ => n - (intOf iv).toNat)
  case atStart => exact ⟨0, Nat.zero_le _, rfl, Lib.hid (fun j hj => by omega), HB0⟩
  case round =>
    obtain ⟨i, hi, rfl, HA, HB⟩ := hrel
    have ii : (i : Int) ≤ (n : Int) := by omega
    by_cases hlt : i < n
    · have ilt : (i : Int) < (n : Int) := by omega
      obtain ⟨b1, o1, x, y, z, e1, hb1, hc1, hc2, hc3, hx1⟩ := (HS.out.below HB.out).at (k := i) (by rw [hx.out]; exact hlt)
      subst e1
      obtain ⟨Z, HZ⟩ : ∃ Z : ByteArray, Hid (⟨z.toArray⟩ = Z) := ⟨_, rfl⟩
      rw [HZ.out] at hc3
      obtain ⟨W1, HW1⟩ : ∃ W1, Hid (wr.alloc (.cells #[.int .i64 x, .int .i64 y, .string Z] 45) = W1) := ⟨_, Lib.hid rfl⟩
      have HB1 : Hid (Below wr.heap.size wr W1) := Lib.hid (by rw [← HW1.out]; exact (Below.refl _ _).alloc (Nat.le_refl _) _)
      have HBW1 : Hid (Below w.heap.size w W1) := Lib.hid (HB.out.trans (HB1.out.mono HB.out.size))
      obtain ⟨u, HU⟩ : ∃ u, Hid (stOk (x, y, z) = u) := ⟨_, rfl⟩
      have HVS : Hid (Calls Tryz.prog 40 #[.agg #[.int .i64 x, .int .i64 y, .string Z]] W1 fun e w' => e = .returned (.bool u) ∧ Below W1.heap.size W1 w') := Lib.hid (by
        have h := vstage_any x y z W1 (HTAB.out.below HBW1.out)
        rwa [HZ.out, HU.out] at h)
      have hbox : Hid (W1.heap[wr.heap.size]? = some (.cells #[.int .i64 x, .int .i64 y, .string Z] 45 (0, 0))) := Lib.hid (by rw [← HW1.out]; exact World.alloc_heap_new wr _)
      have hq0 : W1.cell? ⟨wr.heap.size, 0, none⟩ = some (.int .i64 x) := by simp [World.cell?, hbox.out]
      have hq1 : W1.cell? ⟨wr.heap.size, 1, none⟩ = some (.int .i64 y) := by simp [World.cell?, hbox.out]
      have hq2 : W1.cell? ⟨wr.heap.size, 2, none⟩ = some (.string Z) := by simp [World.cell?, hbox.out]
      have HPL : Hid (plOk l i = (u && (decide (i = 0) || !decide (x = 1)))) := Lib.hid (by unfold plOk; rw [hx1.out, HU.out])
      cases u with
      | false =>
        obtain rfl : v = false := HNO.out i hlt (by rw [HPL.out]; rfl)
        go_wp2_with fail
        rw [HW1.out]
        go_wp2_with fail
        refine (HVS.out).mono ?_
        rintro e w3 ⟨rfl, hb3⟩
        have HB3 : Hid (Below w.heap.size w w3) := Lib.hid (HBW1.out.trans (hb3.mono HBW1.out.size))
        clear hb3
        go_wp2_with fail
        go_ret
        exact ⟨rfl, HB3.out⟩
      | true =>
        by_cases h1 : x = 1
        · by_cases h0 : i = 0
          · have hst : Hid (∀ j, j < i + 1 → plOk l j = true) := Lib.hid (fun j hj => by
              by_cases e : j = i
              · rw [e, HPL.out, decide_eq_true h0]; rfl
              · exact HA.out j (by omega))
            subst h1
            have hi0 : ¬ (0 : Int) < (i : Int) := by omega
            have hi0d : decide ((0 : Int) < (i : Int)) = false := decide_eq_false hi0
            clear h0
            go_wp2_with fail
            rw [HW1.out]
            go_wp2_with fail
            refine (HVS.out).mono ?_
            rintro e w3 ⟨rfl, hb3⟩
            have hg0 := (hb3.cell (p := ⟨wr.heap.size, 0, none⟩) (by have := Array.getElem?_eq_some_iff.1 hbox.out; exact this.1)).trans hq0
            have HB3 : Hid (Below w.heap.size w w3) := Lib.hid (HBW1.out.trans (hb3.mono HBW1.out.size))
            clear hb3
            go_wp2_with fail
            go_roundw
            case rel => exact ⟨i + 1, by omega, by go_num, hst, HB3⟩
            case measure => simp [intOf]; omega
          · obtain rfl : v = false := HNO.out i hlt (by rw [HPL.out, decide_eq_false h0, decide_eq_true h1]; rfl)
            subst h1
            have hi0 : (0 : Int) < (i : Int) := by omega
            go_wp2_with fail
            rw [HW1.out]
            go_wp2_with fail
            refine (HVS.out).mono ?_
            rintro e w3 ⟨rfl, hb3⟩
            have hg0 := (hb3.cell (p := ⟨wr.heap.size, 0, none⟩) (by have := Array.getElem?_eq_some_iff.1 hbox.out; exact this.1)).trans hq0
            have HB3 : Hid (Below w.heap.size w w3) := Lib.hid (HBW1.out.trans (hb3.mono HBW1.out.size))
            clear hb3
            go_wp2_with fail
            go_ret
            exact ⟨rfl, HB3.out⟩
        · have hst : Hid (∀ j, j < i + 1 → plOk l j = true) := Lib.hid (fun j hj => by
            by_cases e : j = i
            · rw [e, HPL.out, decide_eq_false h1]; simp
            · exact HA.out j (by omega))
          have hx1b : (x == 1) = false := by rw [beq_eq_false_iff_ne]; exact h1
          clear h1
          go_wp2_with fail
          rw [HW1.out]
          go_wp2_with fail
          refine (HVS.out).mono ?_
          rintro e w3 ⟨rfl, hb3⟩
          have hg0 := (hb3.cell (p := ⟨wr.heap.size, 0, none⟩) (by have := Array.getElem?_eq_some_iff.1 hbox.out; exact this.1)).trans hq0
          have HB3 : Hid (Below w.heap.size w w3) := Lib.hid (HBW1.out.trans (hb3.mono HBW1.out.size))
          clear hb3
          go_wp2_with fail
          go_roundw
          case rel => exact ⟨i + 1, by omega, by go_num, hst, HB3⟩
          case measure => simp [intOf]; omega
    · obtain rfl : i = n := by omega
      have ilt : ¬ (i : Int) < (i : Int) := by omega
      obtain rfl : v = true := HYES.out HA.out
      go_wp2_with fail
      go_ret
      exact ⟨rfl, HB.out⟩
end Go.Proofs.YtpnofkefcoaojaaGreatDoor
