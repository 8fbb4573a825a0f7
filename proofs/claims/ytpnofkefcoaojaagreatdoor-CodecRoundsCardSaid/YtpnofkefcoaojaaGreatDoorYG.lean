/- Rounded: the program. -/
import Derived.Test.YtpnofkefcoaojaaGreatDoorV01
import Derived.Test.YtpnofkefcoaojaaGreatDoorYB
import Derived.Test.YtpnofkefcoaojaaGreatDoorKA
import Derived.BigQuiet
import Derived.Deep.QuietTactic
import Derived.StillTailTactics
import Derived.RangeFuncFrom
import Derived.Test.YtpnofkefcoaojaaGreatDoorVSc
set_option maxHeartbeats 8000000
set_option maxRecDepth 100000
namespace Go.Proofs.YtpnofkefcoaojaaGreatDoor
open Go.RowKit
open Go.Lib
def rndL (xs : List (List UInt8)) (s : List UInt8) : List (List UInt8) := xs.map fun x => rndT x s
def rndBad (k : Int) (s x : List UInt8) : Bool := (!decide (x = []) && decide (rndT x s = [])) || !fitT k (rndT x s)
theorem rndL_at {xs : List (List UInt8)} {s : List UInt8} {i : Nat} (h : i < xs.length) : (rndL xs s).getD i [] = rndT (xs.getD i []) s := by
  unfold rndL
  rw [List.getD_eq_getElem?_getD, List.getElem?_map, List.getD_eq_getElem?_getD, List.getElem?_eq_getElem h]; rfl
theorem rndL_len (xs : List (List UInt8)) (s : List UInt8) : (rndL xs s).length = xs.length := List.length_map _
structure RnI (w : World) (V n i : Nat) (ys : List (List UInt8)) (W : World) : Prop where
  below : Below w.heap.size w W
  hV : w.heap.size ≤ V
  vals : Vals W V n i ys
theorem RnI.lt {w W : World} {V n i : Nat} {ys : List (List UInt8)} (h : RnI w V n i ys W) : V < W.heap.size := by
  obtain ⟨cs, h1, -⟩ := h.vals
  exact (Array.getElem?_eq_some_iff.1 h1).1
theorem RnI.call {w W W' : World} {V n i : Nat} {ys : List (List UInt8)} (h : RnI w V n i ys W) (hb : Below W.heap.size W W') : RnI w V n i ys W' :=
  ⟨h.below.trans (hb.mono h.below.size), h.hV, h.vals.keep (hb.block V h.lt)⟩
theorem RnI.put {w W : World} {V n i : Nat} {ys : List (List UInt8)} (h : RnI w V n i ys W) (hi : i < n) : RnI w V n (i + 1) ys (W.setCell ⟨V, i, none⟩ (.string ⟨(ys.getD i []).toArray⟩)) :=
  ⟨h.below.setCell (p := ⟨V, i, none⟩) h.hV _, h.hV, h.vals.put hi⟩
theorem RnI.cell {w W : World} {V n i j : Nat} {ys : List (List UInt8)} (h : RnI w V n i ys W) (hj : j < i) (hi : i ≤ n) : W.cell? ⟨V, j, none⟩ = some (.string ⟨(ys.getD j []).toArray⟩) := by
  obtain ⟨cs, h1, h2, h3⟩ := h.vals
  have h4 := h3 j (by omega)
  rw [if_pos hj] at h4
  simp [World.cell?, h1, h4]
theorem rounded_bad (k : Int) (p : Option Addr) (c n : Nat) (xs : List (List UInt8)) (s : ByteArray) (w : World) (hx : Hid (xs.length = n)) (hn : n ≤ 4096) (hs : Ss w p xs) (he : Env w) (z : Int) (hz : z ≠ 0) (HZ : Hid ((if posC s.data.toList = false then 2 else chkE k xs) = z)) :
    Calls Tryz.prog 18 #[.int .i64 k, .slice p n c, .string s] w fun e w' => e = .returned (.tuple #[.slice none 0 0, .int .i64 z]) ∧ Below w.heap.size w w' := by
  have HS := Lib.hid hs
  have HE := Lib.hid he
  have HP := Lib.hid (ispos_any s w he.tab)
  obtain ⟨bp, HBP⟩ : ∃ b, Hid (posC s.data.toList = b) := ⟨_, rfl⟩
  rw [HBP.out] at HP HZ
  clear hs he
  cases bp with
  | false =>
    have e := HZ.out
    rw [if_pos rfl] at e
    subst e
    go_enter Tryz.func18, Tryz.ntmps18
    go_wp2_with fail
    refine (HP.out).mono ?_
    rintro e w1 ⟨rfl, hb1⟩
    have HB := Lib.hid hb1
    clear hb1
    go_wp2_with fail
    go_ret2
    exact ⟨rfl, HB.out⟩
  | true =>
    have e := HZ.out
    rw [if_neg (by decide)] at e
    have HC : Hid (∀ W, Below w.heap.size w W → Calls Tryz.prog 44 #[.int .i64 k, .slice p n c] W fun e w' => e = .returned (.int .i64 z) ∧ Below W.heap.size W w') := Lib.hid (fun W hW => by
      have h := checkV_any k p c n xs W hx hn (HS.out.below hW) (HE.out.below hW)
      rwa [e] at h)
    have gz : (z != 0) = true := by rw [bne_iff_ne]; exact hz
    clear e hz
    go_enter Tryz.func18, Tryz.ntmps18
    go_wp2_with fail
    refine (HP.out).mono ?_
    rintro e w1 ⟨rfl, hb1⟩
    have HB := Lib.hid hb1
    clear hb1
    go_wp2_with fail
    refine (HC.out _ HB.out).mono ?_
    rintro e w2 ⟨rfl, hb2⟩
    have HB2 := Lib.hid (HB.out.trans (hb2.mono HB.out.size))
    clear hb2
    go_wp2_with fail
    go_ret2
    exact ⟨rfl, HB2.out⟩
def RndPost (k : Int) (xs : List (List UInt8)) (s : List UInt8) (n : Nat) (w : World) (e : Ending) (w' : World) : Prop :=
  Below w.heap.size w w' ∧ ((xs.any (rndBad k s) = true ∧ e = .returned (.tuple #[.slice none 0 0, .int .i64 41])) ∨ (xs.any (rndBad k s) = false ∧ ∃ q, e = .returned (.tuple #[.slice q n n, .int .i64 0]) ∧ Ss w' q (rndL xs s)))
theorem rounded_ok (k : Int) (p : Option Addr) (c n : Nat) (xs : List (List UInt8)) (s : ByteArray) (w : World) (hx : Hid (xs.length = n)) (hn : n ≤ 4096) (hs : Ss w p xs) (he : Env w) (HPO : Hid (posC s.data.toList = true)) (HCK : Hid (chkE k xs = 0)) :
    Calls Tryz.prog 18 #[.int .i64 k, .slice p n c, .string s] w (RndPost k xs s.data.toList n w) := by
  have HS := Lib.hid hs
  have HE := Lib.hid he
  have HP := Lib.hid (ispos_any s w he.tab)
  rw [HPO.out] at HP
  have HC : Hid (∀ W, Below w.heap.size w W → Calls Tryz.prog 44 #[.int .i64 k, .slice p n c] W fun e w' => e = .returned (.int .i64 0) ∧ Below W.heap.size W w') := Lib.hid (fun W hW => by
    have h := checkV_any k p c n xs W hx hn (HS.out.below hW) (HE.out.below hW)
    rwa [HCK.out] at h)
  obtain ⟨st, HST⟩ : ∃ st, Hid (s.data.toList = st) := ⟨_, rfl⟩
  rw [HST.out]
  obtain ⟨ys, HYS⟩ : ∃ ys, Hid (rndL xs st = ys) := ⟨_, rfl⟩
  have HYL : Hid (ys.length = n) := Lib.hid (by rw [← HYS.out, rndL_len, hx.out])
  obtain ⟨Z, HZ, HMK⟩ := make_vals n (by omega)
  have HZ2 := Lib.hid HZ
  have HMK2 := Lib.hid HMK
  have hni : (n : Int) ≤ 4096 := by omega
  clear hs he HZ HMK
  go_enter Tryz.func18, Tryz.ntmps18
  go_wp2_with fail
  refine (HP.out).mono ?_
  rintro e w1 ⟨rfl, hb1⟩
  have HB := Lib.hid hb1
  clear hb1
  go_wp2_with fail
  refine (HC.out _ HB.out).mono ?_
  rintro e w2 ⟨rfl, hb2⟩
  have HB2 := Lib.hid (HB.out.trans (hb2.mono HB.out.size))
  have hmk := HMK2.out w2
  clear hb2
  go_wp2_with fail
  obtain ⟨V, HV⟩ : ∃ V, Hid (w2.heap.size = V) := ⟨_, rfl⟩
  obtain ⟨W3, HW3⟩ : ∃ W3, Hid (w2.alloc (.cells Z 9) = W3) := ⟨_, Lib.hid rfl⟩
  rw [HW3.out, HV.out]
  have HI0 : Hid (RnI w V n 0 ys W3) := Lib.hid (by
    refine ⟨?_, by rw [← HV.out]; exact HB2.out.size, Z, by rw [← HW3.out, ← HV.out]; exact World.alloc_heap_new w2 _, HZ2.out.1, fun j hj => by rw [if_neg (by omega)]; exact HZ2.out.2 j hj⟩
    rw [← HW3.out]
    exact HB2.out.alloc HB2.out.size _)
  clear hmk
  go_loopw [26] (fun iv wr => ∃ i : Nat, i ≤ n ∧ iv = .int .i64 i ∧ Hid (RnI w V n i ys wr) ∧ Hid (∀ j, j < i → rndBad k st (xs.getD j []) = false)) (fun iv _ => n - (intOf iv).toNat)
  case atStart => exact ⟨0, Nat.zero_le _, rfl, HI0, Lib.hid (fun j hj => by omega)⟩
  case round =>
    obtain ⟨i, hi, rfl, HI, HA⟩ := hrel
    have ii : (i : Int) ≤ (n : Int) := by omega
    by_cases hlt : i < n
    · have ilt : (i : Int) < (n : Int) := by omega
      have hil : i < xs.length := by rw [hx.out]; exact hlt
      obtain ⟨b1, o1, x, e1, hb1, hc1, hxx⟩ := (HS.out.below HI.out.below).at (k := i) hil
      subst e1
      obtain ⟨u, HU⟩ : ∃ u, Hid (rndT x st = u) := ⟨_, rfl⟩
      have HYI : Hid (ys.getD i [] = u) := Lib.hid (by rw [← HYS.out, rndL_at hil, hxx.out, HU.out])
      obtain ⟨X, HX⟩ : ∃ X : ByteArray, Hid (⟨x.toArray⟩ = X) := ⟨_, rfl⟩
      obtain ⟨U, HUU⟩ : ∃ U : ByteArray, Hid (⟨u.toArray⟩ = U) := ⟨_, rfl⟩
      rw [HX.out] at hc1
      have HRD : Hid (Calls Tryz.prog 45 #[.string X, .string s] wr fun e w' => e = .returned (.string U) ∧ Below wr.heap.size wr w') := Lib.hid (by
        have h := pround_any X s wr (HE.out.below HI.out.below).tab
        unfold TxtPost at h
        have e : rndT X.data.toList s.data.toList = u := by rw [← HX.out, HST.out]; exact HU.out
        rwa [e, HUU.out] at h)
      obtain ⟨f, HF⟩ : ∃ f, Hid (fitT k u = f) := ⟨_, rfl⟩
      have HFT : Hid (∀ W, Below w.heap.size w W → Calls Tryz.prog 46 #[.int .i64 k, .string U] W fun e w' => e = .returned (.bool f) ∧ Below W.heap.size W w') := Lib.hid (fun W hW => by
        have h := pfits_list k u W (HE.out.below hW)
        rwa [HUU.out, HF.out] at h)
      have hXe : x = [] → X.toList = [] := fun h => by rw [← HX.out, h]; simp
      have hUe : u = [] → U.toList = [] := fun h => by rw [← HUU.out, h]; simp
      have hXn : x ≠ [] → ¬ X.toList = [] := fun h e => h (by rw [← HX.out] at e; simpa using e)
      have hUn : u ≠ [] → ¬ U.toList = [] := fun h e => h (by rw [← HUU.out] at e; simpa using e)
      have HXE := Lib.hid hXe
      have HUE := Lib.hid hUe
      have HXN := Lib.hid hXn
      have HUN := Lib.hid hUn
      have HBD : Hid (rndBad k st (xs.getD i []) = ((!decide (x = []) && decide (u = [])) || !f)) := Lib.hid (by unfold rndBad; rw [hxx.out, HU.out, HF.out])
      have HANY : Hid (rndBad k st (xs.getD i []) = true → xs.any (rndBad k st) = true) := Lib.hid (fun h => List.any_eq_true.2 ⟨_, by rw [List.getD_eq_getElem?_getD, List.getElem?_eq_getElem hil]; exact List.getElem_mem hil, h⟩)
      have hclos : ∀ w5, Below wr.heap.size wr w5 → (w5.cell? ⟨V, i, none⟩ = some (.string ⟨#[]⟩) ∧ w5.frozen? ⟨V, i, none⟩ = false) ∧ RnI w V n (i + 1) ys (w5.setCell ⟨V, i, none⟩ (.string U)) := fun w5 hb5 => by
        have h5 := HI.out.call hb5
        have h6 := h5.put hlt
        rw [HYI.out, HUU.out] at h6
        exact ⟨h5.vals.old hlt, h6⟩
      have HCL := Lib.hid hclos
      have hUI : ∀ W, RnI w V n (i + 1) ys W → W.cell? ⟨V, i, none⟩ = some (.string U) := fun W hW => by
        have h := hW.cell (Nat.lt_succ_self i) hlt
        rwa [HYI.out, HUU.out] at h
      have HUI := Lib.hid hUI
      clear hb1 hXe hUe hXn hUn hclos hUI hil
      by_cases hxe : x = []
      · have g1 := HXE.out hxe
        cases f with
        | true =>
          have HA2 : Hid (∀ j, j < i + 1 → rndBad k st (xs.getD j []) = false) := Lib.hid (fun j hj => by
            by_cases e : j = i
            · rw [e, HBD.out, decide_eq_true hxe]; rfl
            · exact HA.out j (by omega))
          clear hxe
          go_wp2_with fail
          refine (HRD.out).mono ?_
          rintro e w5 ⟨rfl, hb5⟩
          obtain ⟨⟨gc, gf⟩, hn6⟩ := HCL.out w5 hb5
          obtain ⟨W6, HW6⟩ : ∃ W6, Hid (w5.setCell ⟨V, i, none⟩ (.string U) = W6) := ⟨_, rfl⟩
          rw [HW6.out] at hn6
          have HN6 := Lib.hid hn6
          have hu6 := HUI.out _ hn6
          clear hb5 hn6
          go_wp2_with fail
          rw [HW6.out]
          go_wp2_with fail
          refine (HFT.out _ HN6.out.below).mono ?_
          rintro e w7 ⟨rfl, hb7⟩
          have HN7 := Lib.hid (HN6.out.call hb7)
          clear hb7 hu6 gc gf
          go_wp2_with fail
          go_roundw
          case rel => exact ⟨i + 1, by omega, by go_num, HN7, HA2⟩
          case measure => simp [intOf]; omega
        | false =>
          have HANN : Hid (xs.any (rndBad k st) = true) := Lib.hid (HANY.out (by rw [HBD.out]; simp))
          clear hxe
          go_wp2_with fail
          refine (HRD.out).mono ?_
          rintro e w5 ⟨rfl, hb5⟩
          obtain ⟨⟨gc, gf⟩, hn6⟩ := HCL.out w5 hb5
          obtain ⟨W6, HW6⟩ : ∃ W6, Hid (w5.setCell ⟨V, i, none⟩ (.string U) = W6) := ⟨_, rfl⟩
          rw [HW6.out] at hn6
          have HN6 := Lib.hid hn6
          have hu6 := HUI.out _ hn6
          clear hb5 hn6
          go_wp2_with fail
          rw [HW6.out]
          go_wp2_with fail
          refine (HFT.out _ HN6.out.below).mono ?_
          rintro e w7 ⟨rfl, hb7⟩
          have HN7 := Lib.hid (HN6.out.call hb7)
          have HFIN : Hid (RndPost k xs st n w (.returned (.tuple #[.slice none 0 0, .int .i64 41])) w7) := Lib.hid ⟨HN7.out.below, .inl ⟨HANN.out, rfl⟩⟩
          clear hb7 hu6 gc gf
          go_wp2_with fail
          go_ret2
          exact HFIN.out
      · have g1 := HXN.out hxe
        have g1b : (X.toList == []) = false := by rw [beq_eq_false_iff_ne]; exact g1
        have g1c : X.toList.isEmpty = false := by
          cases h : X.toList with
          | nil => exact absurd h g1
          | cons => rfl
        by_cases hue : u = []
        · have g2 := HUE.out hue
          have HANN : Hid (xs.any (rndBad k st) = true) := Lib.hid (HANY.out (by rw [HBD.out, decide_eq_false hxe, decide_eq_true hue]; rfl))
          clear hxe hue
          go_wp2_with fail
          refine (HRD.out).mono ?_
          rintro e w5 ⟨rfl, hb5⟩
          obtain ⟨⟨gc, gf⟩, hn6⟩ := HCL.out w5 hb5
          obtain ⟨W6, HW6⟩ : ∃ W6, Hid (w5.setCell ⟨V, i, none⟩ (.string U) = W6) := ⟨_, rfl⟩
          rw [HW6.out] at hn6
          have HN6 := Lib.hid hn6
          have hu6 := HUI.out _ hn6
          have HFIN : Hid (RndPost k xs st n w (.returned (.tuple #[.slice none 0 0, .int .i64 41])) W6) := Lib.hid ⟨HN6.out.below, .inl ⟨HANN.out, rfl⟩⟩
          clear hb5 hn6
          go_wp2_with fail
          rw [HW6.out]
          go_wp2_with fail
          go_ret2
          exact HFIN.out
        · have g2 := HUN.out hue
          have g2b : (U.toList == []) = false := by rw [beq_eq_false_iff_ne]; exact g2
          have g2c : U.toList.isEmpty = false := by
            cases h : U.toList with
            | nil => exact absurd h g2
            | cons => rfl
          cases f with
          | true =>
            have HA2 : Hid (∀ j, j < i + 1 → rndBad k st (xs.getD j []) = false) := Lib.hid (fun j hj => by
              by_cases e : j = i
              · rw [e, HBD.out, decide_eq_false hue]; simp
              · exact HA.out j (by omega))
            clear hxe hue
            go_wp2_with fail
            refine (HRD.out).mono ?_
            rintro e w5 ⟨rfl, hb5⟩
            obtain ⟨⟨gc, gf⟩, hn6⟩ := HCL.out w5 hb5
            obtain ⟨W6, HW6⟩ : ∃ W6, Hid (w5.setCell ⟨V, i, none⟩ (.string U) = W6) := ⟨_, rfl⟩
            rw [HW6.out] at hn6
            have HN6 := Lib.hid hn6
            have hu6 := HUI.out _ hn6
            clear hb5 hn6
            go_wp2_with fail
            rw [HW6.out]
            go_wp2_with fail
            refine (HFT.out _ HN6.out.below).mono ?_
            rintro e w7 ⟨rfl, hb7⟩
            have HN7 := Lib.hid (HN6.out.call hb7)
            clear hb7 hu6 gc gf
            go_wp2_with fail
            go_roundw
            case rel => exact ⟨i + 1, by omega, by go_num, HN7, HA2⟩
            case measure => simp [intOf]; omega
          | false =>
            have HANN : Hid (xs.any (rndBad k st) = true) := Lib.hid (HANY.out (by rw [HBD.out]; simp))
            clear hxe hue
            go_wp2_with fail
            refine (HRD.out).mono ?_
            rintro e w5 ⟨rfl, hb5⟩
            obtain ⟨⟨gc, gf⟩, hn6⟩ := HCL.out w5 hb5
            obtain ⟨W6, HW6⟩ : ∃ W6, Hid (w5.setCell ⟨V, i, none⟩ (.string U) = W6) := ⟨_, rfl⟩
            rw [HW6.out] at hn6
            have HN6 := Lib.hid hn6
            have hu6 := HUI.out _ hn6
            clear hb5 hn6
            go_wp2_with fail
            rw [HW6.out]
            go_wp2_with fail
            refine (HFT.out _ HN6.out.below).mono ?_
            rintro e w7 ⟨rfl, hb7⟩
            have HN7 := Lib.hid (HN6.out.call hb7)
            have HFIN : Hid (RndPost k xs st n w (.returned (.tuple #[.slice none 0 0, .int .i64 41])) w7) := Lib.hid ⟨HN7.out.below, .inl ⟨HANN.out, rfl⟩⟩
            clear hb7 hu6 gc gf
            go_wp2_with fail
            go_ret2
            exact HFIN.out
    · obtain rfl : i = n := by omega
      have ilt : ¬ (i : Int) < (i : Int) := by omega
      have HNONE : Hid (xs.any (rndBad k st) = false) := Lib.hid (by
        rw [List.any_eq_false]
        intro x hx2
        obtain ⟨j, hj, rfl⟩ := List.getElem_of_mem hx2
        have := HA.out j (by rw [← hx.out]; exact hj)
        rw [List.getD_eq_getElem?_getD, List.getElem?_eq_getElem hj] at this
        simpa using this)
      have HFIN : Hid (RndPost k xs st i w (.returned (.tuple #[.slice (some ⟨V, 0, none⟩) i i, .int .i64 0])) wr) := Lib.hid ⟨HI.out.below, .inr ⟨HNONE.out, _, rfl, by rw [HYS.out]; exact HI.out.vals.reads HYL.out⟩⟩
      go_wp2_with fail
      go_ret2
      exact HFIN.out
end Go.Proofs.YtpnofkefcoaojaaGreatDoor
