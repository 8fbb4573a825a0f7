/- Rounded: the document. -/
import Derived.Test.YtpnofkefcoaojaaGreatDoorYG
import Derived.Test.YtpnofkefcoaojaaGreatDoorX9RR
import Derived.Test.YtpnofkefcoaojaaGreatDoorYD
import Derived.Test.YtpnofkefcoaojaaGreatDoorT9Sb
import Derived.BigQuiet
import Derived.Deep.QuietTactic
import Derived.StillTailTactics
import Derived.RangeFuncFrom
set_option maxHeartbeats 8000000
set_option maxRecDepth 100000
namespace Go.Proofs.YtpnofkefcoaojaaGreatDoor
open Go.RowKit
open Go.Lib
theorem rnd_nil (s : List UInt8) : rndT [] s = [] := by unfold rndT; rw [num_nil]
theorem fit_nil {k : Int} (h : isT k = true) : fitT k [] = true := by
  unfold isT at h
  rw [Bool.and_eq_true, decide_eq_true_eq, decide_eq_true_eq] at h
  unfold fitT
  rcases (by omega : k = 1 ∨ k = 2 ∨ k = 3 ∨ k = 4 ∨ k = 5) with rfl | rfl | rfl | rfl | rfl <;> rfl
theorem bad_nil {k : Int} {s : List UInt8} (h : isT k = true) : rndBad k s [] = false := by
  unfold rndBad; rw [rnd_nil, fit_nil h]; rfl
theorem bad_cons {k : Int} {s x : List UInt8} (h : x ≠ []) : rndBad k s x = (decide (rndT x s = []) || !fitT k (rndT x s)) := by
  unfold rndBad; rw [decide_eq_false h]; rfl
def RndPostD (k : Int) (xs : List (List UInt8)) (s : List UInt8) (n : Nat) (w : World) (e : Ending) (w' : World) : Prop :=
  Below w.heap.size w w' ∧ ((xs.any (rndBad k s) = true ∧ e = .returned (.tuple #[.slice none 0 0, .int .i64 41])) ∨ (xs.any (rndBad k s) = false ∧ ∃ q d, e = .returned (.tuple #[.slice q n d, .int .i64 0]) ∧ Ss w' q (rndL xs s)))
theorem rrounded_bad (k : Int) (p : Option Addr) (c n : Nat) (xs : List (List UInt8)) (s : ByteArray) (w : World) (hx : Hid (xs.length = n)) (hn : n ≤ 4096) (hs : Ss w p xs) (z : Int) (hz : z ≠ 0) (HZ : Hid ((if posC s.data.toList = false then 2 else chkE k xs) = z)) :
    Calls Tryz.prog 19 #[.int .i64 k, .slice p n c, .string s] w fun e w' => e = .returned (.tuple #[.slice none 0 0, .int .i64 z]) ∧ Below w.heap.size w w' := by
  have HS := Lib.hid hs
  have HT := Lib.hid (fun W => risType_any k W)
  have HP := Lib.hid (fun W => rpositive_any s W)
  obtain ⟨bt, HBT⟩ : ∃ b, Hid (isT k = b) := ⟨_, rfl⟩
  obtain ⟨bp, HBP⟩ : ∃ b, Hid (posC s.data.toList = b) := ⟨_, rfl⟩
  rw [HBT.out] at HT
  rw [HBP.out] at HP HZ
  have HB0 := Lib.hid (Below.refl w.heap.size w)
  clear hs
  cases bt with
  | false =>
    have hz2 : z = 2 := by
      rw [← HZ.out]
      cases bp with
      | false => rfl
      | true => rw [if_neg (by decide)]; unfold chkE; rw [if_pos HBT.out]
    subst hz2
    go_enter Tryz.func19, Tryz.ntmps19
    go_wp2_with fail
    refine (HT.out _).mono ?_
    rintro e w' ⟨rfl, rfl⟩
    go_wp2_with fail
    go_ret2
    exact ⟨rfl, HB0.out⟩
  | true =>
    cases bp with
    | false =>
      have e := HZ.out
      rw [if_pos rfl] at e
      subst e
      go_enter Tryz.func19, Tryz.ntmps19
      go_wp2_with fail
      refine (HT.out _).mono ?_
      rintro e w' ⟨rfl, rfl⟩
      go_wp2_with fail
      refine (HP.out _).mono ?_
      rintro e w1 ⟨rfl, hb1⟩
      have HB := Lib.hid hb1
      clear hb1
      go_wp2_with fail
      go_ret2
      exact ⟨rfl, HB.out⟩
    | true =>
      have e := HZ.out
      rw [if_neg (by decide)] at e
      have HC : Hid (∀ W, Below w.heap.size w W → Calls Tryz.prog 48 #[.int .i64 k, .slice p n c] W fun e w' => e = .returned (.int .i64 z) ∧ Below W.heap.size W w') := Lib.hid (fun W hW => by
        have h := unwell_any k p c n xs W hx hn (HS.out.below hW)
        rwa [e] at h)
      have gz : (z != 0) = true := by rw [bne_iff_ne]; exact hz
      clear e hz
      go_enter Tryz.func19, Tryz.ntmps19
      go_wp2_with fail
      refine (HT.out _).mono ?_
      rintro e w' ⟨rfl, rfl⟩
      go_wp2_with fail
      refine (HP.out _).mono ?_
      rintro e w1 ⟨rfl, hb1⟩
      have HB := Lib.hid hb1
      clear hb1
      go_wp2_with fail
      refine (HC.out _ HB.out).mono ?_
      rintro e w2 ⟨rfl, hb2⟩
      have HB2 := Lib.hid (HB.out.trans (hb2.mono HB.out.size))
      clear hb2
      go_wp2_with fail
      go_ret2
      exact ⟨rfl, HB2.out⟩
theorem rrounded_ok (k : Int) (p : Option Addr) (c n : Nat) (xs : List (List UInt8)) (s : ByteArray) (w : World) (hx : Hid (xs.length = n)) (hn : n ≤ 4096) (hs : Ss w p xs) (HPO : Hid (posC s.data.toList = true)) (HCK : Hid (chkE k xs = 0)) :
    Calls Tryz.prog 19 #[.int .i64 k, .slice p n c, .string s] w (RndPostD k xs s.data.toList n w) := by
  have HS := Lib.hid hs
  have HIT : Hid (isT k = true) := Lib.hid (by
    have h := HCK.out
    unfold chkE at h
    by_cases h1 : isT k = false
    · rw [if_pos h1] at h; cases h
    · simpa using h1)
  have HT := Lib.hid (fun W => risType_any k W)
  rw [HIT.out] at HT
  have HP := Lib.hid (fun W => rpositive_any s W)
  rw [HPO.out] at HP
  have HC : Hid (∀ W, Below w.heap.size w W → Calls Tryz.prog 48 #[.int .i64 k, .slice p n c] W fun e w' => e = .returned (.int .i64 0) ∧ Below W.heap.size W w') := Lib.hid (fun W hW => by
    have h := unwell_any k p c n xs W hx hn (HS.out.below hW)
    rwa [HCK.out] at h)
  obtain ⟨st, HST⟩ : ∃ st, Hid (s.data.toList = st) := ⟨_, rfl⟩
  rw [HST.out]
  obtain ⟨ys, HYS⟩ : ∃ ys, Hid (rndL xs st = ys) := ⟨_, rfl⟩
  have HYL : Hid (ys.length = n) := Lib.hid (by rw [← HYS.out, rndL_len, hx.out])
  have hni : (n : Int) ≤ 4096 := by omega
  clear hs
  go_enter Tryz.func19, Tryz.ntmps19
  go_wp2_with fail
  refine (HT.out _).mono ?_
  rintro e w' ⟨rfl, rfl⟩
  go_wp2_with fail
  refine (HP.out _).mono ?_
  rintro e w1 ⟨rfl, hb1⟩
  have HB := Lib.hid hb1
  clear hb1
  go_wp2_with fail
  refine (HC.out _ HB.out).mono ?_
  rintro e w2 ⟨rfl, hb2⟩
  have HB2 := Lib.hid (HB.out.trans (hb2.mono HB.out.size))
  clear hb2
  go_wp2_with fail
  go_loopw [9, 10] (fun ov iv wr => ∃ (i cv : Nat) (pv : Option Addr), i ≤ n ∧ ov = .slice pv i cv ∧ iv = .int .i64 i ∧ Hid (wr.ownsRow w.heap.size 9 1 (.slice pv i cv) i (strs (ys.take i))) ∧ Hid (Below w.heap.size w wr) ∧ Hid (∀ j, j < i → rndBad k st (xs.getD j []) = false)) (fun _ iv _ => n - (intOf iv).toNat)
  case atStart => exact ⟨0, 0, none, Nat.zero_le _, rfl, rfl, Lib.hid (World.ownsRow_nil w2 w.heap.size 9 1), HB2, Lib.hid (fun j hj => by omega)⟩
  case round =>
    obtain ⟨i, cv, pv, hi, rfl, rfl, HO, HBW, HA⟩ := hrel
    have ii : (i : Int) ≤ (n : Int) := by omega
    by_cases hlt : i < n
    · have ilt : (i : Int) < (n : Int) := by omega
      have hil : i < xs.length := by rw [hx.out]; exact hlt
      obtain ⟨b1, o1, x, e1, hb1, hc1, hxx⟩ := (HS.out.below HBW.out).at (k := i) hil
      subst e1
      obtain ⟨u, HU⟩ : ∃ u, Hid (rndT x st = u) := ⟨_, rfl⟩
      have HYT : Hid (ys.take (i + 1) = ys.take i ++ [u]) := Lib.hid (by
        have h1 : i < ys.length := by rw [HYL.out]; exact hlt
        have h2 : ys.getD i [] = u := by rw [← HYS.out, rndL_at hil, hxx.out, HU.out]
        rw [take_at h1, h2])
      obtain ⟨X, HX⟩ : ∃ X : ByteArray, Hid (⟨x.toArray⟩ = X) := ⟨_, rfl⟩
      rw [HX.out] at hc1
      have HXE : Hid (x = [] → X.toList = []) := Lib.hid (fun h => by rw [← HX.out, h]; simp)
      have HXN : Hid (x ≠ [] → ¬ X.toList = []) := Lib.hid (fun h e => h (by rw [← HX.out] at e; simpa using e))
      have HANY : Hid (rndBad k st (xs.getD i []) = true → xs.any (rndBad k st) = true) := Lib.hid (fun h => List.any_eq_true.2 ⟨_, by rw [List.getD_eq_getElem?_getD, List.getElem?_eq_getElem hil]; exact List.getElem_mem hil, h⟩)
      clear hb1 hil
      by_cases hxe : x = []
      · have g1 := HXE.out hxe
        have hu0 : u = [] := by rw [← HU.out, hxe]; exact rnd_nil st
        have HA2 : Hid (∀ j, j < i + 1 → rndBad k st (xs.getD j []) = false) := Lib.hid (fun j hj => by
          by_cases e : j = i
          · rw [e, hxx.out, hxe]; exact bad_nil HIT.out
          · exact HA.out j (by omega))
        obtain ⟨UU, HUU⟩ : ∃ UU : ByteArray, Hid (UU = ⟨u.toArray⟩) := ⟨_, Lib.hid rfl⟩
        have HUE : Hid ((⟨#[]⟩ : ByteArray) = UU) := Lib.hid (by rw [HUU.out, hu0])
        have HBB : Hid (Below wr.heap.size wr wr) := Lib.hid (Below.refl _ _)
        clear hxe hu0
        have HO5 : Hid (wr.ownsRow w.heap.size 9 1 (.slice pv i cv) i (strs (ys.take i))) := Lib.hid (own_below HO.out HBB.out)
        obtain ⟨gU, HgU⟩ : ∃ g, Hid (wr.heap.size = g) := ⟨_, rfl⟩
        obtain ⟨U1, HU1⟩ : ∃ U1, Hid (wr.alloc (.cells #[.string UU] 9) = U1) := ⟨_, Lib.hid rfl⟩
        have hbU : Below wr.heap.size wr U1 := by rw [← HU1.out]; exact (Below.refl _ _).alloc (Nat.le_refl _) _
        have HOU : Hid (U1.ownsRow w.heap.size 9 1 (.slice pv i cv) i (strs (ys.take i))) := Lib.hid (own_below HO5.out hbU)
        have HUC : Hid (U1.cell? ⟨gU, 0, none⟩ = some (.string ⟨u.toArray⟩)) := Lib.hid (by
          have h : U1.heap[gU]? = some (.cells #[.string UU] 9 (0, 0)) := by rw [← HU1.out, ← HgU.out]; exact World.alloc_heap_new wr _
          simp [World.cell?, h, HUU.out])
        have HBU : Hid (Below w.heap.size w U1) := Lib.hid ((HBW.out.trans (HBB.out.mono HBW.out.size)).trans (hbU.mono (Nat.le_trans HBW.out.size HBB.out.size)))
        have HUS : Hid (w.heap.size ≤ U1.heap.size) := Lib.hid HBU.out.size
        have HIL : Hid (i ≤ 100000) := Lib.hid (by omega)
        obtain ⟨TK, HTK⟩ : ∃ TK, Hid (ys.take i = TK) := ⟨_, rfl⟩
        rw [HTK.out] at HOU
        clear hbU
        go_wp2_with (first | (rw [HUE.out, HU1.out, HgU.out]; at_builtin; refine wpList_append_1s rfl (.tmp 51) (.tmp 53) rfl w.heap.size pv cv i TK rfl HOU.out gU u rfl HUC.out HIL.out HUS.out ?_) | (at_builtin; rw [HUE.out, HU1.out, HgU.out]; refine wpList_append_1s rfl (.tmp 51) (.tmp 53) rfl w.heap.size pv cv i TK rfl HOU.out gU u rfl HUC.out HIL.out HUS.out ?_))
        intro gv cv' w9 hown9 hg9
        have HO9 : Hid (w9.ownsRow w.heap.size 9 1 (.slice (some ⟨gv, 0, none⟩) (i + 1) cv') (i + 1) (strs (ys.take (i + 1)))) := Lib.hid (by rw [HYT.out, HTK.out]; exact hown9)
        have HB9 : Hid (Below w.heap.size w w9) := Lib.hid (below_own9 HBU.out HOU.out hg9)
        clear hown9 hg9
        go_wp2_with fail
        go_roundw
        case rel => exact ⟨i + 1, cv', some ⟨gv, 0, none⟩, by omega, by first | rfl | go_num, by go_num, HO9, HB9, HA2⟩
        case measure => simp [intOf]; omega
      · have g1 := HXN.out hxe
        have g1b : (X.toList == []) = false := by rw [beq_eq_false_iff_ne]; exact g1
        have g1c : X.toList.isEmpty = false := by
          cases h : X.toList with
          | nil => exact absurd h g1
          | cons => rfl
        have HBD : Hid (rndBad k st (xs.getD i []) = (decide (u = []) || !fitT k u)) := Lib.hid (by rw [hxx.out, bad_cons hxe, HU.out])
        obtain ⟨UU, HUU⟩ : ∃ UU : ByteArray, Hid (UU = ⟨u.toArray⟩) := ⟨_, Lib.hid rfl⟩
        have HRD : Hid (∀ W, Calls Tryz.prog 49 #[.string X, .string s] W fun e w' => e = .returned (.string UU) ∧ Below W.heap.size W w') := Lib.hid (fun W => by
          have h := rround_any X s W
          unfold TxtPost at h
          have e : rndT X.data.toList s.data.toList = u := by rw [← HX.out, HST.out]; exact HU.out
          rwa [e, ← HUU.out] at h)
        obtain ⟨f, HF⟩ : ∃ f, Hid (fitT k u = f) := ⟨_, rfl⟩
        have HFT : Hid (∀ W, Calls Tryz.prog 50 #[.int .i64 k, .string UU] W fun e w' => e = .returned (.bool f) ∧ Below W.heap.size W w') := Lib.hid (fun W => by
          have h := rfits_list k u W
          rwa [← HUU.out, HF.out] at h)
        by_cases hue : u = []
        · have g2 : UU.toList = [] := by rw [HUU.out, hue]; simp
          have HANN : Hid (xs.any (rndBad k st) = true) := Lib.hid (HANY.out (by rw [HBD.out, decide_eq_true hue]; rfl))
          clear hxe hue
          go_wp2_with fail
          refine (HRD.out _).mono ?_
          rintro e w5 ⟨rfl, hb5⟩
          have HFIN : Hid (RndPostD k xs st n w (.returned (.tuple #[.slice none 0 0, .int .i64 41])) w5) := Lib.hid ⟨HBW.out.trans (hb5.mono HBW.out.size), .inl ⟨HANN.out, rfl⟩⟩
          clear hb5
          go_wp2_with fail
          go_ret2
          exact HFIN.out
        · have g2 : ¬ UU.toList = [] := fun e => hue (by rw [HUU.out] at e; simpa using e)
          have g2b : (UU.toList == []) = false := by rw [beq_eq_false_iff_ne]; exact g2
          have g2c : UU.toList.isEmpty = false := by
            cases h : UU.toList with
            | nil => exact absurd h g2
            | cons => rfl
          cases f with
          | false =>
            have HANN : Hid (xs.any (rndBad k st) = true) := Lib.hid (HANY.out (by rw [HBD.out, HF.out]; simp))
            clear hxe hue
            go_wp2_with fail
            refine (HRD.out _).mono ?_
            rintro e w5 ⟨rfl, hb5⟩
            have HB5 := Lib.hid (HBW.out.trans (hb5.mono HBW.out.size))
            clear hb5
            go_wp2_with fail
            refine (HFT.out _).mono ?_
            rintro e w6 ⟨rfl, hb6⟩
            have HFIN : Hid (RndPostD k xs st n w (.returned (.tuple #[.slice none 0 0, .int .i64 41])) w6) := Lib.hid ⟨HB5.out.trans (hb6.mono HB5.out.size), .inl ⟨HANN.out, rfl⟩⟩
            clear hb6
            go_wp2_with fail
            go_ret2
            exact HFIN.out
          | true =>
            have HA2 : Hid (∀ j, j < i + 1 → rndBad k st (xs.getD j []) = false) := Lib.hid (fun j hj => by
              by_cases e : j = i
              · rw [e, HBD.out, decide_eq_false hue, HF.out]; rfl
              · exact HA.out j (by omega))
            clear hxe hue
            go_wp2_with fail
            refine (HRD.out _).mono ?_
            rintro e w5 ⟨rfl, hb5⟩
            have HB5 := Lib.hid hb5
            clear hb5
            go_wp2_with fail
            refine (HFT.out _).mono ?_
            rintro e w6 ⟨rfl, hb6⟩
            have HBB : Hid (Below wr.heap.size wr w6) := Lib.hid (HB5.out.trans (hb6.mono HB5.out.size))
            clear hb6
            have HO5 : Hid (w6.ownsRow w.heap.size 9 1 (.slice pv i cv) i (strs (ys.take i))) := Lib.hid (own_below HO.out HBB.out)
            obtain ⟨gU, HgU⟩ : ∃ g, Hid (w6.heap.size = g) := ⟨_, rfl⟩
            obtain ⟨U1, HU1⟩ : ∃ U1, Hid (w6.alloc (.cells #[.string UU] 9) = U1) := ⟨_, Lib.hid rfl⟩
            have hbU : Below w6.heap.size w6 U1 := by rw [← HU1.out]; exact (Below.refl _ _).alloc (Nat.le_refl _) _
            have HOU : Hid (U1.ownsRow w.heap.size 9 1 (.slice pv i cv) i (strs (ys.take i))) := Lib.hid (own_below HO5.out hbU)
            have HUC : Hid (U1.cell? ⟨gU, 0, none⟩ = some (.string ⟨u.toArray⟩)) := Lib.hid (by
              have h : U1.heap[gU]? = some (.cells #[.string UU] 9 (0, 0)) := by rw [← HU1.out, ← HgU.out]; exact World.alloc_heap_new w6 _
              simp [World.cell?, h, HUU.out])
            have HBU : Hid (Below w.heap.size w U1) := Lib.hid ((HBW.out.trans (HBB.out.mono HBW.out.size)).trans (hbU.mono (Nat.le_trans HBW.out.size HBB.out.size)))
            have HUS : Hid (w.heap.size ≤ U1.heap.size) := Lib.hid HBU.out.size
            have HIL : Hid (i ≤ 100000) := Lib.hid (by omega)
            obtain ⟨TK, HTK⟩ : ∃ TK, Hid (ys.take i = TK) := ⟨_, rfl⟩
            rw [HTK.out] at HOU
            clear hbU
            go_wp2_with (first | (rw [HU1.out, HgU.out]; at_builtin; refine wpList_append_1s rfl (.tmp 51) (.tmp 53) rfl w.heap.size pv cv i TK rfl HOU.out gU u rfl HUC.out HIL.out HUS.out ?_) | (at_builtin; rw [HU1.out, HgU.out]; refine wpList_append_1s rfl (.tmp 51) (.tmp 53) rfl w.heap.size pv cv i TK rfl HOU.out gU u rfl HUC.out HIL.out HUS.out ?_))
            intro gv cv' w9 hown9 hg9
            have HO9 : Hid (w9.ownsRow w.heap.size 9 1 (.slice (some ⟨gv, 0, none⟩) (i + 1) cv') (i + 1) (strs (ys.take (i + 1)))) := Lib.hid (by rw [HYT.out, HTK.out]; exact hown9)
            have HB9 : Hid (Below w.heap.size w w9) := Lib.hid (below_own9 HBU.out HOU.out hg9)
            clear hown9 hg9
            go_wp2_with fail
            go_roundw
            case rel => exact ⟨i + 1, cv', some ⟨gv, 0, none⟩, by omega, by first | rfl | go_num, by go_num, HO9, HB9, HA2⟩
            case measure => simp [intOf]; omega
    · obtain rfl : i = n := by omega
      have ilt : ¬ (i : Int) < (i : Int) := by omega
      have HNONE : Hid (xs.any (rndBad k st) = false) := Lib.hid (by
        rw [List.any_eq_false]
        intro x hx2
        obtain ⟨j, hj, rfl⟩ := List.getElem_of_mem hx2
        have := HA.out j (by rw [← hx.out]; exact hj)
        rw [List.getD_eq_getElem?_getD, List.getElem?_eq_getElem hj] at this
        simpa using this)
      have HFIN : Hid (RndPostD k xs st i w (.returned (.tuple #[.slice pv i cv, .int .i64 0])) wr) := Lib.hid ⟨HBW.out, .inr ⟨HNONE.out, _, _, rfl, by
        have h1 : ys.take i = ys := by rw [List.take_of_length_le (by rw [HYL.out]; exact Nat.le_refl _)]
        have h2 := HO.out
        rw [h1] at h2
        rw [HYS.out]
        exact strs_reads h2 HYL.out⟩⟩
      go_wp2_with fail
      go_ret2
      exact HFIN.out
end Go.Proofs.YtpnofkefcoaojaaGreatDoor
