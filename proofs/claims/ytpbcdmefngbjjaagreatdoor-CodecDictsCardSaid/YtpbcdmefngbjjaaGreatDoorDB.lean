/- The document's Shuffle. -/
import Derived.Test.YtpbcdmefngbjjaaGreatDoorDZ
namespace Go.Proofs.YtpbcdmefngbjjaaGreatDoor
open Go.RowKit
open Go.Lib
theorem at_cell {w : World} {p : Option Addr} {l : List UInt8} (h : Bs w p l) {t : Nat} (ht : t < l.length) : ∃ b off : Nat, p = some ⟨b, off, none⟩ ∧ b < w.heap.size ∧ w.cell? ⟨b, off + t, none⟩ = some (.int .u8 (((l.getD t 0).toNat : Nat) : Int)) := by
  rcases h with h0 | ⟨b, off, h1, h2, h3⟩
  · omega
  · exact ⟨b, off, h1, h2, h3 t ht⟩
set_option maxRecDepth 100000 in
set_option maxHeartbeats 1600000 in
theorem rshuffle_ok (p : Option Addr) (c n : Nat) (l : List UInt8) (w : World) (h1 : 1 ≤ n) (h2 : n ≤ 8) (hl : l.length ≤ 1000) (hc : l.length ≤ c) (hpc : p = none → c = 0) (hb : Bs w p l) :
    Calls Tryz.prog 18 #[.slice p l.length c, .int .i64 (n : Int)] w (RowPost (shufL l n) w) := by
  obtain ⟨i0, hi, hz0, hz1, hz2⟩ := info_parts info5
  have HA := Lib.hid (asked_ok p l.length c n w h1 h2 hl)
  obtain ⟨k, HK⟩ : ∃ k, Hid (k = l.length / n) := ⟨_, rfl⟩
  have HKN : Hid (k * n ≤ l.length) := Lib.hid (by rw [HK.out]; exact Nat.div_mul_le_self _ _)
  have hkl : k ≤ l.length := by rw [HK.out]; exact Nat.div_le_self _ _
  have hq0 : (l.length : Int) / (n : Int) = (k : Int) := by rw [HK.out]; simp
  obtain ⟨len, HL⟩ : ∃ len, Hid (len = l.length) := ⟨_, rfl⟩
  have Hb := Lib.hid hb
  have Hpc := Lib.hid hpc
  rw [← HL.out] at hl hc HA hq0 hkl ⊢
  have hn1 : 1 ≤ (n : Int) := by omega
  have hn8 : (n : Int) ≤ 8 := by omega
  have hlen : (len : Int) ≤ 1000 := by omega
  have hki : (k : Int) ≤ 1000 := by omega
  clear hb h1 h2 hpc
  go_enter Tryz.func18, Tryz.ntmps18
  go_wp2_with fail
  refine (HA.out).mono ?_
  rintro e w' ⟨rfl, rfl⟩
  go_wp2_with (at_make; refine wpList_make_own _ rfl _ _ 22 rfl w.heap.size 5 i0 (.int .u8 0) 1 Tryz.underlying22 hi hz0 hz1 _ _ _ len rfl rfl ?b1 ?b2 ?b3 (Nat.le_refl _) ?_)
  case b1 => omega
  case b2 => rw [hz2]; omega
  case b3 => unfold maxLen; omega
  intro w1 hown hgrow
  have HG0 : Hid (Grew w.heap.size w (.slice none 0 0) [] w1 (.slice (some ⟨w.heap.size, 0, none⟩) 0 len)) := Lib.hid ⟨hown, hgrow, .inr ⟨_, rfl, Nat.le_refl _⟩⟩
  clear hown hgrow
  go_wp2_with fail
  go_loopw [8, 9] (fun vr jv wr => ∃ (j : Nat) (X : List UInt8), j ≤ n ∧ jv = .int .i64 j ∧ Hid (X = colsU l n k j) ∧ Hid (Grew w.heap.size w (.slice none 0 0) X wr vr)) (fun _ jv _ => n - (intOf jv).toNat)
  case atStart => exact ⟨0, [], Nat.zero_le _, rfl, rfl, HG0⟩
  case round =>
    obtain ⟨j, X, hj, rfl, hX, HG⟩ := hrel
    by_cases hjn : j < n
    · have hX0 : Hid (X = colsU l n k j ++ colU l n j 0) := Lib.hid (by rw [colU, List.append_nil]; exact hX.out)
      have hjn' : (j : Int) < n := by omega
      go_wp2_with fail
      go_loopw [8, 10] (fun vr iv wr => ∃ (i : Nat) (Y : List UInt8), i ≤ k ∧ iv = .int .i64 i ∧ Hid (Y = colsU l n k j ++ colU l n j i) ∧ Hid (Grew w.heap.size w (.slice none 0 0) Y wr vr)) (fun _ iv _ => k - (intOf iv).toNat)
      case atStart => exact ⟨0, X, Nat.zero_le _, rfl, hX0, HG⟩
      case round =>
        obtain ⟨i, Y, hik, rfl, hY, HGi⟩ := hrel
        by_cases hilt : i < k
        · have hcl : i * n + j < l.length := Nat.lt_of_lt_of_le (cell_lt hilt hjn) HKN.out
          obtain ⟨b1, o1, rfl, hb1, hc1⟩ := at_cell (Hb.out.below (HGi.out.below (Nat.le_refl _) (by intro k hk; cases hk))) hcl
          obtain ⟨x, HX⟩ : ∃ x : UInt8, Hid (x = l.getD (i * n + j) 0) := ⟨_, rfl⟩
          obtain ⟨t, HT⟩ : ∃ t : Nat, Hid (t = i * n) := ⟨_, rfl⟩
          rw [← HX.out, ← HT.out] at hc1
          have hti : (i : Int) * (n : Int) = (t : Int) := by rw [HT.out]; simp
          have htl : t + j < len := by rw [HT.out, HL.out]; exact hcl
          have hbl : Hid (Y.length + 1 ≤ maxLen ∧ (Y.length + 1) * 1 ≤ 140737488355328 ∧ w.heap.size ≤ wr.heap.size + 1) := Lib.hid (by
            have h3 := HGi.out.grown.size
            rw [hY.out, List.length_append, colsU_length, colU_length]
            have h4 : j * k ≤ 8 * 1000 := Nat.mul_le_mul (by omega) (by omega)
            unfold maxLen; omega)
          go_wp2_with (at_builtin; refine wpList_append_own_at _ rfl (.tmp 34) (.tmp 43) 22 rfl w.heap.size 5 i0 (.int .u8 0) 1 1 Tryz.underlying22 hi hz0 hz1 hz2 rfl (by decide) _ _ _ rfl ((HGi.out.own).alloc _) ⟨_, 0, none⟩ 1 1 [.int .u8 (x.toNat : Int)] rfl rfl (cell_one_new _ _ _) (by intro u hu; simp at hu; subst hu; rfl) hbl.out.1 hbl.out.2.1 (by simp; exact hbl.out.2.2) ?_)
          intro v5 w5 hown5 hgrow5 _ hat5
          have HG5 := Lib.hid (HGi.out.next rfl hown5 hgrow5 hat5)
          have hY5 : Hid (Y ++ [x] = colsU l n k j ++ colU l n j (i + 1)) := Lib.hid (by rw [hY.out, List.append_assoc, HX.out, colU])
          clear hown5 hgrow5 hat5
          go_wp2_with fail
          go_roundw
          case rel => exact ⟨i + 1, Y ++ [x], by omega, by go_num, hY5, HG5⟩
          case measure => simp [intOf]; omega
        · obtain rfl : i = k := by omega
          go_wp2_with fail
          go_roundw
          case rel => exact ⟨j + 1, Y, by omega, by go_num, hY, HGi⟩
          case measure => simp [intOf]; omega
    · obtain rfl : j = n := by omega
      obtain ⟨t, HT⟩ : ∃ t : Nat, Hid (t = k * j) := ⟨_, rfl⟩
      have hti : (k : Int) * (j : Int) = (t : Int) := by rw [HT.out]; simp
      have htl : t ≤ len := by rw [HT.out, HL.out]; exact HKN.out
      have hsh : Hid (X ++ l.drop t = shufL l j) := Lib.hid (by rw [hX.out, HT.out, HK.out]; rfl)
      have hbw : Hid (Below w.heap.size w wr) := Lib.hid (HG.out.below (Nat.le_refl _) (by intro k hk; cases hk))
      have Hb2 := Lib.hid (Hb.out.below hbw.out)
      have hXl : Hid (X.length ≤ 8000) := Lib.hid (by
        rw [hX.out, colsU_length]
        exact Nat.le_trans (Nat.mul_le_mul (show j ≤ 8 by omega) (show k ≤ 1000 by omega)) (by decide))
      obtain ⟨qo, co, rfl, -, -⟩ := own_bytes HG.out.own
      obtain ⟨xl, hxl⟩ : ∃ xl, Hid (xl = X.length) := ⟨_, rfl⟩
      have hxi : (xl : Int) ≤ 8000 := by have := hXl.out; rw [hxl.out]; omega
      rw [← hxl.out] at HG ⊢
      have hown := Lib.hid HG.out.own
      rw [← hxl.out] at hown
      have hfin : Hid (∀ v' w', Grew w.heap.size wr (.slice qo xl co) (X ++ l.drop t) w' v' → RowPost (shufL l j) w (.returned (.tuple #[v', .int .i64 0])) w') := Lib.hid (fun v' w' hg => by
        rw [← hsh.out]
        exact ⟨(HG.out.trans hg).below (Nat.le_refl _) (by intro k hk; cases hk), _, rfl, hg.own⟩)
      have hdl : Hid ((l.drop t).length = len - t) := Lib.hid (by rw [List.length_drop, HL.out])
      have hlm : Hid (xl + (len - t) ≤ 140737488355328 ∧ w.heap.size ≤ wr.heap.size) := Lib.hid ⟨by omega, hbw.out.size⟩
      cases p with
      | none =>
        obtain rfl : c = 0 := Hpc.out rfl
        obtain rfl : len = 0 := by omega
        obtain rfl : t = 0 := by omega
        have hbs : Hid (Bs wr none (l.drop 0)) := Lib.hid (by rw [List.eq_nil_of_length_eq_zero HL.out.symm]; exact Bs.nil _ _)
        go_wp2_with (at_builtin; refine wpList_append_bs rfl (.tmp 45) (.tmp 50) rfl w.heap.size _ xl X rfl hxl.out hown.out none 0 0 (l.drop 0) rfl hdl.out hbs.out hlm.out.1 hlm.out.2 ?_)
        intro v5 w5 hg5
        have HE := Lib.hid (hfin.out v5 w5 hg5)
        clear hg5
        go_wp2_with fail
        go_ret2
        exact HE.out
      | some ad =>
        by_cases hl0 : len = 0
        · subst hl0
          obtain rfl : t = 0 := by omega
          obtain ⟨b0, off, sp⟩ := ad
          have hd0 : Hid (l.drop 0 = []) := Lib.hid (by rw [List.eq_nil_of_length_eq_zero HL.out.symm]; rfl)
          rw [hd0.out, List.append_nil] at hfin
          rw [hd0.out] at hdl
          go_wp2_with (at_builtin; refine wpList_append_bs rfl (.tmp 45) (.tmp 50) rfl w.heap.size _ xl X rfl hxl.out hown.out _ 0 _ [] rfl hdl.out (Bs.nil _ _) hlm.out.1 hlm.out.2 ?_)
          intro v5 w5 hg5
          have HE := Lib.hid (hfin.out v5 w5 hg5)
          clear hg5
          go_wp2_with fail
          go_ret2
          exact HE.out
        · obtain ⟨b0, off, had, -, -⟩ := at_cell Hb2.out (t := 0) (by rw [← HL.out]; omega)
          cases had
          by_cases hct : c = t
          · subst hct
            obtain rfl : len = c := by omega
            have hd0 : Hid (l.drop len = []) := Lib.hid (by rw [HL.out]; exact List.drop_length)
            rw [hd0.out, List.append_nil] at hfin
            rw [hd0.out] at hdl
            go_wp2_with (at_builtin; refine wpList_append_bs rfl (.tmp 45) (.tmp 50) rfl w.heap.size _ xl X rfl hxl.out hown.out _ 0 _ [] rfl rfl (Bs.nil _ _) (by have := hlm.out.1; omega) hlm.out.2 ?_)
            intro v5 w5 hg5
            have HE := Lib.hid (hfin.out v5 w5 hg5)
            clear hg5
            go_wp2_with fail
            go_ret2
            exact HE.out
          · have hbs : Hid (Bs wr (some ⟨b0, off + t, none⟩) (l.drop t)) := Lib.hid (bs_tail Hb2.out t (by rw [← HL.out]; exact htl) rfl)
            go_wp2_with (at_builtin; refine wpList_append_bs rfl (.tmp 45) (.tmp 50) rfl w.heap.size _ xl X rfl hxl.out hown.out _ (len - t) _ (l.drop t) rfl hdl.out hbs.out hlm.out.1 hlm.out.2 ?_)
            intro v5 w5 hg5
            have HE := Lib.hid (hfin.out v5 w5 hg5)
            clear hg5
            go_wp2_with fail
            go_ret2
            exact HE.out
end Go.Proofs.YtpbcdmefngbjjaaGreatDoor
